import Derived.Test.YtblomippkddgiabGreatDoorJ40
import Derived.Test.YtblomippkddgiabGreatDoorJ36
namespace Go.Proofs.YtblomippkddgiabGreatDoor
open Go.RowKit
variable {cur:Array Value}{E F F':Aq}{k:Int}{l:List R.En}{jobs:List R.Jb}{B b cap g j n nm u:Nat}{p:Pl}{c:R.Cf}{en:R.En}{s:R.Sv}{G:R.Wd}{t:SP}{T:TypeId}{K K' O W:Value}{w w' w1 w2:World}
theorem Works.UZ(h:Works w F l b K k W)(hk:Af E w w')(hb:¬E b)(aa:∀j,K.ownBlock=some j->¬E j)(hi:∀b cur,F b->w.heap[b]?=some (.cells cur 73 (0,0))->¬E b)(hF:∀k,F k->F' k):Works w' F' l b K k W:=by
 cases h with
 |counter h1 h2 h3=>exact .counter (hF _ h1) (hk.at h2 hb) h3
 |FJ h1 h2 h3 h4=>exact .FJ (hF _ h1) (hk.at h2 hb) (hk.row h3 aa) (fun j hj=>hF _ (h4 j hj))
 |Jo d0 d1 d2 h1 h2 h3 g0 g1 g2=>exact .Jo d0 d1 d2 (hF _ h1) (hk.at h2 hb) h3 (g0.keep hk hi hF) (g1.keep hk hi hF) (g2.keep hk hi hF)
theorem Sg.UZ{z:R.Sv×MV}(h:Sg w F z)(hk:Af E w w')(h1:z.1.alive=true->¬E z.2.sb)(h2:z.1.alive=true->∀j,z.2.bk.ownBlock=some j->¬E j)(h3:∀j,z.2.dn.ownBlock=some j->¬E j)(hi:∀b cur,F b->w.heap[b]?=some (.cells cur 73 (0,0))->¬E b)(hF:∀k,F k->F' k):Sg w' F' z:=by
 refine⟨?_,?_,fun j hj=>hF _ (h.own j hj)⟩
 ·have hw:=h.wk;by_cases ha:z.1.alive=true
  ·rw[if_pos ha]at hw ⊢;exact hw.UZ hk (h1 ha) (h2 ha) hi hF
  ·rw[if_neg ha]at hw ⊢;exact hw
 ·obtain⟨es,e1,e2,e3⟩:=h.log;exact⟨es,e1,hk.row e2 h3,fun y hy=>⟨(e3 y hy).1.keep hk hi hF,(e3 y hy).2.keep hk hi hF⟩⟩
def Vk(T:TypeId):Bool:=T==323 || T==326 || T==329
theorem Works.blk(h:Works w F l b K k W):F b/\∃cur T,w.heap[b]?=some (.cells cur T (0,0))/\Vk T=true:=by
 cases h with
 |counter h1 h2 h3=>exact⟨h1,_,_,h2,rfl⟩
 |FJ h1 h2 h3 h4=>exact⟨h1,_,_,h2,rfl⟩
 |Jo d0 d1 d2 h1 h2 h3 g0 g1 g2=>exact⟨h1,_,_,h2,rfl⟩
theorem G7{size:Nat}{e:TypeId}{v:Value}{xs:List Value}(h:w.ownsRow B e size v n xs)(hj:v.ownBlock=some j):∃cur,w.heap[j]?=some (.cells cur e (0,0)):=by
 rcases h.2 with ⟨rfl,_⟩|⟨g,cap,cur,rfl,_,hg,_⟩
 ·cases hj
 ·cases hj;exact⟨cur,hg⟩
theorem Works.bkt(h:Works w F l b K k W)(hj:K.ownBlock=some j):F j/\∃cur,w.heap[j]?=some (.cells cur 9 (0,0)):=by
 cases h with
 |counter h1 h2 h3=>rw[h3]at hj;cases hj
 |FJ h1 h2 h3 h4=>exact⟨h4 j hj,G7 h3 hj⟩
 |Jo d0 d1 d2 h1 h2 h3 g0 g1 g2=>rw[h3]at hj;cases hj
def NV(z:R.Sv×MV)(en:R.En)(K' bk':Value):R.Sv×MV:=({z.1 with log:=z.1.log++[en]},{z.2 with dn:=K',bk:=bk'})
def Te(z:R.Sv×MV)(g:Nat):Aq:=fun k=>(k=z.2.sb\/z.2.bk.ownBlock=some k)\/(z.2.dn.ownBlock=some k\/k=g)
def MH(T:TypeId):Bool:=Vk T || T==9 || T==45 || T==99
theorem Cg.UQ{s:Nat}{sv:List R.Sv}{Aj:List Int}{seen:List R.Sn}(h:Cg s n nm t F c sv Aj seen jobs w){z:R.Sv×MV}(hz:t.zs[u]?=some z)(ha:z.1.alive=true)(hg:w.heap[g]?=some (.cells cur 99 (0,0)))(k:Nat)(hk:Te z g k):∃cur T,w.heap[k]?=some (.cells cur T (0,0))/\MH T=true:=by
 have hs:=h.each z (afU hz);have hw:=hs.wk;rw[if_pos ha]at hw;rcases hk with (rfl|hk)|(hk|rfl)
 ·obtain⟨_,cur,T,q1,q2⟩:=hw.blk;exact⟨cur,T,q1,by simp[MH,q2]⟩
 ·obtain⟨_,cur,q⟩:=hw.bkt hk;exact⟨cur,9,q,rfl⟩
 ·obtain⟨es,_,e2,_⟩:=hs.log;obtain⟨cur,q⟩:=G7 e2 hk;exact⟨cur,45,q,rfl⟩
 ·exact⟨cur,99,hg,rfl⟩
theorem Cg.did{s:Nat}{sv:List R.Sv}{Aj:List Int}{seen:List R.Sn}{w3:World}(h:Cg s n nm t F c sv Aj seen jobs w)(ak:∀k,F k->k<w.heap.size){z:R.Sv×MV}(hz:t.zs[u]?=some z)(ha:z.1.alive=true)(hK:t.K=.slice (some ⟨g,0,none⟩) t.zs.length cap)(hg:w.heap[g]?=some (.cells cur 99 (0,0)))(ar:t.zs.length<=cap)(av:cap<=maxLen)(aF:cur.size=cap*3)(aG:cur.toList.take (t.zs.length*3)=tab GX t.zs)
 {V aa:Value} {es:List (R.En×Value×Value)} (hk:Af (Te z g) w w3) (aD:w3.heap[g]?=some (.cells (cur.toList.set (u*3+2) K').toArray 99 (0,0))) (hF:∀k,F k->F' k) (hw:Works w3 F' (z.1.log++[en]) z.2.sb aa z.1.kind z.2.wk) (aC:aa.ownBlock=z.2.bk.ownBlock\/∃j,aa.ownBlock=some j/\w.heap.size<=j)
  (he:es.map (·.1)=z.1.log) (az:∀y∈es,BF w F y.2.1 y.1.arg/\BF w F y.2.2 y.1.result) (aE:w3.ownsRow 0 45 7 K' (es.length+1) (tab EX (es++[(en,O,V)]))) (hO:BF w3 F' O en.arg) (hV:BF w3 F' V en.result) (ay:K'.ownBlock=z.2.dn.ownBlock\/∃j,K'.ownBlock=some j/\w.heap.size<=j/\F' j):
  Cg s n nm {t with zs:=t.zs.set u (NV z en K' aa)} F' c (sv.set u {z.1 with log:=z.1.log++[en]}) Aj seen jobs w3:=by
 obtain⟨f1,f2,f3⟩:=h.BP;have aA:=h.UQ hz ha hg;have hs:=h.each z (afU hz);have ah:=hs.wk;rw[if_pos ha]at ah;have ao:∀{b:Nat} {cu:Array Value} {T:TypeId} {zz:Nat×Nat},w.heap[b]?=some (.cells cu T zz)->MH T=false->¬Te z g b:=fun {b cu T zz} hb hT hE=>by
  obtain⟨ac,T',q1,q2⟩:=aA b hE;rw[hb]at q1;cases q1;rw[hT]at q2;cases q2
 have hi:∀b cur,F b->w.heap[b]?=some (.cells cur 73 (0,0))->¬Te z g b:=fun b cur _ hb=>ao hb (by decide)
 obtain⟨ez,_,aw,_⟩:=hs.log;refine⟨hk.at h.bs (ao h.bs (by decide)),?_,?_,fun y hy=>?_,fun i j a b am ap ad k ab=>?_,fun i j a b am ap ad an aq=>?_,fun i r hr af=>?_,h.inj,?_,hF _ f1,hF _ f2,fun j hj=>hF _ (f3 j hj)⟩
 ·simp only[map_set];rw[h.zs];rfl
 ·simp only;rw[agq];refine⟨by rw[Dh Fu,agq,agF],afM ⟨g,cap,_,hK,af8 _,aD,ar,av,by simpa using aF,?_⟩⟩;rw[OL,aG];exact IU Fu t.zs u 2 z (NV z en K' aa) _ hz (by omega) rfl
 ·obtain⟨j,hj⟩:=List.getElem?_of_mem hy;rcases Kf hj with ⟨rfl,rfl⟩|⟨au,aj⟩
  ·refine⟨?_,⟨es++[(en,O,V)],by simp[NV,he],?_,fun y hy=>?_⟩,fun j hj=>?_⟩
   ·rw[if_pos (show (NV z en K' aa).1.alive=true from ha)];exact hw
   ·rw[afS];exact aE
   ·rcases agb.1 hy with q|q
    ·exact⟨(az y q).1.keep hk hi hF,(az y q).2.keep hk hi hF⟩
    ·simp only[af3]at q;subst q;exact⟨hO,hV⟩
   ·rcases ay with q|⟨j',q1,q2,q3⟩
    ·exact hF _ (hs.own j (by rw[<-q];exact hj))
    ·rw[show (NV z en K' aa).2.dn=K' from rfl,q1]at hj;cases hj;exact q3
  ·have al:=h.each y (afU aj);refine al.UZ hk (fun ai hE=>?_) (fun ai k ab hE=>?_) (fun k ab hE=>?_) hi hF
   ·have ag:=al.wk;rw[if_pos ai]at ag;obtain⟨_,cu,T,q1,q2⟩:=ag.blk;have af:=(h.Z8 u j z y hz aj (fun e=>au e.symm) ha ai).1;rcases hE with (e|e)|(e|e)
    ·exact af e.symm
    ·obtain⟨_,ac,q3⟩:=ah.bkt e;rw[q1]at q3;cases q3;cases q2
    ·obtain⟨ac,q3⟩:=G7 aw e;rw[q1]at q3;cases q3;cases q2
    ·rw[e,hg]at q1;cases q1;cases q2
   ·have ag:=al.wk;rw[if_pos ai]at ag;obtain⟨_,cu,q1⟩:=ag.bkt ab;have af:=(h.Z8 u j z y hz aj (fun e=>au e.symm) ha ai).2;rcases hE with (e|e)|(e|e)
    ·obtain⟨_,ac,T,q3,q4⟩:=ah.blk;rw[<-e,q1]at q3;cases q3;cases q4
    ·exact af k e ab
    ·obtain⟨ac,q3⟩:=G7 aw e;rw[q1]at q3;cases q3
    ·rw[e,hg]at q1;cases q1
   ·obtain⟨ey,_,aB,_⟩:=al.log;obtain⟨cu,q1⟩:=G7 aB ab;rcases hE with (e|e)|(e|e)
    ·obtain⟨_,ac,T,q3,q4⟩:=ah.blk;rw[<-e,q1]at q3;cases q3;cases q4
    ·obtain⟨_,ac,q3⟩:=ah.bkt e;rw[q1]at q3;cases q3
    ·exact h.dns u j z y hz aj (fun e=>au e.symm) k e ab
    ·rw[e,hg]at q1;cases q1
 ·have get:∀{i:Nat} {a:R.Sv×MV},(t.zs.set u (NV z en K' aa))[i]?=some a->∃a0,t.zs[i]?=some a0/\(∀k,a.2.dn.ownBlock=some k->a0.2.dn.ownBlock=some k\/(i=u/\w.heap.size<=k))/\(i≠u->a=a0):=fun {i a} ha=>by
   rcases Kf ha with ⟨rfl,rfl⟩|⟨_,q⟩
   ·refine⟨z,hz,fun k hk=>?_,fun q=>absurd rfl q⟩;rcases ay with q|⟨j',q1,q2,q3⟩
    ·exact afJ (by rw[<-q];exact hk)
    ·rw[show (NV z en K' aa).2.dn=K' from rfl,q1]at hk;cases hk;exact afM ⟨rfl,q2⟩
   ·exact⟨_,q,fun k hk=>afJ hk,fun _=>rfl⟩
  intro ae;obtain⟨a0,p1,p2,p3⟩:=get am;obtain⟨b0,p4,p5,p6⟩:=get ap;have ra:=(h.each a0 (afU p1)).own;have rb:=(h.each b0 (afU p4)).own;rcases p2 k ab with q|⟨rfl,q⟩
  ·rcases p5 k ae with q'|⟨rfl,q'⟩
   ·exact h.dns i j a0 b0 p1 p4 ad k q q'
   ·have:=ak k (ra k q);omega
  ·rcases p5 k ae with q'|⟨rfl,q'⟩
   ·have:=ak k (rb k q');omega
   ·exact ad rfl
 ·have get:∀{i:Nat} {a:R.Sv×MV},(t.zs.set u (NV z en K' aa))[i]?=some a->∃a0,t.zs[i]?=some a0/\a0.1.alive=a.1.alive/\a0.2.sb=a.2.sb/\(∀k,a.2.bk.ownBlock=some k->a0.2.bk.ownBlock=some k\/(i=u/\w.heap.size<=k)):=fun {i a} ha=>by
   rcases Kf ha with ⟨rfl,rfl⟩|⟨_,q⟩
   ·refine⟨z,hz,rfl,rfl,fun k hk=>?_⟩;rcases aC with q|⟨j',q1,q2⟩
    ·exact afJ (by rw[<-q];exact hk)
    ·rw[show (NV z en K' aa).2.bk=aa from rfl,q1]at hk;cases hk;exact afM ⟨rfl,q2⟩
   ·exact⟨_,q,rfl,rfl,fun k hk=>afJ hk⟩
  obtain⟨a0,p1,pa,ps,p2⟩:=get am;obtain⟨b0,p4,pb,pt,p5⟩:=get ap;rw[<-pa]at an;rw[<-pb]at aq;have ax:=h.Z8 i j a0 b0 p1 p4 ad an aq;refine⟨by rw[<-ps,<-pt];exact ax.1,fun k ab ae=>?_⟩;have ra:=(h.each a0 (afU p1)).wk;have rb:=(h.each b0 (afU p4)).wk;rw[if_pos an]at ra;rw[if_pos aq]at rb;rcases p2 k ab with q|⟨rfl,q⟩
  ·rcases p5 k ae with q'|⟨rfl,q'⟩
   ·exact ax.2 k q q'
   ·have:=ak k (ra.bkt q).1;omega
  ·rcases p5 k ae with q'|⟨rfl,q'⟩
   ·have:=ak k (rb.bkt q').1;omega
   ·exact ad rfl
 ·obtain⟨y,h1,h2,h3⟩:=h.ln i r hr af;exact⟨y,hk.at h1 (ao h1 (by decide)),h2,hF _ h3⟩
 ·obtain⟨a,b,hj⟩:=h.jobs;refine⟨a,b,hk.at hj (fun e=>?_)⟩;obtain⟨cu,T,q,_⟩:=aA _ e;rw[hj]at q;cases q
theorem Yv{S:List R.Sv}(hs:S[u]?=some s)(l:List R.En)(k:Nat):((S.set u {s with log:=l})[k]?).map (·.kind)=(S[k]?).map (·.kind):=by
 rw[afV];by_cases e:u=k
 ·subst e;rw[if_pos rfl,if_pos (afG.1 hs).1,hs];rfl
 ·rw[if_neg e]
theorem V8(hs:G.Ab[u]?=some s)(l:List R.En)(c:R.Cl)(x:Int):BL (Bs G (G.Ab.set u {s with log:=l}) G.Aj G.seen G.jobs) c x=BL G c x:=by
 unfold BL kindOf;show (if x∈c.bound then some ((((G.Ab.set u {s with log:=l})[(x-1).toNat]?).map (·.kind)).getD 0) else none)=_;rw[Yv hs]
theorem acu(h:R.Wf G)(hs:G.Ab[u]?=some s)(l:List R.En):R.Wf (Bs G (G.Ab.set u {s with log:=l}) G.Aj G.seen G.jobs):=by
 refine⟨h.cf,h.Gt,fun i c hc=>⟨(h.cl i c hc).lines,(h.cl i c hc).Ae,fun x hx=>?_,(h.cl i c hc).line⟩,h.E3,h.Eo,by simpa using h.sv,fun y hy=>?_,h.nm,h.st,h.nd,fun x hx=>?_⟩
 ·have:=(h.cl i c hc).bound x hx;simpa using this
 ·rcases agc hy with q|q
  ·exact h.Kh y q
  ·rw[q];exact h.Kh s (afU hs)
 ·have:=h.I5 x hx;simpa using this
theorem aaA(kind:Int)(l:List R.En)(proc:Int)(arg:List R.It):R.Cu kind l proc arg≠[]:=by
 unfold R.Cu;split
 ·simp
 ·split
  ·split<;>simp
  ·simp only;split<;>simp
theorem ab8{kind proc:Int}{f t:ByteArray}{arg:List R.It}{bs:List UInt8}(hs:R.C6 kind proc=some (f,t))(hb:R.Ba f arg=some bs):arg≠[]:=by
 unfold R.C6 at hs;split at hs
 ·cases hs;obtain⟨x,hx,_⟩:=R.abK hb;simp[hx]
 ·split at hs
  ·cases hs;obtain⟨x,hx,_⟩:=R.abI hb;simp[hx]
  ·split at hs
   ·cases hs;obtain⟨x,hx,_⟩:=R.XF hb;simp[hx]
   ·split at hs
    ·cases hs;obtain⟨x,hx,_⟩:=R.abJ hb;simp[hx]
    ·split at hs
     ·cases hs;obtain⟨d,k,a,g1,_⟩:=R.XE hb;simp[g1]
     ·cases hs
theorem aaz(h:MH T=true):My T=false:=by
 simp only[MH,Vk,Bool.or_eq_true,beq_iff_eq]at h;rcases h with (((((h|h)|h)|h)|h)|h)<;>rw[h]<;>rfl
theorem LW.aex(h:LW p F G w1)(hs:G.Ab[n]?=some s)(ha:s.alive=true){z:R.Sv×MV}(hz:p.t.zs[n]?=some z)(aL:z.1=s)(hK:p.t.K=.slice (some ⟨g,0,none⟩) p.t.zs.length cap)(hg:w1.heap[g]?=some (.cells cur 99 (0,0)))(k2:w1.cell? ⟨g,n*3+2,none⟩=some z.2.dn)(ag:p.t.zs.length<=cap)(ai:cap<=maxLen)(aI:cur.size=cap*3)(aJ:cur.toList.take (p.t.zs.length*3)=tab GX p.t.zs)
  {es:List (R.En×Value×Value)} (he:es.map (·.1)=s.log) (ak:w1.ownsRow 0 45 7 z.2.dn es.length (tab EX es)) (aD:∀y∈es,BF w1 F y.2.1 y.1.arg/\BF w1 F y.2.2 y.1.result)
 (hB:B<=w1.heap.size) {Z:Value} {wa wz:World} {o:Obj} {va0:Nat} (hO:V.Row w1 B O en.arg) (aE:en.arg≠[]) (aj:en.result≠[]) (hD:Did w1 F s.log en z.2.sb z.2.bk s.kind z.2.wk Z en.result w2) (au:Below w2.heap.size w2 wa) (ax:(wa.alloc o).grownBy wz z.2.dn.ownBlock) (ac:wz.ownsRow 0 45 7 K' (es.length+1) (tab EX es++EX (en,O,Z))) (ar:K'.ownBlock=z.2.dn.ownBlock\/K'.ownBlock=some va0) (aR:w2.heap.size<=va0):
  wz.cell? ⟨g,n*3+2,none⟩=some z.2.dn/\wz.frozen? ⟨g,n*3+2,none⟩=false/\g<wz.heap.size/\∃t,t.ql=p.t.ql/\t.K=p.t.K/\t.zs.length=p.t.zs.length/\LW {p with t:=t} (fun k=>F k\/(B<=k/\k<wz.heap.size)) (Bs G (G.Ab.set n {s with log:=s.log++[en]}) G.Aj G.seen G.jobs) (wz.setCell ⟨g,n*3+2,none⟩ K')/\Af (Te z g) w1 (wz.setCell ⟨g,n*3+2,none⟩ K')/\V.Items (wz.setCell ⟨g,n*3+2,none⟩ K') Z en.result/\(wz.setCell ⟨g,n*3+2,none⟩ K').cell? ⟨g,n*3,none⟩=some (.int .i64 s.kind):=by
 subst aL;have az:=h.BN.UQ hz ha hg;have aO:=lt_of_block hg;have aQ:=hD.keep.size;have aP:=au.size;have aH:=ax.size;simp only[World.size_alloc]at aH;have aG:(wz.setCell ⟨g,n*3+2,none⟩ K').heap.size=wz.heap.size:=by simp
 obtain⟨ab,_,_⟩:=(⟨(h.BN.each z (afU hz)).wk,trivial,trivial⟩:_/\True/\True);rw[if_pos ha]at ab;have aC:¬(g=z.2.sb\/z.2.bk.ownBlock=some g):=by
  rintro (e|e)
  ·obtain⟨_,cu,T,q1,q2⟩:=ab.blk;rw[<-e,hg]at q1;cases q1;cases q2
  ·obtain⟨_,cu,q1⟩:=ab.bkt e;rw[hg]at q1;cases q1
 have av:w2.heap[g]?=some (.cells cur 99 (0,0)):=hD.keep.at hg aC;have aa:∀k,z.2.dn.ownBlock=some k->∃cu,w1.heap[k]?=some (.cells cu 45 (0,0))/\w2.heap[k]?=some (.cells cu 45 (0,0)):=fun k hk=>by
  obtain⟨cu,q⟩:=G7 ak hk;refine⟨cu,q,hD.keep.at q ?_⟩;rintro (e|e)
  ·obtain⟨_,ao,T,q1,q2⟩:=ab.blk;rw[<-e,q]at q1;cases q1;cases q2
  ·obtain⟨_,ao,q1⟩:=ab.bkt e;rw[q]at q1;cases q1
 have kA:Af (fun k=>z.2.dn.ownBlock=some k) w2 wz:=((Af.Al au _).alloc _).grown ax (fun k hk=>afJ hk);have ae:wz.heap[g]?=some (.cells cur 99 (0,0)):=kA.at av (fun e=>by
  obtain⟨cu,q,_⟩:=aa g e;rw[hg]at q;cases q)
 have kB:Af (fun k=>z.2.dn.ownBlock=some k\/k=g) w2 (wz.setCell ⟨g,n*3+2,none⟩ K'):=Af.setCell (F:=fun k=>z.2.dn.ownBlock=some k\/k=g) (p:=⟨g,n*3+2,none⟩) (kA.mono (fun k _ e=>afJ e)) (afJ (afM rfl)) K';have k3:Af (Te z g) w1 (wz.setCell ⟨g,n*3+2,none⟩ K'):=(hD.keep.mono (fun k _ e=>afJ e)).trans (kB.mono (fun k _ e=>afM e));have ay:∀k,F k->k<w1.heap.size:=h.lt;have hF:∀k,F k->(fun k=>F k\/(B<=k/\k<wz.heap.size)) k:=fun k hk=>afJ hk
 have ad:∀{b:Nat} {cu:Array Value} {T:TypeId},w2.heap[b]?=some (.cells cu T (0,0))->T≠45->T≠99->¬(z.2.dn.ownBlock=some b\/b=g):=fun {b cu T} hb h1 h2 hE=>by
  rcases hE with e|e
  ·obtain⟨_,_,q⟩:=aa b e;rw[hb]at q;cases q;exact h1 rfl
  ·rw[e,av]at hb;cases hb;exact h2 rfl
 obtain⟨an,am,af⟩:=hD.works;have aK:Works (wz.setCell ⟨g,n*3+2,none⟩ K') (fun k=>F k\/(B<=k/\k<wz.heap.size)) (z.1.log++[en]) z.2.sb an z.1.kind z.2.wk:=by
  refine am.UZ kB ?_ (fun j hj=>?_) (fun b cu _ hb=>ad hb (by decide) (by decide)) (fun k hk=>?_)
  ·obtain⟨_,cu,T,q1,q2⟩:=am.blk;refine ad q1 (fun e=>?_) (fun e=>?_)
   ·rw[e]at q2;cases q2
   ·rw[e]at q2;cases q2
  ·obtain⟨_,cu,q1⟩:=am.bkt hj;exact ad q1 (by decide) (by decide)
  ·rcases hk with hk|hk
   ·exact afJ hk
   ·exact afM ⟨by omega,by omega⟩
 obtain⟨o1,o2⟩:=Nn hO aE;obtain⟨r1,r2⟩:=Nn hD.row aj;have aB:BF (wz.setCell ⟨g,n*3+2,none⟩ K') (fun k=>F k\/(B<=k/\k<wz.heap.size)) O en.arg:=o1.keep k3 (fun b cu _ hb hE=>by
  obtain⟨ao,T,q1,q2⟩:=az b hE;rw[hb]at q1;cases q1;cases q2) (fun k hk=>by
   have:=o2 k hk;exact afM ⟨by omega,by omega⟩)
 have aq:BF (wz.setCell ⟨g,n*3+2,none⟩ K') (fun k=>F k\/(B<=k/\k<wz.heap.size)) Z en.result:=r1.keep kB (fun b cu _ hb=>ad hb (by decide) (by decide)) (fun k hk=>by
   have:=r2 k hk;exact afM ⟨by omega,by omega⟩)
 have aA:K'.ownBlock≠some g:=fun e=>by
  rcases ar with q|q
  ·rw[e]at q;obtain⟨cu,q1,_⟩:=aa g q.symm;rw[hg]at q1;cases q1
  ·rw[e]at q;cases q;omega
 have aF:(wz.setCell ⟨g,n*3+2,none⟩ K').ownsRow 0 45 7 K' (es.length+1) (tab EX (es++[(en,O,Z)])):=by
  rw[EV];exact Fy ac (fun j hj=>Below.heap_setCell _ _ _ _ (fun e=>aA (by rw[hj];exact congrArg some e)))
 have aw:(wz.setCell ⟨g,n*3+2,none⟩ K').heap[g]?=some (.cells (cur.toList.set (n*3+2) K').toArray 99 (0,0)):=Ai (cs:=cur.toList) (off:=n*3+2) ae K';have ah:K'.ownBlock=z.2.dn.ownBlock\/∃j,K'.ownBlock=some j/\w1.heap.size<=j/\(fun k=>F k\/(B<=k/\k<wz.heap.size)) j:=by
  rcases ar with q|q
  ·exact afJ q
  ·have:=(World.ownsRow.lt ac va0 q).2;exact afM ⟨va0,q,by omega,afM ⟨by omega,this⟩⟩
 have al:=h.BN.did ay hz ha hK hg ag ai aI aJ k3 aw hF aK af he aD aF aB aq ah;have hL:=h.Ha al k3 (fun b hE=>by
  obtain⟨cu,T,q1,q2⟩:=az b hE;exact afJ ⟨cu,T,_,q1,aaz q2⟩) hF (fun k hk=>by
   rw[aG];rcases hk with hk|hk
   ·have:=ay k hk;omega
   ·exact hk.2) (acu h.wf hs _) h.Db (fun i c _ x=>V8 hs _ c x)
 have e2:wz.cell? ⟨g,n*3+2,none⟩=some z.2.dn:=by
  rw[<-k2];simp[World.cell?,ae,hg]
 obtain⟨gg,cc,cu,ap,aN,_,aM,_⟩:=h.BN.Jt hz;rw[hK]at ap;cases ap;refine⟨e2,open_list ae,lt_of_block ae,{p.t with zs:=p.t.zs.set n (NV z en K' an)},rfl,rfl,by simp,hL,k3,aq.items,?_⟩;have e3:(wz.setCell ⟨g,n*3+2,none⟩ K').cell? ⟨g,n*3,none⟩=w1.cell? ⟨g,n*3,none⟩:=by
  simp[World.cell?,aw,hg]
 rw[e3];exact aM
theorem X6{kind:Int}(hl:R.JF kind l)(hk:0<=kind/\kind<=2)(proc:Int)(arg:List R.It):(R.Cu kind l proc arg).length<=9000000000000:=by
 have h4:=R.Jv l;unfold R.Cu;split
 ·simp
 ·split
  ·split
   ·simp
   ·simp only[af1,af0,aga];omega
  ·have:kind=2:=by omega
   subst this;have h3:=(R.GV l hl (R.IY arg 0) [] (by simp)).1;simp only;split
   ·simp
   ·simp only[af1];omega
theorem Z1{T':TypeId}{N N':Nat}{x:Value}(h:(T=320/\N=287)\/(T=324/\N=290)\/(T=327/\N=294))(h':(T'=320/\N'=287)\/(T'=324/\N'=290)\/(T'=327/\N'=294))(e:Value.iface T x=Value.iface T' x):N'=N:=by
 cases e;rcases h with ⟨rfl,rfl⟩|⟨rfl,rfl⟩|⟨rfl,rfl⟩<;>rcases h' with ⟨q,rfl⟩|⟨q,rfl⟩|⟨q,rfl⟩<;>first|rfl|(exact absurd q (by decide))
theorem Did.quiet{kind:Int}{out:List R.It}(hw:Works w1 F l b K kind W)(hD:Did w1 F l en b K kind W O out w2){k:Nat}{cu:Array Value}{zz:Nat×Nat}(hk:w1.heap[k]?=some (.cells cu T zz))(h1:Vk T=false)(h2:T≠9):w2.heap[k]?=some (.cells cu T zz):=by
 refine hD.keep.at hk ?_;rintro (e|e)
 ·obtain⟨_,aa,T',q1,q2⟩:=hw.blk;rw[<-e,hk]at q1;cases q1;rw[h1]at q2;cases q2
 ·obtain⟨_,aa,q1⟩:=hw.bkt e;rw[hk]at q1;cases q1;exact h2 rfl
structure Xw(p:Pl)(F:Aq)(w:World)(G:R.Wd)(t:SP)(F':Aq)(w':World):Prop where
 lw:LW {p with t:=t} F' G w'
 went:Ap F F' w w'
 ql:t.ql=p.t.ql
theorem LW.done(h:LW p F G w)(ht:Ec w)(aQ:¬F 0){M:R.Bk}(hI:R.Inv M G){i:Nat}(hi:i<9)(h2:(R.AY G i).state=2):
  Calls Tryz.prog 97 #[ptr p.s,ptr (p.t.ql i)] w fun e w'=>e=.returned (.tuple #[])/\E8 p F w (R.Gm G i) w':=by
 obtain⟨d,n,s,rb,hd⟩:=hI.Tf hi h2;rw[hd.eq h2];generalize R.AY G i=r at hd h2 ⊢;have aD:=hI.Gn hi hd h2;obtain⟨y,hq,bb⟩:=h.q hd.seen hd.ne;obtain⟨z,hz,b7⟩:=KV h.BN.zs hd.sv;subst b7;obtain⟨g,cap,cur,hK,hg,aR,k0,k1,k2,aq,ay,b3,b4⟩:=h.BN.Jt hz;have aC:=h.BN.each z (afU hz);obtain⟨es,he,ad,aI⟩:=aC.log;have ao:=aC.wk;rw[if_pos hd.alive]at ao;have bc:es.length<=3000000:=by
  have:=hI.PG hd.sv;rw[<-he,af0]at this;exact this
 obtain⟨da,dc,ar⟩:=AX ad;have ai:=h.wf.Kh z.1 (afU hd.sv);have aJ:R.JF z.1.kind z.1.log:=fun e he=>by
  obtain⟨d',be,g1,g2,g3,g4,g5,g6⟩:=((hI.lg n z.1 hd.sv).each e he).some;have ah:=(hI.bk _ d' g1).1;have aW:R.Io G.Ab d'.uid=z.1.kind:=by
   rw[g2];unfold R.Io;rw[show ((n:Int)+1-1).toNat=n by omega,hd.sv];rfl
  have:=ah.sig;rw[aW]at this;exact⟨d'.from',d'.to,d'.bs,by rw[g3];exact this,by rw[g4];exact ah.bs⟩
 obtain⟨en,ab⟩:∃en,en=R.BR G i r d z.1:=⟨_,rfl⟩;have au:en.proc=d.proc:=by rw[ab];rfl
 have am:en.arg=d.arg:=by rw[ab];rfl
 have an:en.result=R.Cu z.1.kind z.1.log d.proc d.arg:=by rw[ab];rfl
 have aK:en.arg≠[]:=by rw[am];exact ab8 hd.sig hd.cd.bs
 have az:en.result≠[]:=by rw[an];exact aaA _ _ _ _
 have hY:=Qb hq.blk;obtain⟨T,N,hT,aE⟩:∃T N,z.2.wk=.iface T (ptr z.2.sb)/\((T=320/\N=287)\/(T=324/\N=290)\/(T=327/\N=294)):=by
  obtain⟨i0,i1,i2⟩:=ao.Pz;have:z.1.kind=0\/z.1.kind=1\/z.1.kind=2:=by omega
  rcases this with e|e|e
  ·exact⟨320,287,i0 e,afJ ⟨rfl,rfl⟩⟩
  ·exact⟨324,290,i1 e,afM (afJ ⟨rfl,rfl⟩)⟩
  ·exact⟨327,294,i2 e,afM (afM ⟨rfl,rfl⟩)⟩
 have b5:n<p.t.zs.length:=(afG.1 hz).1;have bd:p.t.zs.length=G.Ab.length:=by rw[<-h.BN.zs,af0]
 have aP:=h.wf.sv;have h6:w.cell? ⟨p.s,6,none⟩=some (.slice (some ⟨g,0,none⟩) p.t.zs.length cap):=by
  have:=cell_of h.BN.bs 6 p.t.K rfl;rw[hK]at this;exact this
 have q4:w.cell? ⟨p.t.ql i,4,none⟩=some (.int .i64 ((n:Int)+1)):=by
  rw[hY.a4,hq.rel.uid,hd.ok.uid,hd.uid]
 have q6:w.cell? ⟨p.t.ql i,6,none⟩=some (.string (str d.msg)):=by
  rw[hY.a6,hq.rel.asked (afM h2),hd.ok.wait h2]
 have hE:∀k,Te z g k->F k:=fun k hk=>by
  rcases hk with (rfl|hk)|(hk|rfl)
  ·exact ao.blk.1
  ·exact(ao.bkt hk).1
  ·exact aC.own k hk
  ·exact aR
 let G1:=Bs G (G.Ab.set n {z.1 with log:=z.1.log++[en]}) G.Aj G.seen G.jobs
 let r':R.Sn:={r with state:=3,result:=rb,at':=0}
 have aS:R.Gn G i r d n z.1 rb=R.AB G1 i r':=by
  show R.Gn G i r d n z.1 rb=R.AB (Bs G (G.Ab.set n {z.1 with log:=z.1.log++[en]}) G.Aj G.seen G.jobs) i r';rw[ab];rfl
 rw[aS]at aD ⊢;refine ace w T N aE p.s (p.t.ql i) g n p.t.zs.length cap z.2.sb d.proc en.client en.Ae en.line en.seq z.1.kind d.msg rb da es.length dc (tab EX es)
  (fun O w1=>V.Row w1 w.heap.size O en.arg/\Below w.heap.size w w1)
  (fun O Z w2=>∃w1,V.Row w1 w.heap.size O en.arg/\Below w.heap.size w w1/\Did w1 F z.1.log en z.2.sb z.2.bk z.1.kind z.2.wk Z en.result w2)
  (fun Z w3=>∃t F',Xw p F w G1 t F' w3/\V.Items w3 Z en.result/\w3.cell? ⟨g,n*3,none⟩=some (.int .i64 z.1.kind))
  (fun w4=>∃t F',Xw p F w G1 t F' w4)
  (fun w5=>∃t F' y5,Xw p F w (R.AB G1 i r') t F' w5/\Qe {p with t:=t} (R.AB G1 i r') w5 i r' y5)
  (fun w6=>E8 p F w (R.Em (R.AB G1 i r') i) w6) h6 b5 (by omega) k0 q4 q6 ?_ ?_ ?_ ?_ ?_ ?_ ?_
 ·intro wa hb;refine(NY z.1.kind d.proc d.from' d.to hd.sig d.bs (by have:=R.GM hd.cd.bs;omega) d.arg (R.FK hd.cd.bs) wa (ht.below hb)).mono ?_;rintro e w' ⟨⟨O,rfl,hO⟩,af⟩;obtain⟨oa,on,oc,rfl⟩:=Ar hO;rw[am];exact⟨oa,on,oc,rfl,V.EU hO hb.size,hb.trans ⟨af.os,af.tape,af.output,af.size,fun k hk=>af.block k (afT hk hb.size)⟩⟩
 ·rintro O w1 ⟨hO,aa⟩;have h1:=h.below aa;have ae:=(h1.BN.each z (afU hz)).wk;rw[if_pos hd.alive]at ae;refine⟨((aa.cell (p:=⟨g,n*3+1,none⟩) (lt_of_block hg)).trans k1).trans (by rw[hT]),?_⟩;obtain⟨T',N',e1,e2,hC⟩:=Z9 (en:=en) ae h1.lt (X:=O) (Nn hO aK).1.items (f:=d.from') (t:=d.to) (bs:=d.bs) (by rw[au];exact hd.sig) (by rw[am];exact hd.cd.bs) aJ;rw[hT]at e1;obtain rfl:=Z1 aE e2 e1;rw[au]at hC;refine hC.mono ?_;rintro e w2 ⟨Z,rfl,hD⟩;obtain⟨ra,rn,rc,rfl⟩:=Ar hD.row;refine⟨ra,rn,rc,rfl,w1,hO,aa,?_⟩;rw[an];rw[am]at hD;exact hD
 ·rintro O Z w2 ⟨w1,hO,aa,hD⟩;have h1:=h.below aa;have ae:=(h1.BN.each z (afU hz)).wk;rw[if_pos hd.alive]at ae;have av:w1.heap[g]?=some (.cells cur 99 (0,0)):=(aa.block g (lt_of_block hg)).trans hg;have aG:=hD.quiet ae av rfl (by decide);have ak:=Qb (hD.quiet ae ((aa.block _ (lt_of_block hq.blk)).trans hq.blk) rfl (by decide));have aL:=Bu ad aa;have aM:w2.ownsRow 0 45 7 z.2.dn es.length (tab EX es):=Fy aL (fun j hj=>by
   obtain⟨cu,q⟩:=G7 aL hj;rw[hD.quiet ae q rfl (by decide),q])
  have e2:w2.cell? ⟨g,n*3+2,none⟩=some z.2.dn:=by
   rw[<-k2];simp[World.cell?,aG,hg]
  rw[ar]at e2 aM;have c0:y.client=en.client:=by rw[hq.rel.client,ab];rfl
  have c1:y.Ae=en.Ae:=by rw[hq.rel.Ae,ab];rfl
  have c2:y.line=en.line:=by rw[hq.rel.line,ab];rfl
  have c3:y.seq=en.seq:=by rw[hq.rel.seq,ab];rfl
  have c4:y.uid=(n:Int)+1:=by rw[hq.rel.uid,hd.ok.uid,hd.uid]
  have a0:=ak.a0;have a1:=ak.a1;have a2:=ak.a2;have a3:=ak.a3;have a4:=ak.a4;rw[c0]at a0;rw[c1]at a1;rw[c2]at a2;rw[c3]at a3;rw[c4]at a4;exact⟨e2,aM,by omega,a0,a1,a2,a3,a4,open_list aG⟩
 ·rintro O Z bf w2 wa wz K' va0 _ ⟨w1,hO,aa,hD⟩ aV aH aj aF b6;have h1:=h.below aa;have av:w1.heap[g]?=some (.cells cur 99 (0,0)):=(aa.block g (lt_of_block hg)).trans hg;have b2:=h1.BN.each z (afU hz);have aw:∀y∈es,BF w1 F y.2.1 y.1.arg/\BF w1 F y.2.2 y.1.result:=fun y hy=>⟨(aI y hy).1.keep (Af.Al aa (fun _=>False)) (fun _ _ _ _ q=>q) (fun _ q=>q),(aI y hy).2.keep (Af.Al aa (fun _=>False)) (fun _ _ _ _ q=>q) (fun _ q=>q)⟩
  rw[<-ar]at aH aF;have ac:EX (en,O,Z)=[.int .i64 en.client,.int .i64 en.Ae,.int .i64 en.line,.int .i64 en.seq,.int .i64 d.proc,O,Z]:=by rw[<-au];rfl
  rw[<-ac]at aj;obtain⟨p1,p2,p3,t,ql,_,_,hL,aX,ap,ax⟩:=h1.aex hd.sv hd.alive hz rfl hK av ((aa.cell (p:=⟨g,n*3+2,none⟩) (lt_of_block hg)).trans k2) aq ay b3 b4 he (Bu ad aa) aw aa.size hO aK az hD aV aH aj aF b6;rw[ar]at p1;refine⟨p1,p2,p3,t,_,⟨hL,⟨(Af.Al aa F).trans (aX.mono (fun k _ e=>hE k e)),fun k hk=>?_⟩,ql⟩,ap,ax⟩;rcases hk with hk|hk
  ·exact afJ hk
  ·exact afM hk.1
 ·rintro Z w3 ⟨t,F',hB,ap,ax⟩;refine⟨ax,(KT z.1.kind d.proc d.from' d.to hd.sig Z en.result w3 (ht.keeps hB.went.keeps aQ) ap (by rw[an];exact X6 aJ ai _ _)).mono ?_⟩;rintro e w4 ⟨hw,hb⟩;have ag:=hd.byt;rw[<-an]at ag;have h0:=R.DF ag;rcases hw with ⟨_,rfl⟩|⟨q,_⟩
  ·unfold R.Ba at ag;rw[if_pos h0]at ag;cases ag;exact⟨rfl,t,F',hB.lw.below hb,hB.went.trans (Ap.Al F' hb),hB.ql⟩
  ·exact absurd h0 q
 ·rintro w4 ⟨t,F',hB⟩;obtain⟨y4,aA,ba⟩:=hB.lw.q (i:=i) (r:=r) hd.seen hd.ne;have aT:w4.heap[p.t.ql i]?=some (.cells y4.cells.toArray 179 (0,0)):=by
   have:=aA.blk;rw[show ({p with t:=t}:Pl).t.ql=p.t.ql from hB.ql]at this;exact this
  refine(Tj w4 (p.t.ql i) y4 rb aT).mono ?_;rintro e w5 ⟨rfl,aU,aY⟩;have aN:r.timed=false:=by
   cases hr:r.timed with
   |false=>rfl
   |true=>
    have:=(h.Db.sn i r hd.seen).timed hr;omega
  have al:=aA.rel;have aB:KZ i (G1.Aj.getD (i / 3) 0) r' (aah y4 rb):=⟨al.client,al.Ae,al.line,al.seq,al.uid,rfl,fun q=>(by rcases q with q|q<;>cases q),fun _=>⟨rfl,rfl⟩,(by show (0:Int)=if r.timed=true then r.wait else 0;rw[aN];rfl),fun q=>(by rw[show r'.timed=r.timed from rfl,aN]at q;cases q)⟩;have aZ:R.Qg (G1.Aj.getD (i / 3) 0) r':=aD.ws.sn i r' (by
   show (G.seen.set i r')[i]?=some r';rw[afV];simp[(List.getElem?_eq_some_iff.1 hd.seen).1])
  obtain⟨l5,q5,b9⟩:=hB.lw.Ix aA (r':=r') (y':=aah y4 rb) hd.ne (by rw[show ({p with t:=t}:Pl).t.ql=p.t.ql from hB.ql];exact aY) (by rw[show ({p with t:=t}:Pl).t.ql=p.t.ql from hB.ql];exact aU) aB aZ;exact⟨rfl,t,F',_,⟨l5,hB.went.trans b9,hB.ql⟩,q5⟩
 ·rintro w5 ⟨t,F',y5,hB,b1⟩;have:=hB.lw.tell b1 rfl;rw[show ({p with t:=t}:Pl).t.ql=p.t.ql from hB.ql]at this;refine this.mono ?_;rintro e w6 ⟨rfl,aO,hL,hW⟩;exact⟨rfl,t,aO,hL,hB.went.trans hW⟩
end Go.Proofs.YtblomippkddgiabGreatDoor
