import Derived.Test.YtblomippkddgiabGreatDoorJ43
set_option maxRecDepth 100000
set_option maxHeartbeats 2000000
namespace Go.Proofs.YtblomippkddgiabGreatDoor
open Go.RowKit
open Go.RowKit Go.Maps
variable {F:Aq}{rb:List UInt8}{b i k n:Nat}{P:Pk}{p:Pl}{M:R.Bk}{c:R.Cl}{l:R.Ln}{G:R.Wd}{w:World}
structure Jg(w:World)(r x mb mc db dc:Nat)(mk:List (Mk×Value))(dead:List Int)(nu:Int):Prop where
 r0:w.cell? ⟨r,0,none⟩=some (ptr x)
 r9:w.cell? ⟨r,9,none⟩=some (.slice (some ⟨mb,0,none⟩) mk.length mc)
 KG:w.cell? ⟨r,10,none⟩=some (.int .i64 nu)
 Zn:w.cell? ⟨r,11,none⟩=some (.slice (some ⟨db,0,none⟩) dead.length dc)
 m:∀j z,mk[j]?=some z->∀c v,(DX z)[c]?=some v->w.cell? ⟨mb,j*7+c,none⟩=some v
 d:∀u n,dead[u]?=some n->w.cell? ⟨db,u,none⟩=some (.int .i64 n)
 it:∀z∈mk,V.Items w z.2 z.1.arg
theorem Jg.below{w':World}{r x mb mc db dc:Nat}{mk:List (Mk×Value)}{dead:List Int}{nu:Int}(h:Jg w r x mb mc db dc mk dead nu)(hb:Below w.heap.size w w'):Jg w' r x mb mc db dc mk dead nu:=
 ⟨(hb.cell (p:=⟨r,0,none⟩) (lt_of_cell h.r0)).trans h.r0,(hb.cell (p:=⟨r,9,none⟩) (lt_of_cell h.r0)).trans h.r9,(hb.cell (p:=⟨r,10,none⟩) (lt_of_cell h.r0)).trans h.KG,(hb.cell (p:=⟨r,11,none⟩) (lt_of_cell h.r0)).trans h.Zn,fun j z hz c v hv=>(hb.cell (p:=⟨mb,j*7+c,none⟩) (lt_of_cell (h.m j z hz c v hv))).trans (h.m j z hz c v hv),fun u n hn=>(hb.cell (p:=⟨db,u,none⟩) (lt_of_cell (h.d u n hn))).trans (h.d u n hn),fun z hz=>(h.it z hz).below hb⟩
theorem EP{X:Value}{l:List V.It}(h:V.Items w X l):∃xa xn xc,X=.slice xa xn xc:=by
 obtain⟨a,c,rfl,_⟩:=h;exact⟨_,_,_,rfl⟩
theorem Tp(w:World)(r x mb mc db dc k:Nat)(mk:List (Mk×Value))(dead:List Int)(nu uid:Int)(y:R.En)(xa ya:Option Addr)(xn xc yn yc:Nat)(zk:Mk×Value)(h:Jg w r x mb mc db dc mk dead nu)(hI:V.Items w (.slice xa xn xc) y.arg)(hl:mk.length<=3000000)(az:y.arg.length<=1000)
  (hk:mk[k]?=some zk) (ab:zk.1.key=R.Bl y) (hu:zk.1.uid=uid) (hp:zk.1.proc=y.proc) (ha:zk.1.arg=y.arg) (ap:∀j z,j<k->mk[j]?=some z->z.1.key≠R.Bl y):
  Calls Tryz.prog 11 #[ptr r,.int .i64 uid,.agg #[.int .i64 y.client,.int .i64 y.Ae,.int .i64 y.line,.int .i64 y.seq,.int .i64 y.proc,.slice xa xn xc,.slice ya yn yc]] w fun e w'=>e=.returned (.int .i64 (k:Int))/\Below w.heap.size w w':=by
 have al:Hid ((w.alloc (.cells #[.int .i64 y.client,.int .i64 y.Ae,.int .i64 y.line,.int .i64 y.seq,.int .i64 y.proc,.slice xa xn xc,.slice ya yn yc] 45)).heap[w.heap.size]?=some (.cells #[.int .i64 y.client,.int .i64 y.Ae,.int .i64 y.line,.int .i64 y.seq,.int .i64 y.proc,.slice xa xn xc,.slice ya yn yc] 45 (0,0))):=heap_alloc_new w _;have ak:Hid (Below w.heap.size w (w.alloc (.cells #[.int .i64 y.client,.int .i64 y.Ae,.int .i64 y.line,.int .i64 y.seq,.int .i64 y.proc,.slice xa xn xc,.slice ya yn yc] 45))):=(Below.refl _ _).alloc (afI _) _;have aD:=(afG.1 hk).1;obtain⟨W0,ad⟩:∃W0,w.alloc (.cells #[.int .i64 y.client,.int .i64 y.Ae,.int .i64 y.line,.int .i64 y.seq,.int .i64 y.proc,.slice xa xn xc,.slice ya yn yc] 45)=W0:=⟨_,rfl⟩;have aa:W0.heap[w.heap.size]?=some (.cells #[.int .i64 y.client,.int .i64 y.Ae,.int .i64 y.line,.int .i64 y.seq,.int .i64 y.proc,.slice xa xn xc,.slice ya yn yc] 45 (0,0)):=by rw[<-ad];exact Aa al
 have ah:Below w.heap.size w W0:=by rw[<-ad];exact Aa ak
 have an:Hid (∀wr,Below W0.heap.size W0 wr->Below w.heap.size w wr/\Jg wr r x mb mc db dc mk dead nu/\V.Items wr (.slice xa xn xc) y.arg/\wr.heap[w.heap.size]?=some (.cells #[.int .i64 y.client,.int .i64 y.Ae,.int .i64 y.line,.int .i64 y.seq,.int .i64 y.proc,.slice xa xn xc,.slice ya yn yc] 45 (0,0))):=fun wr hb=>by
  have h1:=ah.trans (hb.mono ah.size);exact⟨h1,h.below h1,hI.below h1,(hb.block _ (lt_of_block aa)).trans aa⟩
 have ax:=Ac ad;have am:=Ac (And.intro hk (And.intro ab (And.intro hu (And.intro hp ha))));have av:Hid (∀j z,j<k->mk[j]?=some z->z.1.key≠R.Bl y):=ap;clear al ak ad aa ah hk ab hu hp ha ap h hI;go_enter Tryz.func11,Tryz.ntmps11;go_wp2;rw[Aa ax];go_loopw [7] (fun iv wr=>∃i:Nat,i<=k/\iv=.int .i64 (i:Int)/\Below W0.heap.size W0 wr) (fun iv _=>k-(intOf iv).toNat)
 case atStart=>exact⟨0,af8 _,rfl,Below.refl _ _⟩
 case round=>
  obtain⟨i,hi,rfl,hb⟩:=hrel;obtain⟨aA,hL,hX,aa⟩:=(Aa an) wr hb;have hz:mk[i]?=some (mk[i]'(by omega)):=afH _;generalize mk[i]'(by omega)=z at hz;obtain⟨za,zn,zc,aj⟩:=EP (hL.it z (afU hz));have ai:=hL.it z (afU hz);rw[aj]at ai;have r0:=hL.r0;have r9:=hL.r9;have aF:=lt_of_cell r0;have m0:wr.cell? ⟨mb,i*7,none⟩=some (.int .i64 z.1.client):=hL.m i z hz 0 _ rfl;have m1:wr.cell? ⟨mb,i*7+1,none⟩=some (.int .i64 z.1.Ae):=hL.m i z hz 1 _ rfl;have m2:wr.cell? ⟨mb,i*7+2,none⟩=some (.int .i64 z.1.line):=hL.m i z hz 2 _ rfl;have m3:wr.cell? ⟨mb,i*7+3,none⟩=some (.int .i64 z.1.seq):=hL.m i z hz 3 _ rfl;have m4:wr.cell? ⟨mb,i*7+4,none⟩=some (.int .i64 z.1.uid):=hL.m i z hz 4 _ rfl;have m5:wr.cell? ⟨mb,i*7+5,none⟩=some (.int .i64 z.1.proc):=hL.m i z hz 5 _ rfl;have m6:wr.cell? ⟨mb,i*7+6,none⟩=some (.slice za zn zc):=by
   rw[<-aj];exact hL.m i z hz 6 _ rfl
  have aE:=lt_of_cell m0;have q1:(0:Int)<=(i:Int):=by omega
  have q2:(i:Int)<(mk.length:Int):=by omega
  have q3:i<mk.length:=by omega
  have aG:IntKind.i64.wrap ((i:Int)+1)=(i:Int)+1:=by rw[IntKind.wrap_i64];omega
  have y0:wr.cell? ⟨w.heap.size,0,none⟩=some (.int .i64 y.client):=cell_of aa 0 _ rfl;have y1:wr.cell? ⟨w.heap.size,1,none⟩=some (.int .i64 y.Ae):=cell_of aa 1 _ rfl;have y2:wr.cell? ⟨w.heap.size,2,none⟩=some (.int .i64 y.line):=cell_of aa 2 _ rfl;have y3:wr.cell? ⟨w.heap.size,3,none⟩=some (.int .i64 y.seq):=cell_of aa 3 _ rfl;have y4:wr.cell? ⟨w.heap.size,4,none⟩=some (.int .i64 y.proc):=cell_of aa 4 _ rfl;have y5:wr.cell? ⟨w.heap.size,5,none⟩=some (.slice xa xn xc):=cell_of aa 5 _ rfl;have aB:=lt_of_block aa;have af:Hid (Below W0.heap.size W0 (wr.alloc (.cells #[.int .i64 z.1.client,.int .i64 z.1.Ae,.int .i64 z.1.line,.int .i64 z.1.seq,.int .i64 z.1.uid,.int .i64 z.1.proc,.slice za zn zc] 62))):=hb.alloc hb.size _;have ar:Hid (V.Items (wr.alloc (.cells #[.int .i64 z.1.client,.int .i64 z.1.Ae,.int .i64 z.1.line,.int .i64 z.1.seq,.int .i64 z.1.uid,.int .i64 z.1.proc,.slice za zn zc] 62)) (.slice za zn zc) z.1.arg):=ai.below ((Below.refl _ _).alloc (afI _) _);have ay:Hid (V.Items (wr.alloc (.cells #[.int .i64 z.1.client,.int .i64 z.1.Ae,.int .i64 z.1.line,.int .i64 z.1.seq,.int .i64 z.1.uid,.int .i64 z.1.proc,.slice za zn zc] 62)) (.slice xa xn xc) y.arg):=hX.below ((Below.refl _ _).alloc (afI _) _);have ac:Hid ((wr.alloc (.cells #[.int .i64 z.1.client,.int .i64 z.1.Ae,.int .i64 z.1.line,.int .i64 z.1.seq,.int .i64 z.1.uid,.int .i64 z.1.proc,.slice za zn zc] 62)).heap[wr.heap.size]?=some (.cells #[.int .i64 z.1.client,.int .i64 z.1.Ae,.int .i64 z.1.line,.int .i64 z.1.seq,.int .i64 z.1.uid,.int .i64 z.1.proc,.slice za zn zc] 62 (0,0))):=heap_alloc_new wr _;have ao:Hid ((wr.alloc (.cells #[.int .i64 z.1.client,.int .i64 z.1.Ae,.int .i64 z.1.line,.int .i64 z.1.seq,.int .i64 z.1.uid,.int .i64 z.1.proc,.slice za zn zc] 62)).heap[w.heap.size]?=some (.cells #[.int .i64 y.client,.int .i64 y.Ae,.int .i64 y.line,.int .i64 y.seq,.int .i64 y.proc,.slice xa xn xc,.slice ya yn yc] 45 (0,0))):=(Below.heap_alloc _ _ _ aB).trans aa;have HZ:=Ac hz;clear hb aA hL hX aa ai aj hz;by_cases aC:i<k
  ·have ae:=(Aa av) i z aC (Aa HZ);have h4:(z.1.client==y.client)=false\/((z.1.client==y.client)=true/\(z.1.Ae==y.Ae)=false)\/((z.1.client==y.client)=true/\(z.1.Ae==y.Ae)=true/\(z.1.line==y.line)=false)\/((z.1.client==y.client)=true/\(z.1.Ae==y.Ae)=true/\(z.1.line==y.line)=true/\(z.1.seq==y.seq)=false):=by
    unfold Mk.key R.Bl at ae;simp only[ne_eq,R.Key.mk.injEq]at ae;by_cases a1:z.1.client=y.client
    ·by_cases a2:z.1.Ae=y.Ae
     ·by_cases a3:z.1.line=y.line
      ·by_cases a4:z.1.seq=y.seq
       ·exact absurd ⟨a1,a2,a3,a4⟩ ae
       ·simp[a1,a2,a3,a4]
      ·simp[a1,a2,a3]
     ·simp[a1,a2]
    ·simp[a1]
   clear ae;rcases h4 with q4|⟨q4,q5⟩|⟨q4,q5,q6⟩|⟨q4,q5,q6,q7⟩;all_goals
    go_wp2_with fail
    go_roundw
    case rel=>exact⟨i+1,by omega,by go_num,Aa af⟩
    case measure=>simp[intOf];omega
  ·obtain rfl:i=k:=by omega
   obtain⟨g1,g2,g3,g4,g5⟩:=Aa am;obtain rfl:=Option.some.inj ((Aa HZ).symm.trans g1);have g6:=g2;unfold Mk.key R.Bl at g6;simp only[R.Key.mk.injEq]at g6;have q4:(z.1.client==y.client)=true:=by simpa using g6.1
   have q5:(z.1.Ae==y.Ae)=true:=by simpa using g6.2.1
   have q6:(z.1.line==y.line)=true:=by simpa using g6.2.2.1
   have q7:(z.1.seq==y.seq)=true:=by simpa using g6.2.2.2
   have q8:(z.1.uid==uid)=true:=by simpa using g3
   have q9:(z.1.proc==y.proc)=true:=by simpa using g4
   have aw:Hid (Calls Tryz.prog 13 #[.slice za zn zc,.slice xa xn xc] (wr.alloc (.cells #[.int .i64 z.1.client,.int .i64 z.1.Ae,.int .i64 z.1.line,.int .i64 z.1.seq,.int .i64 z.1.uid,.int .i64 z.1.proc,.slice za zn zc] 62)) fun e w'=>e=.returned (.bool true)/\Below (wr.alloc (.cells #[.int .i64 z.1.client,.int .i64 z.1.Ae,.int .i64 z.1.line,.int .i64 z.1.seq,.int .i64 z.1.uid,.int .i64 z.1.proc,.slice za zn zc] 62)).heap.size (wr.alloc (.cells #[.int .i64 z.1.client,.int .i64 z.1.Ae,.int .i64 z.1.line,.int .i64 z.1.seq,.int .i64 z.1.uid,.int .i64 z.1.proc,.slice za zn zc] 62)) w'):=by
    have:=Aa ar;rw[g5]at this;exact RA _ _ _ y.arg this (Aa ay) az
   have au:Hid (∀w',Below (wr.alloc (.cells #[.int .i64 z.1.client,.int .i64 z.1.Ae,.int .i64 z.1.line,.int .i64 z.1.seq,.int .i64 z.1.uid,.int .i64 z.1.proc,.slice za zn zc] 62)).heap.size (wr.alloc (.cells #[.int .i64 z.1.client,.int .i64 z.1.Ae,.int .i64 z.1.line,.int .i64 z.1.seq,.int .i64 z.1.uid,.int .i64 z.1.proc,.slice za zn zc] 62)) w'->w'.cell? ⟨wr.heap.size,4,none⟩=some (.int .i64 z.1.uid)/\w'.cell? ⟨wr.heap.size,5,none⟩=some (.int .i64 z.1.proc)/\w'.cell? ⟨w.heap.size,4,none⟩=some (.int .i64 y.proc)):=fun w' hb=>⟨cell_of ((hb.block _ (lt_of_block (Aa ac))).trans (Aa ac)) 4 _ rfl,cell_of ((hb.block _ (lt_of_block (Aa ac))).trans (Aa ac)) 5 _ rfl,cell_of ((hb.block _ (lt_of_block (Aa ao))).trans (Aa ao)) 4 _ rfl⟩
   clear g1 g2 g3 g4 g5 g6 am;go_wp2_with (go_at_call 13;refine(Aa aw).mono ?_;rintro e w4 ⟨rfl,ag⟩;clear y0 y1 y2 y3 y4 y5;obtain⟨n4,n5,y4⟩:=(Aa au) w4 ag;have aq:=Ac ((Aa af).trans (ag.mono (Aa af).size));clear ag)
   go_returns;exact⟨rfl,((Aa an) _ (Aa aq)).1⟩
theorem UF:∀(sv:List R.Sv),(∀s∈sv,s.log.length<=3000000)->(A9 sv).length<=3000000*sv.length
 |[],_=>by simp[A9]
 |s :: sv,h=>by
  have h1:=h s (by simp);have h2:=UF sv (fun t ht=>h t (by simp[ht]));have:A9 (s :: sv)=s.log++A9 sv:=by simp[A9]
  rw[this,afS,af1];omega
theorem Mp.adW{α:Type}{k t:TypeId}{lit:α->Lit}{g:α->Option Int}(h:Mp w k b lit g n)(K:Keyed Tryz.prog k)(ht:Tryz.prog.underlying t=some (.map k 3)){key:Value}{a:α}(aa:keyOf Tryz.prog k key=some (lit a)):(Instr.lookup t (.map (some b)) key false).run Tryz.prog w=.ok (.int .i64 ((g a).getD 0)) w:=by
 obtain⟨D,h1,h2,h3⟩:=h;obtain⟨v,ps,ab,hv⟩:=h1.lookup K ht (abW w) (plainElem_int Tryz.underlying3 (Xm (by omega))) aa;obtain⟨c,rfl,hc,_⟩:=plainElem_int_inv Tryz.underlying3 hv;simp only[Prod.mk.injEq]at hc;rw[ab];cases hg:g a with
 |some x=>
  have:=(h3 a).2 x hg;rw[hc.1]at this;cases this;rfl
 |none=>
  have hn:=(h3 a).1;rw[hg]at hn;have:=atKey_of_not_has hn (.lit (.int .i64 0));rw[hc.1]at this;cases this;rfl
theorem LW.adO(h:LW p F G w)(ha:R.At G i k c l):i<3/\k<3:=by
 have aa:=h.wf.cf;unfold R.BD at aa;have h1:=h.wf.Gt;have h2:=(h.wf.cl i c ha.cl).lines;have h3:=(afG.1 ha.cl).1;have h4:=(afG.1 ha.ln).1;omega
theorem LW.Ao(h:LW p F G w)(ha:R.At G i k c l)(h1:l.state=1)(hP:P.line=(k:Int))(hr:AR P)(ao:P.off=R.Ag l.message):
  Calls Tryz.prog 159 #[ptr (p.cb i),pv P] w fun e w'=>e=.returned (.tuple #[])/\∃F',LW p F' (if P.part=l.Ao then R.ET (if l.Ao+1<R.Ag l.message then R.AA (R.Am G i k {l with Ao:=l.Ao+1}) i k false else R.Am G i k {l with Ao:=l.Ao+1}) i k else G) w'/\Ap F F' w w':=by
 obtain⟨xs,x,hL,hR,hx,aa,ai,ap,an⟩:=h.line ha.cl ha.ln;have al:=Ic h ha.cl;have hi:=(afG.1 ha.cl).1;have hk:=(afG.1 ha.ln).1;have ak:=(h.wf.cl i c ha.cl).line k l ha.ln;obtain⟨z1,z2,aj,au,ar,aq⟩:=ak.one h1;obtain⟨eu,em,ea,ew,et⟩:=aa.one h1;have am:F (p.lb i):=(h.FG i hi).2.1;have av:c.lines.length=c.lines.length:=rfl;have ag:w.cell? ⟨p.cb i,3,none⟩=some (.slice (some ⟨p.lb i,0,none⟩) c.lines.length c.lines.length):=al.a3;have a6:=ai.a6;rw[ea]at a6;have a5:=ai.a5;rw[em]at a5;have ax:=R.El aj.2;by_cases ad:P.part=l.Ao
 ·rw[if_pos ad];have aw:=hr.2.2.2.2.2.2.2.1;have st:=BS (j:=6) (x':={x with Ao:=l.Ao+1}) (v:=.int .i64 (l.Ao+1)) hL hx (by omega) rfl;have ah:Af (fun q=>q=p.lb i) w (w.setCell ⟨p.lb i,k*10+6,none⟩ (.int .i64 (l.Ao+1))):=Ah _;have hT:=h.turn (l':={l with Ao:=l.Ao+1}) ha.cl hL hR ap ah st.1 ⟨ak.seq,fun _=>⟨z1,z2,aj,by simp only;omega,ar,aq⟩⟩ ⟨aa.state,aa.seq,aa.res,fun q=>⟨eu,em,rfl,ew,et⟩,aa.two⟩ an;have hW:Ap F F w (w.setCell ⟨p.lb i,k*10+6,none⟩ (.int .i64 (l.Ao+1))):=⟨ah.mono (fun q _ e=>by rw[e];exact am),fun _ q=>afJ q⟩;have ab:=ha.set {l with Ao:=l.Ao+1};refine Xz w (p.cb i) (p.lb i) c.lines.length k (R.Ag l.message) l.Ao P (str l.message) (fun w'=>∃F',LW p F' (if l.Ao+1<R.Ag l.message then R.AA (R.Am G i k {l with Ao:=l.Ao+1}) i k false else R.Am G i k {l with Ao:=l.Ao+1}) w'/\Ap F F' w w') _ hk hP ag a5 a6 (open_list hL) (by omega) ad (fun w=>CS l.message w (by omega)) (fun ac wa hb=>?_) ?_ (fun ac wa hb=>?_)
  ·have af:(w.setCell ⟨p.lb i,k*10+6,none⟩ (.int .i64 (l.Ao+1))).heap.size=w.heap.size:=by simp
   rw[<-af]at hb;refine((hT.below hb).piece ab.cl ab.ln h1 ac false).mono ?_;rintro e w' ⟨rfl,F',q1,q2⟩;rw[if_pos ac];exact⟨rfl,F',q1,(hW.trans (Ap.Al F hb)).trans q2⟩
  ·rintro w' ⟨F',q1,q2⟩;have ae:R.At (if l.Ao+1<R.Ag l.message then R.AA (R.Am G i k {l with Ao:=l.Ao+1}) i k false else R.Am G i k {l with Ao:=l.Ao+1}) i k {c with lines:=c.lines.set k {l with Ao:=l.Ao+1}} {l with Ao:=l.Ao+1}:=by
    split
    ·unfold R.AA;exact ab.send _ _
    ·exact ab
   refine(q1.rest ae h1).mono ?_;rintro e ay ⟨rfl,r1,r2⟩;exact⟨rfl,F',r1,q2.trans r2⟩
  ·have af:(w.setCell ⟨p.lb i,k*10+6,none⟩ (.int .i64 (l.Ao+1))).heap.size=w.heap.size:=by simp
   rw[<-af]at hb;rw[if_neg ac];exact⟨F,hT.below hb,hW.trans (Ap.Al F hb)⟩
 ·rw[if_neg ad];refine(ab2 w (p.cb i) (p.lb i) c.lines.length k l.Ao P hk hP ag a6 ad).mono ?_;rintro e w' ⟨rfl,hb⟩;exact⟨rfl,F,h.below hb,Ap.Al F hb⟩
theorem LW.rejected(h:LW p F G w)(ha:R.At G i k c l)(h1:l.state=1)(hP:P.line=(k:Int))(hr:AR P)(ai:P.off=2):
  Calls Tryz.prog 161 #[ptr (p.cb i),pv P] w fun e w'=>e=.returned (.tuple #[])/\∃F',LW p F' (R.Am G i k {l with state:=4+P.part}) w'/\Ap F F' w w':=by
 obtain⟨xs,x,hL,hR,hx,ac,al,ak,ag⟩:=h.line ha.cl ha.ln;have ae:=Ic h ha.cl;have hi:=(afG.1 ha.cl).1;have hk:=(afG.1 ha.ln).1;have aj:=(h.wf.cl i c ha.cl).line k l ha.ln;have af:F (p.lb i):=(h.FG i hi).2.1;have am:=hr.2.2.2.2.2.2.2.1;have ab:l.result=[]:=ac.res (by omega);have ah:=lt_of_block hL;refine NZ w (p.cb i) (p.lb i) c.lines.length k (4+P.part) P _ hk hP ae.a3 (by omega) (fun wa hb=>?_);have ad:wa.heap[p.lb i]?=some (.cells (tab CU.cells xs).toArray 129 (0,0)):=by rw[hb.block _ ah];exact hL
 refine(ML wa (p.lb i) k (4+P.part) xs x (EO ag) ad hx).mono ?_;rintro e w' ⟨rfl,q1,q2⟩;have aa:Af (fun q=>q=p.lb i) w w':=(Af.Al hb _).trans q2;refine⟨rfl,F,?_,aa.mono (fun q _ e=>by rw[e];exact af),fun _ q=>afJ q⟩;refine h.turn ha.cl hL hR ak aa q1 ⟨aj.seq,fun q=>by simp only at q;omega⟩ ⟨rfl,ac.seq,fun _=>ab,fun q=>by simp only at q;omega,fun q=>by simp only at q;omega⟩ ?_;simp only;rw[ab];exact BF.nil _ _
theorem Ur{a b:Int}(ha:a=0\/a=1)(hb:b=0\/b=1)(h:A5 a=A5 b):a=b:=RV (by omega) (by omega) (by omega) (by omega) h
theorem Uk{l:List UInt8}{n:Int}(h:(l.length:Int)=8*n):R.Ag l=n:=by
 unfold R.Ag;omega
theorem Wb{g:Int->Option Int}(h:Mp w 3 b Kz g n){u:Int}(hu:-9223372036854775808<=u/\u<=9223372036854775807):(Instr.lookup 130 (.map (some b)) (.int .i64 u) false).run Tryz.prog w=.ok (.int .i64 ((g u).getD 0)) w:=
 h.adW (int_keyed Tryz.underlying3) Tryz.underlying130 (keyOf_int_mk Tryz.underlying3 (Xm hu))
theorem Wy{t:ByteArray}{v:List R.It}(h:R.Ba t v=some rb)(hp:1<=rb.length):v≠[]:=fun e=>by
 subst e;have h1:=R.DF h;unfold R.Ba at h;rw[if_pos h1]at h;obtain⟨_,ks,_,h3,_⟩:=V.Ef h1;have:=Option.some.inj h;rw[h3]at this;rw[<-this]at hp;cases ks<;>simp[V.bytesOf]at hp
theorem LW.ZA(h:LW p F G w)(ht:Ec w)(aQ:¬F 0)(hI:R.Inv M G)(ha:R.At G i k c l)(h1:l.state=1)(hP:P.line=(k:Int))(hr:AR P){d:R.Cd}{e:R.En}(hd:M ⟨i,c.Ae,k,l.seq⟩=some d)(ag:R.EW G.Ab ⟨i,c.Ae,k,l.seq⟩ d e rb)(ho:P.off=R.Ag rb)(hb:P.body=R.Be rb P.part):
  Calls Tryz.prog 160 #[ptr (p.cb i),pv P] w fun e w'=>e=.returned (.tuple #[])/\∃F',LW p F' (R.Dy G i P) w'/\Ap F F' w w':=by
 obtain⟨xs,x,hL,hR,hx,aj,ak,aP,aA⟩:=h.line ha.cl ha.ln;have al:=Ic h ha.cl;obtain⟨aJ,aK⟩:=h.adO ha;have hi:=(afG.1 ha.cl).1;have hk:=(afG.1 ha.ln).1;have aE:=(h.wf.cl i c ha.cl).line k l ha.ln;obtain⟨z1,z2,aD,b7,b4,b3⟩:=aE.one h1;obtain⟨eu,em,ea,ew,et⟩:=aj.one h1;obtain⟨ec,ep,ax⟩:=aj.two h1;have az:F (p.lb i):=(h.FG i hi).2.1;have aX:=hI.ln i c k l ha.cl ha.ln;obtain⟨d',w1,w2,w3,w4,w5,w6,w7⟩:=aX.way h1;rw[hd]at w1;cases w1;obtain⟨aI,_⟩:=hI.bk _ d hd;have bb:=hr.2.2.2.2.2.2.2.1;have aO:=hr.2.2.2.2.2.2.1;have bc:=R.El aD.2;have aZ:=R.De (s:=l.message) aD.1;have aT:R.Ag l.came=l.pieces:=Uk w6.2;have bd:l.result=[]:=aj.res (by omega);have a3:=ak.a3;rw[eu]at a3;have a5:=ak.a5;rw[em]at a5;have a6:=ak.a6;rw[ea]at a6;have a7:=ak.a7;rw[ec]at a7;have b2:rb.length<=70:=by
  have:=R.DF ag.bytes;have h2:=V.U2 this;have h3:=ag.bytes;unfold R.Ba at h3;rw[if_pos this]at h3;rw[<-Option.some.inj h3];exact h2
 have ba:l.came.length<=72:=by
  rcases Int.lt_or_le 0 l.pieces with q|q
  ·obtain⟨e',b5,g1,g2,g3⟩:=w7 q;obtain⟨_,u2⟩:=hI.unique hd ag g1;rw[g2,u2,aga];omega
  ·omega
 have b9:P.body.length<=8:=by rw[hb,R.G0];omega
 have H1:Hid (∀w,Calls Tryz.prog 203 #[.string (str l.message)] w fun e w'=>e=.returned (.int .i64 (R.Ag l.message))/\w'=w):=fun w=>CS l.message w (by omega)
 have H2:Hid (∀w,Calls Tryz.prog 203 #[.string (str l.came)] w fun e w'=>e=.returned (.int .i64 l.pieces)/\w'=w):=fun w=>by
  have:=CS l.came w (by omega);rw[aT]at this;exact this
 have aW:R.BH G i P.line=l:=by rw[hP];exact ha.line
 have ap:R.Dy G i P=if l.Ao<R.Ag l.message-1\/l.pieces<P.part then G else if P.part=l.pieces then (if l.pieces+1=P.off then R.Am G i k {l with came:=l.came++P.body,pieces:=l.pieces+1,Ao:=R.Ag l.message,result:=(V.D5 l.to (l.came++P.body)).2,state:=2} else R.ET (R.I1 (R.Am G i k {l with came:=l.came++P.body,pieces:=l.pieces+1,Ao:=R.Ag l.message}) i P) i k) else R.I1 G i P:=by
  unfold R.Dy;simp only[aW];rw[hP]
 rw[ap];by_cases hold:l.Ao<R.Ag l.message-1\/¬P.part=l.pieces
 ·refine TV w (p.cb i) (p.lb i) c.lines.length k (R.Ag l.message) l.pieces l.Ao P (str l.message) (str l.came) _ hk hP al.a3 a5 a6 a7 (by omega) H1 H2 hold (fun q wa hb=>?_) (fun q1 q2 wa hb=>?_)
  ·rw[if_pos q];exact⟨F,h.below hb,Ap.Al F hb⟩
  ·rw[if_neg (by omega),if_neg (by omega)];refine((h.below hb).got ha h1 hr aJ aK hP).mono ?_;rintro e w' ⟨rfl,F',r1,r2⟩;exact⟨rfl,F',r1,(Ap.Al F hb).trans r2⟩
 ·have aM:¬l.Ao<R.Ag l.message-1:=fun q=>hold (afJ q)
  have hm:P.part=l.pieces:=Decidable.byContradiction fun q=>hold (afM q)
  rw[if_neg (by omega),if_pos hm];have s1:=BS (j:=7) (x':={x with came:=l.came++P.body}) (v:=.string (str (l.came++P.body))) hL hx (by omega) rfl;have s2:=BS (j:=6) (x':={x with came:=l.came++P.body,Ao:=R.Ag l.message}) (v:=.int .i64 (R.Ag l.message)) s1.1 s1.2 (by omega) rfl;simp only[ag5]at s2;have aw:Af (fun q=>q=p.lb i) w (EB w (p.lb i) k (str (l.came++P.body)) (R.Ag l.message)):=(Ah _).trans (Ah _);have ar:N8 {l with came:=l.came++P.body,pieces:=l.pieces+1,Ao:=R.Ag l.message} {x with came:=l.came++P.body,Ao:=R.Ag l.message}:=⟨aj.state,aj.seq,aj.res,fun _=>⟨eu,em,rfl,ew,et⟩,fun _=>⟨rfl,ep,ax⟩⟩;have hT:=h.turn (l':={l with came:=l.came++P.body,pieces:=l.pieces+1,Ao:=R.Ag l.message}) ha.cl hL hR aP aw s2.1 ⟨aE.seq,fun _=>⟨z1,z2,aD,by simp only;omega,b4,b3⟩⟩ ar aA;have hW:Ap F F w (EB w (p.lb i) k (str (l.came++P.body)) (R.Ag l.message)):=⟨aw.mono (fun q _ e=>by rw[e];exact az),fun _ q=>afJ q⟩;have au:=ha.set {l with came:=l.came++P.body,pieces:=l.pieces+1,Ao:=R.Ag l.message};have ah:(EB w (p.lb i) k (str (l.came++P.body)) (R.Ag l.message)).heap.size=w.heap.size:=by simp
  have ae:=PY l.came P.body;have aN:¬9223372036854775807<(str l.came).size+(str P.body).size:=by rw[Ax,Ax];omega
  have aR:∀wa,Below w.heap.size (EB w (p.lb i) k (str (l.came++P.body)) (R.Ag l.message)) wa->Ec wa:=fun wa hb=>by
   refine Ec.below (w:=EB w (p.lb i) k (str (l.came++P.body)) (R.Ag l.message)) (ht.keeps aw ?_) (by rw[ah];exact hb);intro q;exact aQ (by rw[q];exact az)
  by_cases aa:l.pieces+1=P.off
  ·rw[if_pos aa];have ai:l.came++P.body=rb:=by
    obtain⟨n,hn⟩:∃n:Nat,l.pieces=(n:Int):=⟨l.pieces.toNat,by omega⟩;have am:l.came=rb.take (8*n):=by
     rcases Nat.eq_zero_or_pos n with h0|h0
     ·subst h0;have:l.came.length=0:=by omega
      simp[List.length_eq_zero_iff.1 this]
     ·obtain⟨e',b5,g1,g2,g3⟩:=w7 (by omega);obtain⟨_,u2⟩:=hI.unique hd ag g1;rw[g2,u2,hn,afY]
    rw[am,hb,hm,hn,R.He,R.G5 (by rw[<-ho,<-aa,hn];rfl)]
   have ad:V.D5 l.to (l.came++P.body)=(0,e.result):=by rw[ai,w4];exact R.FK ag.bytes
   have aY:=Wy ag.bytes ag.pos;have aV:kindOf G l.uid=R.Io G.Ab d.uid:=by rw[w2];rfl
   have b1:x.proc=d.proc:=by
    have h3:l.message.take 2=A5 d.proc:=by rw[w3];simp[R.Cd.msg,A5]
    rw[h3]at ax;have hs:=R.OH aI.sig;exact Ur ep hs ax.symm
   rw[ad];refine Nl w (p.cb i) (p.lb i) (p.bm i) c.lines.length k (R.Ag l.message) l.pieces l.Ao l.uid x.proc (kindOf G l.uid) P (str l.message) (str l.came) (fun _=>False) _ (fun O w'=>V.Row w' w.heap.size O e.result/\Below w.heap.size (EB w (p.lb i) k (str (l.came++P.body)) (R.Ag l.message)) w') hk hP al.a2 al.a3 a3 ak.a4 a5 a6 a7 (open_list hL) (open_list hL) (AZ (h.cl i c ha.cl) hL (by decide)) (by omega) aM hm aO aN H1 H2 (fun q wa hb=>absurd (show P.part=P.off-1 by omega) q) (fun w' q=>q.elim) (fun q wa hb=>?_) (fun q wa hb=>?_) ?_
   ·rw[<-ae]at hb;have ac:=hb;rw[<-ah]at ac;have aS:=(hT.below ac).bound i _ au.cl;have aU:l.uid∈c.bound:=by rw[w2];exact w5
    have:=Wb aS (u:=l.uid) (by omega);rw[this];have e1:BL (R.Am G i k {l with came:=l.came++P.body,pieces:=l.pieces+1,Ao:=R.Ag l.message}) {c with lines:=c.lines.set k {l with came:=l.came++P.body,pieces:=l.pieces+1,Ao:=R.Ag l.message}} l.uid=some (kindOf G l.uid):=by
     unfold BL;rw[if_pos aU];rfl
    rw[e1];rfl
   ·rw[<-ae]at hb ⊢;have ac:=hb;rw[<-ah]at ac;refine(LF (kindOf G l.uid) x.proc d.from' d.to (by rw[aV,b1];exact aI.sig) (l.came++P.body) e.result (by rw[<-w4];exact ad) wa (aR wa hb)).mono ?_;rintro e1 w' ⟨⟨O,rfl,ab⟩,av⟩;obtain⟨ra,rn,rc,hO⟩:=Ar ab;subst hO;exact⟨ra,rn,rc,rfl,V.EU ab (by have:=hb.size;rw[ah]at this;exact this),hb.trans (av.mono (by have:=hb.size;rw[ah]at this;exact this))⟩
   ·rintro ra rn rc w' ⟨ab,av⟩;have af:=av;rw[<-ah]at af;obtain⟨aB,ao⟩:=Nn ab aY;have aG:=hT.below af;have aF:w'.heap[p.lb i]?=some (.cells (tab CU.cells (xs.set k {x with came:=l.came++P.body,Ao:=R.Ag l.message})).toArray 129 (0,0)):=by rw[av.block _ (lt_of_block hL)];exact s2.1
    refine(Qz w' (p.lb i) k ra rn rc (xs.set k {x with came:=l.came++P.body,Ao:=R.Ag l.message}) {x with came:=l.came++P.body,Ao:=R.Ag l.message} (EO aA) aF s2.2).mono ?_;rintro e2 b6 ⟨rfl,q1,q2⟩;have aq:=aG.wide (F':=fun j=>F j\/(Value.slice ra rn rc).ownBlock=some j) (fun _ q=>afJ q) (fun j hj=>by
     rcases hj with hj|hj
     ·exact aG.lt j hj
     ·exact(ao j hj).2)
    have aC:Af (fun q=>q=p.lb i) w w':=aw.trans (Af.Al af _);have aH:JD w F (fun q=>q=p.lb i):=JD.one hL (by decide);have g2:=hR.set (k:=k) ar;have g3:EJ w' (fun j=>F j\/(Value.slice ra rn rc).ownBlock=some j) (c.lines.set k {l with came:=l.came++P.body,pieces:=l.pieces+1,Ao:=R.Ag l.message}) (xs.set k {x with came:=l.came++P.body,Ao:=R.Ag l.message}):=(aP.Eg aC aH (fun _ q=>afJ q)).set (aA.Eg aC aH (fun _ q=>afJ q));have an:=aq.turn (k:=k) (l':={l with came:=l.came++P.body,pieces:=l.pieces+1,Ao:=R.Ag l.message,result:=e.result,state:=2}) (x':={JR 2 x.seq with rv:=.slice ra rn rc}) au.cl aF g2 g3 q2 q1 ⟨aE.seq,fun q=>by simp only at q;omega⟩ ⟨rfl,aj.seq,fun q=>absurd rfl q,fun q=>by simp only at q;omega,fun q=>by simp only at q;omega⟩ (aB.keep (Af.refl (fun _=>False) w') (fun _ _ _ _ q=>q) (fun _ q=>afM q));refine⟨rfl,fun j=>F j\/(Value.slice ra rn rc).ownBlock=some j,?_,?_,fun j hj=>?_⟩
    ·rw[N3]at an;exact an
    ·exact(aC.trans q2).mono (fun q _ e=>by rw[e];exact az)
    ·rcases hj with hj|hj
     ·exact afJ hj
     ·exact afM (ao j hj).1
  ·have aL:=aa;rw[if_neg aL];refine Nl w (p.cb i) (p.lb i) (p.bm i) c.lines.length k (R.Ag l.message) l.pieces l.Ao l.uid x.proc (kindOf G l.uid) P (str l.message) (str l.came) (fun w'=>∃F',LW p F' (R.I1 (R.Am G i k {l with came:=l.came++P.body,pieces:=l.pieces+1,Ao:=R.Ag l.message}) i P) w'/\Ap F F' w w') _ (fun O w'=>V.Row w' w.heap.size O e.result/\Below w.heap.size (EB w (p.lb i) k (str (l.came++P.body)) (R.Ag l.message)) w'/\l.pieces+1=P.off/\l.came++P.body=rb) hk hP al.a2 al.a3 a3 ak.a4 a5 a6 a7 (open_list hL) (open_list hL) (AZ (h.cl i c ha.cl) hL (by decide)) (by omega) aM hm aO aN H1 H2 (fun q wa hb=>?_) ?_ (fun q wa hb=>?_) (fun q wa hb=>?_) ?_
   ·rw[<-ae]at hb;have ac:=hb;rw[<-ah]at ac;refine((hT.below ac).got au h1 hr aJ aK hP).mono ?_;rintro e w' ⟨rfl,F',r1,r2⟩;exact⟨rfl,F',r1,(hW.trans (Ap.Al F ac)).trans r2⟩
   ·rintro w' ⟨F',r1,r2⟩;have ay:R.At (R.I1 (R.Am G i k {l with came:=l.came++P.body,pieces:=l.pieces+1,Ao:=R.Ag l.message}) i P) i k {c with lines:=c.lines.set k {l with came:=l.came++P.body,pieces:=l.pieces+1,Ao:=R.Ag l.message}} {l with came:=l.came++P.body,pieces:=l.pieces+1,Ao:=R.Ag l.message}:=by
     unfold R.I1;exact au.send _ _
    refine(r1.rest ay h1).mono ?_;rintro e b6 ⟨rfl,g1,g2⟩;exact⟨rfl,F',g1,r2.trans g2⟩
   ·exact absurd q (by omega)
   ·exact absurd q (by omega)
   ·rintro ra rn rc w' ⟨_,_,q,_⟩;exact absurd q aL
theorem LW.heard(h:LW p F G w)(ht:Ec w)(am:¬F 0)(hI:R.Inv M G)(hr:AR P){to:Int}(af:to≠-1)(hp:R.OW M G.Ab to P):
  ∃i:Nat,to=(i:Int)/\i<G.Ad.length/\Calls Tryz.prog 94 #[ptr (p.cb i),pv P] w fun e w'=>e=.returned (.tuple #[])/\∃F',LW p F' (R.Ee G to P) w'/\Ap F F' w w':=by
 obtain⟨d,hd,hu,hk⟩:=hp;obtain⟨ap,i,c,k,l,r1,r2,r3,r4,r5,r6,r7,r8,r9⟩:=hI.bk _ d hd;simp only[R.D4]at r1 r3 r5 r6 r7 r8 r9;have aa:R.At G i k c l:=⟨r2,r4⟩;have ao:to=(i:Int):=by
  rcases hk with ⟨_,q,_⟩|⟨_,q,_⟩|⟨_,q⟩|⟨_,q⟩|⟨_,q,_⟩|⟨_,q⟩|⟨_,q,_⟩
  ·exact absurd q af
  ·rw[q,r1]
  ·exact absurd q af
  ·rw[q,r1]
  ·rw[q,r1]
  ·exact absurd q af
  ·rw[q,r1]
 subst ao;refine⟨i,rfl,(afG.1 r2).1,?_⟩;obtain⟨xs,x,hL,hR,hx,al,ai,ar,aq⟩:=h.line aa.cl aa.ln;have ae:=Ic h aa.cl;have ag:=(afG.1 aa.ln).1;have aj:=lt_of_block hL;have e0:R.Ee G i P=if l.state≠1\/P.Ae≠c.Ae\/P.seq≠l.seq then G else if P.kind=2 then (if P.part=l.Ao then R.ET (if l.Ao+1<R.Ag l.message then R.AA (R.Am G i k {l with Ao:=l.Ao+1}) i k false else R.Am G i k {l with Ao:=l.Ao+1}) i k else G) else if P.kind=4 then R.ET G i k else if P.kind=5 then R.Dy G i P else if P.kind=7 then R.Am G i k {l with state:=4+P.part} else G:=by
  unfold R.Ee;simp only;rw[r3,aa.line,R.Co aa.cl]
 rw[e0];have au:=al.state;have ak:=al.seq;refine Xd w (p.cb i) (p.lb i) c.lines.length k (decide (x.state=1/\c.Ae=P.Ae/\x.seq=P.seq)) P _ ag r3 ae.a3 (fun wa hb=>?_) (fun ab h2 wa hb=>?_) (fun ab h2 wa hb=>?_) (fun ab h2 wa hb=>?_) (fun ab h2 wa hb=>?_) (fun an wa hb=>?_)
 ·have ah:=lt_of_cell ae.a3;exact Xi wa (p.cb i) (p.lb i) c.lines.length k c.Ae x.state x.seq P ag r3 ((hb.cell (p:=⟨p.cb i,1,none⟩) ah).trans ae.a1) ((hb.cell (p:=⟨p.cb i,3,none⟩) ah).trans ae.a3) ((hb.cell (p:=⟨p.lb i,k*10,none⟩) aj).trans ai.a0) ((hb.cell (p:=⟨p.lb i,k*10+1,none⟩) aj).trans ai.a1)
 ·have hq:=of_decide_eq_true ab;have h1:l.state=1:=by omega
  rw[if_neg (by omega),if_pos h2];have ad:P.off=R.Ag l.message:=by
   have ac:R.D4 P=⟨i,c.Ae,k,l.seq⟩:=by simp[R.D4,r1,r3,hq.2.1,<-ak,hq.2.2]
   rw[ac]at hd;obtain⟨d',q1,_,q3⟩:=hI.way aa h1;rw[hd]at q1;cases q1;rcases hk with ⟨q,_⟩|⟨q,_,q2⟩|⟨q,_⟩|⟨q,_⟩|⟨q,_⟩|⟨q,_⟩|⟨q,_⟩
   ·omega
   ·rw[q2,q3]
   all_goals omega
  refine((h.below hb).Ao aa h1 r3 hr ad).mono ?_;rintro e w' ⟨rfl,F',q1,q2⟩;exact⟨rfl,F',q1,(Ap.Al F hb).trans q2⟩
 ·have hq:=of_decide_eq_true ab;have h1:l.state=1:=by omega
  rw[if_neg (by omega),if_neg (by omega),if_pos h2];refine((h.below hb).rest aa h1).mono ?_;rintro e w' ⟨rfl,q1,q2⟩;exact⟨rfl,F,q1,(Ap.Al F hb).trans q2⟩
 ·have hq:=of_decide_eq_true ab;have h1:l.state=1:=by omega
  rw[if_neg (by omega),if_neg (by omega),if_neg (by omega),if_pos h2];have ac:R.D4 P=⟨i,c.Ae,k,l.seq⟩:=by simp[R.D4,r1,r3,hq.2.1,<-ak,hq.2.2]
  rw[ac]at hd hk;rcases hk with ⟨q,_⟩|⟨q,_⟩|⟨q,_⟩|⟨q,_⟩|⟨_,_,e,rb,q1,q2,q3⟩|⟨q,_⟩|⟨q,_⟩
  ·omega
  ·omega
  ·omega
  ·omega
  ·refine((h.below hb).ZA (ht.below hb) am hI aa h1 r3 hr hd q1 q2 q3).mono ?_;rintro e w' ⟨rfl,F',q1,q2⟩;exact⟨rfl,F',q1,(Ap.Al F hb).trans q2⟩
  ·omega
  ·omega
 ·have hq:=of_decide_eq_true ab;have h1:l.state=1:=by omega
  rw[if_neg (by omega),if_neg (by omega),if_neg (by omega),if_neg (by omega),if_pos h2];have ad:P.off=2:=by
   rcases hk with ⟨q,_⟩|⟨q,_,q2⟩|⟨q,_⟩|⟨q,_⟩|⟨q,_⟩|⟨q,_⟩|⟨_,_,q⟩
   ·omega
   ·omega
   ·omega
   ·omega
   ·omega
   ·omega
   ·exact q
  refine((h.below hb).rejected aa h1 r3 hr ad).mono ?_;rintro e w' ⟨rfl,F',q1,q2⟩;exact⟨rfl,F',q1,(Ap.Al F hb).trans q2⟩
 ·have hG:(if l.state≠1\/P.Ae≠c.Ae\/P.seq≠l.seq then G else if P.kind=2 then (if P.part=l.Ao then R.ET (if l.Ao+1<R.Ag l.message then R.AA (R.Am G i k {l with Ao:=l.Ao+1}) i k false else R.Am G i k {l with Ao:=l.Ao+1}) i k else G) else if P.kind=4 then R.ET G i k else if P.kind=5 then R.Dy G i P else if P.kind=7 then R.Am G i k {l with state:=4+P.part} else G)=G:=by
   rcases an with q|q
   ·have hq:=of_decide_eq_false q;rw[if_pos (by omega)]
   ·by_cases hs:l.state≠1\/P.Ae≠c.Ae\/P.seq≠l.seq
    ·rw[if_pos hs]
    ·rw[if_neg hs,if_neg (by omega),if_neg (by omega),if_neg (by omega),if_neg (by omega)]
  rw[hG];exact⟨F,h.below hb,Ap.Al F hb⟩
end Go.Proofs.YtblomippkddgiabGreatDoor
