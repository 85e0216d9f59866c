import Derived.Test.YtblomippkddgiabGreatDoorJ27
import Derived.Conc.LoneSelect
import Derived.KernelRfl
set_option maxRecDepth 100000
set_option maxHeartbeats 1000000
namespace Go.Proofs.YtblomippkddgiabGreatDoor.R
theorem FQ:∀(N:Nat) (l:List Nat),l.Nodup->(∀x∈l,x<N)->l.length<=N
 |0,[],_,_=>afI _
 |0,x :: l,_,h=>absurd (h x (by simp)) (by omega)
 |N+1,l,hn,h=>by
  by_cases hm:N∈l
  ·have h1:=FQ N (l.erase N) (hn.erase N) (fun x hx=>by
    have q:=(hn.mem_erase_iff).1 hx;have:=h x q.2;omega)
   have h2:=List.length_erase_of_mem hm;have h3:=List.length_pos_of_mem hm;omega
  ·have h1:=FQ N l hn (fun x hx=>by
    have:=h x hx;have:x≠N:=fun e=>hm (e ▸ hx)
    omega)
   omega
def code(e:En):Nat:=((e.client.toNat*256+e.Ae.toNat)*3+e.line.toNat)*1000+e.seq.toNat
theorem Inv.PG{M:Bk}{G:Wd}(h:Inv M G){n:Nat}{s:Sv}(hs:G.Ab[n]?=some s):s.log.length<=3000000:=by
 have hl:=h.lg n s hs;have aa:=h.wf.cf;unfold BD at aa;have hb:∀e∈s.log,(0<=e.client/\e.client<=2)/\(1<=e.Ae/\e.Ae<=255)/\(0<=e.line/\e.line<=2)/\1<=e.seq/\e.seq<=999:=fun e he=>by
  obtain⟨d,rb,g1,_⟩:=(hl.each e he).some;obtain⟨i,c,k,l,q1,q2,q3,q4,q5,q6,q7,q8,_⟩:=(h.bk _ d g1).2;have hi:=(afG.1 q2).1;have hk:=(afG.1 q4).1;have hc:=h.wf.cl i c q2;have h1:=h.wf.Gt;have h2:=hc.lines;have h3:=hc.Ae;simp only[Bl]at q1 q3 q5 q6 q7 q8;omega
 have ab:(s.log.map code).Nodup:=by
  rw[List.Nodup,List.pairwise_map];refine hl.ord.imp_of_mem (fun {a b} ha hb' hab e=>?_);have h1:=hb a ha;have h2:=hb b hb';unfold code at e;have h3:=hab (by omega) (by omega) (by omega);omega
 have:=FQ 2400000 _ ab (fun x hx=>by
  obtain⟨e,he,rfl⟩:=agE.1 hx;have:=hb e he;unfold code;omega)
 rw[af0]at this;omega
end Go.Proofs.YtblomippkddgiabGreatDoor.R
namespace Go.Proofs.YtblomippkddgiabGreatDoor
open Go.Conc Go.RowKit
open Go.RowKit
variable {ms:List Mk}{a b:Mk}{i j u:Nat}{M:R.Bk}{d:R.Cd}{e:R.En}{K:R.Key}{s:R.Sv}{G:R.Wd}
def Mk.key(m:Mk):R.Key:=⟨m.client,m.Ae,m.line,m.seq⟩
structure CY(ms:List Mk)(M:R.Bk):Prop where
 some:∀k d,M k=.some d->∃m∈ms,m.key=k/\m.uid=d.uid/\m.proc=d.proc/\m.arg=d.arg
 all:∀m∈ms,∃d,M m.key=.some d
 ord:ms.Pairwise fun a b=>a.client=b.client->a.Ae=b.Ae->a.line=b.line->a.seq<b.seq
theorem CY.none:CY [] (fun _=>.none):=⟨(fun _ _ h=>by cases h),(fun _ h=>by cases h),List.Pairwise.nil⟩
theorem CY.less(h:CY ms M)(ha:ms[i]?=.some a)(hb:ms[j]?=.some b)(aa:i<j)(h1:a.client=b.client)(h2:a.Ae=b.Ae)(h3:a.line=b.line):a.seq<b.seq:=by
 obtain⟨hi,rfl⟩:=afG.1 ha;obtain⟨hj,rfl⟩:=afG.1 hb;exact ag9.1 h.ord i j hi hj aa h1 h2 h3
theorem CY.uniq(h:CY ms M)(ha:ms[i]?=.some a)(hb:ms[j]?=.some b)(hk:a.key=b.key):i=j:=by
 unfold Mk.key at hk;simp only[R.Key.mk.injEq]at hk;obtain⟨k1,k2,k3,k4⟩:=hk;rcases Nat.lt_trichotomy i j with q|q|q
 ·have:=h.less ha hb q k1 k2 k3;omega
 ·exact q
 ·have:=h.less hb ha q k1.symm k2.symm k3.symm;omega
theorem CY.at(h:CY ms M){k:R.Key}(hk:M k=.some d):∃(i:Nat) (m:Mk),ms[i]?=.some m/\m.key=k/\m.uid=d.uid/\m.proc=d.proc/\m.arg=d.arg:=by
 obtain⟨m,hm,h1⟩:=h.some k d hk;obtain⟨i,hi,rfl⟩:=agu hm;exact⟨i,_,afH hi,h1⟩
theorem CY.snoc(h:CY ms M){m:Mk}(hu:m.uid=d.uid)(hp:m.proc=d.proc)(ha:m.arg=d.arg)(hn:M m.key=.none)(hl:∀a∈ms,a.client=m.client->a.Ae=m.Ae->a.line=m.line->a.seq<m.seq):CY (ms++[m]) (R.upd M m.key d):=by
 refine⟨fun k e hk=>?_,fun a hm=>?_,?_⟩
 ·unfold R.upd at hk;split at hk
  ·rename_i aa;cases hk;exact⟨m,by simp,aa.symm,hu,hp,ha⟩
  ·obtain⟨a,h1,h2⟩:=h.some k e hk;exact⟨a,agK _ h1,h2⟩
 ·unfold R.upd;split
  ·exact⟨d,rfl⟩
  ·rcases agb.1 hm with h1|h1
   ·exact h.all a h1
   ·rename_i ac;obtain rfl:a=m:=by simpa using h1
    exact absurd rfl ac
 ·rw[List.pairwise_append];refine⟨h.ord,by simp,fun a ab b hb=>?_⟩;obtain rfl:b=m:=by simpa using hb
  exact hl a ab
def A9(sv:List R.Sv):List R.En:=sv.flatMap (·.log)
theorem N9{sv:List R.Sv}(h:u<sv.length):A9 sv=A9 (sv.take u)++(sv[u].log++A9 (sv.drop (u+1))):=by
 have e:sv=sv.take u++sv[u] :: sv.drop (u+1):=by rw[<-List.drop_eq_getElem_cons h,agX]
 have:=congrArg A9 e;rw[this];simp only[A9,List.flatMap_append,agI]
def Apart(a b:R.En):Prop:=R.Bl a≠R.Bl b
theorem MY(h:R.Inv M G):(A9 G.Ab).Pairwise Apart:=by
 unfold A9;rw[List.pairwise_flatMap];refine⟨fun s hs=>?_,?_⟩
 ·obtain⟨u,hu,rfl⟩:=agu hs;refine(h.lg u _ (afH hu)).ord.imp ?_;intro a b aa e;unfold R.Bl at e;simp only[R.Key.mk.injEq]at e;have:=aa e.1 e.2.1 e.2.2.1;omega
 ·rw[ag9];intro i j hi hj ab x hx y hy e;obtain⟨d,_,h1,h2,_⟩:=((h.lg i _ (afH hi)).each x hx).some;obtain⟨d',_,h3,h4,_⟩:=((h.lg j _ (afH hj)).each y hy).some;rw[e]at h1;obtain rfl:=Option.some.inj (h1.symm.trans h3);omega
def Cq(K:R.Key)(l:List R.En):Nat:=l.countP fun e=>decide (R.Bl e=K)
theorem Qq:∀{l:List R.En},(∀e∈l,R.Bl e≠K)->Cq K l=0:=fun {l} h=>by
 unfold Cq;rw[List.countP_eq_zero];intro e he;simpa using h e he
theorem UM:∀{l:List R.En},l.Pairwise Apart->∀{e:R.En},e∈l->R.Bl e=K->Cq K l=1
 |[],_,_,h,_=>by cases h
 |x :: l,hp,e,he,hk=>by
  rw[List.pairwise_cons]at hp;unfold Cq;rw[List.countP_cons];rcases agR.1 he with rfl|he
  ·have:=Qq (K:=K) (l:=l) (fun y hy q=>hp.1 y hy (hk.trans q.symm));unfold Cq at this;rw[this];simp[hk]
  ·have:=UM hp.2 he hk;unfold Cq at this;rw[this,if_neg (by simpa using fun q=>hp.1 e he (q.trans hk.symm))]
theorem SI(K:R.Key)(a b:List R.En):Cq K (a++b)=Cq K a+Cq K b:=by simp[Cq]
def CH(sv:List R.Sv)(u i:Nat):List R.En:=A9 (sv.take u)++((((sv[u]?).map (·.log)).getD []).take i)
theorem OQ(sv:List R.Sv)(u:Nat):CH sv u 0=A9 (sv.take u):=by simp[CH]
theorem IV{sv:List R.Sv}(hs:sv[u]?=some s)(he:s.log[i]?=some e):CH sv u (i+1)=CH sv u i++[e]:=by
 unfold CH;rw[hs];simp only[af9,af2];obtain⟨hi,rfl⟩:=afG.1 he;rw[agk,<-List.take_append_getElem hi]
theorem OP{sv:List R.Sv}(hs:sv[u]?=some s):CH sv u s.log.length=CH sv (u+1) 0:=by
 rw[OQ];unfold CH A9;obtain⟨hu,rfl⟩:=afG.1 hs;rw[agH,List.flatMap_append,hs];simp
theorem R0(sv:List R.Sv):CH sv sv.length 0=A9 sv:=by rw[OQ,agW]
theorem JU(h:R.Inv M G)(hs:G.Ab[u]?=some s)(he:e∈s.log):∃d,M (R.Bl e)=some d/\d.uid=(u:Int)+1/\e.proc=d.proc/\e.arg=d.arg:=by
 obtain⟨d,_,h1,h2,h3,h4,_⟩:=((h.lg u s hs).each e he).some;exact⟨d,h1,h2,h3,h4⟩
theorem PH{sv:List R.Sv}(h:e∈A9 sv):∃(u:Nat) (s:R.Sv),sv[u]?=some s/\e∈s.log:=by
 unfold A9 at h;obtain⟨s,hs,he⟩:=ag3.1 h;obtain⟨u,hu,rfl⟩:=agu hs;exact⟨u,_,afH hu,he⟩
theorem VL(h:R.Inv M G){k:Nat}{c:R.Cl}{l:R.Ln}(hc:G.Ad[i]?=some c)(hl:c.lines[k]?=some l)(h2:l.state=2):
  Cq ⟨i,c.Ae,k,l.seq⟩ (A9 G.Ab)=1/\∀e∈A9 G.Ab,R.Bl e=⟨i,c.Ae,k,l.seq⟩->e.result=l.result:=by
 obtain⟨d,e,rb,h3,h4,h5⟩:=(h.ln i c k l hc hl).done h2;have hm:e∈A9 G.Ab:=by
  have:=h4.mem;unfold R.Fs at this;cases hs:G.Ab[(d.uid-1).toNat]? with
  |none=>rw[hs]at this;simp at this
  |some s=>
   rw[hs]at this;simp only[af9,af2]at this;exact ag3.2 ⟨s,afU hs,this⟩
 have hp:=MY h;refine⟨UM hp hm h4.key,fun x hx aa=>?_⟩;have:x=e:=by
  obtain⟨a,ha,rfl⟩:=agu hx;obtain⟨b,hb,rfl⟩:=agu hm;rw[ag9]at hp;rcases Nat.lt_trichotomy a b with q|q|q
  ·exact absurd (aa.trans h4.key.symm) (hp a b ha hb q)
  ·subst q;rfl
  ·exact absurd (h4.key.trans aa.symm) (hp b a hb ha q)
 rw[this,h5]
abbrev aeC(w:World)(b:Nat)(v0 v1 v2 v3 v4:Value):World:=((((w.setCell ⟨b,0,none⟩ v0).setCell ⟨b,1,none⟩ v1).setCell ⟨b,2,none⟩ v2).setCell ⟨b,3,none⟩ v3).setCell ⟨b,4,none⟩ v4
theorem Yo{F:Aq}{a w:World}{b:Nat}(hb:F b\/a.heap.size<=b)(h:Af F a w)(v0 v1 v2 v3 v4:Value):Af F a (aeC w b v0 v1 v2 v3 v4):=((((h.setCell (p:=⟨b,0,none⟩) hb v0).setCell (p:=⟨b,1,none⟩) hb v1).setCell (p:=⟨b,2,none⟩) hb v2).setCell (p:=⟨b,3,none⟩) hb v3).setCell (p:=⟨b,4,none⟩) hb v4
theorem MX(w:World)(c cap:Nat)(buf:Array Value)(cl:Bool)(s r:Nat)(tm:Bool):Af (fun k=>k=c) w (w.setChan c cap buf cl s r tm):=
 ⟨rfl,rfl,rfl,by simp[World.setChan],fun k _ hn=>by
  simp only[World.setChan];rw[Array.getElem?_setIfInBounds_ne (fun e=>hn e.symm)]⟩
theorem Rq(w:World)(s jc cap a b:Nat)(buf:Array Value)(c0 c1 c2 c3 c4:Int)(aa:w.cell? ⟨s,19,none⟩=some (.chan (some jc)))(hj:w.heap[jc]?=some (.chan cap buf false a b false))(hr:buf.size<cap):
  Calls Tryz.prog 265 #[.pointer (some ⟨s,0,none⟩),.agg #[.int .i64 c0,.int .i64 c1,.int .i64 c2,.int .i64 c3,.int .i64 c4]] w fun e w'=>e=.returned (.bool true)/\w'.heap[jc]?=some (.chan cap (buf.push (.agg #[.int .i64 c0,.int .i64 c1,.int .i64 c2,.int .i64 c3,.int .i64 c4])) false (a+1) b false)/\Af (fun k=>k=jc) w w':=by
 refine calls_of_loneTo fun cs=>?_
 have e:Frame.enter Tryz.prog 265 #[.pointer (some ⟨s,0,none⟩),.agg #[.int .i64 c0,.int .i64 c1,.int .i64 c2,.int .i64 c3,.int .i64 c4]] .normal=(base 265).at ⟨#[.pointer (some ⟨s,0,none⟩),.agg #[.int .i64 c0,.int .i64 c1,.int .i64 c2,.int .i64 c3,.int .i64 c4],undef,undef,undef,undef,undef,undef,undef,undef,undef,undef,undef,undef],[]⟩ [.code (Tryz.f265.body.getD .skip)]:=by
  simp[Frame.enter,Frame.at,Tryz.func265,base,Tryz.f265]
 rw[e];have hl:s<w.heap.size:=by
  simp only[World.cell?]at aa;cases hs:w.heap[s]? with
  |none=>simp[hs]at aa
  |some o=>exact(afR.1 hs).1
 refine LoneTo.goes (n:=50) ?_;simp only[Tryz.f265,af2]
 s_c stepG_seq
 s_reg
 s_op
 s_op
 s_c stepG_region_end
 s_c stepG_seq
 s_c stepG_seq
 s_reg
 s_op
 s_op
 s_op
 s_op
 s_op
 s_c stepG_region_end
 s_reg
 s_op
 s_c stepG_region_end
 s_c stepG_seq
 s_reg
 s_stop
 obtain⟨WA,ab⟩:∃WA,w.alloc (.cells #[.int .i64 c0,.int .i64 c1,.int .i64 c2,.int .i64 c3,.int .i64 c4] 170)=WA:=⟨_,rfl⟩;rw[ab];have hB:Below w.heap.size w WA:=by rw[<-ab];exact(Below.refl _ _).alloc (afI _) _
 have ac:=(afR.1 hj).1;have ad:WA.heap[jc]?=some (.chan cap buf false a b false):=by rw[hB.block jc ac];exact hj
 refine LoneTo.step (step_lone_select_send_room (c:=jc) (cap:=cap) (buf:=buf) (s:=a) (r:=b) (tm:=false) (stepG_comm (cases:=#[scase jc (.agg #[.int .i64 c0,.int .i64 c1,.int .i64 c2,.int .i64 c3,.int .i64 c4]) (.agg #[.int .i64 0,.int .i64 0,.int .i64 0,.int .i64 0,.int .i64 0])]) (blocking:=false) (shape:=.select) (w':=WA) rfl rfl (by decide) (by simp[go_sem,execOp,scase,Act.eval])) ad hr) ?_;rw[Frame.finish_at]
 walk_nrm
 refine LoneTo.goes (n:=20) ?_
 s_op
 s_op
 s_c stepG_region_end
 s_c stepG_block
 s_cond true
 s_c stepG_seq
 s_reg
 s_op
 s_c stepG_region_end
 s_c stepG_ret'
 s_stop
 refine LoneTo.done ⟨.returned (.bool true),_,rfl,⟨rfl,heap_setChan WA jc cap _ false (a+1) b false (afT ac hB.size),?_⟩,rfl,rfl,rfl,rfl,_,Tryz.func265,by simp[results,Tryz.f265,Frame.at]⟩;exact(Af.Al hB _).trans (MX WA jc cap _ false (a+1) b false)
theorem Rp(w:World)(s jc cap a b:Nat)(buf:Array Value)(c0 c1 c2 c3 c4:Int)(aa:w.cell? ⟨s,19,none⟩=some (.chan (some jc)))(hj:w.heap[jc]?=some (.chan cap buf false a b false))(hr:cap<=buf.size):
  Calls Tryz.prog 265 #[.pointer (some ⟨s,0,none⟩),.agg #[.int .i64 c0,.int .i64 c1,.int .i64 c2,.int .i64 c3,.int .i64 c4]] w fun e w'=>e=.returned (.bool false)/\Below w.heap.size w w':=by
 refine calls_of_loneTo fun cs=>?_
 have e:Frame.enter Tryz.prog 265 #[.pointer (some ⟨s,0,none⟩),.agg #[.int .i64 c0,.int .i64 c1,.int .i64 c2,.int .i64 c3,.int .i64 c4]] .normal=(base 265).at ⟨#[.pointer (some ⟨s,0,none⟩),.agg #[.int .i64 c0,.int .i64 c1,.int .i64 c2,.int .i64 c3,.int .i64 c4],undef,undef,undef,undef,undef,undef,undef,undef,undef,undef,undef,undef],[]⟩ [.code (Tryz.f265.body.getD .skip)]:=by
  simp[Frame.enter,Frame.at,Tryz.func265,base,Tryz.f265]
 rw[e];have hl:s<w.heap.size:=by
  simp only[World.cell?]at aa;cases hs:w.heap[s]? with
  |none=>simp[hs]at aa
  |some o=>exact(afR.1 hs).1
 refine LoneTo.goes (n:=50) ?_;simp only[Tryz.f265,af2]
 s_c stepG_seq
 s_reg
 s_op
 s_op
 s_c stepG_region_end
 s_c stepG_seq
 s_c stepG_seq
 s_reg
 s_op
 s_op
 s_op
 s_op
 s_op
 s_c stepG_region_end
 s_reg
 s_op
 s_c stepG_region_end
 s_c stepG_seq
 s_reg
 s_stop
 obtain⟨WA,ab⟩:∃WA,w.alloc (.cells #[.int .i64 c0,.int .i64 c1,.int .i64 c2,.int .i64 c3,.int .i64 c4] 170)=WA:=⟨_,rfl⟩;rw[ab];have hB:Below w.heap.size w WA:=by rw[<-ab];exact(Below.refl _ _).alloc (afI _) _
 have ad:=(afR.1 hj).1;have ac:WA.heap[jc]?=some (.chan cap buf false a b false):=by rw[hB.block jc ad];exact hj
 refine LoneTo.step (step_lone_select_send_full (c:=jc) (cap:=cap) (buf:=buf) (s:=a) (r:=b) (tm:=false) (stepG_comm (cases:=#[scase jc (.agg #[.int .i64 c0,.int .i64 c1,.int .i64 c2,.int .i64 c3,.int .i64 c4]) (.agg #[.int .i64 0,.int .i64 0,.int .i64 0,.int .i64 0,.int .i64 0])]) (blocking:=false) (shape:=.select) (w':=WA) rfl rfl (by decide) (by simp[go_sem,execOp,scase,Act.eval])) ac hr) ?_;rw[Frame.finish_at]
 walk_nrm
 refine LoneTo.goes (n:=20) ?_
 s_op
 s_op
 s_c stepG_region_end
 s_c stepG_block
 s_cond false
 s_c stepG_seq
 s_reg
 s_op
 s_c stepG_region_end
 s_c stepG_ret'
 s_stop
 exact LoneTo.done ⟨.returned (.bool false),_,rfl,⟨rfl,hB⟩,rfl,rfl,rfl,rfl,_,Tryz.func265,by simp[results,Tryz.f265,Frame.at]⟩
theorem P6(w:World)(s jc cap a b:Nat)(buf:Array Value)(c0 c1 c2 c3 c4:Int)(af:w.cell? ⟨s,19,none⟩=some (.chan (some jc)))(hj:w.heap[jc]?=some (.chan cap buf false a b false))(hr:0<buf.size)(h0:buf.getD 0 undef=.agg #[.int .i64 c0,.int .i64 c1,.int .i64 c2,.int .i64 c3,.int .i64 c4]):
  Calls Tryz.prog 95 #[.pointer (some ⟨s,0,none⟩)] w fun e w'=>e=.returned (.tuple #[.agg #[.int .i64 c0,.int .i64 c1,.int .i64 c2,.int .i64 c3,.int .i64 c4],.bool true])/\w'.heap[jc]?=some (.chan cap (buf.extract 1 buf.size) false a (b+1) false)/\Af (fun k=>k=jc) w w':=by
 refine calls_of_loneTo fun cs=>?_
 have e:Frame.enter Tryz.prog 95 #[.pointer (some ⟨s,0,none⟩)] .normal=(base 95).at ⟨#[.pointer (some ⟨s,0,none⟩),undef,undef,undef,undef,undef,undef,undef,undef,undef,undef,undef,undef,undef,undef,undef],[]⟩ [.code (Tryz.f95.body.getD .skip)]:=by
  simp[Frame.enter,Frame.at,Tryz.func95,base,Tryz.f95]
 rw[e];have hl:s<w.heap.size:=by
  simp only[World.cell?]at af;cases hs:w.heap[s]? with
  |none=>simp[hs]at af
  |some o=>exact(afR.1 hs).1
 refine LoneTo.goes (n:=50) ?_;simp only[Tryz.f95,af2]
 s_c stepG_seq
 s_reg
 s_op
 s_op
 s_c stepG_region_end
 s_c stepG_seq
 s_reg
 s_op
 s_op
 s_op
 s_op
 s_op
 s_c stepG_region_end
 s_c stepG_seq
 s_reg
 s_stop
 obtain⟨WA,ab⟩:∃WA,w.alloc (.cells #[.int .i64 0,.int .i64 0,.int .i64 0,.int .i64 0,.int .i64 0] 170)=WA:=⟨_,rfl⟩;rw[ab];have hB:Below w.heap.size w WA:=by rw[<-ab];exact(Below.refl _ _).alloc (afI _) _
 have ad:=(afR.1 hj).1;have ag:WA.heap[jc]?=some (.chan cap buf false a b false):=by rw[hB.block jc ad];exact hj
 have hz:WA.heap[w.heap.size]?=some (.cells #[.int .i64 0,.int .i64 0,.int .i64 0,.int .i64 0,.int .i64 0] 170 (0,0)):=by rw[<-ab];exact heap_alloc_new w _
 have ak:=(afR.1 hz).1;refine LoneTo.step (step_lone_select_recv_buf (c:=jc) (cap:=cap) (buf:=buf) (closed:=false) (s:=a) (r:=b) (tm:=false) (stepG_comm (cases:=#[rcase jc (.agg #[.int .i64 0,.int .i64 0,.int .i64 0,.int .i64 0,.int .i64 0])]) (blocking:=false) (shape:=.select) (w':=WA) rfl rfl (by decide) (by simp[go_sem,execOp,rcase,Act.eval])) ag hr) ?_;rw[Frame.finish_at,h0]
 walk_nrm
 obtain⟨WB,ac⟩:∃WB,WA.setChan jc cap (buf.extract 1 buf.size) false a (b+1) false=WB:=⟨_,rfl⟩;rw[ac];have ae:Af (fun k=>k=jc) WA WB:=by rw[<-ac];exact MX _ _ _ _ _ _ _ _
 have ah:WB.heap[jc]?=some (.chan cap (buf.extract 1 buf.size) false a (b+1) false):=by rw[<-ac];exact heap_setChan WA jc cap _ false a (b+1) false (afT ad hB.size)
 have aa:WB.heap[w.heap.size]?=some (.cells #[.int .i64 0,.int .i64 0,.int .i64 0,.int .i64 0,.int .i64 0] 170 (0,0)):=by
  rw[ae.block _ ak (by omega)];exact hz
 have d0:WB.cell? ⟨w.heap.size,0,none⟩=some (.int .i64 0):=cell_of aa 0 _ rfl;have d1:WB.cell? ⟨w.heap.size,1,none⟩=some (.int .i64 0):=cell_of aa 1 _ rfl;have d2:WB.cell? ⟨w.heap.size,2,none⟩=some (.int .i64 0):=cell_of aa 2 _ rfl;have d3:WB.cell? ⟨w.heap.size,3,none⟩=some (.int .i64 0):=cell_of aa 3 _ rfl;have d4:WB.cell? ⟨w.heap.size,4,none⟩=some (.int .i64 0):=cell_of aa 4 _ rfl;have z:∀j,WB.frozen? ⟨w.heap.size,j,none⟩=false:=fun j=>open_list aa
 have ai:w.heap.size<WB.heap.size:=(afR.1 aa).1;have al:w.heap.size≠WB.heap.size:=by omega
 have aj:WB.heap.size≠w.heap.size:=by omega
 refine LoneTo.goes (n:=30) ?_
 s_op
 s_op
 s_c stepG_region_end
 s_c stepG_block
 s_cond true
 s_c stepG_seq
 s_reg
 s_op
 s_op
 s_op
 s_c stepG_region_end
 s_c stepG_seq
 s_reg
 s_op
 s_op
 s_op
 s_c stepG_region_end
 s_c stepG_ret'
 s_stop
 have HK:=(Yo (F:=fun k=>k=w.heap.size) (b:=w.heap.size) (afJ rfl) (Af.refl (fun k=>k=w.heap.size) WB) (.int .i64 c0) (.int .i64 c1) (.int .i64 c2) (.int .i64 c3) (.int .i64 c4)).alloc (.cells #[.int .i64 c0,.int .i64 c1,.int .i64 c2,.int .i64 c3,.int .i64 c4] 170);refine LoneTo.done ⟨.returned (.tuple #[.agg #[.int .i64 c0,.int .i64 c1,.int .i64 c2,.int .i64 c3,.int .i64 c4],.bool true]),_,rfl,⟨rfl,?_,?_⟩,rfl,rfl,rfl,rfl,_,Tryz.func95,?_⟩
 ·exact(HK.block jc (afT (afT ad hB.size) ae.size) (by omega)).trans ah
 ·exact((Af.Al hB _).trans ae).andThen HK (fun i hi e=>by omega)
 ·simp[results,Tryz.f95,Frame.at,go_sem,ai,d0,d1,d2,d3,d4]
theorem P5(w:World)(s jc cap a b:Nat)(ab:w.cell? ⟨s,19,none⟩=some (.chan (some jc)))(hj:w.heap[jc]?=some (.chan cap #[] false a b false)):
  Calls Tryz.prog 95 #[.pointer (some ⟨s,0,none⟩)] w fun e w'=>e=.returned (.tuple #[.agg #[.int .i64 0,.int .i64 0,.int .i64 0,.int .i64 0,.int .i64 0],.bool false])/\Below w.heap.size w w':=by
 refine calls_of_loneTo fun cs=>?_
 have e:Frame.enter Tryz.prog 95 #[.pointer (some ⟨s,0,none⟩)] .normal=(base 95).at ⟨#[.pointer (some ⟨s,0,none⟩),undef,undef,undef,undef,undef,undef,undef,undef,undef,undef,undef,undef,undef,undef,undef],[]⟩ [.code (Tryz.f95.body.getD .skip)]:=by
  simp[Frame.enter,Frame.at,Tryz.func95,base,Tryz.f95]
 rw[e];have hl:s<w.heap.size:=by
  simp only[World.cell?]at ab;cases hs:w.heap[s]? with
  |none=>simp[hs]at ab
  |some o=>exact(afR.1 hs).1
 refine LoneTo.goes (n:=50) ?_;simp only[Tryz.f95,af2]
 s_c stepG_seq
 s_reg
 s_op
 s_op
 s_c stepG_region_end
 s_c stepG_seq
 s_reg
 s_op
 s_op
 s_op
 s_op
 s_op
 s_c stepG_region_end
 s_c stepG_seq
 s_reg
 s_stop
 obtain⟨WA,aa⟩:∃WA,w.alloc (.cells #[.int .i64 0,.int .i64 0,.int .i64 0,.int .i64 0,.int .i64 0] 170)=WA:=⟨_,rfl⟩;rw[aa];have hB:Below w.heap.size w WA:=by rw[<-aa];exact(Below.refl _ _).alloc (afI _) _
 have ad:=(afR.1 hj).1;have ac:WA.heap[jc]?=some (.chan cap #[] false a b false):=by rw[hB.block jc ad];exact hj
 have hz:WA.heap[w.heap.size]?=some (.cells #[.int .i64 0,.int .i64 0,.int .i64 0,.int .i64 0,.int .i64 0] 170 (0,0)):=by rw[<-aa];exact heap_alloc_new w _
 have ae:=(afR.1 hz).1;refine LoneTo.step (step_lone_select_default (c:=jc) (cap:=cap) (s:=a) (r:=b) (tm:=false) (stepG_comm (cases:=#[rcase jc (.agg #[.int .i64 0,.int .i64 0,.int .i64 0,.int .i64 0,.int .i64 0])]) (blocking:=false) (shape:=.select) (w':=WA) rfl rfl (by decide) (by simp[go_sem,execOp,rcase,Act.eval])) ac) ?_;rw[Frame.finish_at]
 walk_nrm
 have d0:WA.cell? ⟨w.heap.size,0,none⟩=some (.int .i64 0):=cell_of hz 0 _ rfl;have d1:WA.cell? ⟨w.heap.size,1,none⟩=some (.int .i64 0):=cell_of hz 1 _ rfl;have d2:WA.cell? ⟨w.heap.size,2,none⟩=some (.int .i64 0):=cell_of hz 2 _ rfl;have d3:WA.cell? ⟨w.heap.size,3,none⟩=some (.int .i64 0):=cell_of hz 3 _ rfl;have d4:WA.cell? ⟨w.heap.size,4,none⟩=some (.int .i64 0):=cell_of hz 4 _ rfl;have z:∀j,WA.frozen? ⟨w.heap.size,j,none⟩=false:=fun j=>open_list hz
 refine LoneTo.goes (n:=30) ?_
 s_op
 s_op
 s_c stepG_region_end
 s_c stepG_block
 s_cond false
 s_c stepG_seq
 s_reg
 s_op
 s_op
 s_op
 s_c stepG_region_end
 s_c stepG_ret'
 s_stop
 refine LoneTo.done ⟨.returned (.tuple #[.agg #[.int .i64 0,.int .i64 0,.int .i64 0,.int .i64 0,.int .i64 0],.bool false]),_,rfl,⟨rfl,?_⟩,rfl,rfl,rfl,rfl,_,Tryz.func95,?_⟩
 ·exact((Af.Al hB (fun k=>k=w.heap.size)).trans (Yo (F:=fun k=>k=w.heap.size) (b:=w.heap.size) (afJ rfl) (Af.refl (fun k=>k=w.heap.size) WA) (.int .i64 0) (.int .i64 0) (.int .i64 0) (.int .i64 0) (.int .i64 0))).below (afI _) (fun k e=>by omega)
 ·simp[results,Tryz.f95,Frame.at,go_sem,d0,d1,d2,d3,d4]
abbrev cv(P:Pk):Value:=.agg #[.int .i64 P.client,.int .i64 P.Ae,.int .i64 P.line,.int .i64 P.seq,.int .i64 P.uid]
theorem GN(P:Pk)(w:World):Calls Tryz.prog 250 #[pv P] w fun e w'=>e=.returned (cv P)/\Below w.heap.size w w':=by
 go_enter Tryz.func250,Tryz.ntmps250;go_wp2;go_returns;exact⟨rfl,((Below.refl _ _).alloc (afI _) _).alloc (by simp) _⟩
theorem Rs(w:World)(s:Nat)(P:Pk)(ac:Int)(aa:World->Prop)
  (HS:Hid (∀wa,Below w.heap.size w wa->Calls Tryz.prog 220 #[.pointer (some ⟨s,0,none⟩),cv P,NL 7 0 0 0 0 0 ac 2 false ⟨#[]⟩] wa fun e w'=>e=.returned (.tuple #[])/\aa w')):
  Calls Tryz.prog 249 #[.pointer (some ⟨s,0,none⟩),pv P,.int .i64 ac] w fun e w'=>e=.returned (.tuple #[])/\aa w':=by
 have HC:=Ac (fun w=>GN P w);have HB:Hid (∀o,Below w.heap.size w (w.alloc o)):=fun o=>(Below.refl _ _).alloc (afI _) _
 go_enter Tryz.func249,Tryz.ntmps249;go_wp2_with (first|(go_at_call 250;refine((Aa HC) _).mono ?_;rintro e w1 ⟨rfl,ab⟩;have ad:=Ac (((Aa HB) _).trans (ab.mono (by simp)));clear ab)|(go_at_call 220;refine((Aa HS) _ (Aa ad)).mono ?_;rintro e w3 ⟨rfl,ae⟩))
 go_returns;exact⟨rfl,ae⟩
abbrev pt(b:Nat):Value:=.pointer (some ⟨b,0,none⟩)
theorem TE(w:World)(s b:Nat)(st:Int)(P:Pk)(aa:World->Prop)(h5:w.cell? ⟨b,5,none⟩=some (.int .i64 st))(ac:0<=st/\st<=3)
  (H3:Hid (st=3->∀wa,Below w.heap.size w wa->Calls Tryz.prog 249 #[pt s,pv P,.int .i64 0] wa fun e w'=>e=.returned (.tuple #[])/\aa w'))
  (H2:Hid (st=2->P.please=true->∀wa,Below w.heap.size w wa->Calls Tryz.prog 166 #[pt s,pt b] wa fun e w'=>e=.returned (.tuple #[])/\aa w'))
  (H1:Hid (st=1->P.please=true->∀wa,Below w.heap.size w wa->Calls Tryz.prog 252 #[pt s,pv P] wa fun e w'=>e=.returned (.tuple #[])/\aa w'))
  (H0:Hid (st=0->P.kind=1->∀wa,Below w.heap.size w wa->Calls Tryz.prog 251 #[pt s,pt b,pv P] wa fun e w'=>e=.returned (.tuple #[])/\aa w'))
  (HN:Hid (((st=1\/st=2)/\P.please=false)\/(st=0/\¬P.kind=1)->∀wa,Below w.heap.size w wa->aa wa)):
  Calls Tryz.prog 216 #[pt s,pt b,pv P] w fun e w'=>e=.returned (.tuple #[])/\aa w':=by
 have HB:Hid (∀o,Below w.heap.size w (w.alloc o)):=fun o=>(Below.refl _ _).alloc (afI _) _
 have hl:=lt_of_cell h5;obtain⟨kd,cl,li,ln,ad,u,pa,o,pl,body⟩:=P;dsimp only at *;generalize str body=SB at *;have hc:st=0\/st=1\/st=2\/st=3:=by omega
 clear ac;rcases hc with rfl|rfl|rfl|rfl
 ·by_cases hk:kd=1
  ·have e1:(kd==1)=true:=by simpa using hk
   have HQ:=Ac ((Aa H0) rfl hk);clear hk;go_enter Tryz.func216,Tryz.ntmps216;go_wp2_with (first|(go_at_call 251;refine((Aa HQ) _ (by first|exact(Aa HB) _|exact below_drewN ((Aa HB) _) _|exact((Aa HB) _).drew|exact((Aa HB) _).drew.drew|exact below_drewN (below_drewN ((Aa HB) _) _) _)).mono ?_;rintro e w3 ⟨rfl,ab⟩))
   go_returns;exact⟨rfl,ab⟩
  ·have e1:(kd==1)=false:=by simpa using hk
   have HQ:=Ac ((Aa HN) (afM ⟨rfl,hk⟩));clear hk;go_enter Tryz.func216,Tryz.ntmps216;go_wp2;go_returns;exact⟨rfl,(Aa HQ) _ (by first|exact(Aa HB) _|exact below_drewN ((Aa HB) _) _|exact((Aa HB) _).drew|exact((Aa HB) _).drew.drew|exact below_drewN (below_drewN ((Aa HB) _) _) _)⟩
 ·cases pl with
  |true=>
   have HQ:=Ac ((Aa H1) rfl rfl);go_enter Tryz.func216,Tryz.ntmps216;go_wp2_with (first|(go_at_call 252;refine((Aa HQ) _ (by first|exact(Aa HB) _|exact below_drewN ((Aa HB) _) _|exact((Aa HB) _).drew|exact((Aa HB) _).drew.drew|exact below_drewN (below_drewN ((Aa HB) _) _) _)).mono ?_;rintro e w3 ⟨rfl,ab⟩))
   go_returns;exact⟨rfl,ab⟩
  |false=>
   have HQ:=Ac ((Aa HN) (afJ ⟨afJ rfl,rfl⟩));go_enter Tryz.func216,Tryz.ntmps216;go_wp2;go_returns;exact⟨rfl,(Aa HQ) _ (by first|exact(Aa HB) _|exact below_drewN ((Aa HB) _) _|exact((Aa HB) _).drew|exact((Aa HB) _).drew.drew|exact below_drewN (below_drewN ((Aa HB) _) _) _)⟩
 ·cases pl with
  |true=>
   have HQ:=Ac ((Aa H2) rfl rfl);go_enter Tryz.func216,Tryz.ntmps216;go_wp2_with (first|(go_at_call 166;refine((Aa HQ) _ (by first|exact(Aa HB) _|exact below_drewN ((Aa HB) _) _|exact((Aa HB) _).drew|exact((Aa HB) _).drew.drew|exact below_drewN (below_drewN ((Aa HB) _) _) _)).mono ?_;rintro e w3 ⟨rfl,ab⟩))
   go_returns;exact⟨rfl,ab⟩
  |false=>
   have HQ:=Ac ((Aa HN) (afJ ⟨afM rfl,rfl⟩));go_enter Tryz.func216,Tryz.ntmps216;go_wp2;go_returns;exact⟨rfl,(Aa HQ) _ (by first|exact(Aa HB) _|exact below_drewN ((Aa HB) _) _|exact((Aa HB) _).drew|exact((Aa HB) _).drew.drew|exact below_drewN (below_drewN ((Aa HB) _) _) _)⟩
 ·have HQ:=Ac ((Aa H3) rfl);go_enter Tryz.func216,Tryz.ntmps216;go_wp2_with (first|(go_at_call 249;refine((Aa HQ) _ (by first|exact(Aa HB) _|exact below_drewN ((Aa HB) _) _|exact((Aa HB) _).drew|exact((Aa HB) _).drew.drew|exact below_drewN (below_drewN ((Aa HB) _) _) _)).mono ?_;rintro e w3 ⟨rfl,ab⟩))
  go_returns;exact⟨rfl,ab⟩
theorem Sk(w:World)(s:Nat)(P:Pk)(aa:World->Prop)
  (HQ:Hid (∀wa,Below w.heap.size w wa->Calls Tryz.prog 215 #[pt s,.pointer none,pv P] wa fun e w'=>e=.returned (.tuple #[])/\aa w')):
  Calls Tryz.prog 157 #[pt s,.pointer none,pv P] w fun e w'=>e=.returned (.tuple #[])/\aa w':=by
 have HB:Hid (∀o,Below w.heap.size w (w.alloc o)):=fun o=>(Below.refl _ _).alloc (afI _) _
 go_enter Tryz.func157,Tryz.ntmps157;go_wp2_with fail
 go_quiet (fail);go_wp2_with (first|(go_at_call 215;refine((Aa HQ) _ (by first|exact(Aa HB) _|exact below_drewN ((Aa HB) _) _|exact((Aa HB) _).drew|exact((Aa HB) _).drew.drew|exact below_drewN (below_drewN ((Aa HB) _) _) _)).mono ?_;rintro e w3 ⟨rfl,ab⟩))
 go_returns;exact⟨rfl,ab⟩
theorem Qk(w:World)(s b:Nat)(sq:Int)(P:Pk)(aa:World->Prop)(h3:w.cell? ⟨b,3,none⟩=some (.int .i64 sq))
  (HL:Hid (sq<P.seq->∀wa,Below w.heap.size w wa->Calls Tryz.prog 215 #[pt s,pt b,pv P] wa fun e w'=>e=.returned (.tuple #[])/\aa w'))
  (HE:Hid (sq=P.seq->∀wa,Below w.heap.size w wa->Calls Tryz.prog 216 #[pt s,pt b,pv P] wa fun e w'=>e=.returned (.tuple #[])/\aa w'))
  (HN:Hid (P.seq<sq->∀wa,Below w.heap.size w wa->aa wa)):
  Calls Tryz.prog 157 #[pt s,pt b,pv P] w fun e w'=>e=.returned (.tuple #[])/\aa w':=by
 have HB:Hid (∀o,Below w.heap.size w (w.alloc o)):=fun o=>(Below.refl _ _).alloc (afI _) _
 have hl:=lt_of_cell h3;rcases Int.lt_trichotomy sq P.seq with hc|hc|hc
 ·have HQ:=Ac ((Aa HL) hc);have e1:decide (sq<P.seq)=true:=by simpa using hc
  go_enter Tryz.func157,Tryz.ntmps157;go_wp2_with fail
  go_quiet (fail);go_wp2_with (first|(go_at_call 215;refine((Aa HQ) _ (by first|exact(Aa HB) _|exact below_drewN ((Aa HB) _) _|exact((Aa HB) _).drew|exact((Aa HB) _).drew.drew|exact below_drewN (below_drewN ((Aa HB) _) _) _)).mono ?_;rintro e w3 ⟨rfl,ab⟩))
  go_returns;exact⟨rfl,ab⟩
 ·have HQ:=Ac ((Aa HE) hc);have e1:decide (sq<P.seq)=false:=by simp;omega
  have e2:(sq==P.seq)=true:=by simpa using hc
  clear hc;go_enter Tryz.func157,Tryz.ntmps157;go_wp2_with fail
  go_quiet (fail);go_wp2_with fail
  go_quiet (fail);go_wp2_with (first|(go_at_call 216;refine((Aa HQ) _ (by first|exact(Aa HB) _|exact below_drewN ((Aa HB) _) _|exact((Aa HB) _).drew|exact((Aa HB) _).drew.drew|exact below_drewN (below_drewN ((Aa HB) _) _) _)).mono ?_;rintro e w3 ⟨rfl,ab⟩))
  go_returns;exact⟨rfl,ab⟩
 ·have HQ:=Ac ((Aa HN) hc);have e1:decide (sq<P.seq)=false:=by simp;omega
  have e2:(sq==P.seq)=false:=by simp;omega
  clear hc;go_enter Tryz.func157,Tryz.ntmps157;go_wp2_with fail
  go_quiet (fail);go_wp2_with fail
  go_quiet (fail);go_wp2;go_returns;exact⟨rfl,(Aa HQ) _ (by first|exact(Aa HB) _|exact below_drewN ((Aa HB) _) _|exact((Aa HB) _).drew|exact((Aa HB) _).drew.drew|exact below_drewN (below_drewN ((Aa HB) _) _) _)⟩
end Go.Proofs.YtblomippkddgiabGreatDoor
