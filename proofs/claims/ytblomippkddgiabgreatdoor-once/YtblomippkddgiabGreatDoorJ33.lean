import Derived.Test.YtblomippkddgiabGreatDoorJ28
import Derived.Conc.LoneSelect
import Derived.KernelRfl
set_option maxRecDepth 100000
namespace Go.Proofs.YtblomippkddgiabGreatDoor.R
theorem FQ:∀(N:Nat) (l:List Nat),l.Nodup->(∀x∈l,x<N)->l.length<=N
 |0,[],_,_=>Nat.le_refl _
 |0,x :: l,_,h=>absurd (h x (by simp)) (by omega)
 |N+1,l,hn,h=>by
  by_cases hm:N∈l
  ·have h1:=FQ N (l.erase N) (hn.erase N) (fun x hx=>by
    have q:=(hn.mem_erase_iff).1 hx;have:=h x q.2;omega)
   have h2:=List.length_erase_of_mem hm;have h3:=List.length_pos_of_mem hm;omega
  ·have h1:=FQ N l hn (fun x hx=>by
    have:=h x hx;have:x≠N:=fun e=>hm (e ▸ hx)
    omega)
   omega
def code(e:En):Nat:=((e.client.toNat*256+e.Ae.toNat)*3+e.line.toNat)*1000+e.seq.toNat
theorem Inv.PG{M:Bk}{G:Wd}(h:Inv M G){n:Nat}{s:Sv}(hs:G.Ab[n]?=some s):s.log.length<=3000000:=by
 have hl:=h.lg n s hs;have aa:=h.wf.cf;unfold BD at aa;have hb:∀e∈s.log,(0<=e.client/\e.client<=2)/\(1<=e.Ae/\e.Ae<=255)/\(0<=e.line/\e.line<=2)/\1<=e.seq/\e.seq<=999:=fun e he=>by
  obtain⟨d,rb,g1,_⟩:=(hl.each e he).some;obtain⟨i,c,k,l,q1,q2,q3,q4,q5,q6,q7,q8,_⟩:=(h.bk _ d g1).2;have hi:=(List.getElem?_eq_some_iff.1 q2).1;have hk:=(List.getElem?_eq_some_iff.1 q4).1;have hc:=h.wf.cl i c q2;have h1:=h.wf.Gt;have h2:=hc.lines;have h3:=hc.Ae;simp only[Bl]at q1 q3 q5 q6 q7 q8;omega
 have ab:(s.log.map code).Nodup:=by
  rw[List.Nodup,List.pairwise_map];refine hl.ord.imp_of_mem (fun {a b} ha hb' hab e=>?_);have h1:=hb a ha;have h2:=hb b hb';unfold code at e;have h3:=hab (by omega) (by omega) (by omega);omega
 have:=FQ 2400000 _ ab (fun x hx=>by
  obtain⟨e,he,rfl⟩:=List.mem_map.1 hx;have:=hb e he;unfold code;omega)
 rw[List.length_map]at this;omega
end Go.Proofs.YtblomippkddgiabGreatDoor.R
namespace Go.Proofs.YtblomippkddgiabGreatDoor
open Go.Conc Go.RowKit
variable {ms:List Mk}{a b m:Mk}{i j k u:Nat}{M:R.Bk}{d:R.Cd}{e:R.En}{K:R.Key}{s:R.Sv}{G:R.Wd}
def Mk.key(m:Mk):R.Key:=⟨m.client,m.Ae,m.line,m.seq⟩
structure CY(ms:List Mk)(M:R.Bk):Prop where
 some:∀k d,M k=.some d->∃m∈ms,m.key=k/\m.uid=d.uid/\m.proc=d.proc/\m.arg=d.arg
 all:∀m∈ms,∃d,M m.key=.some d
 ord:ms.Pairwise fun a b=>a.client=b.client->a.Ae=b.Ae->a.line=b.line->a.seq<b.seq
theorem CY.none:CY [] (fun _=>.none):=⟨(fun _ _ h=>by cases h),(fun _ h=>by cases h),List.Pairwise.nil⟩
theorem CY.less(h:CY ms M)(ha:ms[i]?=.some a)(hb:ms[j]?=.some b)(aa:i<j)(h1:a.client=b.client)(h2:a.Ae=b.Ae)(h3:a.line=b.line):a.seq<b.seq:=by
 obtain⟨hi,rfl⟩:=List.getElem?_eq_some_iff.1 ha;obtain⟨hj,rfl⟩:=List.getElem?_eq_some_iff.1 hb;exact List.pairwise_iff_getElem.1 h.ord i j hi hj aa h1 h2 h3
theorem CY.uniq(h:CY ms M)(ha:ms[i]?=.some a)(hb:ms[j]?=.some b)(hk:a.key=b.key):i=j:=by
 unfold Mk.key at hk;simp only[R.Key.mk.injEq]at hk;obtain⟨k1,k2,k3,k4⟩:=hk;rcases Nat.lt_trichotomy i j with q|q|q
 ·have:=h.less ha hb q k1 k2 k3;omega
 ·exact q
 ·have:=h.less hb ha q k1.symm k2.symm k3.symm;omega
theorem CY.at(h:CY ms M){k:R.Key}(hk:M k=.some d):∃(i:Nat) (m:Mk),ms[i]?=.some m/\m.key=k/\m.uid=d.uid/\m.proc=d.proc/\m.arg=d.arg:=by
 obtain⟨m,hm,h1⟩:=h.some k d hk;obtain⟨i,hi,rfl⟩:=List.getElem_of_mem hm;exact⟨i,_,List.getElem?_eq_getElem hi,h1⟩
theorem CY.snoc(h:CY ms M)(hu:m.uid=d.uid)(hp:m.proc=d.proc)(ha:m.arg=d.arg)(hn:M m.key=.none)(hl:∀a∈ms,a.client=m.client->a.Ae=m.Ae->a.line=m.line->a.seq<m.seq):CY (ms++[m]) (R.upd M m.key d):=by
 refine⟨fun k e hk=>?_,fun a hm=>?_,?_⟩
 ·unfold R.upd at hk;split at hk
  ·rename_i aa;cases hk;exact⟨m,by simp,aa.symm,hu,hp,ha⟩
  ·obtain⟨a,h1,h2⟩:=h.some k e hk;exact⟨a,List.mem_append_left _ h1,h2⟩
 ·unfold R.upd;split
  ·exact⟨d,rfl⟩
  ·rcases List.mem_append.1 hm with h1|h1
   ·exact h.all a h1
   ·rename_i ac;obtain rfl:a=m:=by simpa using h1
    exact absurd rfl ac
 ·rw[List.pairwise_append];refine⟨h.ord,by simp,fun a ab b hb=>?_⟩;obtain rfl:b=m:=by simpa using hb
  exact hl a ab
def A9(sv:List R.Sv):List R.En:=sv.flatMap (·.log)
theorem N9{sv:List R.Sv}(h:u<sv.length):A9 sv=A9 (sv.take u)++(sv[u].log++A9 (sv.drop (u+1))):=by
 have e:sv=sv.take u++sv[u] :: sv.drop (u+1):=by rw[<-List.drop_eq_getElem_cons h,List.take_append_drop]
 have:=congrArg A9 e;rw[this];simp only[A9,List.flatMap_append,List.flatMap_cons]
def Apart(a b:R.En):Prop:=R.Bl a≠R.Bl b
theorem MY(h:R.Inv M G):(A9 G.Ab).Pairwise Apart:=by
 unfold A9;rw[List.pairwise_flatMap];refine⟨fun s hs=>?_,?_⟩
 ·obtain⟨u,hu,rfl⟩:=List.getElem_of_mem hs;refine(h.lg u _ (List.getElem?_eq_getElem hu)).ord.imp ?_;intro a b aa e;unfold R.Bl at e;simp only[R.Key.mk.injEq]at e;have:=aa e.1 e.2.1 e.2.2.1;omega
 ·rw[List.pairwise_iff_getElem];intro i j hi hj ab x hx y hy e;obtain⟨d,_,h1,h2,_⟩:=((h.lg i _ (List.getElem?_eq_getElem hi)).each x hx).some;obtain⟨d',_,h3,h4,_⟩:=((h.lg j _ (List.getElem?_eq_getElem hj)).each y hy).some;rw[e]at h1;obtain rfl:=Option.some.inj (h1.symm.trans h3);omega
def Cq(K:R.Key)(l:List R.En):Nat:=l.countP fun e=>decide (R.Bl e=K)
theorem Qq:∀{l:List R.En},(∀e∈l,R.Bl e≠K)->Cq K l=0:=fun {l} h=>by
 unfold Cq;rw[List.countP_eq_zero];intro e he;simpa using h e he
theorem UM:∀{l:List R.En},l.Pairwise Apart->∀{e:R.En},e∈l->R.Bl e=K->Cq K l=1
 |[],_,_,h,_=>by cases h
 |x :: l,hp,e,he,hk=>by
  rw[List.pairwise_cons]at hp;unfold Cq;rw[List.countP_cons];rcases List.mem_cons.1 he with rfl|he
  ·have:=Qq (K:=K) (l:=l) (fun y hy q=>hp.1 y hy (hk.trans q.symm));unfold Cq at this;rw[this];simp[hk]
  ·have:=UM hp.2 he hk;unfold Cq at this;rw[this,if_neg (by simpa using fun q=>hp.1 e he (q.trans hk.symm))]
theorem SI(K:R.Key)(a b:List R.En):Cq K (a++b)=Cq K a+Cq K b:=by simp[Cq]
def CH(sv:List R.Sv)(u i:Nat):List R.En:=A9 (sv.take u)++((((sv[u]?).map (·.log)).getD []).take i)
theorem OQ(sv:List R.Sv)(u:Nat):CH sv u 0=A9 (sv.take u):=by simp[CH]
theorem IV{sv:List R.Sv}(hs:sv[u]?=some s)(he:s.log[i]?=some e):CH sv u (i+1)=CH sv u i++[e]:=by
 unfold CH;rw[hs];simp only[Option.map_some,Option.getD_some];obtain⟨hi,rfl⟩:=List.getElem?_eq_some_iff.1 he;rw[List.append_assoc,<-List.take_append_getElem hi]
theorem OP{sv:List R.Sv}(hs:sv[u]?=some s):CH sv u s.log.length=CH sv (u+1) 0:=by
 rw[OQ];unfold CH A9;obtain⟨hu,rfl⟩:=List.getElem?_eq_some_iff.1 hs;rw[List.take_add_one,List.flatMap_append,hs];simp
theorem R0(sv:List R.Sv):CH sv sv.length 0=A9 sv:=by rw[OQ,List.take_length]
theorem Uv(h:R.Inv M G)(hs:G.Ab[u]?=some s)(he:s.log[i]?=some e):∀x∈CH G.Ab u i,R.Bl x≠R.Bl e:=by
 obtain⟨hu,rfl⟩:=List.getElem?_eq_some_iff.1 hs;obtain⟨hi,rfl⟩:=List.getElem?_eq_some_iff.1 he;have hp:=MY h;have e1:A9 G.Ab=CH G.Ab u i++(G.Ab[u].log.drop i++A9 (G.Ab.drop (u+1))):=by
  unfold CH;rw[hs];simp only[Option.map_some,Option.getD_some];rw[List.append_assoc,<-List.append_assoc _ (G.Ab[u].log.drop i),List.take_append_drop];exact N9 hu
 rw[e1,List.pairwise_append]at hp;intro x hx;refine hp.2.2 x hx _ (List.mem_append_left _ ?_);rw[List.drop_eq_getElem_cons hi];exact List.mem_cons_self
theorem JU(h:R.Inv M G)(hs:G.Ab[u]?=some s)(he:e∈s.log):∃d,M (R.Bl e)=some d/\d.uid=(u:Int)+1/\e.proc=d.proc/\e.arg=d.arg:=by
 obtain⟨d,_,h1,h2,h3,h4,_⟩:=((h.lg u s hs).each e he).some;exact⟨d,h1,h2,h3,h4⟩
theorem PH{sv:List R.Sv}(h:e∈A9 sv):∃(u:Nat) (s:R.Sv),sv[u]?=some s/\e∈s.log:=by
 unfold A9 at h;obtain⟨s,hs,he⟩:=List.mem_flatMap.1 h;obtain⟨u,hu,rfl⟩:=List.getElem_of_mem hs;exact⟨u,_,List.getElem?_eq_getElem hu,he⟩
theorem YD{sv:List R.Sv}(h:e∈CH sv u i):(∃(v:Nat) (s:R.Sv),v<u/\sv[v]?=some s/\e∈s.log)\/(∃(s:R.Sv) (j:Nat),sv[u]?=some s/\j<i/\s.log[j]?=some e):=by
 unfold CH at h;rcases List.mem_append.1 h with h|h
 ·left;obtain⟨v,s,hs,he⟩:=PH h;rw[List.getElem?_take]at hs;split at hs
  ·exact⟨v,s,by assumption,hs,he⟩
  ·cases hs
 ·right;cases hs:sv[u]? with
  |none=>rw[hs]at h;simp at h
  |some s=>
   rw[hs]at h;simp only[Option.map_some,Option.getD_some]at h;obtain⟨j,hj,rfl⟩:=List.getElem_of_mem h;simp only[List.length_take]at hj;exact⟨s,j,rfl,by omega,by rw[List.getElem_take];exact List.getElem?_eq_getElem _⟩
theorem VL(h:R.Inv M G){c:R.Cl}{l:R.Ln}(hc:G.Ad[i]?=some c)(hl:c.lines[k]?=some l)(h2:l.state=2):
  Cq ⟨i,c.Ae,k,l.seq⟩ (A9 G.Ab)=1/\∀e∈A9 G.Ab,R.Bl e=⟨i,c.Ae,k,l.seq⟩->e.result=l.result:=by
 obtain⟨d,e,rb,h3,h4,h5⟩:=(h.ln i c k l hc hl).done h2;have hm:e∈A9 G.Ab:=by
  have:=h4.mem;unfold R.Fs at this;cases hs:G.Ab[(d.uid-1).toNat]? with
  |none=>rw[hs]at this;simp at this
  |some s=>
   rw[hs]at this;simp only[Option.map_some,Option.getD_some]at this;exact List.mem_flatMap.2 ⟨s,List.mem_of_getElem? hs,this⟩
 have hp:=MY h;refine⟨UM hp hm h4.key,fun x hx aa=>?_⟩;have:x=e:=by
  obtain⟨a,ha,rfl⟩:=List.getElem_of_mem hx;obtain⟨b,hb,rfl⟩:=List.getElem_of_mem hm;rw[List.pairwise_iff_getElem]at hp;rcases Nat.lt_trichotomy a b with q|q|q
  ·exact absurd (aa.trans h4.key.symm) (hp a b ha hb q)
  ·subst q;rfl
  ·exact absurd (h4.key.trans aa.symm) (hp b a hb ha q)
 rw[this,h5]
theorem Zf(h:R.Inv M G)(hb:CY ms M)(hs:G.Ab[u]?=some s)(he:s.log[i]?=some e){m':Mk}(hm:ms[k]?=some m)(ad:m.key=R.Bl e)(aa:ms[j]?=some m')(ah:k<j){x:R.En}(hx:x∈CH G.Ab u i)(ae:m'.key=R.Bl x)(hu:m'.uid=(u:Int)+1)(h1:m'.client=e.client)(h2:m'.Ae=e.Ae)(h3:m'.line=e.line):False:=by
 unfold Mk.key R.Bl at ad ae;simp only[R.Key.mk.injEq]at ad ae;have ai:=hb.less hm aa ah (by omega) (by omega) (by omega);rcases YD hx with ⟨v,s',hv,ab,ac⟩|⟨s',j',ab,af,ac⟩
 ·obtain⟨d,d1,d2,_⟩:=JU h ab ac;obtain⟨i2,m2,q1,q2,q3,_⟩:=hb.at d1;have:i2=j:=hb.uniq q1 aa (q2.trans (by unfold Mk.key R.Bl;simp only[R.Key.mk.injEq];omega));subst this;obtain rfl:=Option.some.inj (q1.symm.trans aa);omega
 ·obtain rfl:=Option.some.inj (hs.symm.trans ab);obtain⟨hi,rfl⟩:=List.getElem?_eq_some_iff.1 he;obtain⟨ag,rfl⟩:=List.getElem?_eq_some_iff.1 ac;have:=List.pairwise_iff_getElem.1 (h.lg u s hs).ord j' i ag hi af (by omega) (by omega) (by omega);omega
abbrev aeC(w:World)(b:Nat)(v0 v1 v2 v3 v4:Value):World:=((((w.setCell ⟨b,0,none⟩ v0).setCell ⟨b,1,none⟩ v1).setCell ⟨b,2,none⟩ v2).setCell ⟨b,3,none⟩ v3).setCell ⟨b,4,none⟩ v4
theorem Yo{F:Aq}{a w:World}{b:Nat}(hb:F b\/a.heap.size<=b)(h:Af F a w)(v0 v1 v2 v3 v4:Value):Af F a (aeC w b v0 v1 v2 v3 v4):=((((h.setCell (p:=⟨b,0,none⟩) hb v0).setCell (p:=⟨b,1,none⟩) hb v1).setCell (p:=⟨b,2,none⟩) hb v2).setCell (p:=⟨b,3,none⟩) hb v3).setCell (p:=⟨b,4,none⟩) hb v4
theorem MX(w:World)(c cap:Nat)(buf:Array Value)(cl:Bool)(s r:Nat)(tm:Bool):Af (fun k=>k=c) w (w.setChan c cap buf cl s r tm):=
 ⟨rfl,rfl,rfl,by simp[World.setChan],fun k _ hn=>by
  simp only[World.setChan];rw[Array.getElem?_setIfInBounds_ne (fun e=>hn e.symm)]⟩
theorem Rq(w:World)(s jc cap a b:Nat)(buf:Array Value)(c0 c1 c2 c3 c4:Int)(aa:w.cell? ⟨s,19,none⟩=some (.chan (some jc)))(hj:w.heap[jc]?=some (.chan cap buf false a b false))(hr:buf.size<cap):
  Calls Tryz.prog 265 #[.pointer (some ⟨s,0,none⟩),.agg #[.int .i64 c0,.int .i64 c1,.int .i64 c2,.int .i64 c3,.int .i64 c4]] w fun e w'=>e=.returned (.bool true)/\w'.heap[jc]?=some (.chan cap (buf.push (.agg #[.int .i64 c0,.int .i64 c1,.int .i64 c2,.int .i64 c3,.int .i64 c4])) false (a+1) b false)/\Af (fun k=>k=jc) w w':=by
 refine calls_of_loneTo fun cs=>?_
 have e:Frame.enter Tryz.prog 265 #[.pointer (some ⟨s,0,none⟩),.agg #[.int .i64 c0,.int .i64 c1,.int .i64 c2,.int .i64 c3,.int .i64 c4]] .normal=(base 265).at ⟨#[.pointer (some ⟨s,0,none⟩),.agg #[.int .i64 c0,.int .i64 c1,.int .i64 c2,.int .i64 c3,.int .i64 c4],undef,undef,undef,undef,undef,undef,undef,undef,undef,undef,undef,undef],[]⟩ [.code (Tryz.f265.body.getD .skip)]:=by
  simp[Frame.enter,Frame.at,Tryz.func265,base,Tryz.f265]
 rw[e];have hl:s<w.heap.size:=by
  simp only[World.cell?]at aa;cases hs:w.heap[s]? with
  |none=>simp[hs]at aa
  |some o=>exact(Array.getElem?_eq_some_iff.1 hs).1
 refine LoneTo.goes (n:=50) ?_;simp only[Tryz.f265,Option.getD_some]
 s_c stepG_seq
 s_reg
 s_op
 s_op
 s_c stepG_region_end
 s_c stepG_seq
 s_c stepG_seq
 s_reg
 s_op
 s_op
 s_op
 s_op
 s_op
 s_c stepG_region_end
 s_reg
 s_op
 s_c stepG_region_end
 s_c stepG_seq
 s_reg
 s_stop
 obtain⟨WA,ab⟩:∃WA,w.alloc (.cells #[.int .i64 c0,.int .i64 c1,.int .i64 c2,.int .i64 c3,.int .i64 c4] 170)=WA:=⟨_,rfl⟩;rw[ab];have hB:Below w.heap.size w WA:=by rw[<-ab];exact(Below.refl _ _).alloc (Nat.le_refl _) _
 have ac:=(Array.getElem?_eq_some_iff.1 hj).1;have ad:WA.heap[jc]?=some (.chan cap buf false a b false):=by rw[hB.block jc ac];exact hj
 refine LoneTo.step (step_lone_select_send_room (c:=jc) (cap:=cap) (buf:=buf) (s:=a) (r:=b) (tm:=false) (stepG_comm (cases:=#[scase jc (.agg #[.int .i64 c0,.int .i64 c1,.int .i64 c2,.int .i64 c3,.int .i64 c4]) (.agg #[.int .i64 0,.int .i64 0,.int .i64 0,.int .i64 0,.int .i64 0])]) (blocking:=false) (shape:=.select) (w':=WA) rfl rfl (by decide) (by simp[go_sem,execOp,scase,Act.eval])) ad hr) ?_;rw[Frame.finish_at]
 walk_nrm
 refine LoneTo.goes (n:=20) ?_
 s_op
 s_op
 s_c stepG_region_end
 s_c stepG_block
 s_cond true
 s_c stepG_seq
 s_reg
 s_op
 s_c stepG_region_end
 s_c stepG_ret'
 s_stop
 refine LoneTo.done ⟨.returned (.bool true),_,rfl,⟨rfl,heap_setChan WA jc cap _ false (a+1) b false (Nat.lt_of_lt_of_le ac hB.size),?_⟩,rfl,rfl,rfl,rfl,_,Tryz.func265,by simp[results,Tryz.f265,Frame.at]⟩;exact(Af.Al hB _).trans (MX WA jc cap _ false (a+1) b false)
theorem Rp(w:World)(s jc cap a b:Nat)(buf:Array Value)(c0 c1 c2 c3 c4:Int)(aa:w.cell? ⟨s,19,none⟩=some (.chan (some jc)))(hj:w.heap[jc]?=some (.chan cap buf false a b false))(hr:cap<=buf.size):
  Calls Tryz.prog 265 #[.pointer (some ⟨s,0,none⟩),.agg #[.int .i64 c0,.int .i64 c1,.int .i64 c2,.int .i64 c3,.int .i64 c4]] w fun e w'=>e=.returned (.bool false)/\Below w.heap.size w w':=by
 refine calls_of_loneTo fun cs=>?_
 have e:Frame.enter Tryz.prog 265 #[.pointer (some ⟨s,0,none⟩),.agg #[.int .i64 c0,.int .i64 c1,.int .i64 c2,.int .i64 c3,.int .i64 c4]] .normal=(base 265).at ⟨#[.pointer (some ⟨s,0,none⟩),.agg #[.int .i64 c0,.int .i64 c1,.int .i64 c2,.int .i64 c3,.int .i64 c4],undef,undef,undef,undef,undef,undef,undef,undef,undef,undef,undef,undef],[]⟩ [.code (Tryz.f265.body.getD .skip)]:=by
  simp[Frame.enter,Frame.at,Tryz.func265,base,Tryz.f265]
 rw[e];have hl:s<w.heap.size:=by
  simp only[World.cell?]at aa;cases hs:w.heap[s]? with
  |none=>simp[hs]at aa
  |some o=>exact(Array.getElem?_eq_some_iff.1 hs).1
 refine LoneTo.goes (n:=50) ?_;simp only[Tryz.f265,Option.getD_some]
 s_c stepG_seq
 s_reg
 s_op
 s_op
 s_c stepG_region_end
 s_c stepG_seq
 s_c stepG_seq
 s_reg
 s_op
 s_op
 s_op
 s_op
 s_op
 s_c stepG_region_end
 s_reg
 s_op
 s_c stepG_region_end
 s_c stepG_seq
 s_reg
 s_stop
 obtain⟨WA,ab⟩:∃WA,w.alloc (.cells #[.int .i64 c0,.int .i64 c1,.int .i64 c2,.int .i64 c3,.int .i64 c4] 170)=WA:=⟨_,rfl⟩;rw[ab];have hB:Below w.heap.size w WA:=by rw[<-ab];exact(Below.refl _ _).alloc (Nat.le_refl _) _
 have ad:=(Array.getElem?_eq_some_iff.1 hj).1;have ac:WA.heap[jc]?=some (.chan cap buf false a b false):=by rw[hB.block jc ad];exact hj
 refine LoneTo.step (step_lone_select_send_full (c:=jc) (cap:=cap) (buf:=buf) (s:=a) (r:=b) (tm:=false) (stepG_comm (cases:=#[scase jc (.agg #[.int .i64 c0,.int .i64 c1,.int .i64 c2,.int .i64 c3,.int .i64 c4]) (.agg #[.int .i64 0,.int .i64 0,.int .i64 0,.int .i64 0,.int .i64 0])]) (blocking:=false) (shape:=.select) (w':=WA) rfl rfl (by decide) (by simp[go_sem,execOp,scase,Act.eval])) ac hr) ?_;rw[Frame.finish_at]
 walk_nrm
 refine LoneTo.goes (n:=20) ?_
 s_op
 s_op
 s_c stepG_region_end
 s_c stepG_block
 s_cond false
 s_c stepG_seq
 s_reg
 s_op
 s_c stepG_region_end
 s_c stepG_ret'
 s_stop
 exact LoneTo.done ⟨.returned (.bool false),_,rfl,⟨rfl,hB⟩,rfl,rfl,rfl,rfl,_,Tryz.func265,by simp[results,Tryz.f265,Frame.at]⟩
theorem P6(w:World)(s jc cap a b:Nat)(buf:Array Value)(c0 c1 c2 c3 c4:Int)(af:w.cell? ⟨s,19,none⟩=some (.chan (some jc)))(hj:w.heap[jc]?=some (.chan cap buf false a b false))(hr:0<buf.size)(h0:buf.getD 0 undef=.agg #[.int .i64 c0,.int .i64 c1,.int .i64 c2,.int .i64 c3,.int .i64 c4]):
  Calls Tryz.prog 95 #[.pointer (some ⟨s,0,none⟩)] w fun e w'=>e=.returned (.tuple #[.agg #[.int .i64 c0,.int .i64 c1,.int .i64 c2,.int .i64 c3,.int .i64 c4],.bool true])/\w'.heap[jc]?=some (.chan cap (buf.extract 1 buf.size) false a (b+1) false)/\Af (fun k=>k=jc) w w':=by
 refine calls_of_loneTo fun cs=>?_
 have e:Frame.enter Tryz.prog 95 #[.pointer (some ⟨s,0,none⟩)] .normal=(base 95).at ⟨#[.pointer (some ⟨s,0,none⟩),undef,undef,undef,undef,undef,undef,undef,undef,undef,undef,undef,undef,undef,undef,undef],[]⟩ [.code (Tryz.f95.body.getD .skip)]:=by
  simp[Frame.enter,Frame.at,Tryz.func95,base,Tryz.f95]
 rw[e];have hl:s<w.heap.size:=by
  simp only[World.cell?]at af;cases hs:w.heap[s]? with
  |none=>simp[hs]at af
  |some o=>exact(Array.getElem?_eq_some_iff.1 hs).1
 refine LoneTo.goes (n:=50) ?_;simp only[Tryz.f95,Option.getD_some]
 s_c stepG_seq
 s_reg
 s_op
 s_op
 s_c stepG_region_end
 s_c stepG_seq
 s_reg
 s_op
 s_op
 s_op
 s_op
 s_op
 s_c stepG_region_end
 s_c stepG_seq
 s_reg
 s_stop
 obtain⟨WA,ab⟩:∃WA,w.alloc (.cells #[.int .i64 0,.int .i64 0,.int .i64 0,.int .i64 0,.int .i64 0] 170)=WA:=⟨_,rfl⟩;rw[ab];have hB:Below w.heap.size w WA:=by rw[<-ab];exact(Below.refl _ _).alloc (Nat.le_refl _) _
 have ad:=(Array.getElem?_eq_some_iff.1 hj).1;have ag:WA.heap[jc]?=some (.chan cap buf false a b false):=by rw[hB.block jc ad];exact hj
 have hz:WA.heap[w.heap.size]?=some (.cells #[.int .i64 0,.int .i64 0,.int .i64 0,.int .i64 0,.int .i64 0] 170 (0,0)):=by rw[<-ab];exact heap_alloc_new w _
 have ak:=(Array.getElem?_eq_some_iff.1 hz).1;refine LoneTo.step (step_lone_select_recv_buf (c:=jc) (cap:=cap) (buf:=buf) (closed:=false) (s:=a) (r:=b) (tm:=false) (stepG_comm (cases:=#[rcase jc (.agg #[.int .i64 0,.int .i64 0,.int .i64 0,.int .i64 0,.int .i64 0])]) (blocking:=false) (shape:=.select) (w':=WA) rfl rfl (by decide) (by simp[go_sem,execOp,rcase,Act.eval])) ag hr) ?_;rw[Frame.finish_at,h0]
 walk_nrm
 obtain⟨WB,ac⟩:∃WB,WA.setChan jc cap (buf.extract 1 buf.size) false a (b+1) false=WB:=⟨_,rfl⟩;rw[ac];have ae:Af (fun k=>k=jc) WA WB:=by rw[<-ac];exact MX _ _ _ _ _ _ _ _
 have ah:WB.heap[jc]?=some (.chan cap (buf.extract 1 buf.size) false a (b+1) false):=by rw[<-ac];exact heap_setChan WA jc cap _ false a (b+1) false (Nat.lt_of_lt_of_le ad hB.size)
 have aa:WB.heap[w.heap.size]?=some (.cells #[.int .i64 0,.int .i64 0,.int .i64 0,.int .i64 0,.int .i64 0] 170 (0,0)):=by
  rw[ae.block _ ak (by omega)];exact hz
 have d0:WB.cell? ⟨w.heap.size,0,none⟩=some (.int .i64 0):=cell_of aa 0 _ rfl;have d1:WB.cell? ⟨w.heap.size,1,none⟩=some (.int .i64 0):=cell_of aa 1 _ rfl;have d2:WB.cell? ⟨w.heap.size,2,none⟩=some (.int .i64 0):=cell_of aa 2 _ rfl;have d3:WB.cell? ⟨w.heap.size,3,none⟩=some (.int .i64 0):=cell_of aa 3 _ rfl;have d4:WB.cell? ⟨w.heap.size,4,none⟩=some (.int .i64 0):=cell_of aa 4 _ rfl;have z:∀j,WB.frozen? ⟨w.heap.size,j,none⟩=false:=fun j=>open_list aa
 have ai:w.heap.size<WB.heap.size:=(Array.getElem?_eq_some_iff.1 aa).1;have al:w.heap.size≠WB.heap.size:=by omega
 have aj:WB.heap.size≠w.heap.size:=by omega
 refine LoneTo.goes (n:=30) ?_
 s_op
 s_op
 s_c stepG_region_end
 s_c stepG_block
 s_cond true
 s_c stepG_seq
 s_reg
 s_op
 s_op
 s_op
 s_c stepG_region_end
 s_c stepG_seq
 s_reg
 s_op
 s_op
 s_op
 s_c stepG_region_end
 s_c stepG_ret'
 s_stop
 have HK:=(Yo (F:=fun k=>k=w.heap.size) (b:=w.heap.size) (Or.inl rfl) (Af.refl (fun k=>k=w.heap.size) WB) (.int .i64 c0) (.int .i64 c1) (.int .i64 c2) (.int .i64 c3) (.int .i64 c4)).alloc (.cells #[.int .i64 c0,.int .i64 c1,.int .i64 c2,.int .i64 c3,.int .i64 c4] 170);refine LoneTo.done ⟨.returned (.tuple #[.agg #[.int .i64 c0,.int .i64 c1,.int .i64 c2,.int .i64 c3,.int .i64 c4],.bool true]),_,rfl,⟨rfl,?_,?_⟩,rfl,rfl,rfl,rfl,_,Tryz.func95,?_⟩
 ·exact(HK.block jc (Nat.lt_of_lt_of_le (Nat.lt_of_lt_of_le ad hB.size) ae.size) (by omega)).trans ah
 ·exact((Af.Al hB _).trans ae).andThen HK (fun i hi e=>by omega)
 ·simp[results,Tryz.f95,Frame.at,go_sem,ai,d0,d1,d2,d3,d4]
theorem P5(w:World)(s jc cap a b:Nat)(ab:w.cell? ⟨s,19,none⟩=some (.chan (some jc)))(hj:w.heap[jc]?=some (.chan cap #[] false a b false)):
  Calls Tryz.prog 95 #[.pointer (some ⟨s,0,none⟩)] w fun e w'=>e=.returned (.tuple #[.agg #[.int .i64 0,.int .i64 0,.int .i64 0,.int .i64 0,.int .i64 0],.bool false])/\Below w.heap.size w w':=by
 refine calls_of_loneTo fun cs=>?_
 have e:Frame.enter Tryz.prog 95 #[.pointer (some ⟨s,0,none⟩)] .normal=(base 95).at ⟨#[.pointer (some ⟨s,0,none⟩),undef,undef,undef,undef,undef,undef,undef,undef,undef,undef,undef,undef,undef,undef,undef],[]⟩ [.code (Tryz.f95.body.getD .skip)]:=by
  simp[Frame.enter,Frame.at,Tryz.func95,base,Tryz.f95]
 rw[e];have hl:s<w.heap.size:=by
  simp only[World.cell?]at ab;cases hs:w.heap[s]? with
  |none=>simp[hs]at ab
  |some o=>exact(Array.getElem?_eq_some_iff.1 hs).1
 refine LoneTo.goes (n:=50) ?_;simp only[Tryz.f95,Option.getD_some]
 s_c stepG_seq
 s_reg
 s_op
 s_op
 s_c stepG_region_end
 s_c stepG_seq
 s_reg
 s_op
 s_op
 s_op
 s_op
 s_op
 s_c stepG_region_end
 s_c stepG_seq
 s_reg
 s_stop
 obtain⟨WA,aa⟩:∃WA,w.alloc (.cells #[.int .i64 0,.int .i64 0,.int .i64 0,.int .i64 0,.int .i64 0] 170)=WA:=⟨_,rfl⟩;rw[aa];have hB:Below w.heap.size w WA:=by rw[<-aa];exact(Below.refl _ _).alloc (Nat.le_refl _) _
 have ad:=(Array.getElem?_eq_some_iff.1 hj).1;have ac:WA.heap[jc]?=some (.chan cap #[] false a b false):=by rw[hB.block jc ad];exact hj
 have hz:WA.heap[w.heap.size]?=some (.cells #[.int .i64 0,.int .i64 0,.int .i64 0,.int .i64 0,.int .i64 0] 170 (0,0)):=by rw[<-aa];exact heap_alloc_new w _
 have ae:=(Array.getElem?_eq_some_iff.1 hz).1;refine LoneTo.step (step_lone_select_default (c:=jc) (cap:=cap) (s:=a) (r:=b) (tm:=false) (stepG_comm (cases:=#[rcase jc (.agg #[.int .i64 0,.int .i64 0,.int .i64 0,.int .i64 0,.int .i64 0])]) (blocking:=false) (shape:=.select) (w':=WA) rfl rfl (by decide) (by simp[go_sem,execOp,rcase,Act.eval])) ac) ?_;rw[Frame.finish_at]
 walk_nrm
 have d0:WA.cell? ⟨w.heap.size,0,none⟩=some (.int .i64 0):=cell_of hz 0 _ rfl;have d1:WA.cell? ⟨w.heap.size,1,none⟩=some (.int .i64 0):=cell_of hz 1 _ rfl;have d2:WA.cell? ⟨w.heap.size,2,none⟩=some (.int .i64 0):=cell_of hz 2 _ rfl;have d3:WA.cell? ⟨w.heap.size,3,none⟩=some (.int .i64 0):=cell_of hz 3 _ rfl;have d4:WA.cell? ⟨w.heap.size,4,none⟩=some (.int .i64 0):=cell_of hz 4 _ rfl;have z:∀j,WA.frozen? ⟨w.heap.size,j,none⟩=false:=fun j=>open_list hz
 refine LoneTo.goes (n:=30) ?_
 s_op
 s_op
 s_c stepG_region_end
 s_c stepG_block
 s_cond false
 s_c stepG_seq
 s_reg
 s_op
 s_op
 s_op
 s_c stepG_region_end
 s_c stepG_ret'
 s_stop
 refine LoneTo.done ⟨.returned (.tuple #[.agg #[.int .i64 0,.int .i64 0,.int .i64 0,.int .i64 0,.int .i64 0],.bool false]),_,rfl,⟨rfl,?_⟩,rfl,rfl,rfl,rfl,_,Tryz.func95,?_⟩
 ·exact((Af.Al hB (fun k=>k=w.heap.size)).trans (Yo (F:=fun k=>k=w.heap.size) (b:=w.heap.size) (Or.inl rfl) (Af.refl (fun k=>k=w.heap.size) WA) (.int .i64 0) (.int .i64 0) (.int .i64 0) (.int .i64 0) (.int .i64 0))).below (Nat.le_refl _) (fun k e=>by omega)
 ·simp[results,Tryz.f95,Frame.at,go_sem,d0,d1,d2,d3,d4]
end Go.Proofs.YtblomippkddgiabGreatDoor
