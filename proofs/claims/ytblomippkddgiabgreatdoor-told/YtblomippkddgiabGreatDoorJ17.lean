import Derived.Test.YtblomippkddgiabGreatDoorJ16
import Derived.Maps.Ext
import Derived.Handy
set_option maxRecDepth 100000
set_option maxHeartbeats 2000000
namespace Go.Proofs.YtblomippkddgiabGreatDoor
open Go.RowKit Go.Maps
open Go.RowKit
variable {E F:Aq}{B b n size:Nat}{l:R.Ln}{G:R.Wd}{e k:TypeId}{K:Value}{w w':World}
def Mp{α:Type}(w:World)(k:TypeId)(b:Nat)(lit:α->Lit)(g:α->Option Int)(n:Nat):Prop:=
 ∃D:DataW Unit,w.ownsMap Tryz.prog k (plainElem Tryz.prog 3) b n D/\Maps.size D=n/\∀a,Maps.has D (lit a)=(g a).isSome/\∀v,g a=some v->D.atKey (lit a) (.lit (.int .i64 0))=.lit (.int .i64 v)
theorem Mp.keep{α:Type}{lit:α->Lit}{g:α->Option Int}(h:Mp w k b lit g n)(hk:Af F w w')(hb:¬F b):Mp w' k b lit g n:=by
 obtain⟨D,h1,h2⟩:=h;exact⟨D,hk.map h1 hb,h2⟩
theorem Mp.lt{α:Type}{lit:α->Lit}{g:α->Option Int}(h:Mp w k b lit g n):b<w.heap.size:=by
 obtain⟨D,h1,_⟩:=h;exact h1.lt
theorem Mp.block{α:Type}{lit:α->Lit}{g:α->Option Int}(h:Mp w k b lit g n):∃es cl,w.heap[b]?=some (.map es cl):=by
 obtain⟨D,⟨es,cl,hb,_⟩,_⟩:=h;exact⟨es,cl,hb⟩
theorem Mp.congr{α:Type}{lit:α->Lit}{g g':α->Option Int}(h:Mp w k b lit g n)(he:∀a,g' a=g a):Mp w k b lit g' n:=by
 obtain⟨D,h1,h2,h3⟩:=h;exact⟨D,h1,h2,fun a=>by rw[he a];exact h3 a⟩
structure CU where
 state:Int
 seq:Int
 rv:Value
 uid:Int
 proc:Int
 msg:List UInt8
 Ao:Int
 came:List UInt8
 wait:Int
 tries:Int
def CU.cells(x:CU):List Value:=[.int .i64 x.state,.int .i64 x.seq,x.rv,.int .i64 x.uid,.int .i64 x.proc,.string (str x.msg),.int .i64 x.Ao,.string (str x.came),.int .i64 x.wait,.int .i64 x.tries]
theorem CU.len(x:CU):x.cells.length=10:=rfl
structure N8(l:R.Ln)(x:CU):Prop where
 state:x.state=l.state
 seq:x.seq=l.seq
 res:l.state≠2->l.result=[]
 one:l.state=1->x.uid=l.uid/\x.msg=l.message/\x.Ao=l.Ao/\x.wait=l.wait/\x.tries=l.tries
 two:l.state=1->x.came=l.came/\(x.proc=0\/x.proc=1)/\l.message.take 2=A5 x.proc
structure Hw(ls:List R.Ln)(xs:List CU):Prop where
 len:xs.length=ls.length
 each:∀(k:Nat) (l:R.Ln) (x:CU),ls[k]?=some l->xs[k]?=some x->N8 l x
theorem Hw.get{ls:List R.Ln}{xs:List CU}(h:Hw ls xs){k:Nat}(hl:ls[k]?=some l):∃x,xs[k]?=some x/\N8 l x:=by
 have hk:=(afG.1 hl).1;obtain⟨x,hx⟩:∃x,xs[k]?=some x:=⟨xs[k]'(by rw[h.len];exact hk),afH _⟩;exact⟨x,hx,h.each k l x hl hx⟩
theorem Hw.set{ls:List R.Ln}{xs:List CU}(h:Hw ls xs){k:Nat}{x:CU}(hr:N8 l x):Hw (ls.set k l) (xs.set k x):=by
 refine⟨by simpa using h.len,fun j a b ha hb=>?_⟩;rw[afV]at ha hb;have hl:=h.len;by_cases hj:k=j
 ·subst hj;simp only[if_true]at ha hb;split at ha
  ·cases ha;split at hb
   ·cases hb;exact hr
   ·cases hb
  ·cases ha
 ·simp only[hj,if_false]at ha hb;exact h.each j a b ha hb
def EJ(w:World)(F:Aq)(ls:List R.Ln)(xs:List CU):Prop:=∀(k:Nat) (l:R.Ln) (x:CU),ls[k]?=some l->xs[k]?=some x->BF w F x.rv l.result
theorem EJ.Eg{F':Aq}{ls:List R.Ln}{xs:List CU}(h:EJ w F ls xs)(hk:Af E w w')(ha:JD w F E)(hF:∀k,F k->F' k):EJ w' F' ls xs:=fun k l x hl hx=>(h k l x hl hx).Eg hk ha hF
theorem EJ.set{ls:List R.Ln}{xs:List CU}(h:EJ w F ls xs){k:Nat}{x:CU}(hr:BF w F x.rv l.result):EJ w F (ls.set k l) (xs.set k x):=by
 intro j a b ha hb;rw[afV]at ha hb;by_cases hj:k=j
 ·subst hj;simp only[if_true]at ha hb;split at ha
  ·cases ha;split at hb
   ·cases hb;exact hr
   ·cases hb
  ·cases ha
 ·simp only[hj,if_false]at ha hb;exact h j a b ha hb
def BB(f:R.Fl):List Value:=[.int .i64 f.to,.string (str f.s),.bool f.Hy]
theorem DK(f:R.Fl):(BB f).length=3:=rfl
structure Pl where
 x:Nat
 n:Nat
 s:Nat
 cs:Nat
 cap:Nat
 nm:Nat
 cb:Nat->Nat
 lb:Nat->Nat
 bm:Nat->Nat
 t:SP
abbrev NU(l:List UInt8):Lit:=.string l
abbrev Kz(u:Int):Lit:=.int .i64 u
def AF(G:R.Wd)(s:List UInt8):Option Int:=(R.BI G s).map fun k=>G.stands.getD k 0
def kindOf(G:R.Wd)(u:Int):Int:=((G.Ab[(u-1).toNat]?).map (·.kind)).getD 0
def BL(G:R.Wd)(c:R.Cl)(u:Int):Option Int:=if u∈c.bound then some (kindOf G u) else none
def dd(l:List Int):List Int:=l.foldl (fun acc u=>if u∈acc then acc else acc++[u]) []
abbrev ac6(p:Pl)(n:Nat):Array Value:=#[ptr p.n,ptr p.s,.slice (some ⟨p.cs,0,none⟩) n p.cap]
abbrev Jn(p:Pl)(G:R.Wd)(i:Nat)(c:R.Cl):Array Value:=#[.int .i64 (i:Int),.int .i64 c.Ae,.map (some (p.bm i)),.slice (some ⟨p.lb i,0,none⟩) c.lines.length c.lines.length,.int .i64 G.c.Ay,.int .i64 G.c.tries,ptr p.n]
structure LW(p:Pl)(F:Aq)(G:R.Wd)(w:World):Prop where
 wf:R.Wf G
 Db:R.Md G.c G.Aj G.seen G.jobs
 bx:w.heap[p.x]?=some (.cells (ac6 p G.Ad.length) 71 (0,0))
 XH:∃cur:Array Value,w.heap[p.cs]?=some (.cells cur 93 (0,0))/\∀i,i<G.Ad.length->cur[i]?=some (ptr (p.cb i))
 bn:∃K,w.heap[p.n]?=some (.cells #[K] 110 (0,0))/\w.ownsRow 0 166 3 K G.Ak.length (tab BB G.Ak)/\∀j,K.ownBlock=some j->F j
 BN:Cg p.s p.n p.nm p.t F G.c G.Ab G.Aj G.seen G.jobs w
 names:Mp w 9 p.nm NU (AF G) G.names.length
 cl:∀(i:Nat) (c:R.Cl),G.Ad[i]?=some c->w.heap[p.cb i]?=some (.cells (Jn p G i c) 133 (0,0))
 ln:∀(i:Nat) (c:R.Cl),G.Ad[i]?=some c->∃xs,w.heap[p.lb i]?=some (.cells (tab CU.cells xs).toArray 129 (0,0))/\Hw c.lines xs/\EJ w F c.lines xs
 bound:∀(i:Nat) (c:R.Cl),G.Ad[i]?=some c->Mp w 3 (p.bm i) Kz (BL G c) (dd c.bound).length
 BP:F p.x/\F p.n/\F p.cs/\F p.nm
 FG:∀i,i<G.Ad.length->F (p.cb i)/\F (p.lb i)/\F (p.bm i)/\p.bm i≠p.nm
 inj:∀i j,i<G.Ad.length->j<G.Ad.length->i≠j->p.lb i≠p.lb j/\p.bm i≠p.bm j/\p.cb i≠p.cb j
 lt:∀k,F k->k<w.heap.size
theorem LW.elsewhere{p:Pl}(h:LW p F G w)(hk:Af E w w')(ha:∀k,F k->¬E k):LW p F G w':=by
 obtain⟨hx,hn,ad,ae⟩:=h.BP;have aa:=fun (i:Nat) (c:R.Cl) (hc:G.Ad[i]?=some c)=>(afG.1 hc).1
 have ab:Avoid w F E:=Avoid.apart ha;refine⟨h.wf,h.Db,hk.at h.bx (ha _ hx),?_,?_,h.BN.keep hk ab (fun _ q=>q),h.names.keep hk (ha _ ae),fun i c hc=>hk.at (h.cl i c hc) (ha _ (h.FG i (aa i c hc)).1),fun i c hc=>?_,fun i c hc=>(h.bound i c hc).keep hk (ha _ (h.FG i (aa i c hc)).2.2.1),h.BP,h.FG,h.inj,fun k hf=>afT (h.lt k hf) hk.size⟩
 ·obtain⟨ac,h1,h2⟩:=h.XH;exact⟨ac,hk.at h1 (ha _ ad),h2⟩
 ·obtain⟨K,h1,h2,h3⟩:=h.bn;exact⟨K,hk.at h1 (ha _ hn),hk.row h2 (fun j hj=>ha j (h3 j hj)),h3⟩
 ·obtain⟨xs,h1,h2,h3⟩:=h.ln i c hc;exact⟨xs,hk.at h1 (ha _ (h.FG i (aa i c hc)).2.1),h2,h3.Eg hk ab.sv (fun _ q=>q)⟩
theorem LW.below{p:Pl}(h:LW p F G w)(hb:Below w.heap.size w w'):LW p F G w':=h.elsewhere (Af.Al hb (fun _=>False)) (fun _ _ h=>h)
theorem LW.turn{p:Pl}(h:LW p F G w){i k:Nat}{c:R.Cl}{xs:List CU}{l':R.Ln}{x':CU}(hc:G.Ad[i]?=some c)(hL:w.heap[p.lb i]?=some (.cells (tab CU.cells xs).toArray 129 (0,0)))(hr:Hw c.lines xs)(ai:EJ w F c.lines xs)
  (hk:Af (fun b=>b=p.lb i) w w') (af:w'.heap[p.lb i]?=some (.cells (tab CU.cells (xs.set k x')).toArray 129 (0,0))) (ag:R.Mc l') (aj:N8 l' x') (ak:BF w F x'.rv l'.result):LW p F (R.Am G i k l') w':=by
 obtain⟨hx,hn,al,am⟩:=h.BP;have hi:=(afG.1 hc).1;have ab:Avoid w F (fun b=>b=p.lb i):=Avoid.one hL (by decide);have aa:(R.Am G i k l').Ad.length=G.Ad.length:=by simp[R.Am]
 have ac:∀j c',(R.Am G i k l').Ad[j]?=some c'->∃c0,G.Ad[j]?=some c0/\c'=(if i=j then {c0 with lines:=c0.lines.set k l'} else c0):=fun j c' hj=>by
  rw[R.Bo]at hj;cases h0:G.Ad[j]? with
  |none=>rw[h0]at hj;cases hj
  |some c0=>rw[h0]at hj;exact⟨c0,rfl,(Option.some.inj hj).symm⟩
 have at':∀{b:Nat} {o:Obj},w.heap[b]?=some o->b≠p.lb i->w'.heap[b]?=some o:=fun hb ah=>hk.at hb ah
 refine⟨h.wf.Am ag,h.Db,?_,?_,?_,?_,?_,fun j c' hj=>?_,fun j c' hj=>?_,fun j c' hj=>?_,h.BP,?_,?_,fun k hf=>afT (h.lt k hf) hk.size⟩
 ·rw[aa];exact at' h.bx (AZ h.bx hL (by decide))
 ·obtain⟨ae,h1,h2⟩:=h.XH;rw[aa];exact⟨ae,at' h1 (AZ h1 hL (by decide)),h2⟩
 ·obtain⟨K,h1,h2,h3⟩:=h.bn;refine⟨K,at' h1 (AZ h1 hL (by decide)),hk.row h2 (fun j hj=>?_),h3⟩;rcases h2.2 with ⟨rfl,_⟩|⟨g,cap,ae,rfl,_,hg,_⟩
  ·cases hj
  ·cases hj;exact AZ hg hL (by decide)
 ·exact h.BN.keep hk ab (fun _ q=>q)
 ·obtain⟨es,q,hq⟩:=h.names.block;exact h.names.keep hk (Fv hL hq).symm
 ·obtain⟨c0,h0,rfl⟩:=ac j c' hj;have:=at' (h.cl j c0 h0) (AZ (h.cl j c0 h0) hL (by decide));rw[this];split<;>simp[R.Am]
 ·obtain⟨c0,h0,rfl⟩:=ac j c' hj;by_cases ad:i=j
  ·subst ad;obtain rfl:=Option.some.inj (hc.symm.trans h0);simp only[if_true];exact⟨_,af,hr.set aj,(ai.Eg hk ab.sv (fun _ q=>q)).set (ak.Eg hk ab.sv (fun _ q=>q))⟩
  ·obtain⟨ys,h1,h2,h3⟩:=h.ln j c0 h0;simp only[ad,if_false];exact⟨ys,at' h1 ((h.inj j i (afG.1 h0).1 hi (fun e=>ad e.symm)).1),h2,h3.Eg hk ab.sv (fun _ q=>q)⟩
 ·obtain⟨c0,h0,rfl⟩:=ac j c' hj;obtain⟨es,q,hq⟩:=(h.bound j c0 h0).block;have:=(h.bound j c0 h0).keep hk (Fv hL hq).symm;split<;>exact this
 ·rw[aa];exact h.FG
 ·rw[aa];exact h.inj
theorem Av{ab:Array Oper}{o:Oper}{a:Act}{K:Act->World->Prop}{Q:Exit->Act->World->Prop}{E:Prop}
  (ae:o.guard=none) (f:Nat) (xs:Array Operand) (ts:Array TypeId) (ho:o.op=.call {callee:=.value (.func f),args:=xs,argTypes:=ts}) (ad:∀args w,(callFunc f args).run Tryz.prog w=.ok (.enter f args) w)
  (vs:Array Value) (aa:xs.toList.map a.eval=vs.toList) (R:Ending->World->Prop) (hC:Calls Tryz.prog f vs w R) (hR:∀e w',R e w'->∃v,e=.returned v/\K (a.put o.dst v) w'):
  if Region.wanted o (yielded ab a.tmps)=true then Oper.wp Tryz.prog o a w K Q else E:=by
 have hw:Region.wanted o (yielded ab a.tmps)=true:=by simp[Region.wanted,ae]
 rw[if_pos hw];have hv:xs.map a.eval=vs:=by
  apply Array.ext';simpa using aa
 clear aa;subst hv;unfold Oper.wp;simp only[execOp,ho,resolve,invoke,Sem.run_bind];generalize Array.map a.eval xs=vs at hC ⊢;have ac:Calls Tryz.prog f vs w (fun e w'=>∃v,e=.returned v/\K (a.put o.dst v) w'):=hC.mono hR;clear hC hR;simp[Deferred.ofValue,Act.eval,ad,go_sem];refine ac.mono ?_;rintro e w' ⟨v,rfl,hk⟩;exact hk
theorem aew:∀args w,(callFunc 185 args).run Tryz.prog w=.ok (.enter 185 args) w:=fun _ _=>rfl
theorem D7{a b:World}(h:Below a.drew.heap.size a.drew b):Below a.heap.size a b:=⟨h.os,h.tape,h.output,h.size,h.block⟩
theorem Tx:(Tryz.prog.info? 166).map (fun i=>(i.zero,i.size,i.bytes))=some (some (.agg #[.int .i64 0,.string ⟨#[]⟩,.bool false]),3,32):=by kernel_rfl
structure Ea(w:World)(n:Nat)(K:Value)(fl:List R.Fl)(w':World):Prop where
 cell:∃K',w'.heap[n]?=some (.cells #[K'] 110 (0,0))/\w'.ownsRow 0 166 3 K' fl.length (tab BB fl)/\(K'.ownBlock=K.ownBlock\/∃j,K'.ownBlock=some j/\w.heap.size<=j)
 keeps:Af (fun k=>k=n\/K.ownBlock=some k) w w'
theorem JZ(w:World)(n:Nat)(a:Option Addr)(m c:Nat)(h:w.heap[n]?=some (.cells #[.slice a m c] 110 (0,0))):
  Calls Tryz.prog 170 #[ptr n] w fun e w'=>e=.returned (.bool (decide (m=40)))/\w'=w:=by
 have c0:w.cell? ⟨n,0,none⟩=some (.slice a m c):=by simp[World.cell?,h]
 go_enter Tryz.func170,Tryz.ntmps170;go_wp2
 go_ret
 exact⟨by rw[show (decide (m=40))=((m:Int)==40) by rw[Bool.eq_iff_iff];simp;omega];rfl,rfl⟩
theorem WM(w:World)(n:Nat)(a:Option Addr)(c:Nat)(aa:Int)(p:Pk)(h:w.heap[n]?=some (.cells #[.slice a 40 c] 110 (0,0))):
  Calls Tryz.prog 245 #[ptr n,.int .i64 aa,pv p] w fun e w'=>e=.returned (.tuple #[])/\Below w.heap.size w w':=by
 obtain⟨k,cl,li,ln,sq,u,pa,o,pl,body⟩:=p;have HF:=Ac (fun w h=>JZ w n a 40 c h);have hl:=lt_of_block h;have HB:=Ac ((Below.refl w.heap.size w).alloc (afI _) (.cells #[.int .i64 k,.int .i64 cl,.int .i64 li,.int .i64 ln,.int .i64 sq,.int .i64 u,.int .i64 pa,.int .i64 o,.bool pl,.string (str body)] 82));have HH:=Ac (((Aa HB).block n hl).trans h);clear h;go_enter Tryz.func245,Tryz.ntmps245;go_wp2_with fail
 refine((Aa HF) _ (Aa HH)).mono ?_;rintro e w1 ⟨rfl,rfl⟩;go_wp2;go_returns;exact⟨rfl,Aa HB⟩
theorem R7(p:Pk)(hr:AR p)(w:World):Calls Tryz.prog 185 #[pv p] w fun e w'=>e=.returned (.string (str (Bm p)))/\Below w.heap.size w w':=by
 refine(KU p w).mono ?_;rintro e w' ⟨hb,⟨_,rfl⟩|⟨hn,_⟩⟩
 ·exact⟨rfl,hb⟩
 ·exact absurd hr hn
theorem TK(w:World)(aa:Int)(S:ByteArray)(j:Nat)(u:Value)(h:([.int .i64 aa,.string S,.bool false]:List Value)[j]?=some u):(w.alloc (.cells #[.int .i64 aa,.string S,.bool false] 166)).cell? ((⟨w.heap.size,0,none⟩:Addr).add j)=some u:=by
 rw[Addr.add_lit,agn,World.cell?_alloc_new w _ _ j,<-agj]at *;exact h
theorem Fy{v:Value}{xs:List Value}(h:w.ownsRow B e size v n xs)(hk:∀g,v.ownBlock=some g->w'.heap[g]?=w.heap[g]?):w'.ownsRow B e size v n xs:=by
 obtain⟨hl,h⟩:=h;refine⟨hl,?_⟩;rcases h with h|⟨g,cap,aa,rfl,hb,hg,r⟩
 ·exact afJ h
 ·exact afM ⟨g,cap,aa,rfl,hb,by rw[hk g rfl];exact hg,r⟩
theorem YM{BX w1 wz:World}{m va0 vn vc c:Nat}{a va:Option Addr}{TF:List Value}{aa:Int}{SB:ByteArray}(hl:n<w.heap.size)(h:w.heap[n]?=some (.cells #[.slice a m c] 110 (0,0)))(ag:(Value.slice a m c).ownBlock≠some n)(ab:Below w.heap.size w BX)(ac:Below BX.heap.size BX w1)(aj:n<w1.heap.size)
  (ad:wz.ownsRow 0 166 3 (.slice va vn vc) (m+1) (TF++[.int .i64 aa,.string SB,.bool false])) (hg:(w1.alloc (.cells #[.int .i64 aa,.string SB,.bool false] 166)).grownBy wz (Value.slice a m c).ownBlock) (ah:wz.heap[n]?=w1.heap[n]?)
  (ae:(Value.slice va vn vc).ownBlock=(Value.slice a m c).ownBlock\/(Value.slice va vn vc).ownBlock=some va0) (ak:w1.heap.size+1=va0):
  (wz.setCell ⟨n,0,none⟩ (.slice va vn vc)).ownsRow 0 166 3 (.slice va vn vc) (m+1) (TF++[.int .i64 aa,.string SB,.bool false])/\(wz.setCell ⟨n,0,none⟩ (.slice va vn vc)).heap[n]?=some (.cells #[.slice va vn vc] 110 (0,0)) /\
  ((Value.slice va vn vc).ownBlock=(Value.slice a m c).ownBlock\/∃j,(Value.slice va vn vc).ownBlock=some j/\w.heap.size<=j)/\Af (fun k=>k=n\/(Value.slice a m c).ownBlock=some k) w (wz.setCell ⟨n,0,none⟩ (.slice va vn vc)):=by
 have s0:=ab.size;have s1:=ac.size;have ai:(Value.slice va vn vc).ownBlock≠some n:=by
  rcases ae with e|e
  ·rw[e];exact ag
  ·rw[e];intro q;cases q;omega
 have hK:=Af.Al (F:=fun k=>k=n\/(Value.slice a m c).ownBlock=some k) (ab.trans (ac.mono s0));have af:=(hK.alloc (.cells #[.int .i64 aa,.string SB,.bool false] 166)).grown hg (fun k hk=>afJ (afM hk));refine⟨Fy ad (fun g hg=>?_),?_,?_,af.setCell (p:=⟨n,0,none⟩) (afJ (afJ rfl)) _⟩
 ·exact Below.heap_setCell _ _ _ _ (fun e=>ai (by rw[hg];exact congrArg some e))
 ·have:=Ai (cs:=[.slice a m c]) (off:=0) (ah.trans ((ac.block n (by omega)).trans ((ab.block n hl).trans h))) (.slice va vn vc);exact this
 ·rcases ae with e|e
  ·exact afJ e
  ·exact afM ⟨_,e,by omega⟩
theorem WN(w:World)(n:Nat)(a:Option Addr)(c:Nat)(fl:List R.Fl)(aa:Int)(p:Pk)(h:w.heap[n]?=some (.cells #[.slice a fl.length c] 110 (0,0)))(ab:w.ownsRow 0 166 3 (.slice a fl.length c) fl.length (tab BB fl))(aI:fl.length<40)(hr:AR p):
  Calls Tryz.prog 245 #[ptr n,.int .i64 aa,pv p] w fun e w'=>e=.returned (.tuple #[])/\Ea w n (.slice a fl.length c) (fl++[⟨aa,Bm p,false⟩]) w':=by
 have ak:=Ac (R7 p hr);obtain⟨SB,ao⟩:∃SB,SB=str (Bm p):=⟨_,rfl⟩;rw[<-ao]at ak;have aj:BB ⟨aa,Bm p,false⟩=[.int .i64 aa,.string SB,.bool false]:=by rw[ao];rfl
 obtain⟨m,hm⟩:∃m,m=fl.length:=⟨_,rfl⟩;rw[<-hm]at h ab aI ⊢;have az:Hid (∀w,w.heap[n]?=some (.cells #[.slice a m c] 110 (0,0))->Calls Tryz.prog 170 #[ptr n] w fun e w'=>e=.returned (.bool false)/\w'=w):=fun w h=>by
  have:=JZ w n a m c h;rw[show decide (m=40)=false by simp;omega]at this;exact this
 have ag:Hid (∀w' K',w'.ownsRow 0 166 3 K' (m+1) (tab BB fl++[.int .i64 aa,.string SB,.bool false])->w'.heap[n]?=some (.cells #[K'] 110 (0,0))->(K'.ownBlock=(Value.slice a m c).ownBlock\/∃j,K'.ownBlock=some j/\w.heap.size<=j)->Af (fun k=>k=n\/(Value.slice a m c).ownBlock=some k) w w'->Ea w n (.slice a m c) (fl++[⟨aa,Bm p,false⟩]) w'):=fun w' K' h1 h2 h3 h4=>by
  refine⟨⟨K',h2,?_,h3⟩,h4⟩;rw[EV,aj,afS,<-hm];exact h1
 clear aj ao;obtain⟨TF,ar⟩:∃TF,TF=tab BB fl:=⟨_,rfl⟩;rw[<-ar]at ab ag;clear ar hm;generalize Ea w n (.slice a m c) (fl++[⟨aa,Bm p,false⟩])=Post at *;clear hr;obtain⟨k,cl,li,ln,sq,u,pa,o,pl,body⟩:=p;show Calls Tryz.prog 245 #[ptr n,.int .i64 aa,NL k cl li ln sq u pa o pl (str body)] w _;have ak:Hid (∀w,Calls Tryz.prog 185 #[NL k cl li ln sq u pa o pl (str body)] w fun e w'=>e=.returned (.string SB)/\Below w.heap.size w w'):=ak;have hl:=lt_of_block h;have af:=World.ownsRow.lt ab;have an:(Value.slice a m c).ownBlock≠some n:=fun e=>by
  rcases ab.2 with ⟨hv,_⟩|⟨g,cap,aU,hv,_,hg,_⟩
  ·rw[hv]at e;cases e
  ·rw[hv]at e;cases e;exact AZ hg h (by decide) rfl
 obtain⟨BX,ah⟩:∃BX,w.alloc (.cells #[.int .i64 k,.int .i64 cl,.int .i64 li,.int .i64 ln,.int .i64 sq,.int .i64 u,.int .i64 pa,.int .i64 o,.bool pl,.string (str body)] 82)=BX:=⟨_,rfl⟩;have HB:Hid (Below w.heap.size w BX):=by
  rw[<-ah];exact(Below.refl w.heap.size w).alloc (afI _) _
 have aV:BX.heap.size=w.heap.size+1:=by rw[<-ah];simp
 have ac:BX.heap[w.heap.size]?=some (.cells #[.int .i64 k,.int .i64 cl,.int .i64 li,.int .i64 ln,.int .i64 sq,.int .i64 u,.int .i64 pa,.int .i64 o,.bool pl,.string (str body)] 82 (0,0)):=by
  rw[<-ah];exact heap_alloc_new w _
 have H0:=Ac h;have HH:=Ac (((Aa HB).block n hl).trans h);have aF:=Ac (Bu ab (Aa HB));have cn:BX.cell? ⟨n,0,none⟩=some (.slice a m c):=cell_of (Aa HH) 0 _ rfl;have zn:BX.frozen? ⟨n,0,none⟩=false:=open_list (Aa HH);generalize str body=SY at *;have c0:BX.cell? ⟨w.heap.size,0,none⟩=some (.int .i64 k):=cell_of ac 0 _ rfl;have c1:BX.cell? ⟨w.heap.size,1,none⟩=some (.int .i64 cl):=cell_of ac 1 _ rfl;have c2:BX.cell? ⟨w.heap.size,2,none⟩=some (.int .i64 li):=cell_of ac 2 _ rfl;have c3:BX.cell? ⟨w.heap.size,3,none⟩=some (.int .i64 ln):=cell_of ac 3 _ rfl;have c4:BX.cell? ⟨w.heap.size,4,none⟩=some (.int .i64 sq):=cell_of ac 4 _ rfl;have c5:BX.cell? ⟨w.heap.size,5,none⟩=some (.int .i64 u):=cell_of ac 5 _ rfl;have c6:BX.cell? ⟨w.heap.size,6,none⟩=some (.int .i64 pa):=cell_of ac 6 _ rfl;have c7:BX.cell? ⟨w.heap.size,7,none⟩=some (.int .i64 o):=cell_of ac 7 _ rfl;have c8:BX.cell? ⟨w.heap.size,8,none⟩=some (.bool pl):=cell_of ac 8 _ rfl;have c9:BX.cell? ⟨w.heap.size,9,none⟩=some (.string SY):=cell_of ac 9 _ rfl;have ay:=Ac ah;have aS:=Ac ac;have aT:=Ac af;have aB:Hid (∀(w1 wz:World) (am:w.heap.size<w1.heap.size),(w1.alloc (.cells #[.int .i64 aa,.string SB,.bool false] 166)).grownBy wz (Value.slice a m c).ownBlock->wz.heap[n]?=w1.heap[n]?/\wz.heap[w.heap.size]?=w1.heap[w.heap.size]?):=by
  intro w1 wz am hg;have q1:((w1.alloc (.cells #[.int .i64 aa,.string SB,.bool false] 166)).heap.size)=w1.heap.size+1:=by simp
  refine⟨(hg.block n (by omega) (fun e=>an e.symm)).trans (Below.heap_alloc _ _ _ (by omega)),(hg.block w.heap.size (by omega) (fun e=>?_)).trans (Below.heap_alloc _ _ _ am)⟩;have:=(af _ e.symm).2;omega
 have aD:=Ac an;have ap:n<BX.heap.size:=by omega
 have aN:w.heap.size<BX.heap.size:=by omega
 obtain⟨i0,hi,aO,aP,aQ⟩:=info_parts Tx;clear h ab ac ah af an;go_enter Tryz.func245,Tryz.ntmps245;go_wp2_with fail
 rw[Aa ay];refine((Aa az) _ (Aa HH)).mono ?_;rintro e w0 ⟨rfl,aw⟩;rw[aw];clear aw;go_wp2;go_region_law (first
  |(refine Av rfl 185 #[.tmp 14] #[82] rfl aew #[NL k cl li ln sq u pa o pl SY] rfl _ ((Aa ak) _) ?_;rintro e w1 ⟨rfl,ai⟩;have av:=ai.size;have aL:n<w1.heap.size:=afT ap av;have aq:=Ac (D7 ai);have aR:w1.frozen? ⟨n,0,none⟩=false:=(ai.frozen (p:=⟨n,0,none⟩) ap).trans zn;have aG:w1.cell? ⟨n,0,none⟩=some (.slice a m c):=(ai.cell (p:=⟨n,0,none⟩) ap).trans cn;have am:w.heap.size<w1.heap.size:=afT aN av;clear ai;refine⟨_,rfl,?_⟩)
  |(refine Bp rfl (.tmp 12) (.tmp 17) 108 rfl 0 166 i0 (.agg #[.int .i64 0,.string ⟨#[]⟩,.bool false]) 3 32 Tryz.underlying108 hi aO aP aQ rfl (by decide) (.slice a m c) m TF rfl (by exact(Bu (Aa aF) (Aa aq)).alloc _) ⟨w1.heap.size,0,none⟩ 1 1 [.int .i64 aa,.string SB,.bool false] rfl rfl (by exact TK w1 aa SB) (by simp[Value.oneCell']) (by unfold maxLen;omega) (by omega) (by omega) ?_;intro v' wz ae ad au;obtain⟨va,vn,vc,aM⟩:=Ar ae;subst aM;have aJ:=(Aa aB) _ _ am ad;obtain⟨al,aK⟩:=aJ;have gz:wz.frozen? ⟨n,0,none⟩=false:=(World.frozen?_of_block al).trans aR;have gn:wz.cell? ⟨n,0,none⟩=some (.slice a m c):=(World.cell?_of_block al).trans aG;have aE:=Ac ae;have aC:=Ac ad;have ax:=Ac au;have aA:=Ac al;clear ae ad au al aK))
 all_goals
  have aH:=YM hl (Aa H0) (Aa aD) (Aa HB) (Aa aq) aL (Aa aE) (Aa aC) (Aa aA) (Aa ax) (by simp);obtain⟨d1,d2,d3,d4⟩:=aH;have HD:=Ac ((Aa ag) _ _ d1 d2 d3 d4);clear d1 d2 d3 d4;go_wp2;go_returns;exact⟨rfl,Aa HD⟩
theorem AV{xs:List Value}(h:w.ownsRow B e size K n xs){ys:Array Value}{t:TypeId}{f:Nat×Nat}(hb:w.heap[b]?=some (.cells ys t f))(aa:e≠t):K.ownBlock≠some b:=fun q=>by
 rcases h.2 with ⟨rfl,_⟩|⟨g,cap,ab,rfl,_,hg,_⟩
 ·cases q
 ·cases q;exact AZ hg hb aa rfl
theorem FU{xs:List Value}(h:w.ownsRow B e size K n xs){es:Array MapEntry}{cl:Nat}(hb:w.heap[b]?=some (.map es cl)):K.ownBlock≠some b:=fun q=>by
 rcases h.2 with ⟨rfl,_⟩|⟨g,cap,aa,rfl,_,hg,_⟩
 ·cases q
 ·cases q;exact Fv hg hb rfl
theorem LW.net{p:Pl}(h:LW p F G w){fl:List R.Fl}(hK:w.heap[p.n]?=some (.cells #[K] 110 (0,0)))(hr:w.ownsRow 0 166 3 K G.Ak.length (tab BB G.Ak))(hn:Ea w p.n K fl w')(hf:∀j,K.ownBlock=some j->F j)(ah:R.Wf {G with Ak:=fl}):
  ∃F',LW p F' {G with Ak:=fl} w'/\Ap F F' w w':=by
 obtain⟨hx,ad,ae,ag⟩:=h.BP;obtain⟨⟨K',k1,k2,k3⟩,hk⟩:=hn;have sz:=hk.size;have at':∀{b:Nat} {ys:Array Value} {t:TypeId} {f:Nat×Nat},w.heap[b]?=some (.cells ys t f)->t≠110->t≠166->w'.heap[b]?=some (.cells ys t f):=fun hb h1 h2=>hk.at hb (by
  rintro (e|e)
  ·exact AZ hb hK h1 e
  ·exact AV hr hb (fun q=>h2 q.symm) e)
 have aa:∀{α:Type} {k:TypeId} {b:Nat} {lit:α->Lit} {g:α->Option Int} {n:Nat},Mp w k b lit g n->Mp w' k b lit g n:=fun hm=>by
  obtain⟨es,q,hq⟩:=hm.block;refine hm.keep hk ?_;rintro (e|e)
  ·exact(Fv hK hq) e.symm
  ·exact FU hr hq e
 have ac:Avoid w F (fun k=>k=p.n\/K.ownBlock=some k):=Avoid.tags (fun b hb=>by
  rcases hb with rfl|hb
  ·exact afJ ⟨_,_,_,hK,by decide⟩
  ·rcases hr.2 with ⟨rfl,_⟩|⟨g,cap,ab,rfl,_,hg,_⟩
   ·cases hb
   ·cases hb;exact afJ ⟨_,_,_,hg,by decide⟩)
 refine⟨fun k=>F k\/K'.ownBlock=some k,⟨ah,h.Db,at' h.bx (by decide) (by decide),?_,⟨K',k1,k2,fun j hj=>afM hj⟩,?_,aa h.names,fun i c hc=>at' (h.cl i c hc) (by decide) (by decide),fun i c hc=>?_,fun i c hc=>aa (h.bound i c hc),⟨afJ hx,afJ ad,afJ ae,afJ ag⟩,fun i hi=>?_,h.inj,fun k af=>?_⟩,?_⟩
 ·obtain⟨ab,h1,h2⟩:=h.XH;exact⟨ab,at' h1 (by decide) (by decide),h2⟩
 ·exact h.BN.keep hk ac (fun _ q=>afJ q)
 ·obtain⟨xs,h1,h2,h3⟩:=h.ln i c hc;exact⟨xs,at' h1 (by decide) (by decide),h2,h3.Eg hk ac.sv (fun _ q=>afJ q)⟩
 ·obtain⟨a1,a2,a3,a4⟩:=h.FG i hi;exact⟨afJ a1,afJ a2,afJ a3,a4⟩
 ·rcases af with q|q
  ·exact afT (h.lt k q) sz
  ·exact(World.ownsRow.lt k2 k q).2
 ·refine⟨hk.mono (fun k _ q=>?_),fun k q=>?_⟩
  ·rcases q with rfl|q
   ·exact ad
   ·exact hf k q
  ·rcases q with q|q
   ·exact afJ q
   ·rcases k3 with e|⟨j,e,hj⟩
    ·exact afJ (hf k (e ▸ q))
    ·rw[e]at q;cases q;exact afM hj
theorem AX{xs:List Value}(h:w.ownsRow B e size K n xs):∃a c,K=.slice a n c:=by
 rcases h.2 with ⟨rfl,rfl⟩|⟨g,cap,aa,rfl,_⟩
 ·exact⟨none,0,rfl⟩
 ·exact⟨_,_,rfl⟩
theorem LW.send{p:Pl}(h:LW p F G w)(to:Int)(pk:Pk)(hr:AR pk):
  Calls Tryz.prog 245 #[ptr p.n,.int .i64 to,pv pk] w fun e w'=>e=.returned (.tuple #[])/\∃F',LW p F' (R.Bg G to pk) w'/\Ap F F' w w':=by
 obtain⟨K,hK,aa,hf⟩:=h.bn;have ad:=h.wf.E3;have ab:=h.wf.Bg (to:=to) hr;obtain⟨a,c,rfl⟩:=AX aa;unfold R.Bg at ab ⊢;by_cases hl:G.Ak.length<40
 ·rw[if_pos hl]at ab ⊢;refine(WN w p.n a c G.Ak to pk hK aa hl hr).mono ?_;rintro e w' ⟨rfl,hn⟩;exact⟨rfl,h.net hK aa hn hf ab⟩
 ·rw[if_neg hl];have ac:G.Ak.length=40:=by omega
  rw[ac]at hK;refine(WM w p.n a c to pk hK).mono ?_;rintro e w' ⟨rfl,hb⟩;exact⟨rfl,F,h.below hb,Ap.Al F hb⟩
theorem LW.Ak{p:Pl}(h:LW p F G w):Calls Tryz.prog 31 #[ptr p.x] w fun e w'=>e=.returned (.int .i64 (G.Ak.length:Int))/\w'=w:=by
 obtain⟨K,hK,aa,_⟩:=h.bn;obtain⟨a,c,rfl⟩:=AX aa;have hx:=h.bx;have c0:w.cell? ⟨p.x,0,none⟩=some (ptr p.n):=cell_of hx 0 _ rfl;have c1:w.cell? ⟨p.n,0,none⟩=some (.slice a G.Ak.length c):=cell_of hK 0 _ rfl;clear hx hK aa h;generalize G.Ak.length=m at *;go_enter Tryz.func31,Tryz.ntmps31;go_wp2_with (first|(go_at_call 57;go_in))
 go_returns;exact⟨rfl,rfl⟩
theorem Rl(s:List UInt8):R.Ag s=((s.length:Int)+7) / 8:=by
 unfold R.Ag;omega
theorem CS(s:List UInt8)(w:World)(hs:s.length<=1000):Calls Tryz.prog 203 #[.string (str s)] w fun e w'=>e=.returned (.int .i64 (R.Ag s))/\w'=w:=by
 have hz:(str s).size=s.length:=Ax s;rw[Rl];generalize str s=S at *;generalize s.length=n at *;have e1:IntKind.i64.wrap ((n:Int)+8)=(n:Int)+8:=by rw[IntKind.wrap_i64];omega
 have e2:IntKind.i64.wrap ((n:Int)+8-1)=(n:Int)+7:=by rw[IntKind.wrap_i64];omega
 have e3:IntKind.i64.wrap (((n:Int)+7).tdiv 8)=((n:Int)+7) / 8:=by
  rw[ag8 (by omega),IntKind.wrap_i64];omega
 go_enter Tryz.func203,Tryz.ntmps203;go_wp2;go_returns;exact⟨rfl,rfl⟩
theorem Ox(s:List UInt8)(k:Nat)(w:World)(hs:s.length<=1000)(hk:8*k<s.length):Calls Tryz.prog 205 #[.string (str s),.int .i64 (k:Int)] w fun e w'=>e=.returned (.string (str (R.Be s (k:Int))))/\w'=w:=by
 have hz:(str s).size=s.length:=Ax s;have HP:Hid ((str s).extract (k*8) (min (k*8+8) s.length)=str (R.Be s (k:Int))):=by
  show _=_;rw[CP];congr 1;unfold R.Be;rw[afY,agF 8 k];apply agd;intro i;simp only[af7,agP];by_cases h1:i<8
  ·rw[if_pos h1];by_cases h2:i<min (k*8+8) s.length-k*8
   ·rw[if_pos h2]
   ·rw[if_neg h2,af5];omega
  ·rw[if_neg h1,if_neg];omega
 generalize str (R.Be s (k:Int))=T at *;generalize str s=S at *;generalize s.length=n at *;have e1:IntKind.i64.wrap ((k:Int)*8)=((k*8:Nat):Int):=by rw[IntKind.wrap_i64];omega
 have e2:IntKind.i64.wrap (((k*8:Nat):Int)+8)=((k*8+8:Nat):Int):=by rw[IntKind.wrap_i64];omega
 go_enter Tryz.func205,Tryz.ntmps205;go_wp2
 ·go_returns;refine⟨?_,rfl⟩;have:=Aa HP;rw[Nat.min_eq_right (by omega)]at this;rw[<-this];rfl
 ·go_returns;refine⟨?_,rfl⟩;have:=Aa HP;rw[Nat.min_eq_left (by omega)]at this;rw[<-this];show Ending.returned (Value.string (S.extract (k*8) ((k:Int)*8+8).toNat))=_;rw[show ((k:Int)*8+8).toNat=k*8+8 by omega]
end Go.Proofs.YtblomippkddgiabGreatDoor
