import Derived.Test.YtblomippkddgiaaGreatDoorK11
import Derived.Test.YtblomippkddgiaaGreatDoorK13
import Derived.Maps.Ext
import Derived.Handy
set_option maxRecDepth 100000
set_option maxHeartbeats 2000000
namespace Go.Proofs.YtblomippkddgiaaGreatDoor
open Go.RowKit Go.Maps
open Go.RowKit
def Mp{α:Type}(w:World)(k:TypeId)(b:Nat)(lit:α->Lit)(g:α->Option Int)(n:Nat):Prop:=
 ∃D:DataW Unit,w.ownsMap Tryz.prog k (plainElem Tryz.prog 3) b n D/\Maps.size D=n/\∀a,Maps.has D (lit a)=(g a).isSome/\∀v,g a=some v->D.atKey (lit a) (.lit (.int .i64 0))=.lit (.int .i64 v)
theorem Mp.keep{α:Type}{F:Aq}{w w':World}{k:TypeId}{b:Nat}{lit:α->Lit}{g:α->Option Int}{n:Nat}(h:Mp w k b lit g n)(hk:Af F w w')(hb:¬F b):Mp w' k b lit g n:=by
 obtain⟨D,h1,h2⟩:=h;exact⟨D,hk.map h1 hb,h2⟩
theorem Mp.lt{α:Type}{w:World}{k:TypeId}{b:Nat}{lit:α->Lit}{g:α->Option Int}{n:Nat}(h:Mp w k b lit g n):b<w.heap.size:=by
 obtain⟨D,h1,_⟩:=h;exact h1.lt
theorem Mp.block{α:Type}{w:World}{k:TypeId}{b:Nat}{lit:α->Lit}{g:α->Option Int}{n:Nat}(h:Mp w k b lit g n):∃es cl,w.heap[b]?=some (.map es cl):=by
 obtain⟨D,⟨es,cl,hb,_⟩,_⟩:=h;exact⟨es,cl,hb⟩
theorem Mp.congr{α:Type}{w:World}{k:TypeId}{b:Nat}{lit:α->Lit}{g g':α->Option Int}{n:Nat}(h:Mp w k b lit g n)(he:∀a,g' a=g a):Mp w k b lit g' n:=by
 obtain⟨D,h1,h2,h3⟩:=h;exact⟨D,h1,h2,fun a=>by rw[he a];exact h3 a⟩
structure DK where
 state:Int
 seq:Int
 rv:Value
 uid:Int
 proc:Int
 msg:List UInt8
 Ah:Int
 came:List UInt8
 wait:Int
 tries:Int
def DK.cells(x:DK):List Value:=[.int .i64 x.state,.int .i64 x.seq,x.rv,.int .i64 x.uid,.int .i64 x.proc,.string (str x.msg),.int .i64 x.Ah,.string (str x.came),.int .i64 x.wait,.int .i64 x.tries]
theorem DK.len(x:DK):x.cells.length=10:=rfl
structure MF(l:R.Ln)(x:DK):Prop where
 state:x.state=l.state
 seq:x.seq=l.seq
 res:l.state≠2->l.result=[]
 one:l.state=1->x.uid=l.uid/\x.msg=l.message/\x.Ah=l.Ah/\x.wait=l.wait/\x.tries=l.tries
 two:l.state=1->x.came=l.came/\(x.proc=0\/x.proc=1)/\l.message.take 2=AX x.proc
structure GZ(ls:List R.Ln)(xs:List DK):Prop where
 len:xs.length=ls.length
 each:∀(k:Nat) (l:R.Ln) (x:DK),ls[k]?=some l->xs[k]?=some x->MF l x
theorem GZ.get{ls:List R.Ln}{xs:List DK}(h:GZ ls xs){k:Nat}{l:R.Ln}(hl:ls[k]?=some l):∃x,xs[k]?=some x/\MF l x:=by
 have hk:=(List.getElem?_eq_some_iff.1 hl).1;obtain⟨x,hx⟩:∃x,xs[k]?=some x:=⟨xs[k]'(by rw[h.len];exact hk),List.getElem?_eq_getElem _⟩;exact⟨x,hx,h.each k l x hl hx⟩
theorem GZ.set{ls:List R.Ln}{xs:List DK}(h:GZ ls xs){k:Nat}{l:R.Ln}{x:DK}(hr:MF l x):GZ (ls.set k l) (xs.set k x):=by
 refine⟨by simpa using h.len,fun j a b ha hb=>?_⟩;rw[List.getElem?_set]at ha hb;have hl:=h.len;by_cases hj:k=j
 ·subst hj;simp only[if_true]at ha hb;split at ha
  ·cases ha;split at hb
   ·cases hb;exact hr
   ·cases hb
  ·cases ha
 ·simp only[hj,if_false]at ha hb;exact h.each j a b ha hb
def Eu(w:World)(F:Aq)(ls:List R.Ln)(xs:List DK):Prop:=∀(k:Nat) (l:R.Ln) (x:DK),ls[k]?=some l->xs[k]?=some x->BD w F x.rv l.result
theorem Eu.Ea{w w':World}{F E F':Aq}{ls:List R.Ln}{xs:List DK}(h:Eu w F ls xs)(hk:Af E w w')(ha:Kt w F E)(hF:∀k,F k->F' k):Eu w' F' ls xs:=fun k l x hl hx=>(h k l x hl hx).Ea hk ha hF
theorem Eu.set{w:World}{F:Aq}{ls:List R.Ln}{xs:List DK}(h:Eu w F ls xs){k:Nat}{l:R.Ln}{x:DK}(hr:BD w F x.rv l.result):Eu w F (ls.set k l) (xs.set k x):=by
 intro j a b ha hb;rw[List.getElem?_set]at ha hb;by_cases hj:k=j
 ·subst hj;simp only[if_true]at ha hb;split at ha
  ·cases ha;split at hb
   ·cases hb;exact hr
   ·cases hb
  ·cases ha
 ·simp only[hj,if_false]at ha hb;exact h j a b ha hb
def C6(f:R.Fl):List Value:=[.int .i64 f.to,.string (str f.s),.bool f.VS]
theorem IU(f:R.Fl):(C6 f).length=3:=rfl
structure Pl where
 x:Nat
 n:Nat
 s:Nat
 cs:Nat
 cap:Nat
 nm:Nat
 cb:Nat->Nat
 lb:Nat->Nat
 bm:Nat->Nat
 t:SP
abbrev N0(l:List UInt8):Lit:=.string l
abbrev Mm(u:Int):Lit:=.int .i64 u
def Bc(G:R.Wd)(s:List UInt8):Option Int:=(R.Dg G s).map fun k=>G.stands.getD k 0
def kindOf(G:R.Wd)(u:Int):Int:=((G.Ac[(u-1).toNat]?).map (·.kind)).getD 0
def BR(G:R.Wd)(c:R.Cl)(u:Int):Option Int:=if u∈c.bound then some (kindOf G u) else none
def dd(l:List Int):List Int:=l.foldl (fun acc u=>if u∈acc then acc else acc++[u]) []
abbrev abt(p:Pl)(n:Nat):Array Value:=#[ptr p.n,ptr p.s,.slice (some ⟨p.cs,0,none⟩) n p.cap]
abbrev V1(p:Pl)(G:R.Wd)(i:Nat)(c:R.Cl):Array Value:=#[.int .i64 (i:Int),.int .i64 c.Ag,.map (some (p.bm i)),.slice (some ⟨p.lb i,0,none⟩) c.lines.length c.lines.length,.int .i64 G.c.Be,.int .i64 G.c.tries,ptr p.n]
structure LW(p:Pl)(F:Aq)(G:R.Wd)(w:World):Prop where
 wf:R.Wf G
 Eb:R.KQ G.c G.Ai G.seen G.jobs
 bx:w.heap[p.x]?=some (.cells (abt p G.Ad.length) 84 (0,0))
 YF:∃cur:Array Value,w.heap[p.cs]?=some (.cells cur 89 (0,0))/\∀i,i<G.Ad.length->cur[i]?=some (ptr (p.cb i))
 bn:∃K,w.heap[p.n]?=some (.cells #[K] 113 (0,0))/\w.ownsRow 0 122 3 K G.Ao.length (tab C6 G.Ao)/\∀j,K.ownBlock=some j->F j
 Co:Cp p.s p.n p.nm p.t F G.c G.Ac G.Ai G.seen G.jobs w
 names:Mp w 9 p.nm N0 (Bc G) G.names.length
 cl:∀(i:Nat) (c:R.Cl),G.Ad[i]?=some c->w.heap[p.cb i]?=some (.cells (V1 p G i c) 134 (0,0))
 ln:∀(i:Nat) (c:R.Cl),G.Ad[i]?=some c->∃xs,w.heap[p.lb i]?=some (.cells (tab DK.cells xs).toArray 139 (0,0))/\GZ c.lines xs/\Eu w F c.lines xs
 bound:∀(i:Nat) (c:R.Cl),G.Ad[i]?=some c->Mp w 3 (p.bm i) Mm (BR G c) (dd c.bound).length
 BM:F p.x/\F p.n/\F p.cs/\F p.nm
 Gs:∀i,i<G.Ad.length->F (p.cb i)/\F (p.lb i)/\F (p.bm i)/\p.bm i≠p.nm
 inj:∀i j,i<G.Ad.length->j<G.Ad.length->i≠j->p.lb i≠p.lb j/\p.bm i≠p.bm j/\p.cb i≠p.cb j
 lt:∀k,F k->k<w.heap.size
theorem LW.elsewhere{p:Pl}{F E:Aq}{G:R.Wd}{w w':World}(h:LW p F G w)(hk:Af E w w')(ha:∀k,F k->¬E k):LW p F G w':=by
 obtain⟨hx,hn,hcs,hnm⟩:=h.BM;have hlen:=fun (i:Nat) (c:R.Cl) (hc:G.Ad[i]?=some c)=>(List.getElem?_eq_some_iff.1 hc).1
 have hav:Avoid w F E:=Avoid.apart ha;refine⟨h.wf,h.Eb,hk.at h.bx (ha _ hx),?_,?_,h.Co.keep hk hav (fun _ q=>q),h.names.keep hk (ha _ hnm),fun i c hc=>hk.at (h.cl i c hc) (ha _ (h.Gs i (hlen i c hc)).1),fun i c hc=>?_,fun i c hc=>(h.bound i c hc).keep hk (ha _ (h.Gs i (hlen i c hc)).2.2.1),h.BM,h.Gs,h.inj,fun k hf=>Nat.lt_of_lt_of_le (h.lt k hf) hk.size⟩
 ·obtain⟨cur,h1,h2⟩:=h.YF;exact⟨cur,hk.at h1 (ha _ hcs),h2⟩
 ·obtain⟨K,h1,h2,h3⟩:=h.bn;exact⟨K,hk.at h1 (ha _ hn),hk.row h2 (fun j hj=>ha j (h3 j hj)),h3⟩
 ·obtain⟨xs,h1,h2,h3⟩:=h.ln i c hc;exact⟨xs,hk.at h1 (ha _ (h.Gs i (hlen i c hc)).2.1),h2,h3.Ea hk hav.sv (fun _ q=>q)⟩
theorem LW.below{p:Pl}{F:Aq}{G:R.Wd}{w w':World}(h:LW p F G w)(hb:Below w.heap.size w w'):LW p F G w':=h.elsewhere (Af.Aj hb (fun _=>False)) (fun _ _ h=>h)
theorem LW.turn{p:Pl}{F:Aq}{G:R.Wd}{w w':World}(h:LW p F G w){i k:Nat}{c:R.Cl}{xs:List DK}{l':R.Ln}{x':DK}(hc:G.Ad[i]?=some c)(hL:w.heap[p.lb i]?=some (.cells (tab DK.cells xs).toArray 139 (0,0)))(hr:GZ c.lines xs)(hrs:Eu w F c.lines xs)
  (hk:Af (fun b=>b=p.lb i) w w') (hL':w'.heap[p.lb i]?=some (.cells (tab DK.cells (xs.set k x')).toArray 139 (0,0))) (hl':R.KM l') (hx':MF l' x') (hxr:BD w F x'.rv l'.result):LW p F (R.Al G i k l') w':=by
 obtain⟨hx,hn,hcs,hnm⟩:=h.BM;have hi:=(List.getElem?_eq_some_iff.1 hc).1;have hav:Avoid w F (fun b=>b=p.lb i):=Avoid.one hL (by decide);have hclen:(R.Al G i k l').Ad.length=G.Ad.length:=by simp[R.Al]
 have hcl:∀j c',(R.Al G i k l').Ad[j]?=some c'->∃c0,G.Ad[j]?=some c0/\c'=(if i=j then {c0 with lines:=c0.lines.set k l'} else c0):=fun j c' hj=>by
  rw[R.Bf]at hj;cases h0:G.Ad[j]? with
  |none=>rw[h0]at hj;cases hj
  |some c0=>rw[h0]at hj;exact⟨c0,rfl,(Option.some.inj hj).symm⟩
 have at':∀{b:Nat} {o:Obj},w.heap[b]?=some o->b≠p.lb i->w'.heap[b]?=some o:=fun hb hne=>hk.at hb hne
 refine⟨h.wf.Al hl',h.Eb,?_,?_,?_,?_,?_,fun j c' hj=>?_,fun j c' hj=>?_,fun j c' hj=>?_,h.BM,?_,?_,fun k hf=>Nat.lt_of_lt_of_le (h.lt k hf) hk.size⟩
 ·rw[hclen];exact at' h.bx (Bi h.bx hL (by decide))
 ·obtain⟨cur,h1,h2⟩:=h.YF;rw[hclen];exact⟨cur,at' h1 (Bi h1 hL (by decide)),h2⟩
 ·obtain⟨K,h1,h2,h3⟩:=h.bn;refine⟨K,at' h1 (Bi h1 hL (by decide)),hk.row h2 (fun j hj=>?_),h3⟩;rcases h2.2 with ⟨rfl,_⟩|⟨g,cap,cur,rfl,_,hg,_⟩
  ·cases hj
  ·cases hj;exact Bi hg hL (by decide)
 ·exact h.Co.keep hk hav (fun _ q=>q)
 ·obtain⟨es,q,hq⟩:=h.names.block;exact h.names.keep hk (Hr hL hq).symm
 ·obtain⟨c0,h0,rfl⟩:=hcl j c' hj;have:=at' (h.cl j c0 h0) (Bi (h.cl j c0 h0) hL (by decide));rw[this];split<;>simp[R.Al]
 ·obtain⟨c0,h0,rfl⟩:=hcl j c' hj;by_cases hij:i=j
  ·subst hij;obtain rfl:=Option.some.inj (hc.symm.trans h0);simp only[if_true];exact⟨_,hL',hr.set hx',(hrs.Ea hk hav.sv (fun _ q=>q)).set (hxr.Ea hk hav.sv (fun _ q=>q))⟩
  ·obtain⟨ys,h1,h2,h3⟩:=h.ln j c0 h0;simp only[hij,if_false];exact⟨ys,at' h1 ((h.inj j i (List.getElem?_eq_some_iff.1 h0).1 hi (fun e=>hij e.symm)).1),h2,h3.Ea hk hav.sv (fun _ q=>q)⟩
 ·obtain⟨c0,h0,rfl⟩:=hcl j c' hj;obtain⟨es,q,hq⟩:=(h.bound j c0 h0).block;have:=(h.bound j c0 h0).keep hk (Hr hL hq).symm;split<;>exact this
 ·rw[hclen];exact h.Gs
 ·rw[hclen];exact h.inj
theorem AR{ops:Array Oper}{o:Oper}{a:Act}{w:World}{K:Act->World->Prop}{Q:Exit->Act->World->Prop}{E:Prop}
  (hgd:o.guard=none) (f:Nat) (xs:Array Operand) (ts:Array TypeId) (ho:o.op=.call {callee:=.value (.func f),args:=xs,argTypes:=ts}) (hcf:∀args w,(callFunc f args).run Tryz.prog w=.ok (.enter f args) w)
  (vs:Array Value) (hv0:xs.toList.map a.eval=vs.toList) (R:Ending->World->Prop) (hC:Calls Tryz.prog f vs w R) (hR:∀e w',R e w'->∃v,e=.returned v/\K (a.put o.dst v) w'):
  if Region.wanted o (yielded ops a.tmps)=true then Oper.wp Tryz.prog o a w K Q else E:=by
 have hw:Region.wanted o (yielded ops a.tmps)=true:=by simp[Region.wanted,hgd]
 rw[if_pos hw];have hv:xs.map a.eval=vs:=by
  apply Array.ext';simpa using hv0
 clear hv0;subst hv;unfold Oper.wp;simp only[execOp,ho,resolve,invoke,Sem.run_bind];generalize Array.map a.eval xs=vs at hC ⊢;have hC2:Calls Tryz.prog f vs w (fun e w'=>∃v,e=.returned v/\K (a.put o.dst v) w'):=hC.mono hR;clear hC hR;simp[Deferred.ofValue,Act.eval,hcf,go_sem];refine hC2.mono ?_;rintro e w' ⟨v,rfl,hk⟩;exact hk
theorem acJ:∀args w,(callFunc 212 args).run Tryz.prog w=.ok (.enter 212 args) w:=fun _ _=>rfl
theorem D6{a b:World}(h:Below a.drew.heap.size a.drew b):Below a.heap.size a b:=⟨h.os,h.tape,h.output,h.size,h.block⟩
theorem Wy:(Tryz.prog.info? 122).map (fun i=>(i.zero,i.size,i.bytes))=some (some (.agg #[.int .i64 0,.string ⟨#[]⟩,.bool false]),3,32):=by kernel_rfl
structure Ge(w:World)(n:Nat)(K:Value)(fl:List R.Fl)(w':World):Prop where
 cell:∃K',w'.heap[n]?=some (.cells #[K'] 113 (0,0))/\w'.ownsRow 0 122 3 K' fl.length (tab C6 fl)/\(K'.ownBlock=K.ownBlock\/∃j,K'.ownBlock=some j/\w.heap.size<=j)
 keeps:Af (fun k=>k=n\/K.ownBlock=some k) w w'
theorem Pf(w:World)(n:Nat)(a:Option Addr)(m c:Nat)(h:w.heap[n]?=some (.cells #[.slice a m c] 113 (0,0))):
  Calls Tryz.prog 251 #[ptr n] w fun e w'=>e=.returned (.bool (decide (m=40)))/\w'=w:=by
 have c0:w.cell? ⟨n,0,none⟩=some (.slice a m c):=by simp[World.cell?,h]
 go_enter Tryz.func251,Tryz.ntmps251;go_wp2
 go_ret
 exact⟨by rw[show (decide (m=40))=((m:Int)==40) by rw[Bool.eq_iff_iff];simp;omega];rfl,rfl⟩
theorem U7(w:World)(n:Nat)(a:Option Addr)(c:Nat)(host:Int)(p:Pk)(h:w.heap[n]?=some (.cells #[.slice a 40 c] 113 (0,0))):
  Calls Tryz.prog 230 #[ptr n,.int .i64 host,pv p] w fun e w'=>e=.returned (.tuple #[])/\Below w.heap.size w w':=by
 obtain⟨k,cl,li,ln,sq,u,pa,o,pl,body⟩:=p;have HF:=Ab (fun w h=>Pf w n a 40 c h);have hl:=lt_of_block h;have HB:=Ab ((Below.refl w.heap.size w).alloc (Nat.le_refl _) (.cells #[.int .i64 k,.int .i64 cl,.int .i64 li,.int .i64 ln,.int .i64 sq,.int .i64 u,.int .i64 pa,.int .i64 o,.bool pl,.string (str body)] 41));have HH:=Ab (((Aa HB).block n hl).trans h);clear h;go_enter Tryz.func230,Tryz.ntmps230;go_wp2_with fail
 refine((Aa HF) _ (Aa HH)).mono ?_;rintro e w1 ⟨rfl,rfl⟩;go_wp2;go_returns;exact⟨rfl,Aa HB⟩
theorem QD(p:Pk)(hr:AJ p)(w:World):Calls Tryz.prog 212 #[pv p] w fun e w'=>e=.returned (.string (str (CB p)))/\Below w.heap.size w w':=by
 refine(Iq p w).mono ?_;rintro e w' ⟨hb,⟨_,rfl⟩|⟨hn,_⟩⟩
 ·exact⟨rfl,hb⟩
 ·exact absurd hr hn
theorem RQ(w:World)(host:Int)(S:ByteArray)(j:Nat)(u:Value)(h:([.int .i64 host,.string S,.bool false]:List Value)[j]?=some u):(w.alloc (.cells #[.int .i64 host,.string S,.bool false] 122)).cell? ((⟨w.heap.size,0,none⟩:Addr).add j)=some u:=by
 rw[Addr.add_lit,Nat.zero_add,World.cell?_alloc_new w _ _ j,<-List.getElem?_toArray]at *;exact h
theorem F9{w w':World}{B n size:Nat}{e:TypeId}{v:Value}{xs:List Value}(h:w.ownsRow B e size v n xs)(hk:∀g,v.ownBlock=some g->w'.heap[g]?=w.heap[g]?):w'.ownsRow B e size v n xs:=by
 obtain⟨hl,h⟩:=h;refine⟨hl,?_⟩;rcases h with h|⟨g,cap,cur,rfl,hb,hg,r⟩
 ·exact Or.inl h
 ·exact Or.inr ⟨g,cap,cur,rfl,hb,by rw[hk g rfl];exact hg,r⟩
theorem Xc{w BX w1 wz:World}{n m va0 vn vc c:Nat}{a va:Option Addr}{TF:List Value}{host:Int}{SB:ByteArray}(hl:n<w.heap.size)(h:w.heap[n]?=some (.cells #[.slice a m c] 113 (0,0)))(hOn:(Value.slice a m c).ownBlock≠some n)(hb0:Below w.heap.size w BX)(hb1:Below BX.heap.size BX w1)(hlw:n<w1.heap.size)
  (hown:wz.ownsRow 0 122 3 (.slice va vn vc) (m+1) (TF++[.int .i64 host,.string SB,.bool false])) (hg:(w1.alloc (.cells #[.int .i64 host,.string SB,.bool false] 122)).grownBy wz (Value.slice a m c).ownBlock) (hgn:wz.heap[n]?=w1.heap[n]?)
  (hat:(Value.slice va vn vc).ownBlock=(Value.slice a m c).ownBlock\/(Value.slice va vn vc).ownBlock=some va0) (hva:w1.heap.size+1=va0):
  (wz.setCell ⟨n,0,none⟩ (.slice va vn vc)).ownsRow 0 122 3 (.slice va vn vc) (m+1) (TF++[.int .i64 host,.string SB,.bool false])/\(wz.setCell ⟨n,0,none⟩ (.slice va vn vc)).heap[n]?=some (.cells #[.slice va vn vc] 113 (0,0)) /\
  ((Value.slice va vn vc).ownBlock=(Value.slice a m c).ownBlock\/∃j,(Value.slice va vn vc).ownBlock=some j/\w.heap.size<=j)/\Af (fun k=>k=n\/(Value.slice a m c).ownBlock=some k) w (wz.setCell ⟨n,0,none⟩ (.slice va vn vc)):=by
 have s0:=hb0.size;have s1:=hb1.size;have hne:(Value.slice va vn vc).ownBlock≠some n:=by
  rcases hat with e|e
  ·rw[e];exact hOn
  ·rw[e];intro q;cases q;omega
 have hK:=Af.Aj (F:=fun k=>k=n\/(Value.slice a m c).ownBlock=some k) (hb0.trans (hb1.mono s0));have hK2:=(hK.alloc (.cells #[.int .i64 host,.string SB,.bool false] 122)).grown hg (fun k hk=>Or.inl (Or.inr hk));refine⟨F9 hown (fun g hg=>?_),?_,?_,hK2.setCell (p:=⟨n,0,none⟩) (Or.inl (Or.inl rfl)) _⟩
 ·exact Below.heap_setCell _ _ _ _ (fun e=>hne (by rw[hg];exact congrArg some e))
 ·have:=Ak (cs:=[.slice a m c]) (off:=0) (hgn.trans ((hb1.block n (by omega)).trans ((hb0.block n hl).trans h))) (.slice va vn vc);exact this
 ·rcases hat with e|e
  ·exact Or.inl e
  ·exact Or.inr ⟨_,e,by omega⟩
theorem U8(w:World)(n:Nat)(a:Option Addr)(c:Nat)(fl:List R.Fl)(host:Int)(p:Pk)(h:w.heap[n]?=some (.cells #[.slice a fl.length c] 113 (0,0)))(hrow:w.ownsRow 0 122 3 (.slice a fl.length c) fl.length (tab C6 fl))(hfl:fl.length<40)(hr:AJ p):
  Calls Tryz.prog 230 #[ptr n,.int .i64 host,pv p] w fun e w'=>e=.returned (.tuple #[])/\Ge w n (.slice a fl.length c) (fl++[⟨host,CB p,false⟩]) w':=by
 have HWR:=Ab (QD p hr);obtain⟨SB,hSB⟩:∃SB,SB=str (CB p):=⟨_,rfl⟩;rw[<-hSB]at HWR;have hnew:C6 ⟨host,CB p,false⟩=[.int .i64 host,.string SB,.bool false]:=by rw[hSB];rfl
 obtain⟨m,hm⟩:∃m,m=fl.length:=⟨_,rfl⟩;rw[<-hm]at h hrow hfl ⊢;have HFN:Hid (∀w,w.heap[n]?=some (.cells #[.slice a m c] 113 (0,0))->Calls Tryz.prog 251 #[ptr n] w fun e w'=>e=.returned (.bool false)/\w'=w):=fun w h=>by
  have:=Pf w n a m c h;rw[show decide (m=40)=false by simp;omega]at this;exact this
 have HEND:Hid (∀w' K',w'.ownsRow 0 122 3 K' (m+1) (tab C6 fl++[.int .i64 host,.string SB,.bool false])->w'.heap[n]?=some (.cells #[K'] 113 (0,0))->(K'.ownBlock=(Value.slice a m c).ownBlock\/∃j,K'.ownBlock=some j/\w.heap.size<=j)->Af (fun k=>k=n\/(Value.slice a m c).ownBlock=some k) w w'->Ge w n (.slice a m c) (fl++[⟨host,CB p,false⟩]) w'):=fun w' K' h1 h2 h3 h4=>by
  refine⟨⟨K',h2,?_,h3⟩,h4⟩;rw[Fa,hnew,List.length_append,<-hm];exact h1
 clear hnew hSB;obtain⟨TF,hTF⟩:∃TF,TF=tab C6 fl:=⟨_,rfl⟩;rw[<-hTF]at hrow HEND;clear hTF hm;generalize Ge w n (.slice a m c) (fl++[⟨host,CB p,false⟩])=Post at *;clear hr;obtain⟨k,cl,li,ln,sq,u,pa,o,pl,body⟩:=p;show Calls Tryz.prog 230 #[ptr n,.int .i64 host,Ms k cl li ln sq u pa o pl (str body)] w _;have HWR:Hid (∀w,Calls Tryz.prog 212 #[Ms k cl li ln sq u pa o pl (str body)] w fun e w'=>e=.returned (.string SB)/\Below w.heap.size w w'):=HWR;have hl:=lt_of_block h;have hown:=World.ownsRow.lt hrow;have hOn:(Value.slice a m c).ownBlock≠some n:=fun e=>by
  rcases hrow.2 with ⟨hv,_⟩|⟨g,cap,cur,hv,_,hg,_⟩
  ·rw[hv]at e;cases e
  ·rw[hv]at e;cases e;exact Bi hg h (by decide) rfl
 obtain⟨BX,hBX⟩:∃BX,w.alloc (.cells #[.int .i64 k,.int .i64 cl,.int .i64 li,.int .i64 ln,.int .i64 sq,.int .i64 u,.int .i64 pa,.int .i64 o,.bool pl,.string (str body)] 41)=BX:=⟨_,rfl⟩;have HB:Hid (Below w.heap.size w BX):=by
  rw[<-hBX];exact(Below.refl w.heap.size w).alloc (Nat.le_refl _) _
 have hbs:BX.heap.size=w.heap.size+1:=by rw[<-hBX];simp
 have hbx:BX.heap[w.heap.size]?=some (.cells #[.int .i64 k,.int .i64 cl,.int .i64 li,.int .i64 ln,.int .i64 sq,.int .i64 u,.int .i64 pa,.int .i64 o,.bool pl,.string (str body)] 41 (0,0)):=by
  rw[<-hBX];exact heap_alloc_new w _
 have H0:=Ab h;have HH:=Ab (((Aa HB).block n hl).trans h);have HRW:=Ab (Bu hrow (Aa HB));have cn:BX.cell? ⟨n,0,none⟩=some (.slice a m c):=cell_of (Aa HH) 0 _ rfl;have zn:BX.frozen? ⟨n,0,none⟩=false:=open_list (Aa HH);generalize str body=SY at *;have c0:BX.cell? ⟨w.heap.size,0,none⟩=some (.int .i64 k):=cell_of hbx 0 _ rfl;have c1:BX.cell? ⟨w.heap.size,1,none⟩=some (.int .i64 cl):=cell_of hbx 1 _ rfl;have c2:BX.cell? ⟨w.heap.size,2,none⟩=some (.int .i64 li):=cell_of hbx 2 _ rfl;have c3:BX.cell? ⟨w.heap.size,3,none⟩=some (.int .i64 ln):=cell_of hbx 3 _ rfl;have c4:BX.cell? ⟨w.heap.size,4,none⟩=some (.int .i64 sq):=cell_of hbx 4 _ rfl;have c5:BX.cell? ⟨w.heap.size,5,none⟩=some (.int .i64 u):=cell_of hbx 5 _ rfl;have c6:BX.cell? ⟨w.heap.size,6,none⟩=some (.int .i64 pa):=cell_of hbx 6 _ rfl;have c7:BX.cell? ⟨w.heap.size,7,none⟩=some (.int .i64 o):=cell_of hbx 7 _ rfl;have c8:BX.cell? ⟨w.heap.size,8,none⟩=some (.bool pl):=cell_of hbx 8 _ rfl;have c9:BX.cell? ⟨w.heap.size,9,none⟩=some (.string SY):=cell_of hbx 9 _ rfl;have HBX:=Ab hBX;have HK9:=Ab hbx;have HOW:=Ab hown;have HGR:Hid (∀(w1 wz:World) (hlx:w.heap.size<w1.heap.size),(w1.alloc (.cells #[.int .i64 host,.string SB,.bool false] 122)).grownBy wz (Value.slice a m c).ownBlock->wz.heap[n]?=w1.heap[n]?/\wz.heap[w.heap.size]?=w1.heap[w.heap.size]?):=by
  intro w1 wz hlx hg;have q1:((w1.alloc (.cells #[.int .i64 host,.string SB,.bool false] 122)).heap.size)=w1.heap.size+1:=by simp
  refine⟨(hg.block n (by omega) (fun e=>hOn e.symm)).trans (Below.heap_alloc _ _ _ (by omega)),(hg.block w.heap.size (by omega) (fun e=>?_)).trans (Below.heap_alloc _ _ _ hlx)⟩;have:=(hown _ e.symm).2;omega
 have HON:=Ab hOn;have hlb:n<BX.heap.size:=by omega
 have hxb:w.heap.size<BX.heap.size:=by omega
 obtain⟨i0,hi,hz0,hz1,hz2⟩:=info_parts Wy;clear h hrow hbx hBX hown hOn;go_enter Tryz.func230,Tryz.ntmps230;go_wp2_with fail
 rw[Aa HBX];refine((Aa HFN) _ (Aa HH)).mono ?_;rintro e w0 ⟨rfl,hw0⟩;rw[hw0];clear hw0;go_wp2;go_region_law (first
  |(refine AR rfl 212 #[.tmp 14] #[41] rfl acJ #[Ms k cl li ln sq u pa o pl SY] rfl _ ((Aa HWR) _) ?_;rintro e w1 ⟨rfl,hb1⟩;have hs1:=hb1.size;have hlw:n<w1.heap.size:=Nat.lt_of_lt_of_le hlb hs1;have HB1:=Ab (D6 hb1);have hz3:w1.frozen? ⟨n,0,none⟩=false:=(hb1.frozen (p:=⟨n,0,none⟩) hlb).trans zn;have hc1:w1.cell? ⟨n,0,none⟩=some (.slice a m c):=(hb1.cell (p:=⟨n,0,none⟩) hlb).trans cn;have hlx:w.heap.size<w1.heap.size:=Nat.lt_of_lt_of_le hxb hs1;clear hb1;refine⟨_,rfl,?_⟩)
  |(refine Bs rfl (.tmp 12) (.tmp 17) 111 rfl 0 122 i0 (.agg #[.int .i64 0,.string ⟨#[]⟩,.bool false]) 3 32 Tryz.underlying111 hi hz0 hz1 hz2 rfl (by decide) (.slice a m c) m TF rfl (by exact(Bu (Aa HRW) (Aa HB1)).alloc _) ⟨w1.heap.size,0,none⟩ 1 1 [.int .i64 host,.string SB,.bool false] rfl rfl (by exact RQ w1 host SB) (by simp[Value.oneCell']) (by unfold maxLen;omega) (by omega) (by omega) ?_;intro v' wz hownz hgrow hat;obtain⟨va,vn,vc,hvs⟩:=Ar hownz;subst hvs;have hgg:=(Aa HGR) _ _ hlx hgrow;obtain⟨hgn,hgx⟩:=hgg;have gz:wz.frozen? ⟨n,0,none⟩=false:=(World.frozen?_of_block hgn).trans hz3;have gn:wz.cell? ⟨n,0,none⟩=some (.slice a m c):=(World.cell?_of_block hgn).trans hc1;have HOZ:=Ab hownz;have HGZ:=Ab hgrow;have HAT:=Ab hat;have HGN:=Ab hgn;clear hownz hgrow hat hgn hgx))
 all_goals
  have hdn:=Xc hl (Aa H0) (Aa HON) (Aa HB) (Aa HB1) hlw (Aa HOZ) (Aa HGZ) (Aa HGN) (Aa HAT) (by simp);obtain⟨d1,d2,d3,d4⟩:=hdn;have HD:=Ab ((Aa HEND) _ _ d1 d2 d3 d4);clear d1 d2 d3 d4;go_wp2;go_returns;exact⟨rfl,Aa HD⟩
theorem A6{w:World}{K:Value}{e:TypeId}{size n B:Nat}{xs:List Value}(h:w.ownsRow B e size K n xs){b:Nat}{ys:Array Value}{t:TypeId}{f:Nat×Nat}(hb:w.heap[b]?=some (.cells ys t f))(hne:e≠t):K.ownBlock≠some b:=fun q=>by
 rcases h.2 with ⟨rfl,_⟩|⟨g,cap,cur,rfl,_,hg,_⟩
 ·cases q
 ·cases q;exact Bi hg hb hne rfl
theorem Fw{w:World}{K:Value}{e:TypeId}{size n B:Nat}{xs:List Value}(h:w.ownsRow B e size K n xs){b:Nat}{es:Array MapEntry}{cl:Nat}(hb:w.heap[b]?=some (.map es cl)):K.ownBlock≠some b:=fun q=>by
 rcases h.2 with ⟨rfl,_⟩|⟨g,cap,cur,rfl,_,hg,_⟩
 ·cases q
 ·cases q;exact Hr hg hb rfl
theorem LW.net{p:Pl}{F:Aq}{G:R.Wd}{w w':World}(h:LW p F G w){K:Value}{fl:List R.Fl}(hK:w.heap[p.n]?=some (.cells #[K] 113 (0,0)))(hr:w.ownsRow 0 122 3 K G.Ao.length (tab C6 G.Ao))(hn:Ge w p.n K fl w')(hf:∀j,K.ownBlock=some j->F j)(hwf:R.Wf {G with Ao:=fl}):
  ∃F',LW p F' {G with Ao:=fl} w'/\Ay F F' w w':=by
 obtain⟨hx,hnn,hcs,hnm⟩:=h.BM;obtain⟨⟨K',k1,k2,k3⟩,hk⟩:=hn;have sz:=hk.size;have at':∀{b:Nat} {ys:Array Value} {t:TypeId} {f:Nat×Nat},w.heap[b]?=some (.cells ys t f)->t≠113->t≠122->w'.heap[b]?=some (.cells ys t f):=fun hb h1 h2=>hk.at hb (by
  rintro (e|e)
  ·exact Bi hb hK h1 e
  ·exact A6 hr hb (fun q=>h2 q.symm) e)
 have map':∀{α:Type} {k:TypeId} {b:Nat} {lit:α->Lit} {g:α->Option Int} {n:Nat},Mp w k b lit g n->Mp w' k b lit g n:=fun hm=>by
  obtain⟨es,q,hq⟩:=hm.block;refine hm.keep hk ?_;rintro (e|e)
  ·exact(Hr hK hq) e.symm
  ·exact Fw hr hq e
 have hav:Avoid w F (fun k=>k=p.n\/K.ownBlock=some k):=Avoid.tags (fun b hb=>by
  rcases hb with rfl|hb
  ·exact Or.inl ⟨_,_,_,hK,by decide⟩
  ·rcases hr.2 with ⟨rfl,_⟩|⟨g,cap,cur,rfl,_,hg,_⟩
   ·cases hb
   ·cases hb;exact Or.inl ⟨_,_,_,hg,by decide⟩)
 refine⟨fun k=>F k\/K'.ownBlock=some k,⟨hwf,h.Eb,at' h.bx (by decide) (by decide),?_,⟨K',k1,k2,fun j hj=>Or.inr hj⟩,?_,map' h.names,fun i c hc=>at' (h.cl i c hc) (by decide) (by decide),fun i c hc=>?_,fun i c hc=>map' (h.bound i c hc),⟨Or.inl hx,Or.inl hnn,Or.inl hcs,Or.inl hnm⟩,fun i hi=>?_,h.inj,fun k hk'=>?_⟩,?_⟩
 ·obtain⟨cur,h1,h2⟩:=h.YF;exact⟨cur,at' h1 (by decide) (by decide),h2⟩
 ·exact h.Co.keep hk hav (fun _ q=>Or.inl q)
 ·obtain⟨xs,h1,h2,h3⟩:=h.ln i c hc;exact⟨xs,at' h1 (by decide) (by decide),h2,h3.Ea hk hav.sv (fun _ q=>Or.inl q)⟩
 ·obtain⟨a1,a2,a3,a4⟩:=h.Gs i hi;exact⟨Or.inl a1,Or.inl a2,Or.inl a3,a4⟩
 ·rcases hk' with q|q
  ·exact Nat.lt_of_lt_of_le (h.lt k q) sz
  ·exact(World.ownsRow.lt k2 k q).2
 ·refine⟨hk.mono (fun k _ q=>?_),fun k q=>?_⟩
  ·rcases q with rfl|q
   ·exact hnn
   ·exact hf k q
  ·rcases q with q|q
   ·exact Or.inl q
   ·rcases k3 with e|⟨j,e,hj⟩
    ·exact Or.inl (hf k (e ▸ q))
    ·rw[e]at q;cases q;exact Or.inr hj
theorem Bg{w:World}{B n size:Nat}{e:TypeId}{K:Value}{xs:List Value}(h:w.ownsRow B e size K n xs):∃a c,K=.slice a n c:=by
 rcases h.2 with ⟨rfl,rfl⟩|⟨g,cap,cur,rfl,_⟩
 ·exact⟨none,0,rfl⟩
 ·exact⟨_,_,rfl⟩
theorem LW.send{p:Pl}{F:Aq}{G:R.Wd}{w:World}(h:LW p F G w)(to:Int)(pk:Pk)(hr:AJ pk):
  Calls Tryz.prog 230 #[ptr p.n,.int .i64 to,pv pk] w fun e w'=>e=.returned (.tuple #[])/\∃F',LW p F' (R.AU G to pk) w'/\Ay F F' w w':=by
 obtain⟨K,hK,hrow,hf⟩:=h.bn;have hfl:=h.wf.Ih;have hwf:=h.wf.AU (to:=to) hr;obtain⟨a,c,rfl⟩:=Bg hrow;unfold R.AU at hwf ⊢;by_cases hl:G.Ao.length<40
 ·rw[if_pos hl]at hwf ⊢;refine(U8 w p.n a c G.Ao to pk hK hrow hl hr).mono ?_;rintro e w' ⟨rfl,hn⟩;exact⟨rfl,h.net hK hrow hn hf hwf⟩
 ·rw[if_neg hl];have e40:G.Ao.length=40:=by omega
  rw[e40]at hK;refine(U7 w p.n a c to pk hK).mono ?_;rintro e w' ⟨rfl,hb⟩;exact⟨rfl,F,h.below hb,Ay.Aj F hb⟩
theorem P5(s:List UInt8):R.Ae s=((s.length:Int)+7) / 8:=by
 unfold R.Ae;omega
theorem C8(s:List UInt8)(w:World)(hs:s.length<=1000):Calls Tryz.prog 187 #[.string (str s)] w fun e w'=>e=.returned (.int .i64 (R.Ae s))/\w'=w:=by
 have hz:(str s).size=s.length:=Az s;rw[P5];generalize str s=S at *;generalize s.length=n at *;have e1:IntKind.i64.wrap ((n:Int)+8)=(n:Int)+8:=by rw[IntKind.wrap_i64];omega
 have e2:IntKind.i64.wrap ((n:Int)+8-1)=(n:Int)+7:=by rw[IntKind.wrap_i64];omega
 have e3:IntKind.i64.wrap (((n:Int)+7).tdiv 8)=((n:Int)+7) / 8:=by
  rw[Int.tdiv_eq_ediv_of_nonneg (by omega),IntKind.wrap_i64];omega
 go_enter Tryz.func187,Tryz.ntmps187;go_wp2;go_returns;exact⟨rfl,rfl⟩
theorem M4(s:List UInt8)(k:Nat)(w:World)(hs:s.length<=1000)(hk:8*k<s.length):Calls Tryz.prog 189 #[.string (str s),.int .i64 (k:Int)] w fun e w'=>e=.returned (.string (str (R.Bb s (k:Int))))/\w'=w:=by
 have hz:(str s).size=s.length:=Az s;have HP:Hid ((str s).extract (k*8) (min (k*8+8) s.length)=str (R.Bb s (k:Int))):=by
  show _=_;rw[CJ];congr 1;unfold R.Bb;rw[Int.toNat_natCast,Nat.mul_comm 8 k];apply List.ext_getElem?;intro i;simp only[List.getElem?_take,List.getElem?_drop];by_cases h1:i<8
  ·rw[if_pos h1];by_cases h2:i<min (k*8+8) s.length-k*8
   ·rw[if_pos h2]
   ·rw[if_neg h2,List.getElem?_eq_none];omega
  ·rw[if_neg h1,if_neg];omega
 generalize str (R.Bb s (k:Int))=T at *;generalize str s=S at *;generalize s.length=n at *;have e1:IntKind.i64.wrap ((k:Int)*8)=((k*8:Nat):Int):=by rw[IntKind.wrap_i64];omega
 have e2:IntKind.i64.wrap (((k*8:Nat):Int)+8)=((k*8+8:Nat):Int):=by rw[IntKind.wrap_i64];omega
 go_enter Tryz.func189,Tryz.ntmps189;go_wp2
 ·go_returns;refine⟨?_,rfl⟩;have:=Aa HP;rw[Nat.min_eq_right (by omega)]at this;rw[<-this];rfl
 ·go_returns;refine⟨?_,rfl⟩;have:=Aa HP;rw[Nat.min_eq_left (by omega)]at this;rw[<-this];show Ending.returned (Value.string (S.extract (k*8) ((k:Int)*8+8).toNat))=_;rw[show ((k:Int)*8+8).toNat=k*8+8 by omega]
end Go.Proofs.YtblomippkddgiaaGreatDoor
