import Derived.Test.YtblomippkddgiaaGreatDoorJ18
import Derived.Maps.Ext
namespace Go.Proofs.YtblomippkddgiaaGreatDoor
open Go.RowKit Go.Maps
open Go.RowKit
def Mp{α:Type}(w:World)(k:TypeId)(b:Nat)(lit:α->Lit)(g:α->Option Int)(n:Nat):Prop:=
 ∃D:DataW Unit,w.ownsMap Tryz.prog k (plainElem Tryz.prog 3) b n D/\Maps.size D=n/\∀a,Maps.has D (lit a)=(g a).isSome/\∀v,g a=some v->D.atKey (lit a) (.lit (.int .i64 0))=.lit (.int .i64 v)
theorem Mp.keep{α:Type}{F:Ag}{w w':World}{k:TypeId}{b:Nat}{lit:α->Lit}{g:α->Option Int}{n:Nat}(h:Mp w k b lit g n)(hk:Ae F w w')(hb:¬F b):Mp w' k b lit g n:=by
 obtain⟨D,h1,h2⟩:=h;exact⟨D,hk.map h1 hb,h2⟩
theorem Mp.lt{α:Type}{w:World}{k:TypeId}{b:Nat}{lit:α->Lit}{g:α->Option Int}{n:Nat}(h:Mp w k b lit g n):b<w.heap.size:=by
 obtain⟨D,h1,_⟩:=h;exact h1.lt
theorem Mp.block{α:Type}{w:World}{k:TypeId}{b:Nat}{lit:α->Lit}{g:α->Option Int}{n:Nat}(h:Mp w k b lit g n):∃es cl,w.heap[b]?=some (.map es cl):=by
 obtain⟨D,⟨es,cl,hb,_⟩,_⟩:=h;exact⟨es,cl,hb⟩
theorem Mp.congr{α:Type}{w:World}{k:TypeId}{b:Nat}{lit:α->Lit}{g g':α->Option Int}{n:Nat}(h:Mp w k b lit g n)(he:∀a,g' a=g a):Mp w k b lit g' n:=by
 obtain⟨D,h1,h2,h3⟩:=h;exact⟨D,h1,h2,fun a=>by rw[he a];exact h3 a⟩
structure Dl where
 state:Int
 seq:Int
 rv:Value
 uid:Int
 proc:Int
 msg:List UInt8
 Az:Int
 came:List UInt8
 wait:Int
 tries:Int
def Dl.cells(x:Dl):List Value:=[.int .i64 x.state,.int .i64 x.seq,x.rv,.int .i64 x.uid,.int .i64 x.proc,.string (str x.msg),.int .i64 x.Az,.string (str x.came),.int .i64 x.wait,.int .i64 x.tries]
theorem Dl.len(x:Dl):x.cells.length=10:=rfl
structure LB(l:R.Ln)(x:Dl):Prop where
 state:x.state=l.state
 seq:x.seq=l.seq
 res:l.state≠2->l.result=[]
 one:l.state=1->x.uid=l.uid/\x.msg=l.message/\x.Az=l.Az/\x.wait=l.wait/\x.tries=l.tries
 two:l.state=1->x.came=l.came/\(x.proc=0\/x.proc=1)/\l.message.take 2=AF x.proc
structure Fx(ls:List R.Ln)(xs:List Dl):Prop where
 len:xs.length=ls.length
 each:∀(k:Nat) (l:R.Ln) (x:Dl),ls[k]?=some l->xs[k]?=some x->LB l x
theorem Fx.get{ls:List R.Ln}{xs:List Dl}(h:Fx ls xs){k:Nat}{l:R.Ln}(hl:ls[k]?=some l):∃x,xs[k]?=some x/\LB l x:=by
 have hk:=(List.getElem?_eq_some_iff.1 hl).1;obtain⟨x,hx⟩:∃x,xs[k]?=some x:=⟨xs[k]'(by rw[h.len];exact hk),List.getElem?_eq_getElem _⟩;exact⟨x,hx,h.each k l x hl hx⟩
theorem Fx.set{ls:List R.Ln}{xs:List Dl}(h:Fx ls xs){k:Nat}{l:R.Ln}{x:Dl}(hr:LB l x):Fx (ls.set k l) (xs.set k x):=by
 refine⟨by simpa using h.len,fun j a b ha hb=>?_⟩;rw[List.getElem?_set]at ha hb;have hl:=h.len;by_cases hj:k=j
 ·subst hj;simp only[if_true]at ha hb;split at ha
  ·cases ha;split at hb
   ·cases hb;exact hr
   ·cases hb
  ·cases ha
 ·simp only[hj,if_false]at ha hb;exact h.each j a b ha hb
def Eg(w:World)(F:Ag)(ls:List R.Ln)(xs:List Dl):Prop:=∀(k:Nat) (l:R.Ln) (x:Dl),ls[k]?=some l->xs[k]?=some x->ED w F x.rv l.result
theorem Eg.Ed{w w':World}{F E F':Ag}{ls:List R.Ln}{xs:List Dl}(h:Eg w F ls xs)(hk:Ae E w w')(ha:Kz w F E)(hF:∀k,F k->F' k):Eg w' F' ls xs:=fun k l x hl hx=>(h k l x hl hx).Ed hk ha hF
theorem Eg.set{w:World}{F:Ag}{ls:List R.Ln}{xs:List Dl}(h:Eg w F ls xs){k:Nat}{l:R.Ln}{x:Dl}(hr:ED w F x.rv l.result):Eg w F (ls.set k l) (xs.set k x):=by
 intro j a b ha hb;rw[List.getElem?_set]at ha hb;by_cases hj:k=j
 ·subst hj;simp only[if_true]at ha hb;split at ha
  ·cases ha;split at hb
   ·cases hb;exact hr
   ·cases hb
  ·cases ha
 ·simp only[hj,if_false]at ha hb;exact h j a b ha hb
def A8(f:R.Fl):List Value:=[.int .i64 f.to,.string (str f.s),.bool f.Dn]
theorem Cq(f:R.Fl):(A8 f).length=3:=rfl
structure Pl where
 x:Nat
 n:Nat
 s:Nat
 cs:Nat
 cap:Nat
 nm:Nat
 cb:Nat->Nat
 lb:Nat->Nat
 bm:Nat->Nat
 t:SP
abbrev G9(l:List UInt8):Lit:=.string l
abbrev KY(u:Int):Lit:=.int .i64 u
def AP(G:R.Wd)(s:List UInt8):Option Int:=(R.Bh G s).map fun k=>G.stands.getD k 0
def kindOf(G:R.Wd)(u:Int):Int:=((G.Ac[(u-1).toNat]?).map (·.kind)).getD 0
def BU(G:R.Wd)(c:R.Cl)(u:Int):Option Int:=if u∈c.bound then some (kindOf G u) else none
def dd(l:List Int):List Int:=l.foldl (fun acc u=>if u∈acc then acc else acc++[u]) []
abbrev Y9(p:Pl)(n:Nat):Array Value:=#[ptr p.n,ptr p.s,.slice (some ⟨p.cs,0,none⟩) n p.cap]
abbrev TD(p:Pl)(G:R.Wd)(i:Nat)(c:R.Cl):Array Value:=#[.int .i64 (i:Int),.int .i64 c.Ax,.map (some (p.bm i)),.slice (some ⟨p.lb i,0,none⟩) c.lines.length c.lines.length,.int .i64 G.c.Al,.int .i64 G.c.tries,ptr p.n]
structure LW(p:Pl)(F:Ag)(G:R.Wd)(w:World):Prop where
 wf:R.Wf G
 CF:R.Ni G.c G.Ao G.seen G.jobs
 bx:w.heap[p.x]?=some (.cells (Y9 p G.Ad.length) 84 (0,0))
 VY:∃cur:Array Value,w.heap[p.cs]?=some (.cells cur 89 (0,0))/\∀i,i<G.Ad.length->cur[i]?=some (ptr (p.cb i))
 bn:∃K,w.heap[p.n]?=some (.cells #[K] 113 (0,0))/\w.ownsRow 0 122 3 K G.Af.length (tab A8 G.Af)/\∀j,K.ownBlock=some j->F j
 Eb:Dh p.s p.n p.nm p.t F G.c G.Ac G.Ao G.seen G.jobs w
 names:Mp w 9 p.nm G9 (AP G) G.names.length
 cl:∀(i:Nat) (c:R.Cl),G.Ad[i]?=some c->w.heap[p.cb i]?=some (.cells (TD p G i c) 134 (0,0))
 ln:∀(i:Nat) (c:R.Cl),G.Ad[i]?=some c->∃xs,w.heap[p.lb i]?=some (.cells (tab Dl.cells xs).toArray 139 (0,0))/\Fx c.lines xs/\Eg w F c.lines xs
 bound:∀(i:Nat) (c:R.Cl),G.Ad[i]?=some c->Mp w 3 (p.bm i) KY (BU G c) (dd c.bound).length
 A4:F p.x/\F p.n/\F p.cs/\F p.nm
 Bw:∀i,i<G.Ad.length->F (p.cb i)/\F (p.lb i)/\F (p.bm i)/\p.bm i≠p.nm
 inj:∀i j,i<G.Ad.length->j<G.Ad.length->i≠j->p.lb i≠p.lb j/\p.bm i≠p.bm j/\p.cb i≠p.cb j
 lt:∀k,F k->k<w.heap.size
theorem LW.elsewhere{p:Pl}{F E:Ag}{G:R.Wd}{w w':World}(h:LW p F G w)(hk:Ae E w w')(ha:∀k,F k->¬E k):LW p F G w':=by
 obtain⟨hx,hn,hcs,hnm⟩:=h.A4;have hlen:=fun (i:Nat) (c:R.Cl) (hc:G.Ad[i]?=some c)=>(List.getElem?_eq_some_iff.1 hc).1
 have hav:Avoid w F E:=Avoid.apart ha;refine⟨h.wf,h.CF,hk.at h.bx (ha _ hx),?_,?_,h.Eb.keep hk hav (fun _ q=>q),h.names.keep hk (ha _ hnm),fun i c hc=>hk.at (h.cl i c hc) (ha _ (h.Bw i (hlen i c hc)).1),fun i c hc=>?_,fun i c hc=>(h.bound i c hc).keep hk (ha _ (h.Bw i (hlen i c hc)).2.2.1),h.A4,h.Bw,h.inj,fun k hf=>Nat.lt_of_lt_of_le (h.lt k hf) hk.size⟩
 ·obtain⟨cur,h1,h2⟩:=h.VY;exact⟨cur,hk.at h1 (ha _ hcs),h2⟩
 ·obtain⟨K,h1,h2,h3⟩:=h.bn;exact⟨K,hk.at h1 (ha _ hn),hk.row h2 (fun j hj=>ha j (h3 j hj)),h3⟩
 ·obtain⟨xs,h1,h2,h3⟩:=h.ln i c hc;exact⟨xs,hk.at h1 (ha _ (h.Bw i (hlen i c hc)).2.1),h2,h3.Ed hk hav.sv (fun _ q=>q)⟩
theorem LW.below{p:Pl}{F:Ag}{G:R.Wd}{w w':World}(h:LW p F G w)(hb:Below w.heap.size w w'):LW p F G w':=h.elsewhere (Ae.Aq hb (fun _=>False)) (fun _ _ h=>h)
theorem LW.turn{p:Pl}{F:Ag}{G:R.Wd}{w w':World}(h:LW p F G w){i k:Nat}{c:R.Cl}{xs:List Dl}{l':R.Ln}{x':Dl}(hc:G.Ad[i]?=some c)(hL:w.heap[p.lb i]?=some (.cells (tab Dl.cells xs).toArray 139 (0,0)))(hr:Fx c.lines xs)(hrs:Eg w F c.lines xs)
  (hk:Ae (fun b=>b=p.lb i) w w') (hL':w'.heap[p.lb i]?=some (.cells (tab Dl.cells (xs.set k x')).toArray 139 (0,0))) (hl':R.Nc l') (hx':LB l' x') (hxr:ED w F x'.rv l'.result):LW p F (R.Ar G i k l') w':=by
 obtain⟨hx,hn,hcs,hnm⟩:=h.A4;have hi:=(List.getElem?_eq_some_iff.1 hc).1;have hav:Avoid w F (fun b=>b=p.lb i):=Avoid.one hL (by decide);have hclen:(R.Ar G i k l').Ad.length=G.Ad.length:=by simp[R.Ar]
 have hcl:∀j c',(R.Ar G i k l').Ad[j]?=some c'->∃c0,G.Ad[j]?=some c0/\c'=(if i=j then {c0 with lines:=c0.lines.set k l'} else c0):=fun j c' hj=>by
  rw[R.BK]at hj;cases h0:G.Ad[j]? with
  |none=>rw[h0]at hj;cases hj
  |some c0=>rw[h0]at hj;exact⟨c0,rfl,(Option.some.inj hj).symm⟩
 have at':∀{b:Nat} {o:Obj},w.heap[b]?=some o->b≠p.lb i->w'.heap[b]?=some o:=fun hb hne=>hk.at hb hne
 refine⟨h.wf.Ar hl',h.CF,?_,?_,?_,?_,?_,fun j c' hj=>?_,fun j c' hj=>?_,fun j c' hj=>?_,h.A4,?_,?_,fun k hf=>Nat.lt_of_lt_of_le (h.lt k hf) hk.size⟩
 ·rw[hclen];exact at' h.bx (AO h.bx hL (by decide))
 ·obtain⟨cur,h1,h2⟩:=h.VY;rw[hclen];exact⟨cur,at' h1 (AO h1 hL (by decide)),h2⟩
 ·obtain⟨K,h1,h2,h3⟩:=h.bn;refine⟨K,at' h1 (AO h1 hL (by decide)),hk.row h2 (fun j hj=>?_),h3⟩;rcases h2.2 with ⟨rfl,_⟩|⟨g,cap,cur,rfl,_,hg,_⟩
  ·cases hj
  ·cases hj;exact AO hg hL (by decide)
 ·exact h.Eb.keep hk hav (fun _ q=>q)
 ·obtain⟨es,q,hq⟩:=h.names.block;exact h.names.keep hk (FG hL hq).symm
 ·obtain⟨c0,h0,rfl⟩:=hcl j c' hj;have:=at' (h.cl j c0 h0) (AO (h.cl j c0 h0) hL (by decide));rw[this];split<;>simp[R.Ar]
 ·obtain⟨c0,h0,rfl⟩:=hcl j c' hj;by_cases hij:i=j
  ·subst hij;obtain rfl:=Option.some.inj (hc.symm.trans h0);simp only[if_true];exact⟨_,hL',hr.set hx',(hrs.Ed hk hav.sv (fun _ q=>q)).set (hxr.Ed hk hav.sv (fun _ q=>q))⟩
  ·obtain⟨ys,h1,h2,h3⟩:=h.ln j c0 h0;simp only[hij,if_false];exact⟨ys,at' h1 ((h.inj j i (List.getElem?_eq_some_iff.1 h0).1 hi (fun e=>hij e.symm)).1),h2,h3.Ed hk hav.sv (fun _ q=>q)⟩
 ·obtain⟨c0,h0,rfl⟩:=hcl j c' hj;obtain⟨es,q,hq⟩:=(h.bound j c0 h0).block;have:=(h.bound j c0 h0).keep hk (FG hL hq).symm;split<;>exact this
 ·rw[hclen];exact h.Bw
 ·rw[hclen];exact h.inj
structure Tw where
 p:Pl
 F:Ag
 x:Nat
 v:RV
 E:Ag
 G:R.Wd
def Tw.A4(t:Tw):Ag:=fun k=>t.F k\/t.E k
def JU(t:Tw):List Value:=[ptr t.p.x,Av t.x]
theorem Qo(t:Tw):(JU t).length=2:=rfl
structure Ci(N:Nat)(t:Tw)(w:World):Prop where
 l:LW t.p t.F t.G w
 r:RW t.x t.v t.E t.G w
 ap:∀k,t.F k->¬t.E k
 bd:∀c∈t.G.Ad,c.bound.length<=N
theorem Ci.lt{N:Nat}{t:Tw}{w:World}(h:Ci N t w):∀k,t.A4 k->k<w.heap.size:=fun k hk=>hk.elim (h.l.lt k) (h.r.lt k)
theorem Ci.elsewhere{N:Nat}{t:Tw}{E:Ag}{w w':World}(h:Ci N t w)(hk:Ae E w w')(ha:∀k,t.A4 k->¬E k):Ci N t w':=⟨h.l.elsewhere hk (fun k q=>ha k (Or.inl q)),h.r.elsewhere hk (fun k q=>ha k (Or.inr q)),h.ap,h.bd⟩
theorem Ci.below{N:Nat}{t:Tw}{w w':World}(h:Ci N t w)(hb:Below w.heap.size w w'):Ci N t w':=h.elsewhere (Ae.Aq hb (fun _=>False)) (fun _ _ q=>q)
theorem Ci.left{N:Nat}{t:Tw}{w w1:World}(h:Ci N t w){F':Ag}(g:Ah t.F F' w w1):RW t.x t.v t.E t.G w1:=h.r.elsewhere g.keeps (fun k q f=>h.ap k f q)
theorem Ci.both{N N':Nat}{t:Tw}{w w1 w2:World}(h:Ci N t w){p':Pl}{F' E':Ag}{v':RV}{G':R.Wd}(h1:LW p' F' G' w1)(g1:Ah t.F F' w w1)(h2:RW t.x v' E' G' w2)(g2:Ah t.E E' w1 w2)(hb:∀c∈G'.Ad,c.bound.length<=N'):
  Ci N' ⟨p',F',t.x,v',E',G'⟩ w2/\Ah t.A4 (Tw.A4 ⟨p',F',t.x,v',E',G'⟩) w w2:=by
 have a1:∀k,F' k->¬t.E k:=g1.apart h.r.lt h.ap;have a2:∀k,F' k->¬E' k:=fun k hf he=>g2.apart h1.lt (fun k q f=>a1 k f q) k he hf
 refine⟨⟨h1.elsewhere g2.keeps a1,h2,a2,hb⟩,⟨(g1.keeps.mono (fun _ _ q=>Or.inl q)).andThen g2.keeps (fun _ _ q=>Or.inr q),fun k hk=>?_⟩⟩;rcases hk with hk|hk
 ·rcases g1.fresh k hk with q|q
  ·exact Or.inl (Or.inl q)
  ·exact Or.inr q
 ·rcases g2.fresh k hk with q|q
  ·exact Or.inl (Or.inr q)
  ·exact Or.inr (Nat.le_trans g1.keeps.size q)
structure Hn(w0:World)(z:Nat->Option Obj)(b N:Nat)(Ts:List Tw)(L:List V.Kp)(lv K:Value)(w:World):Prop where
 bo:V.Bo b L lv K w
 row:w.ownsRow 0 109 2 lv Ts.length (tab JU Ts)
 tw:∀t∈Ts,Ci N t w
 inj:∀(i j:Nat) (t s:Tw),Ts[i]?=some t->Ts[j]?=some s->i≠j->∀k,t.A4 k->¬s.A4 k
 out:∀t∈Ts,∀k,t.A4 k->¬V.Iu b L K k/\lv.ownBlock≠some k
 Ix:Below w0.heap.size w0 w
 base:∀k,(V.Iu b L K k\/lv.ownBlock=some k\/∃t∈Ts,t.A4 k)->w0.heap.size<=k
 kept:∀k o,z k=some o->w.heap[k]?=some o
 F9:∀k,(V.Iu b L K k\/lv.ownBlock=some k\/∃t∈Ts,t.A4 k)->z k=none
theorem Hn.PT{w0:World}{z:Nat->Option Obj}{b N:Nat}{Ts:List Tw}{L:List V.Kp}{lv K:Value}{w:World}(h:Hn w0 z b N Ts L lv K w):∀j,lv.ownBlock=some j->¬V.Iu b L K j:=fun j hj hq=>by
 rcases hq with rfl|q|⟨k,hk,t,ht,q⟩
 ·exact Bv h.row h.bo.cell (by decide) hj
 ·exact Ld h.row h.bo.row (by decide) j hj q
 ·obtain⟨B,hm⟩:=(h.bo.good k hk).2 t ht;exact Ld h.row hm (by decide) j hj q
theorem Hn.free{w0:World}{z:Nat->Option Obj}{b N:Nat}{Ts:List Tw}{L:List V.Kp}{lv K:Value}{w:World}(h:Hn w0 z b N Ts L lv K w):∀k,w.heap.size<=k->z k=none:=fun k hk=>by
 cases hz:z k with
 |none=>rfl
 |some o=>
  have:=(Array.getElem?_eq_some_iff.1 (h.kept k o hz)).1;omega
theorem Hn.elsewhere{w0:World}{z:Nat->Option Obj}{b N:Nat}{Ts:List Tw}{L:List V.Kp}{lv K:Value}{w w':World}{E:Ag}(h:Hn w0 z b N Ts L lv K w)(hk:Ae E w w')(ha:∀k,(V.Iu b L K k\/lv.ownBlock=some k\/∃t∈Ts,t.A4 k)->¬E k)(hE:∀k,E k->w0.heap.size<=k/\z k=none):Hn w0 z b N Ts L lv K w':=
 ⟨h.bo.keep hk (fun j q=>ha j (Or.inl q)),hk.row h.row (fun j q=>ha j (Or.inr (Or.inl q))),fun t ht=>(h.tw t ht).elsewhere hk (fun k q=>ha k (Or.inr (Or.inr ⟨t,ht,q⟩))),h.inj,h.out,h.Ix.trans (hk.below h.Ix.size (fun k q=>(hE k q).1)),h.base,fun k o q=>hk.at (h.kept k o q) (fun e=>by rw[(hE k e).2]at q;cases q),h.F9⟩
theorem Hn.below{w0:World}{z:Nat->Option Obj}{b N:Nat}{Ts:List Tw}{L:List V.Kp}{lv K:Value}{w w':World}(h:Hn w0 z b N Ts L lv K w)(hb:Below w.heap.size w w'):Hn w0 z b N Ts L lv K w':=h.elsewhere (Ae.Aq hb (fun _=>False)) (fun _ _ q=>q) (fun _ q=>q.elim)
theorem Hn.lt{w0:World}{z:Nat->Option Obj}{b N:Nat}{Ts:List Tw}{L:List V.Kp}{lv K:Value}{w:World}(h:Hn w0 z b N Ts L lv K w):∀k,(V.Iu b L K k\/lv.ownBlock=some k\/∃t∈Ts,t.A4 k)->k<w.heap.size:=fun k hk=>by
 rcases hk with q|q|⟨t,ht,q⟩
 ·exact h.bo.lt q
 ·exact(h.row.lt k q).2
 ·exact(h.tw t ht).lt k q
theorem Hn.more{w0:World}{z:Nat->Option Obj}{b N N':Nat}{Ts:List Tw}{L:List V.Kp}{lv K:Value}{w:World}(h:Hn w0 z b N Ts L lv K w)(hN:N<=N'):Hn w0 z b N' Ts L lv K w:=
 ⟨h.bo,h.row,fun t ht=>⟨(h.tw t ht).l,(h.tw t ht).r,(h.tw t ht).ap,fun c hc=>Nat.le_trans ((h.tw t ht).bd c hc) hN⟩,h.inj,h.out,h.Ix,h.base,h.kept,h.F9⟩
theorem YW{Ts:List Tw}{i:Nat}{t t':Tw}(hi:Ts[i]?=some t)(hp:t'.p.x=t.p.x)(hx:t'.x=t.x):tab JU (Ts.set i t')=tab JU Ts:=by
 have e:JU t'=JU t:=by simp[JU,hp,hx]
 induction Ts generalizing i with
 |nil=>rfl
 |cons a Ts ih=>
  cases i with
  |zero=>
   simp at hi;subst hi;simp[tab,e]
  |succ i=>
   have:=ih (i:=i) (by simpa using hi);simp only[tab,List.set_cons_succ,List.flatMap_cons]at this ⊢;rw[this]
theorem Hn.step{w0:World}{z:Nat->Option Obj}{b N N':Nat}{Ts:List Tw}{L:List V.Kp}{lv K:Value}{w w':World}(h:Hn w0 z b N Ts L lv K w){i:Nat}{t t':Tw}(hi:Ts[i]?=some t)(ht:Ci N' t' w')(hw:Ah t.A4 t'.A4 w w')(hp:t'.p.x=t.p.x)(hx:t'.x=t.x)(hN:N<=N'):Hn w0 z b N' (Ts.set i t') L lv K w':=by
 have hm:=List.mem_of_getElem? hi;have hl:=(List.getElem?_eq_some_iff.1 hi).1;have hb:∀k,t.A4 k->w0.heap.size<=k:=fun k q=>h.base k (Or.inr (Or.inr ⟨t,hm,q⟩))
 have hget:∀(j:Nat) (s:Tw),(Ts.set i t')[j]?=some s->(j=i/\s=t')\/(j≠i/\Ts[j]?=some s):=fun j s hj=>by
  rw[List.getElem?_set]at hj;by_cases e:i=j
  ·subst e;rw[if_pos rfl,if_pos hl]at hj;exact Or.inl ⟨rfl,(Option.some.inj hj).symm⟩
  ·rw[if_neg e]at hj;exact Or.inr ⟨fun q=>e q.symm,hj⟩
 have hmem:∀s∈Ts.set i t',s=t'\/∃j,j≠i/\Ts[j]?=some s:=fun s hs=>by
  obtain⟨j,hj⟩:=List.mem_iff_getElem?.1 hs;rcases hget j s hj with ⟨_,q⟩|q
  ·exact Or.inl q
  ·exact Or.inr ⟨j,q⟩
 have hap:∀(j:Nat) (s:Tw),j≠i->Ts[j]?=some s->∀k,t'.A4 k->¬s.A4 k:=fun j s hj hs k hk hsk=>by
  rcases hw.fresh k hk with q|q
  ·exact h.inj i j t s hi hs (fun e=>hj e.symm) k q hsk
  ·have:=(h.tw s (List.mem_of_getElem? hs)).lt k hsk;omega
 refine⟨h.bo.keep hw.keeps (fun j q f=>(h.out t hm j f).1 q),?_,fun s hs=>?_,fun a c s u hs hu hne=>?_,fun s hs k hk=>?_,h.Ix.trans (hw.keeps.below h.Ix.size hb),fun k hk=>?_,fun k o q=>hw.keeps.at (h.kept k o q) (fun f=>by rw[h.F9 k (Or.inr (Or.inr ⟨t,hm,f⟩))]at q;cases q),fun k hk=>?_⟩
 ·rw[List.length_set,YW hi hp hx];exact hw.keeps.row h.row (fun j q f=>(h.out t hm j f).2 q)
 ·rcases hmem s hs with rfl|⟨j,hj,hs⟩
  ·exact ht
  ·have h1:=(h.tw s (List.mem_of_getElem? hs)).elsewhere hw.keeps (fun k q f=>h.inj j i s t hs hi hj k q f);exact⟨h1.l,h1.r,h1.ap,fun c hc=>Nat.le_trans (h1.bd c hc) hN⟩
 ·rcases hget a s hs with ⟨rfl,rfl⟩|⟨q1,q2⟩
  ·rcases hget c u hu with ⟨rfl,rfl⟩|⟨r1,r2⟩
   ·exact absurd rfl hne
   ·exact hap c u r1 r2
  ·rcases hget c u hu with ⟨rfl,rfl⟩|⟨r1,r2⟩
   ·exact fun k f g=>hap a s q1 q2 k g f
   ·exact h.inj a c s u q2 r2 hne
 ·rcases hmem s hs with rfl|⟨j,hj,hs⟩
  ·rcases hw.fresh k hk with q|q
   ·exact h.out t hm k q
   ·exact⟨fun f=>by have:=h.lt k (Or.inl f);omega,fun f=>by have:=h.lt k (Or.inr (Or.inl f));omega⟩
  ·exact h.out s (List.mem_of_getElem? hs) k hk
 ·rcases hk with q|q|⟨s,hs,q⟩
  ·exact h.base k (Or.inl q)
  ·exact h.base k (Or.inr (Or.inl q))
  ·rcases hmem s hs with rfl|⟨j,hj,hs⟩
   ·rcases hw.fresh k q with q|q
    ·exact hb k q
    ·exact Nat.le_trans h.Ix.size q
   ·exact h.base k (Or.inr (Or.inr ⟨s,List.mem_of_getElem? hs,q⟩))
 ·rcases hk with q|q|⟨s,hs,q⟩
  ·exact h.F9 k (Or.inl q)
  ·exact h.F9 k (Or.inr (Or.inl q))
  ·rcases hmem s hs with rfl|⟨j,hj,hs⟩
   ·rcases hw.fresh k q with q|q
    ·exact h.F9 k (Or.inr (Or.inr ⟨t,hm,q⟩))
    ·exact h.free k q
   ·exact h.F9 k (Or.inr (Or.inr ⟨s,List.mem_of_getElem? hs,q⟩))
theorem Hn.took{w0:World}{z:Nat->Option Obj}{b N:Nat}{Ts:List Tw}{L L':List V.Kp}{lv K K' O:Value}{w w':World}(h:Hn w0 z b N Ts L lv K w)(hO:∀j,O.ownBlock=some j->w0.heap.size<=j/\z j=none/\lv.ownBlock≠some j/\∀t∈Ts,¬t.A4 j)(hb:V.Bo b L' lv K' w')(hw:Ah (fun j=>V.Iu b L K j\/O.ownBlock=some j) (V.Iu b L' K') w w'):Hn w0 z b N Ts L' lv K' w':=by
 refine⟨hb,hw.keeps.row h.row (fun j q f=>?_),fun t ht=>(h.tw t ht).elsewhere hw.keeps (fun k q f=>?_),h.inj,fun t ht k hk=>⟨fun f=>?_,(h.out t ht k hk).2⟩,h.Ix.trans (hw.keeps.below h.Ix.size (fun k q=>?_)),fun k hk=>?_,fun k o q=>hw.keeps.at (h.kept k o q) (fun f=>?_),fun k hk=>?_⟩
 ·rcases f with f|f
  ·exact h.PT j q f
  ·exact(hO j f).2.2.1 q
 ·rcases f with f|f
  ·exact(h.out t ht k q).1 f
  ·exact(hO k f).2.2.2 t ht q
 ·rcases hw.fresh k f with (q|q)|q
  ·exact(h.out t ht k hk).1 q
  ·exact(hO k q).2.2.2 t ht hk
  ·have:=(h.tw t ht).lt k hk;omega
 ·rcases q with q|q
  ·exact h.base k (Or.inl q)
  ·exact(hO k q).1
 ·rcases hk with q|q
  ·rcases hw.fresh k q with (q|q)|q
   ·exact h.base k (Or.inl q)
   ·exact(hO k q).1
   ·exact Nat.le_trans h.Ix.size q
  ·exact h.base k (Or.inr q)
 ·rcases f with f|f
  ·rw[h.F9 k (Or.inl f)]at q;cases q
  ·rw[(hO k f).2.1]at q;cases q
 ·rcases hk with q|q
  ·rcases hw.fresh k q with (q|q)|q
   ·exact h.F9 k (Or.inl q)
   ·exact(hO k q).2.1
   ·exact h.free k q
  ·exact h.F9 k (Or.inr q)
theorem Hn.push{w0:World}{z:Nat->Option Obj}{b N:Nat}{Ts:List Tw}{L:List V.Kp}{lv lv' K:Value}{w w':World}(h:Hn w0 z b N Ts L lv K w){t:Tw}(hk:Ae (fun k=>k=b\/lv.ownBlock=some k) w w')(hc:w'.heap[b]?=some (.cells #[lv',K] 69 (0,0)))(hr:w'.ownsRow 0 109 2 lv' (Ts.length+1) (tab JU Ts++JU t))(hlv:∀j,lv'.ownBlock=some j->lv.ownBlock=some j\/w.heap.size<=j)(ht:Ci N t w)(hE:∀k,t.A4 k->(w0.heap.size<=k/\z k=none)/\¬(V.Iu b L K k\/lv.ownBlock=some k\/∃t∈Ts,t.A4 k)):Hn w0 z b N (Ts++[t]) L lv' K w':=by
 have hno:∀j,V.Iu b L K j->j≠b->¬(j=b\/lv.ownBlock=some j):=fun j q hne f=>by
  rcases f with f|f
  ·exact hne f
  ·exact h.PT j f q
 have hbo:V.Bo b L lv' K w':=by
  refine⟨hc,hk.row h.bo.row (fun j q=>hno j (Or.inr (Or.inl q)) (fun e=>h.bo.kb (e ▸ q))),fun k hk'=>⟨(h.bo.good k hk').1,fun s hs=>?_⟩⟩;obtain⟨B,hm⟩:=(h.bo.good k hk').2 s hs;exact⟨B,hk.row hm (fun j q=>hno j (Or.inr (Or.inr ⟨k,hk',s,hs,q⟩)) (fun e=>(h.bo.apart hm).1 (e ▸ q)))⟩
 have hold:∀s∈Ts,∀k,s.A4 k->¬(k=b\/lv.ownBlock=some k):=fun s hs k q f=>by
  rcases f with rfl|f
  ·exact(h.out s hs k q).1 (Or.inl rfl)
  ·exact(h.out s hs k q).2 f
 have hnew:∀k,t.A4 k->¬(k=b\/lv.ownBlock=some k):=fun k q f=>by
  rcases f with rfl|f
  ·exact(hE k q).2 (Or.inl (Or.inl rfl))
  ·exact(hE k q).2 (Or.inr (Or.inl f))
 have hlt':∀k,t.A4 k->lv'.ownBlock≠some k:=fun k q f=>by
  rcases hlv k f with e|e
  ·exact hnew k q (Or.inr e)
  ·have:=ht.lt k q;omega
 have hget:∀(j:Nat) (s:Tw),(Ts++[t])[j]?=some s->(j<Ts.length/\Ts[j]?=some s)\/(j=Ts.length/\s=t):=fun j s hj=>by
  by_cases e:j<Ts.length
  ·rw[List.getElem?_append_left e]at hj;exact Or.inl ⟨e,hj⟩
  ·rw[List.getElem?_append_right (by omega)]at hj;have hj2:j-Ts.length=0:=by
    have:=(List.getElem?_eq_some_iff.1 hj).1;simp at this;omega
   rw[hj2]at hj;exact Or.inr ⟨by omega,by simpa using hj.symm⟩
 refine⟨hbo,?_,fun s hs=>?_,fun i j s u hs hu hne=>?_,fun s hs k q=>?_,h.Ix.trans (hk.below h.Ix.size (fun k q=>?_)),fun k q=>?_,fun k o q=>hk.at (h.kept k o q) (fun f=>?_),fun k q=>?_⟩
 ·rw[List.length_append,D9];exact hr
 ·rcases List.mem_append.1 hs with hs|hs
  ·exact(h.tw s hs).elsewhere hk (hold s hs)
  ·rw[List.mem_singleton.1 hs];exact ht.elsewhere hk hnew
 ·rcases hget i s hs with ⟨q1,q2⟩|⟨q1,rfl⟩
  ·rcases hget j u hu with ⟨r1,r2⟩|⟨r1,rfl⟩
   ·exact h.inj i j s u q2 r2 hne
   ·exact fun k f g=>(hE k g).2 (Or.inr (Or.inr ⟨s,List.mem_of_getElem? q2,f⟩))
  ·rcases hget j u hu with ⟨r1,r2⟩|⟨r1,rfl⟩
   ·exact fun k f g=>(hE k f).2 (Or.inr (Or.inr ⟨u,List.mem_of_getElem? r2,g⟩))
   ·omega
 ·rcases List.mem_append.1 hs with hs|hs
  ·refine⟨(h.out s hs k q).1,fun f=>?_⟩;rcases hlv k f with e|e
   ·exact(h.out s hs k q).2 e
   ·have:=(h.tw s hs).lt k q;omega
  ·rw[List.mem_singleton.1 hs]at q;exact⟨fun f=>(hE k q).2 (Or.inl f),hlt' k q⟩
 ·rcases q with rfl|q
  ·exact h.base k (Or.inl (Or.inl rfl))
  ·exact h.base k (Or.inr (Or.inl q))
 ·rcases q with q|q|⟨s,hs,q⟩
  ·exact h.base k (Or.inl q)
  ·rcases hlv k q with e|e
   ·exact h.base k (Or.inr (Or.inl e))
   ·exact Nat.le_trans h.Ix.size e
  ·rcases List.mem_append.1 hs with hs|hs
   ·exact h.base k (Or.inr (Or.inr ⟨s,hs,q⟩))
   ·rw[List.mem_singleton.1 hs]at q;exact(hE k q).1.1
 ·rcases f with rfl|f
  ·rw[h.F9 k (Or.inl (Or.inl rfl))]at q;cases q
  ·rw[h.F9 k (Or.inr (Or.inl f))]at q;cases q
 ·rcases q with q|q|⟨s,hs,q⟩
  ·exact h.F9 k (Or.inl q)
  ·rcases hlv k q with e|e
   ·exact h.F9 k (Or.inr (Or.inl e))
   ·exact h.free k e
  ·rcases List.mem_append.1 hs with hs|hs
   ·exact h.F9 k (Or.inr (Or.inr ⟨s,hs,q⟩))
   ·rw[List.mem_singleton.1 hs]at q;exact(hE k q).1.2
theorem Hn.Qj{w0:World}{z z':Nat->Option Obj}{b N:Nat}{Ts:List Tw}{L:List V.Kp}{lv K:Value}{w:World}(h:Hn w0 z b N Ts L lv K w)(h1:∀k o,z' k=some o->w.heap[k]?=some o)(h2:∀k,(V.Iu b L K k\/lv.ownBlock=some k\/∃t∈Ts,t.A4 k)->z' k=none):Hn w0 z' b N Ts L lv K w:=⟨h.bo,h.row,h.tw,h.inj,h.out,h.Ix,h.base,h1,h2⟩
def LA(c:Int):Prop:=-9223372036854775808<=c/\c<=9223372036854775807
structure EM where
 kind:Int
 on:Int
 a:Int
 b:Int
 c:Int
 d:Int
 s:List UInt8
 t:List UInt8
 L:Value
 P:Pk
 W:R.Cf
abbrev EM.cells(o:EM):Array Value:=#[.int .i64 o.kind,.int .i64 o.on,.int .i64 o.a,.int .i64 o.b,.int .i64 o.c,.int .i64 o.d,.string (str o.s),.string (str o.t),o.L,
 .int .i64 o.P.kind,.int .i64 o.P.client,.int .i64 o.P.Ax,.int .i64 o.P.line,.int .i64 o.P.seq,.int .i64 o.P.uid,.int .i64 o.P.part,.int .i64 o.P.off,.bool o.P.please,.string (str o.P.body),
 .int .i64 o.W.Ad,.int .i64 o.W.lines,.int .i64 o.W.Al,.int .i64 o.W.tries,.int .i64 o.W.table]
abbrev EM.val(o:EM):Value:=.agg o.cells
structure Tj(w:World)(vb off:Nat)(o:EM)(v:List V.It):Prop where
 cell:∀(j:Nat) (u:Value),o.cells[j]?=some u->w.cell? ⟨vb,off+j,none⟩=some u
 s:o.s.length<=1000000000000000
 items:V.Items w o.L v
 len:v.length<=9000000000000
 c:LA o.c
 on:LA o.on
def Script(w:World)(va:Option Addr)(vn:Nat):Prop:=vn=0\/∃vb off,va=some ⟨vb,off,none⟩/\vb<w.heap.size/\∀i,i<vn->∃o v,Tj w vb (off+i*24) o v
end Go.Proofs.YtblomippkddgiaaGreatDoor
