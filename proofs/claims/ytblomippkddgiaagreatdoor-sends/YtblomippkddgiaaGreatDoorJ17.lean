import Derived.Test.YtblomippkddgiaaGreatDoorJ16
import Derived.Laws.OwnMore
import Derived.Deep.RegionHeld3
set_option maxRecDepth 100000
set_option maxHeartbeats 1000000
namespace Go.Proofs.YtblomippkddgiaaGreatDoor
open Go.RowKit
theorem lt_of_cell{w:World}{k o:Nat}{v:Value}(h:w.cell? ⟨k,o,none⟩=some v):k<w.heap.size:=by
 rcases Nat.lt_or_ge k w.heap.size with hh|hh
 ·exact hh
 ·simp[World.cell?,Array.getElem?_eq_none hh]at h
theorem Kr{w:World}{s o:Nat}{xs:Array Value}{t:TypeId}(h:w.heap[s]?=some (.cells xs t (0,0)))(x:Value):(w.setCell ⟨s,o,none⟩ x).heap[s]?=some (.cells (xs.setIfInBounds o x) t (0,0)):=by
 simp only[World.setCell,Array.getElem?_modify,h];simp
theorem Am{w:World}{B n size:Nat}{e:TypeId}{v:Value}{xs:List Value}(h:w.ownsRow B e size v n xs):∃a k c,v=.slice a k c:=by
 rcases h.2 with ⟨hv,_⟩|⟨g,cap,cur,hv,_⟩
 ·exact⟨_,_,_,hv⟩
 ·exact⟨_,_,_,hv⟩
theorem Be{w w':World}{B n size:Nat}{e:TypeId}{v:Value}{xs:List Value}(h:w.ownsRow B e size v n xs)(hb:Below w.heap.size w w'):w'.ownsRow B e size v n xs:=by
 obtain⟨hl,h⟩:=h;refine⟨hl,?_⟩;rcases h with h|⟨g,cap,cur,hv,hg,hh,r⟩
 ·exact Or.inl h
 ·refine Or.inr ⟨g,cap,cur,hv,hg,?_,r⟩;rw[hb.block g (lt_of_block hh)];exact hh
theorem GN(l:List UInt8):∀u∈DF l,u.oneCell'=true:=by
 intro u hu;unfold DF at hu;obtain⟨c,_,rfl⟩:=List.mem_map.1 hu;rfl
theorem Pv(a b:List UInt8):DF (a++b)=DF a++DF b:=by
 unfold DF;rw[List.map_append]
def Own(w:World)(B:Nat)(O:Value)(l:List UInt8):Prop:=w.ownsRow B 5 1 O l.length (DF l)
theorem Own.push{w:World}{B:Nat}{O:Value}{a b:List UInt8}(h:w.ownsRow B 5 1 O (a.length+b.length) (DF a++DF b)):Own w B O (a++b):=by
 unfold Own;rw[List.length_append,Pv];exact h
theorem Own.conv{w:World}{B:Nat}{O:Value}{out:List UInt8}(h:Own w B O out):(convert 199 9 O).run Tryz.prog w=.ok (.string (str out)) w:=by
 have hcl:=fun g=>World.ownsRow.cells (g:=g) h
 rcases h.2 with ⟨hv,h0⟩|⟨g,cap,cur,hv,_⟩
 ·have:out=[]:=List.eq_nil_of_length_eq_zero h0;subst this;rw[hv];exact Lib.run_convert_nil_bytes w 199 9 5 0 Tryz.underlying199 (by kernel_rfl) Tryz.underlying9
 ·rw[hv];refine run_convert_bytes_back w 199 9 5 ⟨g,0,none⟩ cap out Tryz.underlying199 (by kernel_rfl) Tryz.underlying9 fun j hj=>?_
  refine hcl g (by rw[hv];rfl) j _ ?_;unfold DF;rw[List.getElem?_map,List.getElem?_eq_getElem hj];rfl
theorem J2(w:World)(cs:List Value):∀(j:Nat) (u:Value),cs[j]?=some u->(w.alloc (.cells cs.toArray 5)).cell? ((⟨w.heap.size,0,none⟩:Addr).add j)=some u:=by
 intro j u hj;rw[Addr.add_lit,Nat.zero_add,World.cell?_alloc_new w _ _ j];rw[List.getElem?_toArray];exact hj
theorem EN(B:Nat)(O:Value)(out:List UInt8)(n:Int)(w:World)(how:Own w B O out)(hB:B<=w.heap.size)(hol:out.length<=1000)(hn:0<=n/\n<=65535):
  Calls Tryz.prog 186 #[O,.int .i64 n] w fun e w'=>∃O',e=.returned O'/\Own w' B O' (out++AF n)/\Below B w w':=by
 have hlt:=fun k=>World.ownsRow.lt how k
 obtain⟨oa,ok,oc,hO⟩:=Am how;subst hO;have HOW:=Ab (how.alloc (.cells (DF (AF n)).toArray 5));have HN:=Ab (J2 w (DF (AF n)));have e1:(DF (AF n)).toArray=#[.int .u8 (n / 256),.int .u8 (n % 256)]:=by
  unfold DF AF;simp only[List.map_cons,List.map_nil,CZ (show 0<=n / 256 by omega) (show n / 256<=255 by omega),CZ (show 0<=n % 256 by omega) (show n % 256<=255 by omega)]
 rw[e1]at HN HOW;clear how;obtain⟨i0,hi,hz0,hz1,hz2⟩:=info_parts info5;have q1:IntKind.u16.wrap n=n:=by rw[wrap_u16];omega
 have q2:0<=n / 256/\n / 256<=255:=by omega
 go_enter Tryz.func186,Tryz.ntmps186;go_wp2_with (at_builtin;refine wpList_append_own_at _ rfl (.tmp 8) (.tmp 14) 199 rfl B 5 i0 (.int .u8 0) 1 1 Tryz.underlying199 hi hz0 hz1 hz2 rfl (by decide) _ out.length (DF out) rfl (by exact(Aa HOW)) ⟨w.heap.size,0,none⟩ 2 2 (DF (AF n)) rfl rfl (by exact(Aa HN)) (by exact GN _) (by unfold maxLen;omega) (by omega) (by simp;omega) ?_)
 intro O1 w1 hown hgrow _ hat;obtain⟨oa1,on1,oc1,hO1⟩:=Am hown;subst hO1;have HF:Hid (Own w1 B (.slice oa1 on1 oc1) (out++AF n)):=Own.push hown;have HB:=Ab (((Below.refl B w).alloc hB (.cells #[.int .u8 (n / 256),.int .u8 (n % 256)] 5)).grown hgrow (by simp;omega) (fun k hk=>(hlt k hk).1));clear hown hgrow hat hlt;go_wp2
 go_ret
 exact⟨_,rfl,Aa HF,Aa HB⟩
theorem JW(b:Bool)(w:World):Calls Tryz.prog 245 #[.bool b] w fun e w'=>e=.returned (.int .u8 (yes b))/\w'=w:=by
 cases b
 ·go_enter Tryz.func245,Tryz.ntmps245;go_wp2
  go_ret
  exact⟨rfl,rfl⟩
 ·go_enter Tryz.func245,Tryz.ntmps245;go_wp2
  go_ret
  exact⟨rfl,rfl⟩
theorem Bb{P:Program}{ops:Array Oper}{o:Oper}{a:Act}{w:World}{K:Act->World->Prop}{Q:Exit->Act->World->Prop}{E:Prop}
  (hgd:o.guard=none) (sl x:Operand) (t:TypeId) (ho:o.op=.call {callee:=.builtin .append,args:=#[sl,x],argTypes:=#[t,t]})
  (base:Nat) (e:TypeId) (i:TypeInfo) (z:Value) (size bytes:Nat) (ht:P.underlying t=some (.slice e)) (hi:P.info? e=some i) (hz:i.zero=some z)
  (hsize:i.size=size) (hby:i.bytes=bytes) (hzs:z.cells.size=size) (hsz:0<size)
  (v:Value) (n:Nat) (xs:List Value) (hs:a.eval sl=v) (hown:w.ownsRow base e size v n xs)
  (ad:Addr) (m c:Nat) (news:List Value) (hx:a.eval x=.slice (some ad) m c) (hl:news.length=m*size) (hnews:∀j u,news[j]?=some u->w.cell? (ad.add j)=some u) (h1:∀u∈news,u.oneCell'=true)
  (h63:n+m<=maxLen) (hbytes:(n+m)*bytes<=140737488355328) (hbase:base<=w.heap.size)
  (h:∀v' w',w'.ownsRow base e size v' (n+m) (xs++news)->w.grownBy w' v.ownBlock->(v'.ownBlock=v.ownBlock\/v'.ownBlock=some w.heap.size)->K (a.put o.dst v') w'):
  if Region.wanted o (yielded ops a.tmps)=true then Oper.wp P o a w K Q else E:=by
 have hw:Region.wanted o (yielded ops a.tmps)=true:=by simp[Region.wanted,hgd]
 rw[if_pos hw];obtain⟨v',w',hr,h2,h3,_,h4⟩:=run_append_own_at (P:=P) w base t o.type e i z size bytes ht hi hz hsize hby hzs hsz v n xs hown ad m c news hl hnews h1 h63 hbytes hbase;unfold Oper.wp;simp[execOp,ho,resolve,invoke,builtin,hs,hx,hr,Result.andThen];exact h v' w' h2 h3 h4
def BI(l:List Int):List Value:=l.map fun n=>Value.int .i64 n
def CP(l:List (List UInt8)):List Value:=l.map fun s=>Value.string (str s)
def A1(f:R.Fl):List Value:=[.int .i64 f.to,.string (str f.s),.bool f.Dn]
theorem Bg(f:R.Fl):(A1 f).length=3:=rfl
def Lg(v:Value)(l:List R.En):Prop:=l=[]/\v=.slice none 0 0
def Rs(v:Value)(l:List R.It):Prop:=l=[]/\v=.slice none 0 0
def YU(z:R.Sv×Value):List Value:=[.int .i64 z.1.kind,.bool z.1.alive,z.2]
theorem F6(z:R.Sv×Value):(YU z).length=3:=rfl
def K4(z:R.Ln×Value):List Value:=[.int .i64 z.1.seq,.int .i64 z.1.state,z.2,.int .i64 z.1.uid,.string z.1.to,.string (str z.1.message),.int .i64 z.1.Az,.string (str z.1.came),.int .i64 z.1.pieces,.int .i64 z.1.wait,.int .i64 z.1.tries]
theorem P9(z:R.Ln×Value):(K4 z).length=11:=rfl
structure CE where
 bv:Value
 lb:Nat
def Lx(z:R.Cl×CE):List Value:=[.int .i64 z.1.Ax,z.2.bv,.slice (some ⟨z.2.lb,0,none⟩) z.1.lines.length z.1.lines.length]
theorem Gw(z:R.Cl×CE):(Lx z).length=3:=rfl
def XR(r:R.Sn):List Value:=[.int .i64 r.seq,.int .i64 r.uid,.string (str r.message),.int .i64 r.pieces,.int .i64 r.state,.string (str r.result),.int .i64 r.at',.bool r.timed,.int .i64 r.wait,.int .i64 r.tries]
theorem Qm(r:R.Sn):(XR r).length=10:=rfl
structure RV where
 N:Value
 S:Value
 V:Value
 Fl:Value
 C:Value
 L:Nat
 Sn:Nat
 zs:List (R.Sv×Value)
 zc:List (R.Cl×CE)
abbrev Av(b:Nat):Value:=.pointer (some ⟨b,0,none⟩)
abbrev CB(c:R.Cf)(v:RV):Array Value:=#[.int .i64 c.Ad,.int .i64 c.lines,.int .i64 c.Al,.int .i64 c.tries,.int .i64 c.table,v.N,v.S,v.V,v.Fl,v.C,.slice (some ⟨v.L,0,none⟩) 3 3,.slice (some ⟨v.Sn,0,none⟩) 9 9,.slice none 0 0]
structure RW(x:Nat)(v:RV)(F:Ag)(G:R.Wd)(w:World):Prop where
 wf:R.Wf G
 CF:G.Ao=[0,0,0]/\G.seen=List.replicate 9 R.Ef/\G.jobs=[]
 bx:w.heap[x]?=some (.cells (CB G.c v) 229 (0,0))
 names:w.ownsRow 0 9 1 v.N G.names.length (CP G.names)
 stands:w.ownsRow 0 3 1 v.S G.stands.length (BI G.stands)
 zs:v.zs.map (·.1)=G.Ac
 C5:w.ownsRow 0 271 3 v.V v.zs.length (tab YU v.zs)
 F7:∀z∈v.zs,Lg z.2 z.1.log
 EC:w.ownsRow 0 304 3 v.Fl G.Af.length (tab A1 G.Af)
 zc:v.zc.map (·.1)=G.Ad
 cl:w.ownsRow 0 232 3 v.C v.zc.length (tab Lx v.zc)
 bound:∀(i:Nat) (z:R.Cl×CE),v.zc[i]?=some z->w.ownsRow 0 3 1 z.2.bv z.1.bound.length (BI z.1.bound)
 ln:∀(i:Nat) (z:R.Cl×CE),v.zc[i]?=some z->∃zl:List (R.Ln×Value),zl.map (·.1)=z.1.lines/\w.heap[z.2.lb]?=some (.cells (tab K4 zl).toArray 259 (0,0))/\∀y∈zl,Rs y.2 y.1.result
 Ao:w.heap[v.L]?=some (.cells (BI G.Ao).toArray 3 (0,0))
 seen:w.heap[v.Sn]?=some (.cells (tab XR G.seen).toArray 264 (0,0))
 A4:F x/\F v.L/\F v.Sn
 rows:∀j,(v.N.ownBlock=some j\/v.S.ownBlock=some j\/v.V.ownBlock=some j\/v.Fl.ownBlock=some j\/v.C.ownBlock=some j)->F j
 Bw:∀(i:Nat) (z:R.Cl×CE),v.zc[i]?=some z->F z.2.lb/\∀j,z.2.bv.ownBlock=some j->F j/\j≠v.L/\v.S.ownBlock≠some j
 sL:v.S.ownBlock≠some v.L
 inj:∀(i j:Nat) (z y:R.Cl×CE),v.zc[i]?=some z->v.zc[j]?=some y->i≠j->z.2.lb≠y.2.lb/\∀k,z.2.bv.ownBlock=some k->y.2.bv.ownBlock≠some k
 lt:∀k,F k->k<w.heap.size
theorem RW.elsewhere{x:Nat}{v:RV}{F E:Ag}{G:R.Wd}{w w':World}(h:RW x v F G w)(hk:Ae E w w')(ha:∀k,F k->¬E k):RW x v F G w':=by
 obtain⟨f1,f2,f3⟩:=h.A4;refine⟨h.wf,h.CF,hk.at h.bx (ha _ f1),hk.row h.names (fun j hj=>ha j (h.rows j (Or.inl hj))),hk.row h.stands (fun j hj=>ha j (h.rows j (Or.inr (Or.inl hj)))),h.zs,hk.row h.C5 (fun j hj=>ha j (h.rows j (Or.inr (Or.inr (Or.inl hj))))),h.F7,hk.row h.EC (fun j hj=>ha j (h.rows j (Or.inr (Or.inr (Or.inr (Or.inl hj)))))),h.zc,hk.row h.cl (fun j hj=>ha j (h.rows j (Or.inr (Or.inr (Or.inr (Or.inr hj)))))),fun i z hz=>hk.row (h.bound i z hz) (fun j hj=>ha j ((h.Bw i z hz).2 j hj).1),fun i z hz=>?_,hk.at h.Ao (ha _ f2),hk.at h.seen (ha _ f3),h.A4,h.rows,h.Bw,h.sL,h.inj,fun k hf=>Nat.lt_of_lt_of_le (h.lt k hf) hk.size⟩;obtain⟨zl,h1,h2,h3⟩:=h.ln i z hz;exact⟨zl,h1,hk.at h2 (ha _ (h.Bw i z hz).1),h3⟩
theorem RW.below{x:Nat}{v:RV}{F:Ag}{G:R.Wd}{w w':World}(h:RW x v F G w)(hb:Below w.heap.size w w'):RW x v F G w':=h.elsewhere (Ae.Aq hb (fun _=>False)) (fun _ _ h=>h)
theorem C4{w:World}{B n size:Nat}{e:TypeId}{K:Value}{xs:List Value}(h:w.ownsRow B e size K n xs){j:Nat}(hj:K.ownBlock=some j):∃cur,w.heap[j]?=some (.cells cur e (0,0)):=by
 rcases h.2 with ⟨rfl,_⟩|⟨g,cap,cur,rfl,_,hg,_⟩
 ·cases hj
 ·cases hj;exact⟨cur,hg⟩
theorem Bv{w:World}{B n size:Nat}{e t:TypeId}{K:Value}{xs:List Value}(h:w.ownsRow B e size K n xs){b:Nat}{ys:Array Value}(hb:w.heap[b]?=some (.cells ys t (0,0)))(hne:e≠t):K.ownBlock≠some b:=fun e'=>by
 obtain⟨cur,hc⟩:=C4 h e';exact AO hc hb hne rfl
theorem Ld{w:World}{B B' n n' size size':Nat}{e t:TypeId}{K M:Value}{xs ys:List Value}(h:w.ownsRow B e size K n xs)(h':w.ownsRow B' t size' M n' ys)(hne:e≠t):∀j,K.ownBlock=some j->M.ownBlock≠some j:=fun j hj hm=>by
 obtain⟨c1,h1⟩:=C4 h hj;obtain⟨c2,h2⟩:=C4 h' hm;exact AO h1 h2 hne rfl
theorem RW.FP{x:Nat}{v:RV}{F:Ag}{G:R.Wd}{w w':World}(h:RW x v F G w){K:Value}{fl:List R.Fl}(hwf:R.Wf {G with Af:=fl})(hk:Ae (fun k=>k=x\/v.Fl.ownBlock=some k) w w')(hx:w'.heap[x]?=some (.cells (CB G.c {v with Fl:=K}) 229 (0,0)))(hr:w'.ownsRow 0 304 3 K fl.length (tab A1 fl))(hK:∀j,K.ownBlock=some j->v.Fl.ownBlock=some j\/w.heap.size<=j):∃v' F',RW x v' F' {G with Af:=fl} w'/\Ah F F' w w':=by
 obtain⟨f1,f2,f3⟩:=h.A4;have hxf:∀k,(k=x\/v.Fl.ownBlock=some k)->F k:=fun k hk=>by
  rcases hk with rfl|hk
  ·exact f1
  ·exact h.rows k (Or.inr (Or.inr (Or.inr (Or.inl hk))))
 have nb:∀{b:Nat} {ys:Array Value} {t:TypeId},w.heap[b]?=some (.cells ys t (0,0))->t≠229->t≠304->¬(b=x\/v.Fl.ownBlock=some b):=fun hb h1 h2 e=>by
  rcases e with rfl|e
  ·exact AO hb h.bx h1 rfl
  ·exact Bv h.EC hb (fun q=>h2 q.symm) e
 have nr:∀{n size:Nat} {e:TypeId} {M:Value} {xs:List Value},w.ownsRow 0 e size M n xs->e≠229->e≠304->∀j,M.ownBlock=some j->¬(j=x\/v.Fl.ownBlock=some j):=fun hr h1 h2 j hj=>by
  obtain⟨cur,hc⟩:=C4 hr hj;exact nb hc h1 h2
 refine⟨{v with Fl:=K},fun k=>F k\/K.ownBlock=some k,⟨hwf,h.CF,hx,hk.row h.names (nr h.names (by decide) (by decide)),hk.row h.stands (nr h.stands (by decide) (by decide)),h.zs,hk.row h.C5 (nr h.C5 (by decide) (by decide)),h.F7,hr,h.zc,hk.row h.cl (nr h.cl (by decide) (by decide)),fun i z hz=>hk.row (h.bound i z hz) (nr (h.bound i z hz) (by decide) (by decide)),fun i z hz=>?_,hk.at h.Ao (nb h.Ao (by decide) (by decide)),hk.at h.seen (nb h.seen (by decide) (by decide)),⟨Or.inl f1,Or.inl f2,Or.inl f3⟩,fun j hj=>?_,fun i z hz=>⟨Or.inl (h.Bw i z hz).1,fun j hj=>⟨Or.inl ((h.Bw i z hz).2 j hj).1,((h.Bw i z hz).2 j hj).2⟩⟩,h.sL,h.inj,fun k hf=>?_⟩,⟨hk.mono (fun k _ hf=>hxf k hf),fun k hf=>?_⟩⟩
 ·obtain⟨zl,h1,h2,h3⟩:=h.ln i z hz;exact⟨zl,h1,hk.at h2 (nb h2 (by decide) (by decide)),h3⟩
 ·rcases hj with q|q|q|q|q
  ·exact Or.inl (h.rows j (Or.inl q))
  ·exact Or.inl (h.rows j (Or.inr (Or.inl q)))
  ·exact Or.inl (h.rows j (Or.inr (Or.inr (Or.inl q))))
  ·exact Or.inr q
  ·exact Or.inl (h.rows j (Or.inr (Or.inr (Or.inr (Or.inr q)))))
 ·rcases hf with hf|hf
  ·exact Nat.lt_of_lt_of_le (h.lt k hf) hk.size
  ·obtain⟨cur,hc⟩:=C4 hr hf;exact(Array.getElem?_eq_some_iff.1 hc).1
 ·rcases hf with hf|hf
  ·exact Or.inl hf
  ·rcases hK k hf with q|q
   ·exact Or.inl (hxf k (Or.inr q))
   ·exact Or.inr q
end Go.Proofs.YtblomippkddgiaaGreatDoor
namespace Go.Proofs.YtblomippkddgiaaGreatDoor.V
open Go.RowKit
structure Bo(b:Nat)(L:List Kp)(lv K:Value)(w:World):Prop where
 cell:w.heap[b]?=some (.cells #[lv,K] 69 (0,0))
 row:w.ownsRow 0 178 7 K L.length (Im L)
 good:∀k∈L,k.n<=100000/\∀t∈k.lists,∃B,Marks B k.x w t.1 t.2
def Iu(b:Nat)(L:List Kp)(K:Value):Ag:=fun j=>j=b\/K.ownBlock=some j\/∃k∈L,∃t∈k.lists,t.1.ownBlock=some j
theorem Bo.keep{b:Nat}{L:List Kp}{lv K:Value}{w w':World}{E:Ag}(h:Bo b L lv K w)(hk:Go.Proofs.YtblomippkddgiaaGreatDoor.Ae E w w')(ha:∀j,Iu b L K j->¬E j):Bo b L lv K w':=
 ⟨hk.at h.cell (ha _ (Or.inl rfl)),hk.row h.row (fun j hj=>ha j (Or.inr (Or.inl hj))),fun k hk'=>⟨(h.good k hk').1,fun t ht=>by
  obtain⟨B,hm⟩:=(h.good k hk').2 t ht;exact⟨B,hk.row hm (fun j hj=>ha j (Or.inr (Or.inr ⟨k,hk',t,ht,hj⟩)))⟩⟩⟩
theorem Bo.below{b:Nat}{L:List Kp}{lv K:Value}{w w':World}(h:Bo b L lv K w)(hb:Below w.heap.size w w'):Bo b L lv K w':=h.keep (Go.Proofs.YtblomippkddgiaaGreatDoor.Ae.Aq hb (fun _=>False)) (fun _ _ q=>q)
theorem Bo.lt{b:Nat}{L:List Kp}{lv K:Value}{w:World}(h:Bo b L lv K w){j:Nat}(hj:Iu b L K j):j<w.heap.size:=by
 rcases hj with rfl|hj|⟨k,hk,t,ht,hj⟩
 ·exact lt_of_block h.cell
 ·exact(h.row.lt j hj).2
 ·obtain⟨B,hm⟩:=(h.good k hk).2 t ht;exact(hm.lt j hj).2
theorem Bo.kb{b:Nat}{L:List Kp}{lv K:Value}{w:World}(h:Bo b L lv K w):K.ownBlock≠some b:=Bv h.row h.cell (by decide)
theorem Bo.apart{b:Nat}{L:List Kp}{lv K:Value}{w:World}(h:Bo b L lv K w){T:Value}{B n:Nat}{xs:List Value}(hT:w.ownsRow B 106 2 T n xs):T.ownBlock≠some b/\∀j,T.ownBlock=some j->K.ownBlock≠some j:=
 ⟨Bv hT h.cell (by decide),fun j hj=>Ld hT h.row (by decide) j hj⟩
theorem V2{w0 w wr w5:World}{b B:Nat}{L:List Kp}{lv K K' O g1 g2 g3:Value}{n:Nat}{x:It}{o:Obj}(h:Bo b L lv K w)(hb0:Below w0.heap.size w0 w)(hT:X0 w0 w O x B [(O,n),(g1,n+1),(g2,n+2),(g3,n+3)] wr)(hn:n<=100000)
  (hO:∀j,O.ownBlock=some j->j<w.heap.size/\j≠b/\K.ownBlock≠some j/\∀k∈L,∀t∈k.lists,t.1.ownBlock≠some j)
  (hown:w5.ownsRow 0 178 7 K' (L.length+1) (Im L++(Kp.mk O g1 g2 g3 n x).cells)) (hg:(wr.alloc o).grownBy w5 K.ownBlock) (hat:K'.ownBlock=K.ownBlock\/K'.ownBlock=some (wr.heap.size+1)):
  w5.heap[b]?=some (.cells #[lv,K] 69 (0,0))/\Bo b (L++[Kp.mk O g1 g2 g3 n x]) lv K' (w5.setCell ⟨b,1,none⟩ K')/\Ah (fun j=>Iu b L K j\/O.ownBlock=some j) (Iu b (L++[Kp.mk O g1 g2 g3 n x]) K') w (w5.setCell ⟨b,1,none⟩ K'):=by
 have hbl:=lt_of_block h.cell;have hsz:=hT.size;have hgs:=hg.size;have hws:(wr.alloc o).heap.size=wr.heap.size+1:=by simp
 have keepR:∀k,k<wr.heap.size->K.ownBlock≠some k->w5.heap[k]?=wr.heap[k]?:=fun k hk hne=>by
  rw[hg.block k (by omega) (fun e=>hne e.symm)];exact Below.heap_alloc _ _ _ hk
 have keepW:∀k,k<w.heap.size->O.ownBlock≠some k->K.ownBlock≠some k->w5.heap[k]?=w.heap[k]?:=fun k hk h1 h2=>(keepR k (by omega) h2).trans (hT.keep k hk h1)
 have hc5:w5.heap[b]?=some (.cells #[lv,K] 69 (0,0)):=by
  rw[keepW b hbl (fun e=>(hO b e).2.1 rfl) h.kb];exact h.cell
 have hset:∀k,k≠b->(w5.setCell ⟨b,1,none⟩ K').heap[k]?=w5.heap[k]?:=fun k hk=>Below.heap_setCell _ _ _ _ (by simpa using hk)
 have hK'b:K'.ownBlock≠some b:=by
  rcases hat with e|e
  ·rw[e];exact h.kb
  ·rw[e];intro e2;injection e2;omega
 have hKlt:∀j,K.ownBlock=some j->j<w.heap.size:=fun j hj=>(h.row.lt j hj).2
 have hold:∀k∈L,∀t∈k.lists,∃Bt,Marks Bt k.x w t.1 t.2/\t.1.ownBlock≠some b/\∀j,t.1.ownBlock=some j->K.ownBlock≠some j:=fun k hk t ht=>by
  obtain⟨Bt,hm⟩:=(h.good k hk).2 t ht;exact⟨Bt,hm,h.apart hm⟩
 refine⟨hc5,⟨?_,?_,fun k hk=>?_⟩,⟨?_,fun j hj=>?_⟩⟩
 ·simp only[World.setCell,Array.getElem?_modify,hc5];simp
 ·rw[List.length_append,J7];refine Dv hown fun g hgk=>hset g (fun e=>hK'b (by rw[<-e];exact hgk))
 ·rcases List.mem_append.1 hk with hk|hk
  ·refine⟨(h.good k hk).1,fun t ht=>?_⟩;obtain⟨Bt,hm,hne,hKj⟩:=hold k hk t ht;refine⟨Bt,Dv hm fun g hgk=>?_⟩;have hlt:=(hm.lt g hgk).2;rw[hset g (fun e=>hne (by rw[<-e];exact hgk))];exact keepW g hlt (fun e=>(hO g e).2.2.2 k hk t ht hgk) (hKj g hgk)
  ·simp only[List.mem_singleton]at hk;subst hk;refine⟨hn,fun t ht=>?_⟩;obtain⟨hm,hblk⟩:=hT.marks t ht;have hne:t.1.ownBlock≠some b/\∀j,t.1.ownBlock=some j->K.ownBlock≠some j:=by
    rcases hblk with e|⟨j,e,hj⟩
    ·rw[e];exact⟨fun e2=>(hO b e2).2.1 rfl,fun j hj=>(hO j hj).2.2.1⟩
    ·rw[e];refine⟨fun e2=>by injection e2;omega,fun j' hj' e2=>?_⟩;injection hj' with hj';subst hj';have:=hKlt j e2;omega
   refine⟨B,Dv hm fun g hgk=>?_⟩;have hlt:=(hm.lt g hgk).2;rw[hset g (fun e=>hne.1 (by rw[<-e];exact hgk))];exact keepR g hlt (hne.2 g hgk)
 ·have hbel:=hT.below;have h5:Go.Proofs.YtblomippkddgiaaGreatDoor.Ae (fun j=>Iu b L K j\/O.ownBlock=some j) w w5:=by
   refine⟨?_,?_,?_,by omega,fun k hk hn=>keepW k hk (fun e=>hn (Or.inr e)) (fun e=>hn (Or.inl (Or.inr (Or.inl e))))⟩
   ·exact(hg.os.trans hbel.os).trans hb0.os.symm
   ·exact(hg.tape.trans hbel.tape).trans hb0.tape.symm
   ·exact(hg.output.trans hbel.output).trans hb0.output.symm
  exact h5.setCell (p:=⟨b,1,none⟩) (Or.inl (Or.inl (Or.inl rfl))) K'
 ·rcases hj with rfl|hj|⟨k,hk,t,ht,hj⟩
  ·exact Or.inl (Or.inl (Or.inl rfl))
  ·rcases hat with e|e
   ·rw[e]at hj;exact Or.inl (Or.inl (Or.inr (Or.inl hj)))
   ·rw[e]at hj;injection hj with hj;exact Or.inr (by omega)
  ·rcases List.mem_append.1 hk with hk|hk
   ·exact Or.inl (Or.inl (Or.inr (Or.inr ⟨k,hk,t,ht,hj⟩)))
   ·simp only[List.mem_singleton]at hk;subst hk;obtain⟨hm,hblk⟩:=hT.marks t ht;rcases hblk with e|⟨i,e,hi⟩
    ·exact Or.inl (Or.inr (e ▸ hj))
    ·rw[e]at hj;injection hj with hj;exact Or.inr (by omega)
end Go.Proofs.YtblomippkddgiaaGreatDoor.V
namespace Go.Proofs.YtblomippkddgiaaGreatDoor
open Go.RowKit
def ED(w:World)(F:Ag)(V:Value)(l:List R.It):Prop:=(l=[]/\V=.slice none 0 0)\/∃b off cap cur,l≠[]/\V=.slice (some ⟨b,off,none⟩) l.length cap/\l.length<=cap/\F b/\w.heap[b]?=some (.cells cur 106 (0,0))/\∀j x,l[j]?=some x->cur[off+j*2]?=some (.int .i64 x.1)/\cur[off+j*2+1]?=some (.string x.2)
theorem ED.nil(w:World)(F:Ag):ED w F (.slice none 0 0) []:=Or.inl ⟨rfl,rfl⟩
theorem ED.keep{w w':World}{F E F':Ag}{V:Value}{l:List R.It}(h:ED w F V l)(hk:Ae E w w')(hE:∀b cur,F b->w.heap[b]?=some (.cells cur 106 (0,0))->¬E b)(hF:∀k,F k->F' k):ED w' F' V l:=by
 rcases h with h|⟨b,off,cap,cur,h0,h1,h2,h3,h4,h5⟩
 ·exact Or.inl h
 ·exact Or.inr ⟨b,off,cap,cur,h0,h1,h2,hF _ h3,hk.at h4 (hE b cur h3 h4),h5⟩
def KB(w:World)(F:Ag)(V:Value)(l:List R.It):Prop:=(l=[]/\∃a,V=.slice a 0 0)\/ED w F V l
theorem KB.keep{w w':World}{F E F':Ag}{V:Value}{l:List R.It}(h:KB w F V l)(hk:Ae E w w')(hE:∀b cur,F b->w.heap[b]?=some (.cells cur 106 (0,0))->¬E b)(hF:∀k,F k->F' k):KB w' F' V l:=by
 rcases h with h|h
 ·exact Or.inl h
 ·exact Or.inr (h.keep hk hE hF)
end Go.Proofs.YtblomippkddgiaaGreatDoor
namespace Go.Proofs.YtblomippkddgiaaGreatDoor.V
open Go.RowKit
theorem Db{w:World}{B B' n size:Nat}{e:TypeId}{v:Value}{xs:List Value}(h:w.ownsRow B e size v n xs)(hB:B'<=B):w.ownsRow B' e size v n xs:=by
 obtain⟨hl,h⟩:=h;refine⟨hl,?_⟩;rcases h with h|⟨g,cap,cur,hv,hg,r⟩
 ·exact Or.inl h
 ·exact Or.inr ⟨g,cap,cur,hv,by omega,r⟩
def Row(w:World)(B:Nat)(O:Value)(v:List It):Prop:=w.ownsRow B 106 2 O v.length (flat v)
theorem Le(w:World)(B:Nat):Row w B (.slice none 0 0) []:=World.ownsRow_nil _ _ _ _
end Go.Proofs.YtblomippkddgiaaGreatDoor.V
namespace Go.Proofs.YtblomippkddgiaaGreatDoor.R
def X4(v:List It)(k:Nat):Int:=((v[k]?).map (·.1)).getD 0
def ZY(v:List It)(k:Nat):ByteArray:=((v[k]?).map (·.2)).getD ⟨#[]⟩
def LP:List En->Int->Int
 |[],n=>n
 |e :: es,n=>LP es (if e.proc=0 then (n+X4 e.arg 0+65536) % 65536 else if X4 e.arg 0=1 then 0 else n)
def Qf(l:List En):List ByteArray:=
 let out:=(l.filter fun e=>decide (e.proc=0)).map fun e=>ZY e.arg 0
 out.drop (out.length-4)
def P8:List En->Int->List It->List It
 |[],_,was=>was
 |e :: es,d,was=>P8 es d (if X4 e.arg 0=d then e.arg.drop 2 else was)
end Go.Proofs.YtblomippkddgiaaGreatDoor.R
namespace Go.Proofs.YtblomippkddgiaaGreatDoor.V
theorem Oe{s:ByteArray}{v:List It}(h:(C3 s v).1=0):(Pt.GX (nx s) s.size).1=0/\∃ks,Dk (nx s) (s.size+1) 0 v=some (ks,[])/\(C3 s v).2=bytesOf ks v/\(bytesOf ks v).length<=70:=by
 unfold C3 at h ⊢;split at h
 ·rename_i hc;rw[if_pos hc];refine⟨hc,?_⟩;unfold Ht at h ⊢;split at h
  ·cases h
  ·rename_i ks r he;split at h
   ·rename_i hr;subst hr;split at h
    ·cases h
    ·rename_i hb;exact⟨ks,he,by simp[hb],by omega⟩
   ·cases h
 ·rename_i hc;exact absurd h hc
theorem WN{s:ByteArray}{v:List It}(h:(C3 s v).1=0):(C3 s v).2.length<=70:=by
 obtain⟨_,ks,_,h2,h3⟩:=Oe h;rw[h2];exact h3
end Go.Proofs.YtblomippkddgiaaGreatDoor.V
