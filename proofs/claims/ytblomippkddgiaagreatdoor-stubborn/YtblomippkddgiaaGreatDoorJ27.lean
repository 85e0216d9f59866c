import Derived.Test.YtblomippkddgiaaGreatDoorJ26
import Derived.Test.YtblomippkddgiaaGreatDoorJ16
import Derived.Lib.ConvBytes
set_option maxRecDepth 100000
set_option maxHeartbeats 1000000
namespace Go.Proofs.YtblomippkddgiaaGreatDoor
open Go.RowKit
theorem aet(w:World)(cb lb nl:Nat)(ln:Int)(hk:ln<0∨(nl:Int)≤ln)(b3:w.cell? ⟨cb,3,none⟩=some (.slice (some ⟨lb,0,none⟩) nl nl)) :
  Calls Tryz.prog 39 #[ptr cb,.int .i64 ln] w fun e w'=>e=.returned (.tuple #[.agg #[.int .i64 0,.int .i64 0,.slice none 0 0],.int .i64 14])∧Below w.heap.size w w':=by
 have HB:Hid (Below w.heap.size w (w.alloc (.cells #[.int .i64 0,.int .i64 0,.slice none 0 0] 46))):=(Below.refl _ _).alloc (Nat.le_refl _) _
 have hl:=lt_of_cell b3
 by_cases h0:ln<0
 ·have h1:¬0≤ln:=by omega
  clear hk
  go_enter Tryz.func39,Tryz.ntmps39
  go_wp2_with (first|(go_at_call 73;go_in))
  exact bodyPost_ret (v:=.tuple #[.agg #[.int .i64 0,.int .i64 0,.slice none 0 0],.int .i64 14]) (by simp[results,Tryz.results39,go_sem]) rfl ⟨rfl,unhide HB⟩
 ·have h1:0≤ln:=by omega
  have h2:¬ln<(nl:Int):=by omega
  clear hk
  go_enter Tryz.func39,Tryz.ntmps39
  go_wp2_with (first|(go_at_call 73;go_in))
  exact bodyPost_ret (v:=.tuple #[.agg #[.int .i64 0,.int .i64 0,.slice none 0 0],.int .i64 14]) (by simp[results,Tryz.results39,go_sem]) rfl ⟨rfl,unhide HB⟩
theorem aeu(w:World)(x cs n cap:Nat)(cl ln:Int)(hx:w.cell? ⟨x,2,none⟩=some (.slice (some ⟨cs,0,none⟩) n cap))(hc:cl<0∨(n:Int)≤cl) :
  Calls Tryz.prog 16 #[ptr x,.int .i64 cl,.int .i64 ln] w fun e w'=>e=.returned (.tuple #[.agg #[.int .i64 0,.int .i64 0,.slice none 0 0],.int .i64 13])∧Below w.heap.size w w':=by
 have HB:Hid (Below w.heap.size w (w.alloc (.cells #[.int .i64 0,.int .i64 0,.slice none 0 0] 46))):=(Below.refl _ _).alloc (Nat.le_refl _) _
 have hl:=lt_of_cell hx
 by_cases h0:cl<0
 ·have h1:¬0≤cl:=by omega
  clear hc
  go_enter Tryz.func16,Tryz.ntmps16
  go_wp2_with (first|(go_at_call 38;go_in))
  exact bodyPost_ret (v:=.tuple #[.agg #[.int .i64 0,.int .i64 0,.slice none 0 0],.int .i64 13]) (by simp[results,Tryz.results16,go_sem]) rfl ⟨rfl,unhide HB⟩
 ·have h1:0≤cl:=by omega
  have h2:¬cl<(n:Int):=by omega
  clear hc
  go_enter Tryz.func16,Tryz.ntmps16
  go_wp2_with (first|(go_at_call 38;go_in))
  exact bodyPost_ret (v:=.tuple #[.agg #[.int .i64 0,.int .i64 0,.slice none 0 0],.int .i64 13]) (by simp[results,Tryz.results16,go_sem]) rfl ⟨rfl,unhide HB⟩
theorem adS(w:World)(x cs n cap cb i:Nat)(ln st sq er:Int)(v:List R.It)(hx:w.cell? ⟨x,2,none⟩=some (.slice (some ⟨cs,0,none⟩) n cap))(hi:i<n)(hcs:w.cell? ⟨cs,i,none⟩=some (ptr cb))
  (H30:Hid (∀w',Below w.heap.size w w'→Calls Tryz.prog 39 #[ptr cb,.int .i64 ln] w' fun e w''=>(∃O,e=.returned (.tuple #[.agg #[.int .i64 st,.int .i64 sq,O],.int .i64 er])∧V.Row w'' w'.heap.size O v)∧Below w'.heap.size w' w'')) :
  Calls Tryz.prog 16 #[ptr x,.int .i64 (i:Int),.int .i64 ln] w fun e w'=>(∃O,e=.returned (.tuple #[.agg #[.int .i64 st,.int .i64 sq,O],.int .i64 er])∧V.Row w' w.heap.size O v)∧Below w.heap.size w w':=by
 have q1:(0:Int)≤(i:Int):=by omega
 have q2:(i:Int)<(n:Int):=by omega
 have hl1:=lt_of_cell hx
 have hl2:=lt_of_cell hcs
 have HB:Hid (Below w.heap.size w (w.alloc (.cells #[.int .i64 0,.int .i64 0,.slice none 0 0] 46))):=(Below.refl _ _).alloc (Nat.le_refl _) _
 have HC:=aab ((unhide H30) _ (unhide HB))
 clear H30
 go_enter Tryz.func16,Tryz.ntmps16
 go_wp2_with (first|(go_at_call 38;go_in))
 refine(unhide HC).mono ?_
 rintro e w1 ⟨⟨O,rfl,hrow⟩,hb⟩
 obtain⟨oa,on,oc,hO⟩:=aae hrow
 subst hO
 have hs:=hb.size
 simp at hs
 have hby:w1.heap[w.heap.size]?=some (.cells #[.int .i64 0,.int .i64 0,.slice none 0 0] 46 (0,0)):=(hb.block _ (by simp)).trans (heap_alloc_new w _)
 have d0:w1.cell? ⟨w.heap.size,0,none⟩=some (.int .i64 0):=aaa hby 0 _ rfl
 have d1:w1.cell? ⟨w.heap.size,1,none⟩=some (.int .i64 0):=aaa hby 1 _ rfl
 have d2:w1.cell? ⟨w.heap.size,2,none⟩=some (.slice none 0 0):=aaa hby 2 _ rfl
 have z0:w1.frozen? ⟨w.heap.size,0,none⟩=false:=aac hby
 have z1:w1.frozen? ⟨w.heap.size,1,none⟩=false:=aac hby
 have z2:w1.frozen? ⟨w.heap.size,2,none⟩=false:=aac hby
 have HW:=aab (((((unhide HB).trans (hb.mono (by simp))).setCell (p:=⟨w.heap.size,0,none⟩) (by simp) (.int .i64 st)).setCell (p:=⟨w.heap.size,1,none⟩) (by simp) (.int .i64 sq)).setCell (p:=⟨w.heap.size,2,none⟩) (by simp) (.slice oa on oc))
 have HR:Hid (V.Row (((w1.setCell ⟨w.heap.size,0,none⟩ (.int .i64 st)).setCell ⟨w.heap.size,1,none⟩ (.int .i64 sq)).setCell ⟨w.heap.size,2,none⟩ (.slice oa on oc)) w.heap.size (.slice oa on oc) v):=by
  have hkp:Keeps (fun k=>k=w.heap.size) w1 (((w1.setCell ⟨w.heap.size,0,none⟩ (.int .i64 st)).setCell ⟨w.heap.size,1,none⟩ (.int .i64 sq)).setCell ⟨w.heap.size,2,none⟩ (.slice oa on oc)):=((keeps_one _).trans (keeps_one _)).trans (keeps_one _)
  refine V.row_base (hkp.row hrow (fun j hj e=>?_)) (by simp)
  have:=((World.ownsRow.lt hrow) j hj).1
  simp at this
  omega
 clear hb hby hrow
 have m0:w.heap.size<w1.heap.size:=by omega
 go_wp2
 exact bodyPost_ret (v:=.tuple #[.agg #[.int .i64 st,.int .i64 sq,.slice oa on oc],.int .i64 er]) (by simp[results,Tryz.results16,go_sem,d0,d1,d2]) rfl ⟨⟨_,rfl,unhide HR⟩,unhide HW⟩
theorem LW.status{p:Pl}{F:aai}{G:R.Wd}{w:World}(h:LW p F G w)(hres:∀(i:Nat) (c:R.Cl) (k:Nat) (l:R.Ln),G.clients[i]?=some c→c.lines[k]?=some l→l.result.length≤1000)(cl ln:Int) :
  Calls Tryz.prog 16 #[ptr p.x,.int .i64 cl,.int .i64 ln] w fun e w'=>(∃O,e=apG (R.statusP G cl ln) O∧V.Row w' w.heap.size O (R.statusP G cl ln).2.2.1)∧Below w.heap.size w w':=by
 unfold apG R.statusP
 by_cases h1:cl<0∨(G.clients.length:Int)≤cl
 ·rw[if_pos h1]
  refine(aeu w p.x p.cs G.clients.length p.cap cl ln (aaa h.bx 2 _ rfl) h1).mono ?_
  rintro e w' ⟨rfl,hb⟩
  exact⟨⟨_,rfl,V.row_nil _ _⟩,hb⟩
 ·rw[if_neg h1]
  obtain⟨i,rfl⟩:∃i:Nat,cl=(i:Int):=⟨cl.toNat,by omega⟩
  have hi:i<G.clients.length:=by omega
  have hc:=List.getElem?_eq_getElem hi
  have hln:=(h.wf.cl i _ hc).lines
  by_cases h2:ln<0∨G.c.lines≤ln
  ·rw[if_pos h2]
   refine(adS w p.x p.cs G.clients.length p.cap (p.cb i) i ln 0 0 14 [] (aaa h.bx 2 _ rfl) hi (h.csAt hi) ?_)
   intro w' hb
   refine(aet w' (p.cb i) (p.lb i) _ ln (by omega) (ail (h.below hb) hc).a3).mono ?_
   rintro e w'' ⟨rfl,hb'⟩
   exact⟨⟨_,rfl,V.row_nil _ _⟩,hb'⟩
  ·rw[if_neg h2]
   obtain⟨k,rfl⟩:∃k:Nat,ln=(k:Int):=⟨ln.toNat,by omega⟩
   have hk:k<G.clients[i].lines.length:=by omega
   have hl:=List.getElem?_eq_getElem hk
   rw[R.lineP_some hc hl]
   refine adS w p.x p.cs G.clients.length p.cap (p.cb i) i k _ _ 0 _ (aaa h.bx 2 _ rfl) hi (h.csAt hi) ?_
   intro w' hb
   have h':=h.below hb
   obtain⟨xs,x,hL,hR,hx,hx1,hla,_,hit⟩:=h'.line hc hl
   have:=agN w' F (p.cb i) (p.lb i) _ k x _ (hres i _ k _ hc hl) hit hk (ail h' hc).a3 hla
   rw[hx1.state,hx1.seq]at this
   exact this
theorem ai0(p:Pk)(hr:aaj p)(w:World):Calls Tryz.prog 14 #[.string (str (aa3 p))] w fun e w'=>e=.returned (.tuple #[pv p,.int .i64 0])∧Below w.heap.size w w':=by
 have hl:=afT p
 have hb:=afA hr
 refine(ahZ (aa3 p) w (by omega)).mono ?_
 unfold afk
 rw[acl hr]
 rintro e w' ⟨hb,⟨hn,_⟩|⟨p',hp,rfl⟩⟩
 ·cases hn
 ·cases hp
  exact⟨rfl,hb⟩
theorem akH(l:List UInt8)(hn:abn l=none)(hl:l.length≤1000)(w:World):Calls Tryz.prog 14 #[.string (str l)] w fun e w'=>e=.returned (.tuple #[an5,.int .i64 7])∧Below w.heap.size w w':=by
 refine(ahZ l w (by omega)).mono ?_
 unfold afk
 rw[hn]
 rintro e w' ⟨hb,⟨_,rfl⟩|⟨p',hp,_⟩⟩
 ·exact⟨rfl,hb⟩
 ·cases hp
def agl(t:TypeId):Bool:=t==84 || t==89 || t==113 || t==122 || t==134 || t==139 || t==106
def aaK(w:World)(E:aai):Prop:=∀b,E b→(∃cur t z,w.heap[b]?=some (.cells cur t z)∧agl t=false)∨∃cap buf cl a r tm,w.heap[b]?=some (.chan cap buf cl a r tm)
theorem aaK.cells{w:World}{E:aai}(h:aaK w E){b:Nat}{cur:Array Value}{t:TypeId}{z:Nat×Nat}(hb:w.heap[b]?=some (.cells cur t z))(ht:agl t=true):¬E b:=fun hE=>by
 rcases h b hE with ⟨cur',t',z',h1,h2⟩|⟨cap,buf,cl,a,r,tm,h1⟩
 ·rw[hb]at h1
  cases h1
  rw[ht]at h2
  cases h2
 ·rw[hb]at h1
  cases h1
theorem aaK.map{w:World}{E:aai}(h:aaK w E){b:Nat}{es:Array MapEntry}{cl:Nat}(hb:w.heap[b]?=some (.map es cl)):¬E b:=fun hE=>by
 rcases h b hE with ⟨cur',t',z',h1,h2⟩|⟨cap,buf,cl,a,r,tm,h1⟩
 ·rw[hb]at h1
  cases h1
 ·rw[hb]at h1
  cases h1
theorem aaK.one{w:World}{b:Nat}{cur:Array Value}{t:TypeId}{z:Nat×Nat}(h:w.heap[b]?=some (.cells cur t z))(ht:agl t=false):aaK w (fun k=>k=b):=fun k hk=>Or.inl ⟨cur,t,z,by subst hk;exact h,ht⟩
theorem aaK.or{w:World}{E E':aai}(h:aaK w E)(h':aaK w E'):aaK w (fun k=>E k∨E' k):=fun k hk=>by
 rcases hk with hk|hk
 ·exact h k hk
 ·exact h' k hk
theorem aaK.row{w:World}{B n size:Nat}{e:TypeId}{v:Value}{xs:List Value}(hr:w.ownsRow B e size v n xs)(he:agl e=false):aaK w (fun k=>v.ownBlock=some k):=fun k hk=>by
 rcases hr.2 with ⟨rfl,_⟩|⟨g,cap,cur,rfl,_,hg,_⟩
 ·cases hk
 ·cases hk
  exact Or.inl ⟨_,_,_,hg,he⟩
abbrev aa9(G:R.Wd)(sv:List R.Sv)(lives:List Int)(seen:List R.Sn)(jobs:List R.Jb):R.Wd:={G with services:=sv,lives:=lives,seen:=seen,jobs:=jobs}
theorem LW.srvTurn{p:Pl}{F F' E:aai}{G:R.Wd}{w w':World}(h:LW p F G w){t:SP}{sv:List R.Sv}{lives:List Int}{seen:List R.Sn}{jobs:List R.Jb}(hs:SrvAt p.s p.n p.nm t F' G.c sv lives seen jobs w')(hk:Keeps E w w')(hE:aaK w E)(hF:∀k,F k→F' k)(hlt:∀k,F' k→k<w'.heap.size)(hwf:R.Wf (aa9 G sv lives seen jobs))(hws:R.WsOk G.c lives seen jobs)(hbd:∀(i:Nat) (c:R.Cl),G.clients[i]?=some c→∀u,aaJ (aa9 G sv lives seen jobs) c u=aaJ G c u):LW {p with t:=t} F' (aa9 G sv lives seen jobs) w':=by
 obtain⟨hx,hn,hcs,hnm⟩:=h.foot
 have map':∀{α:Type} {k:TypeId} {b:Nat} {lit:α→Lit} {g:α→Option Int} {n:Nat},Mp w k b lit g n→Mp w' k b lit g n:=fun hm=>by
  obtain⟨es,q,hq⟩:=hm.block
  exact hm.keep hk (hE.map hq)
 refine⟨hwf,hws,hk.at h.bx (hE.cells h.bx rfl),?_,?_,hs,map' h.names,fun i c hc=>hk.at (h.cl i c hc) (hE.cells (h.cl i c hc) rfl),fun i c hc=>?_,fun i c hc=>(map' (h.bound i c hc)).congr (hbd i c hc),⟨hF _ hx,hF _ hn,hF _ hcs,hF _ hnm⟩,fun i hi=>?_,h.inj,hlt⟩
 ·obtain⟨cur,h1,h2⟩:=h.bcs
  exact⟨cur,hk.at h1 (hE.cells h1 rfl),h2⟩
 ·obtain⟨K,h1,h2,h3⟩:=h.bn
  refine⟨K,hk.at h1 (hE.cells h1 rfl),hk.row h2 (fun j hj=>?_),fun j hj=>hF _ (h3 j hj)⟩
  rcases h2.2 with ⟨rfl,_⟩|⟨g,cap,cur,rfl,_,hg,_⟩
  ·cases hj
  ·cases hj
   exact hE.cells hg rfl
 ·obtain⟨xs,h1,h2,h3⟩:=h.ln i c hc
  exact⟨xs,hk.at h1 (hE.cells h1 rfl),h2,fun k l x hl hx=>(h3 k l x hl hx).keep hk (fun b cur _ hb=>hE.cells hb rfl) hF⟩
 ·obtain⟨a1,a2,a3,a4⟩:=h.feet i hi
  exact⟨hF _ a1,hF _ a2,hF _ a3,a4⟩
theorem SrvAt.madeAt{s n nm:Nat}{t:SP}{F:aai}{c:R.Cf}{sv:List R.Sv}{lives:List Int}{seen:List R.Sn}{jobs:List R.Jb}{w:World}(h:SrvAt s n nm t F c sv lives seen jobs w){u:Nat}{z:R.Sv×MV}(hz:t.zs[u]?=some z):∃g cap cur,t.K=.slice (some ⟨g,0,none⟩) t.zs.length cap∧w.heap[g]?=some (.cells cur 213 (0,0))∧F g∧w.cell? ⟨g,u*3,none⟩=some (.int .i64 z.1.kind)∧w.cell? ⟨g,u*3+1,none⟩=some z.2.wk∧w.cell? ⟨g,u*3+2,none⟩=some z.2.dn∧t.zs.length≤cap∧cap≤maxLen∧cur.size=cap*3∧cur.toList.take (t.zs.length*3)=tab adp t.zs:=by
 have hu:=(List.getElem?_eq_some_iff.1 hz).1
 rcases id h.made.2 with ⟨_,h0⟩|⟨g,cap,cur,hK,_,hg,hcap,hmax,hsz,htk⟩
 ·omega
 have q:∀j v,j<3→(adp z)[j]?=some v→w.cell? ⟨g,u*3+j,none⟩=some v:=fun j v hj hv=>by
  have:=acz ac7 t.zs u j z hz hj
  rw[hv,←htk,List.getElem?_take,if_pos (by omega)]at this
  simp[World.cell?,hg]
  simpa using this
 refine⟨g,cap,cur,hK,hg,h.foot.2.2 g (by rw[hK];rfl),?_,q 1 _ (by omega) rfl,q 2 _ (by omega) rfl,hcap,hmax,hsz,htk⟩
 exact q 0 _ (by omega) rfl
theorem afE{t:SP}{sv:List R.Sv}(h:t.zs.map (·.1)=sv){u:Nat}{s:R.Sv}(hs:sv[u]?=some s):∃z,t.zs[u]?=some z∧z.1=s:=by
 rw[←h,List.getElem?_map]at hs
 cases hz:t.zs[u]? with
 |none=>rw[hz]at hs;cases hs
 |some z=>rw[hz]at hs;exact⟨z,rfl,Option.some.inj hs⟩
theorem map_set{α β:Type}(f:α→β)(l:List α)(i:Nat)(x:α):(l.set i x).map f=(l.map f).set i (f x):=by
 apply List.ext_getElem?
 intro j
 simp only[List.getElem?_map,List.getElem?_set,List.length_map]
 split
 ·split <;> rfl
 ·rfl
theorem set_get{α:Type}{l:List α}{u i:Nat}{x y:α}(h:(l.set u x)[i]?=some y):(i=u∧y=x)∨(i≠u∧l[i]?=some y):=by
 rw[List.getElem?_set]at h
 by_cases e:u=i
 ·rw[if_pos e]at h
  split at h
  ·exact Or.inl ⟨e.symm,(Option.some.inj h).symm⟩
  ·cases h
 ·rw[if_neg e]at h
  exact Or.inr ⟨fun q=>e q.symm,h⟩
theorem ajY(l:List Value)(n i:Nat)(v:Value):(l.set i v).take n=(l.take n).set i v:=by
 apply List.ext_getElem?
 intro j
 simp only[List.getElem?_take,List.getElem?_set,List.length_take]
 by_cases hj:j<n
 ·by_cases e:i=j
  ·subst e
   have:i<min n l.length↔i<l.length:=by omega
   simp[hj,this]
  ·simp[hj,e]
 ·by_cases e:i=j
  ·subst e
   simp[hj]
   omega
  ·simp[hj,e]
theorem abz(w:World)(s g u m cap:Nat)(h6:w.cell? ⟨s,6,none⟩=some (.slice (some ⟨g,0,none⟩) m cap))(hu:u<m)(hm:m≤255) :
  Calls Tryz.prog 132 #[ptr s,.int .i64 ((u:Int)+1)] w fun e w'=>e=.returned (.pointer (some ⟨g,u*3,none⟩))∧w'=w:=by
 have e1:IntKind.i64.wrap ((u:Int)+1-1)=(u:Int):=by rw[IntKind.wrap_i64];omega
 have q1:(0:Int)≤(u:Int):=by omega
 have q2:(u:Int)<(m:Int):=by omega
 go_enter Tryz.func132,Tryz.ntmps132
 go_wp2
 go_ret
 exact⟨rfl,rfl⟩
theorem aoM:(Tryz.prog.info? 213).map (fun i=>(i.zero,i.size,i.bytes))=some (some (.agg #[.int .i64 0,.nilIface,.slice none 0 0]),3,48):=by kernel_rfl
def freshT(kind:Int):TypeId:=if kind=0 then 328 else if kind=1 then 331 else 334
theorem alc(w:World)(kind:Int)(hk:0≤kind∧kind≤2):Calls Tryz.prog 228 #[.int .i64 kind] w fun e w'=>e=.returned (.iface (freshT kind) (ptr w.heap.size))∧Works w' (fun k=>k=w.heap.size) [] w.heap.size (.slice none 0 0) kind (.iface (freshT kind) (ptr w.heap.size))∧Below w.heap.size w w'∧w.heap.size<w'.heap.size:=by
 have hc:kind=0∨kind=1∨kind=2:=by omega
 rcases hc with rfl|rfl|rfl
 ·have H:Hid (∀W,W=w.alloc (.cells #[.int .u16 0] 330)→Works W (fun k=>k=w.heap.size) [] w.heap.size (.slice none 0 0) 0 (.iface (freshT 0) (ptr w.heap.size))∧Below w.heap.size w W∧w.heap.size<W.heap.size):=fun W hW=>by
   subst hW
   exact⟨.counter rfl (heap_alloc_new w _) rfl,(Below.refl _ _).alloc (Nat.le_refl _) _,by simp⟩
  go_enter Tryz.func228,Tryz.ntmps228
  go_wp2
  go_returns
  exact⟨rfl,(unhide H) _ rfl⟩
 ·have H:Hid (∀W,W=w.alloc (.cells #[.slice none 0 0] 333)→Works W (fun k=>k=w.heap.size) [] w.heap.size (.slice none 0 0) 1 (.iface (freshT 1) (ptr w.heap.size))∧Below w.heap.size w W∧w.heap.size<W.heap.size):=fun W hW=>by
   subst hW
   refine⟨.board rfl (heap_alloc_new w _) ⟨rfl,Or.inl ⟨rfl,rfl⟩⟩ (fun j hj=>by cases hj),(Below.refl _ _).alloc (Nat.le_refl _) _,by simp⟩
  go_enter Tryz.func228,Tryz.ntmps228
  go_wp2
  go_returns
  exact⟨rfl,(unhide H) _ rfl⟩
 ·have H:Hid (∀W,W=w.alloc (.cells #[.slice none 0 0,.slice none 0 0,.slice none 0 0] 337)→Works W (fun k=>k=w.heap.size) [] w.heap.size (.slice none 0 0) 2 (.iface (freshT 2) (ptr w.heap.size))∧Below w.heap.size w W∧w.heap.size<W.heap.size):=fun W hW=>by
   subst hW
   exact⟨.desk _ _ _ rfl (heap_alloc_new w _) rfl (Or.inl ⟨rfl,none,rfl⟩) (Or.inl ⟨rfl,none,rfl⟩) (Or.inl ⟨rfl,none,rfl⟩),(Below.refl _ _).alloc (Nat.le_refl _) _,by simp⟩
  go_enter Tryz.func228,Tryz.ntmps228
  go_wp2
  go_returns
  exact⟨rfl,(unhide H) _ rfl⟩
structure Began(w:World)(s:Nat)(cs:List Value)(K:Value)(m:Nat)(TF:List Value)(kind:Int)(K':Value)(w':World):Prop where
 cell:w'.heap[s]?=some (.cells (cs.set 6 K').toArray 167 (0,0))
 row:w'.ownsRow 0 213 3 K' (m+1) (TF++[.int .i64 kind,.iface (freshT kind) (ptr w.heap.size),.slice none 0 0])
 wk:Works w' (fun k=>k=w.heap.size) [] w.heap.size (.slice none 0 0) kind (.iface (freshT kind) (ptr w.heap.size))
 at':K'.ownBlock=K.ownBlock∨∃j,K'.ownBlock=some j∧w.heap.size<j
 keeps:Keeps (fun k=>k=s∨K.ownBlock=some k) w w'
theorem alG{w W V wz:World}{s m:Nat}{cs TF:List Value}{K K':Value}{kind:Int}{j0:Nat}(h:w.heap[s]?=some (.cells cs.toArray 167 (0,0)))(hrow:w.ownsRow 0 213 3 K m TF)(hb:Below w.heap.size w W)(hwk:Works W (fun k=>k=w.heap.size) [] w.heap.size (.slice none 0 0) kind (.iface (freshT kind) (ptr w.heap.size)))(hsz:w.heap.size<W.heap.size)(hV:Below W.heap.size W V)
  (hg:V.grownBy wz K.ownBlock) (hown:wz.ownsRow 0 213 3 K' (m+1) (TF++[.int .i64 kind,.iface (freshT kind) (ptr w.heap.size),.slice none 0 0])) (hat:K'.ownBlock=K.ownBlock∨K'.ownBlock=some j0) (hj:W.heap.size≤j0):wz.heap[s]?=some (.cells cs.toArray 167 (0,0))∧Began w s cs K m TF kind K' (wz.setCell ⟨s,6,none⟩ K'):=by
 have hnK:K.ownBlock≠some s:=aao hrow h (by decide)
 have hln:=(Array.getElem?_eq_some_iff.1 h).1
 have hlV:s<V.heap.size:=Nat.lt_of_lt_of_le (by omega) hV.size
 have hzn:wz.heap[s]?=some (.cells cs.toArray 167 (0,0)):=by
  rw[hg.block s hlV (fun e=>hnK e.symm),hV.block s (by omega),hb.block s hln]
  exact h
 have hnK':K'.ownBlock≠some s:=by
  rcases hat with e|e
  ·rw[e];exact hnK
  ·rw[e]
   intro q
   cases q
   omega
 have hk0:Keeps (fun k=>k=s∨K.ownBlock=some k) W V:=Keeps.ofBelow hV _
 have hk1:Keeps (fun k=>k=s∨K.ownBlock=some k) W (wz.setCell ⟨s,6,none⟩ K'):=(hk0.grown hg (fun k hk=>Or.inl (Or.inr hk))).setCell (p:=⟨s,6,none⟩) (Or.inl (Or.inl rfl)) _
 refine⟨hzn,⟨aad (cs:=cs) (off:=6) hzn K',acj hown (fun g hg=>Below.heap_setCell _ _ _ _ (fun e=>hnK' (by rw[hg];exact congrArg some e))),?_,?_,(Keeps.ofBelow hb _).trans hk1⟩⟩
 ·refine hwk.keep hk1 (fun b cur t z hb' ht hbl hE=>?_) (fun _ q=>q)
  subst hb'
  rcases hE with e|e
  ·omega
  ·have:=(World.ownsRow.lt hrow _ e).2
   omega
 ·rcases hat with e|e
  ·exact Or.inl e
  ·exact Or.inr ⟨j0,e,by omega⟩
theorem amN(w:World)(kind:Int)(T:TypeId)(b:Nat)(j:Nat)(u:Value)(h:([.int .i64 kind,.iface T (ptr b),.slice none 0 0]:List Value)[j]?=some u):(w.alloc (.cells #[.int .i64 kind,.iface T (ptr b),.slice none 0 0] 213)).cell? ((⟨w.heap.size,0,none⟩:Addr).add j)=some u:=by
 rw[Addr.add_lit,Nat.zero_add,World.cell?_alloc_new w _ _ j,←List.getElem?_toArray]at *
 exact h
theorem aqV:∀args w,(callFunc 228 args).run Tryz.prog w=.ok (.enter 228 args) w:=fun _ _=>rfl
theorem alH(w:World)(s m c:Nat)(cs TF:List Value)(a:Option Addr)(kind:Int)(hk:0≤kind∧kind≤2)(h:w.heap[s]?=some (.cells cs.toArray 167 (0,0)))(h6:cs[6]?=some (.slice a m c))(hrow:w.ownsRow 0 213 3 (.slice a m c) m TF)(hm:m≤300) :
  Calls Tryz.prog 183 #[ptr s,.int .i64 kind] w fun e w'=>e=.returned (.int .i64 ((m:Int)+1))∧∃K',Began w s cs (.slice a m c) m TF kind K' w':=by
 have HF:=aab (fun w=>alc w kind hk)
 have HP:Hid (∀{W V wz:World} {K':Value} {j0:Nat},Below w.heap.size w W→Works W (fun k=>k=w.heap.size) [] w.heap.size (.slice none 0 0) kind (.iface (freshT kind) (ptr w.heap.size))→w.heap.size<W.heap.size→Below W.heap.size W V→V.grownBy wz (Value.slice a m c).ownBlock→wz.ownsRow 0 213 3 K' (m+1) (TF++[.int .i64 kind,.iface (freshT kind) (ptr w.heap.size),.slice none 0 0])→(K'.ownBlock=(Value.slice a m c).ownBlock∨K'.ownBlock=some j0)→W.heap.size≤j0→wz.heap[s]?=some (.cells cs.toArray 167 (0,0))∧Began w s cs (.slice a m c) m TF kind K' (wz.setCell ⟨s,6,none⟩ K')):=fun a1 a2 a3 a4 a5 a6 a7 a8=>alG h hrow a1 a2 a3 a4 a5 a6 a7 a8
 have c6:w.cell? ⟨s,6,none⟩=some (.slice a m c):=aaa h 6 _ (by simpa using h6)
 have z6:w.frozen? ⟨s,6,none⟩=false:=aac h
 have hl:=lt_of_block h
 have HZ:Hid (∀wz:World,wz.heap[s]?=some (.cells cs.toArray 167 (0,0))→wz.cell? ⟨s,6,none⟩=some (.slice a m c)∧wz.frozen? ⟨s,6,none⟩=false):=fun wz hw=>⟨aaa hw 6 _ (by simpa using h6),aac hw⟩
 have HRW:=aab hrow
 obtain⟨i0,hi,hz0,hz1,hz2⟩:=info_parts aoM
 obtain⟨Post,hPost⟩:∃Post:Value→World→Prop,Post=fun K' w'=>Began w s cs (.slice a m c) m TF kind K' w':=⟨_,rfl⟩
 have HQ:Hid (∀K' w',Began w s cs (.slice a m c) m TF kind K' w'→Post K' w'):=fun K' w' q=>by rw[hPost];exact q
 have HR:Hid (∀e w',e=Ending.returned (.int .i64 ((m:Int)+1))∧(∃K',Post K' w')→e=Ending.returned (.int .i64 ((m:Int)+1))∧∃K',Began w s cs (.slice a m c) m TF kind K' w'):=fun e w' ⟨q1,K',q2⟩=>⟨q1,K',by rw[hPost]at q2;exact q2⟩
 clear hPost
 refine Calls.mono ?_ (unhide HR)
 generalize freshT kind=FT at *
 clear h hrow h6 hk
 go_enter Tryz.func183,Tryz.ntmps183
 go_wp2_with fail
 go_region_law (first
  |(refine aak rfl 228 #[.tmp 11] #[3] rfl aqV #[.int .i64 kind] rfl _ ((unhide HF) _) ?_;rintro e w1 ⟨rfl,hwk,hb1,hs1⟩;have hlw:s<w1.heap.size:=Nat.lt_of_lt_of_le hl hb1.size;have HB1:=aab (undrew hb1);have HW1:=aab hwk;have hz3:w1.frozen? ⟨s,6,none⟩=false:=(hb1.frozen (p:=⟨s,6,none⟩) hl).trans z6;have hc1:w1.cell? ⟨s,6,none⟩=some (.slice a m c):=(hb1.cell (p:=⟨s,6,none⟩) hl).trans c6;clear hb1 hwk;refine⟨_,rfl,?_⟩)
  |(refine aau rfl (.tmp 9) (.tmp 14) 160 rfl 0 213 i0 (.agg #[.int .i64 0,.nilIface,.slice none 0 0]) 3 48 Tryz.underlying160 hi hz0 hz1 hz2 rfl (by decide) (.slice a m c) m TF rfl (by exact(aav (unhide HRW) (unhide HB1)).alloc _) ⟨w1.heap.size,0,none⟩ 1 1 [.int .i64 kind,.iface FT (ptr w.heap.size),.slice none 0 0] rfl rfl (by exact amN w1 kind FT w.heap.size) (by simp[Value.oneCell']) (by unfold maxLen;omega) (by omega) (by omega) ?_;intro v' wz hownz hgrow hat;obtain⟨va,vc,hvs⟩:=aas hownz;subst hvs;have hn2:=(unhide HP) (unhide HB1) (unhide HW1) hs1 ((Below.refl _ _).alloc (Nat.le_refl _) _) hgrow hownz hat (by simp);obtain⟨hzn,hpost⟩:=hn2;have HPO:=aab ((unhide HQ) _ _ hpost);have d1:=((unhide HZ) wz hzn).1;have z1:=((unhide HZ) wz hzn).2;have hlz:=lt_of_block hzn;clear hownz hgrow hat hzn hpost))
 all_goals
  go_wp2
  go_returns
  exact⟨rfl,_,unhide HPO⟩
end Go.Proofs.YtblomippkddgiaaGreatDoor
