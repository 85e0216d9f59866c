import Derived.Test.YtblomippkddgiaaGreatDoorJ27
import Derived.Lib.ConvBytes
set_option maxRecDepth 100000
set_option maxHeartbeats 2000000
namespace Go.Proofs.YtblomippkddgiaaGreatDoor
open Go.RowKit
theorem JA(w:World)(cb lb nl:Nat)(ln:Int)(hk:ln<0\/(nl:Int)<=ln)(b3:w.cell? ⟨cb,3,none⟩=some (.slice (some ⟨lb,0,none⟩) nl nl)):
  Calls Tryz.prog 39 #[ptr cb,.int .i64 ln] w fun e w'=>e=.returned (.tuple #[.agg #[.int .i64 0,.int .i64 0,.slice none 0 0],.int .i64 14])/\Below w.heap.size w w':=by
 have HB:Hid (Below w.heap.size w (w.alloc (.cells #[.int .i64 0,.int .i64 0,.slice none 0 0] 46))):=(Below.refl _ _).alloc (Nat.le_refl _) _;have hl:=lt_of_cell b3;by_cases h0:ln<0
 ·have h1:¬0<=ln:=by omega
  clear hk;go_enter Tryz.func39,Tryz.ntmps39;go_wp2_with (first|(go_at_call 73;go_in))
  exact bodyPost_ret (v:=.tuple #[.agg #[.int .i64 0,.int .i64 0,.slice none 0 0],.int .i64 14]) (by simp[results,Tryz.results39,go_sem]) rfl ⟨rfl,Aa HB⟩
 ·have h1:0<=ln:=by omega
  have h2:¬ln<(nl:Int):=by omega
  clear hk;go_enter Tryz.func39,Tryz.ntmps39;go_wp2_with (first|(go_at_call 73;go_in))
  exact bodyPost_ret (v:=.tuple #[.agg #[.int .i64 0,.int .i64 0,.slice none 0 0],.int .i64 14]) (by simp[results,Tryz.results39,go_sem]) rfl ⟨rfl,Aa HB⟩
theorem Jz(w:World)(x cs n cap:Nat)(cl ln:Int)(hx:w.cell? ⟨x,2,none⟩=some (.slice (some ⟨cs,0,none⟩) n cap))(hc:cl<0\/(n:Int)<=cl):
  Calls Tryz.prog 16 #[ptr x,.int .i64 cl,.int .i64 ln] w fun e w'=>e=.returned (.tuple #[.agg #[.int .i64 0,.int .i64 0,.slice none 0 0],.int .i64 13])/\Below w.heap.size w w':=by
 have HB:Hid (Below w.heap.size w (w.alloc (.cells #[.int .i64 0,.int .i64 0,.slice none 0 0] 46))):=(Below.refl _ _).alloc (Nat.le_refl _) _;have hl:=lt_of_cell hx;by_cases h0:cl<0
 ·have h1:¬0<=cl:=by omega
  clear hc;go_enter Tryz.func16,Tryz.ntmps16;go_wp2_with (first|(go_at_call 38;go_in))
  exact bodyPost_ret (v:=.tuple #[.agg #[.int .i64 0,.int .i64 0,.slice none 0 0],.int .i64 13]) (by simp[results,Tryz.results16,go_sem]) rfl ⟨rfl,Aa HB⟩
 ·have h1:0<=cl:=by omega
  have h2:¬cl<(n:Int):=by omega
  clear hc;go_enter Tryz.func16,Tryz.ntmps16;go_wp2_with (first|(go_at_call 38;go_in))
  exact bodyPost_ret (v:=.tuple #[.agg #[.int .i64 0,.int .i64 0,.slice none 0 0],.int .i64 13]) (by simp[results,Tryz.results16,go_sem]) rfl ⟨rfl,Aa HB⟩
theorem Il(w:World)(x cs n cap cb i:Nat)(ln st sq er:Int)(v:List R.It)(hx:w.cell? ⟨x,2,none⟩=some (.slice (some ⟨cs,0,none⟩) n cap))(hi:i<n)(hcs:w.cell? ⟨cs,i,none⟩=some (ptr cb))
  (H30:Hid (∀w',Below w.heap.size w w'->Calls Tryz.prog 39 #[ptr cb,.int .i64 ln] w' fun e w''=>(∃O,e=.returned (.tuple #[.agg #[.int .i64 st,.int .i64 sq,O],.int .i64 er])/\V.Row w'' w'.heap.size O v)/\Below w'.heap.size w' w'')):
  Calls Tryz.prog 16 #[ptr x,.int .i64 (i:Int),.int .i64 ln] w fun e w'=>(∃O,e=.returned (.tuple #[.agg #[.int .i64 st,.int .i64 sq,O],.int .i64 er])/\V.Row w' w.heap.size O v)/\Below w.heap.size w w':=by
 have q1:(0:Int)<=(i:Int):=by omega
 have q2:(i:Int)<(n:Int):=by omega
 have hl1:=lt_of_cell hx;have hl2:=lt_of_cell hcs;have HB:Hid (Below w.heap.size w (w.alloc (.cells #[.int .i64 0,.int .i64 0,.slice none 0 0] 46))):=(Below.refl _ _).alloc (Nat.le_refl _) _;have HC:=Ab ((Aa H30) _ (Aa HB));clear H30;go_enter Tryz.func16,Tryz.ntmps16;go_wp2_with (first|(go_at_call 38;go_in))
 refine(Aa HC).mono ?_;rintro e w1 ⟨⟨O,rfl,hrow⟩,hb⟩;obtain⟨oa,on,oc,hO⟩:=Am hrow;subst hO;have hs:=hb.size;simp at hs;have hby:w1.heap[w.heap.size]?=some (.cells #[.int .i64 0,.int .i64 0,.slice none 0 0] 46 (0,0)):=(hb.block _ (by simp)).trans (heap_alloc_new w _);have d0:w1.cell? ⟨w.heap.size,0,none⟩=some (.int .i64 0):=cell_of hby 0 _ rfl;have d1:w1.cell? ⟨w.heap.size,1,none⟩=some (.int .i64 0):=cell_of hby 1 _ rfl;have d2:w1.cell? ⟨w.heap.size,2,none⟩=some (.slice none 0 0):=cell_of hby 2 _ rfl;have z0:w1.frozen? ⟨w.heap.size,0,none⟩=false:=open_list hby;have z1:w1.frozen? ⟨w.heap.size,1,none⟩=false:=open_list hby;have z2:w1.frozen? ⟨w.heap.size,2,none⟩=false:=open_list hby;have HW:=Ab (((((Aa HB).trans (hb.mono (by simp))).setCell (p:=⟨w.heap.size,0,none⟩) (by simp) (.int .i64 st)).setCell (p:=⟨w.heap.size,1,none⟩) (by simp) (.int .i64 sq)).setCell (p:=⟨w.heap.size,2,none⟩) (by simp) (.slice oa on oc));have HR:Hid (V.Row (((w1.setCell ⟨w.heap.size,0,none⟩ (.int .i64 st)).setCell ⟨w.heap.size,1,none⟩ (.int .i64 sq)).setCell ⟨w.heap.size,2,none⟩ (.slice oa on oc)) w.heap.size (.slice oa on oc) v):=by
  have hkp:Ae (fun k=>k=w.heap.size) w1 (((w1.setCell ⟨w.heap.size,0,none⟩ (.int .i64 st)).setCell ⟨w.heap.size,1,none⟩ (.int .i64 sq)).setCell ⟨w.heap.size,2,none⟩ (.slice oa on oc)):=((Ai _).trans (Ai _)).trans (Ai _);refine V.Db (hkp.row hrow (fun j hj e=>?_)) (by simp);have:=((World.ownsRow.lt hrow) j hj).1;simp at this;omega
 clear hb hby hrow;have m0:w.heap.size<w1.heap.size:=by omega
 go_wp2;exact bodyPost_ret (v:=.tuple #[.agg #[.int .i64 st,.int .i64 sq,.slice oa on oc],.int .i64 er]) (by simp[results,Tryz.results16,go_sem,d0,d1,d2]) rfl ⟨⟨_,rfl,Aa HR⟩,Aa HW⟩
theorem LW.status{p:Pl}{F:Ag}{G:R.Wd}{w:World}(h:LW p F G w)(hres:∀(i:Nat) (c:R.Cl) (k:Nat) (l:R.Ln),G.Ad[i]?=some c->c.lines[k]?=some l->l.result.length<=1000)(cl ln:Int):
  Calls Tryz.prog 16 #[ptr p.x,.int .i64 cl,.int .i64 ln] w fun e w'=>(∃O,e=XT (R.Df G cl ln) O/\V.Row w' w.heap.size O (R.Df G cl ln).2.2.1)/\Below w.heap.size w w':=by
 unfold XT R.Df;by_cases h1:cl<0\/(G.Ad.length:Int)<=cl
 ·rw[if_pos h1];refine(Jz w p.x p.cs G.Ad.length p.cap cl ln (cell_of h.bx 2 _ rfl) h1).mono ?_;rintro e w' ⟨rfl,hb⟩;exact⟨⟨_,rfl,V.Le _ _⟩,hb⟩
 ·rw[if_neg h1];obtain⟨i,rfl⟩:∃i:Nat,cl=(i:Int):=⟨cl.toNat,by omega⟩;have hi:i<G.Ad.length:=by omega
  have hc:=List.getElem?_eq_getElem hi;have hln:=(h.wf.cl i _ hc).lines;by_cases h2:ln<0\/G.c.lines<=ln
  ·rw[if_pos h2];refine(Il w p.x p.cs G.Ad.length p.cap (p.cb i) i ln 0 0 14 [] (cell_of h.bx 2 _ rfl) hi (h.TH hi) ?_);intro w' hb;refine(JA w' (p.cb i) (p.lb i) _ ln (by omega) (KM (h.below hb) hc).a3).mono ?_;rintro e w'' ⟨rfl,hb'⟩;exact⟨⟨_,rfl,V.Le _ _⟩,hb'⟩
  ·rw[if_neg h2];obtain⟨k,rfl⟩:∃k:Nat,ln=(k:Int):=⟨ln.toNat,by omega⟩;have hk:k<G.Ad[i].lines.length:=by omega
   have hl:=List.getElem?_eq_getElem hk;rw[R.Bc hc hl];refine Il w p.x p.cs G.Ad.length p.cap (p.cb i) i k _ _ 0 _ (cell_of h.bx 2 _ rfl) hi (h.TH hi) ?_;intro w' hb;have h':=h.below hb;obtain⟨xs,x,hL,hR,hx,hx1,hla,_,hit⟩:=h'.line hc hl;have:=MU w' F (p.cb i) (p.lb i) _ k x _ (hres i _ k _ hc hl) hit hk (KM h' hc).a3 hla;rw[hx1.state,hx1.seq]at this;exact this
def Qt(W:World)(G:Nat)(l:List UInt8):Prop:=G<W.heap.size/\∀j (c:UInt8),l[j]?=some c->W.cell? ⟨G,j,none⟩=some (.int .u8 (c.toNat:Int))/\W.frozen? ⟨G,j,none⟩=false
theorem Qt.set{W:World}{G:Nat}{l:List UInt8}(h:Qt W G l)(i:Nat)(x:UInt8):Qt (W.setCell ⟨G,i,none⟩ (.int .u8 (x.toNat:Int))) G (l.set i x):=by
 refine⟨by simpa using h.1,fun j c hj=>?_⟩;by_cases hji:j=i
 ·subst hji;have hl:j<l.length:=by
   have:=(List.getElem?_eq_some_iff.1 hj).1;simpa using this
  rw[List.getElem?_set_self hl]at hj;obtain rfl:=Option.some.inj hj;obtain⟨h1,h2⟩:=h.2 j _ (List.getElem?_eq_getElem hl);exact⟨by simp[go_sem,h1],by simpa [go_sem] using h2⟩
 ·rw[List.getElem?_set_ne (by omega)]at hj;obtain⟨h1,h2⟩:=h.2 j c hj;exact⟨by simp[go_sem,h1],by simpa [go_sem] using h2⟩
theorem Qt.conv{W:World}{G:Nat}{l:List UInt8}(h:Qt W G l)(cap:Nat):(convert 199 9 (.slice (some ⟨G,0,none⟩) l.length cap)).run Tryz.prog W=.ok (.string (str l)) W:=by
 refine run_convert_bytes_back (P:=Tryz.prog) W 199 9 5 ⟨G,0,none⟩ cap l Tryz.underlying199 (by kernel_rfl) Tryz.underlying9 fun j hj=>?_
 rw[Addr.add_lit,Nat.zero_add];exact(h.2 j _ (List.getElem?_eq_getElem hj)).1
theorem V8(W:World)(l:List UInt8):∃(cap:Nat) (W':World),(convert 9 199 (.string (str l))).run Tryz.prog W=.ok (.slice (some ⟨W.heap.size,0,none⟩) l.length cap) W'/\Qt W' W.heap.size l/\Below W.heap.size W W':=by
 have h:=Lib.run_convert_string_bytes (P:=Tryz.prog) W 9 199 5 (str l) Tryz.underlying9 Tryz.underlying199 (by kernel_rfl);rw[Au]at h;refine⟨_,_,h,⟨by rw[Lib.bytesWorld_size];omega,fun j c hj=>⟨?_,?_⟩⟩,?_⟩
 ·have hl:j<l.length:=(List.getElem?_eq_some_iff.1 hj).1;rw[Lib.bytesWorld_cell W 5 (str l) j (by rw[Au];exact hl)];simp[List.getD,hj]
 ·have hl:j<l.length:=(List.getElem?_eq_some_iff.1 hj).1;have hs:l.length<=(Lib.bytesCells W 5 (str l)).size:=by
   unfold Lib.bytesCells;simp
  simp only[World.frozen?,Lib.bytesWorld_at_new];simp;omega
 ·refine⟨?_,?_,?_,by rw[Lib.bytesWorld_size];omega,fun k hk=>Lib.bytesWorld_at_old W 5 (str l) k hk⟩
  ·simp[Lib.bytesWorld,World.freeze];rfl
  ·simp[Lib.bytesWorld,World.freeze]
  ·simp[Lib.bytesWorld,World.freeze];rfl
theorem Za(a d:UInt8):bits .xor .u8 (a.toNat:Int) (d.toNat:Int)=((a ^^^ d).toNat:Int):=by
 have ha:=a.toNat_lt;have hd:=d.toNat_lt;have n1:(BitVec.ofInt 8 (a.toNat:Int)).toNat=a.toNat:=by
  rw[BitVec.ofInt_natCast,BitVec.toNat_ofNat];omega
 have n2:(BitVec.ofInt 8 (d.toNat:Int)).toNat=d.toNat:=by
  rw[BitVec.ofInt_natCast,BitVec.toNat_ofNat];omega
 show IntKind.u8.wrap ((BitVec.ofInt 8 (a.toNat:Int) ^^^ BitVec.ofInt 8 (d.toNat:Int)).toNat:Int)=_;rw[BitVec.toNat_xor,n1,n2,UInt8.toNat_xor];have hlt:a.toNat ^^^ d.toNat<2 ^ 8:=Nat.xor_lt_two_pow (by omega) (by omega);rw[wrap_u8];omega
def KN(t:TypeId):Bool:=t==84 || t==89 || t==113 || t==122 || t==134 || t==139 || t==106
def B6(w:World)(E:Ag):Prop:=∀b,E b->(∃cur t z,w.heap[b]?=some (.cells cur t z)/\KN t=false)\/∃cap buf cl a r tm,w.heap[b]?=some (.chan cap buf cl a r tm)
theorem B6.cells{w:World}{E:Ag}(h:B6 w E){b:Nat}{cur:Array Value}{t:TypeId}{z:Nat×Nat}(hb:w.heap[b]?=some (.cells cur t z))(ht:KN t=true):¬E b:=fun hE=>by
 rcases h b hE with ⟨cur',t',z',h1,h2⟩|⟨cap,buf,cl,a,r,tm,h1⟩
 ·rw[hb]at h1;cases h1;rw[ht]at h2;cases h2
 ·rw[hb]at h1;cases h1
theorem B6.map{w:World}{E:Ag}(h:B6 w E){b:Nat}{es:Array MapEntry}{cl:Nat}(hb:w.heap[b]?=some (.map es cl)):¬E b:=fun hE=>by
 rcases h b hE with ⟨cur',t',z',h1,h2⟩|⟨cap,buf,cl,a,r,tm,h1⟩
 ·rw[hb]at h1;cases h1
 ·rw[hb]at h1;cases h1
theorem B6.one{w:World}{b:Nat}{cur:Array Value}{t:TypeId}{z:Nat×Nat}(h:w.heap[b]?=some (.cells cur t z))(ht:KN t=false):B6 w (fun k=>k=b):=fun k hk=>Or.inl ⟨cur,t,z,by subst hk;exact h,ht⟩
theorem B6.or{w:World}{E E':Ag}(h:B6 w E)(h':B6 w E'):B6 w (fun k=>E k\/E' k):=fun k hk=>by
 rcases hk with hk|hk
 ·exact h k hk
 ·exact h' k hk
theorem B6.row{w:World}{B n size:Nat}{e:TypeId}{v:Value}{xs:List Value}(hr:w.ownsRow B e size v n xs)(he:KN e=false):B6 w (fun k=>v.ownBlock=some k):=fun k hk=>by
 rcases hr.2 with ⟨rfl,_⟩|⟨g,cap,cur,rfl,_,hg,_⟩
 ·cases hk
 ·cases hk;exact Or.inl ⟨_,_,_,hg,he⟩
abbrev Dm(G:R.Wd)(sv:List R.Sv)(Ao:List Int)(seen:List R.Sn)(jobs:List R.Jb):R.Wd:={G with Ac:=sv,Ao:=Ao,seen:=seen,jobs:=jobs}
theorem LW.Qn{p:Pl}{F F' E:Ag}{G:R.Wd}{w w':World}(h:LW p F G w){t:SP}{sv:List R.Sv}{Ao:List Int}{seen:List R.Sn}{jobs:List R.Jb}(hs:Dh p.s p.n p.nm t F' G.c sv Ao seen jobs w')(hk:Ae E w w')(hE:B6 w E)(hF:∀k,F k->F' k)(hlt:∀k,F' k->k<w'.heap.size)(hwf:R.Wf (Dm G sv Ao seen jobs))(hws:R.Ni G.c Ao seen jobs)(hbd:∀(i:Nat) (c:R.Cl),G.Ad[i]?=some c->∀u,BU (Dm G sv Ao seen jobs) c u=BU G c u):LW {p with t:=t} F' (Dm G sv Ao seen jobs) w':=by
 obtain⟨hx,hn,hcs,hnm⟩:=h.A4;have map':∀{α:Type} {k:TypeId} {b:Nat} {lit:α->Lit} {g:α->Option Int} {n:Nat},Mp w k b lit g n->Mp w' k b lit g n:=fun hm=>by
  obtain⟨es,q,hq⟩:=hm.block;exact hm.keep hk (hE.map hq)
 refine⟨hwf,hws,hk.at h.bx (hE.cells h.bx rfl),?_,?_,hs,map' h.names,fun i c hc=>hk.at (h.cl i c hc) (hE.cells (h.cl i c hc) rfl),fun i c hc=>?_,fun i c hc=>(map' (h.bound i c hc)).congr (hbd i c hc),⟨hF _ hx,hF _ hn,hF _ hcs,hF _ hnm⟩,fun i hi=>?_,h.inj,hlt⟩
 ·obtain⟨cur,h1,h2⟩:=h.VY;exact⟨cur,hk.at h1 (hE.cells h1 rfl),h2⟩
 ·obtain⟨K,h1,h2,h3⟩:=h.bn;refine⟨K,hk.at h1 (hE.cells h1 rfl),hk.row h2 (fun j hj=>?_),fun j hj=>hF _ (h3 j hj)⟩;rcases h2.2 with ⟨rfl,_⟩|⟨g,cap,cur,rfl,_,hg,_⟩
  ·cases hj
  ·cases hj;exact hE.cells hg rfl
 ·obtain⟨xs,h1,h2,h3⟩:=h.ln i c hc;exact⟨xs,hk.at h1 (hE.cells h1 rfl),h2,fun k l x hl hx=>(h3 k l x hl hx).keep hk (fun b cur _ hb=>hE.cells hb rfl) hF⟩
 ·obtain⟨a1,a2,a3,a4⟩:=h.Bw i hi;exact⟨hF _ a1,hF _ a2,hF _ a3,a4⟩
theorem Dh.Ur{s n nm:Nat}{t:SP}{F:Ag}{c:R.Cf}{sv:List R.Sv}{Ao:List Int}{seen:List R.Sn}{jobs:List R.Jb}{w:World}(h:Dh s n nm t F c sv Ao seen jobs w){u:Nat}{z:R.Sv×MV}(hz:t.zs[u]?=some z):∃g cap cur,t.K=.slice (some ⟨g,0,none⟩) t.zs.length cap/\w.heap[g]?=some (.cells cur 213 (0,0))/\F g/\w.cell? ⟨g,u*3,none⟩=some (.int .i64 z.1.kind)/\w.cell? ⟨g,u*3+1,none⟩=some z.2.wk/\w.cell? ⟨g,u*3+2,none⟩=some z.2.dn/\t.zs.length<=cap/\cap<=maxLen/\cur.size=cap*3/\cur.toList.take (t.zs.length*3)=tab Gk t.zs:=by
 have hu:=(List.getElem?_eq_some_iff.1 hz).1;rcases id h.made.2 with ⟨_,h0⟩|⟨g,cap,cur,hK,_,hg,hcap,hmax,hsz,htk⟩
 ·omega
 have q:∀j v,j<3->(Gk z)[j]?=some v->w.cell? ⟨g,u*3+j,none⟩=some v:=fun j v hj hv=>by
  have:=CW Gl t.zs u j z hz hj;rw[hv,<-htk,List.getElem?_take,if_pos (by omega)]at this;simp[World.cell?,hg];simpa using this
 refine⟨g,cap,cur,hK,hg,h.A4.2.2 g (by rw[hK];rfl),?_,q 1 _ (by omega) rfl,q 2 _ (by omega) rfl,hcap,hmax,hsz,htk⟩;exact q 0 _ (by omega) rfl
theorem VN{t:SP}{sv:List R.Sv}(h:t.zs.map (·.1)=sv){u:Nat}{s:R.Sv}(hs:sv[u]?=some s):∃z,t.zs[u]?=some z/\z.1=s:=by
 rw[<-h,List.getElem?_map]at hs;cases hz:t.zs[u]? with
 |none=>rw[hz]at hs;cases hs
 |some z=>rw[hz]at hs;exact⟨z,rfl,Option.some.inj hs⟩
theorem map_set{α β:Type}(f:α->β)(l:List α)(i:Nat)(x:α):(l.set i x).map f=(l.map f).set i (f x):=by
 apply List.ext_getElem?;intro j;simp only[List.getElem?_map,List.getElem?_set,List.length_map];split
 ·split<;>rfl
 ·rfl
theorem Qk{α:Type}{l:List α}{u i:Nat}{x y:α}(h:(l.set u x)[i]?=some y):(i=u/\y=x)\/(i≠u/\l[i]?=some y):=by
 rw[List.getElem?_set]at h;by_cases e:u=i
 ·rw[if_pos e]at h;split at h
  ·exact Or.inl ⟨e.symm,(Option.some.inj h).symm⟩
  ·cases h
 ·rw[if_neg e]at h;exact Or.inr ⟨fun q=>e q.symm,h⟩
theorem SA(l:List Value)(n i:Nat)(v:Value):(l.set i v).take n=(l.take n).set i v:=by
 apply List.ext_getElem?;intro j;simp only[List.getElem?_take,List.getElem?_set,List.length_take];by_cases hj:j<n
 ·by_cases e:i=j
  ·subst e;have:i<min n l.length↔i<l.length:=by omega
   simp[hj,this]
  ·simp[hj,e]
 ·by_cases e:i=j
  ·subst e;simp[hj];omega
  ·simp[hj,e]
def J4(z:R.Sv×MV):R.Sv×MV:=({z.1 with alive:=false},{z.2 with wk:=.nilIface})
theorem Dh.dead{s n nm:Nat}{t:SP}{F:Ag}{c:R.Cf}{sv:List R.Sv}{Ao:List Int}{seen:List R.Sn}{jobs:List R.Jb}{w:World}(h:Dh s n nm t F c sv Ao seen jobs w){u g cap:Nat}{z:R.Sv×MV}{cur:Array Value}(hz:t.zs[u]?=some z)(hK:t.K=.slice (some ⟨g,0,none⟩) t.zs.length cap)(hg:w.heap[g]?=some (.cells cur 213 (0,0)))(hcap:t.zs.length<=cap)(hmax:cap<=maxLen)(hsz:cur.size=cap*3)(htk:cur.toList.take (t.zs.length*3)=tab Gk t.zs):Dh s n nm {t with zs:=t.zs.set u (J4 z)} F c (sv.set u {z.1 with alive:=false}) Ao seen jobs (w.setCell ⟨g,u*3+1,none⟩ .nilIface):=by
 obtain⟨f1,f2,f3⟩:=h.A4;have hk:Ae (fun k=>k=g) w (w.setCell ⟨g,u*3+1,none⟩ .nilIface):=Ai _;have hav:Kz w F (fun k=>k=g):=Kz.one hg (by decide);refine⟨hk.at h.bs (AO h.bs hg (by decide)),?_,?_,fun y hy=>?_,fun i j a b ha hb hij k hk1=>?_,fun i j a b ha hb hij ha1 hb1=>?_,fun i r hr hne=>?_,h.inj,?_,f1,f2,f3⟩
 ·simp only[map_set];rw[h.zs];rfl
 ·simp only;rw[List.length_set];refine⟨by rw[BN Gl,List.length_set,Nat.mul_comm],Or.inr ⟨g,cap,_,hK,Nat.zero_le _,Ap (cs:=cur.toList) (off:=u*3+1) hg .nilIface,hcap,hmax,by simpa using hsz,?_⟩⟩;rw[SA,htk];exact Dy Gl t.zs u 1 z (J4 z) _ hz (by omega) rfl
 ·rcases List.mem_or_eq_of_mem_set hy with q|q
  ·exact(h.each y q).keep hk hav (fun _ r=>r)
  ·have h0:=(h.each z (List.mem_of_getElem? hz)).keep hk hav (fun _ r=>r);rw[q];exact⟨by simp[J4],h0.log,h0.own⟩
 ·have get:∀{i:Nat} {a:R.Sv×MV},(t.zs.set u (J4 z))[i]?=some a->∃a0,t.zs[i]?=some a0/\a.2.dn=a0.2.dn:=fun ha=>by
   rcases Qk ha with ⟨rfl,rfl⟩|⟨_,q⟩
   ·exact⟨z,hz,rfl⟩
   ·exact⟨_,q,rfl⟩
  obtain⟨a0,p1,p2⟩:=get ha;obtain⟨b0,p3,p4⟩:=get hb;rw[p2]at hk1;rw[p4];exact h.dns i j a0 b0 p1 p3 hij k hk1
 ·have get:∀{i:Nat} {a:R.Sv×MV},(t.zs.set u (J4 z))[i]?=some a->a.1.alive=true->t.zs[i]?=some a:=fun ha hl=>by
   rcases Qk ha with ⟨rfl,rfl⟩|⟨_,q⟩
   ·cases hl
   ·exact q
  exact h.ZU i j a b (get ha ha1) (get hb hb1) hij ha1 hb1
 ·obtain⟨y,h1,h2,h3⟩:=h.ln i r hr hne;exact⟨y,hk.at h1 (AO h1 hg (by decide)),h2,h3⟩
 ·obtain⟨a,b,hj⟩:=h.jobs;refine⟨a,b,hk.at hj (fun e=>?_)⟩;rw[e,hg]at hj;cases hj
theorem MN(w:World)(s g u m cap:Nat)(h6:w.cell? ⟨s,6,none⟩=some (.slice (some ⟨g,0,none⟩) m cap))(hu:u<m)(hm:m<=255):
  Calls Tryz.prog 132 #[ptr s,.int .i64 ((u:Int)+1)] w fun e w'=>e=.returned (.pointer (some ⟨g,u*3,none⟩))/\w'=w:=by
 have e1:IntKind.i64.wrap ((u:Int)+1-1)=(u:Int):=by rw[IntKind.wrap_i64];omega
 have q1:(0:Int)<=(u:Int):=by omega
 have q2:(u:Int)<(m:Int):=by omega
 go_enter Tryz.func132,Tryz.ntmps132;go_wp2
 go_ret
 exact⟨rfl,rfl⟩
def VE(y:Na):Na:={y with state:=3,asked:=[],answer:=[],at':=0,wait:=0,tries:=0}
theorem VF(w:World)(b:Nat)(y:Na)(h:w.heap[b]?=some (.cells y.cells.toArray 147 (0,0))):
  Calls Tryz.prog 227 #[ptr b] w fun e w'=>e=.returned (.tuple #[])/\w'.heap[b]?=some (.cells (VE y).cells.toArray 147 (0,0))/\Ae (fun k=>k=b) w w':=by
 obtain⟨a0,a1,a2,a3,a4,a5,a6,a7,a8,a9,a10⟩:=Zf h;have z:∀j,w.frozen? ⟨b,j,none⟩=false:=fun j=>open_list h
 have hl:=lt_of_block h;have HE:Hid (∀W,W=((((((((((w.setCell ⟨b,0,none⟩ (.int .i64 y.client)).setCell ⟨b,1,none⟩ (.int .i64 y.Ax)).setCell ⟨b,2,none⟩ (.int .i64 y.line)).setCell ⟨b,3,none⟩ (.int .i64 y.seq)).setCell ⟨b,4,none⟩ (.int .i64 y.uid)).setCell ⟨b,5,none⟩ (.int .i64 3)).setCell ⟨b,6,none⟩ (.string ⟨#[]⟩)).setCell ⟨b,7,none⟩ (.string ⟨#[]⟩)).setCell ⟨b,8,none⟩ (.int .i64 0)).setCell ⟨b,9,none⟩ (.int .i64 0)).setCell ⟨b,10,none⟩ (.int .i64 0)->W.heap[b]?=some (.cells (VE y).cells.toArray 147 (0,0))/\Ae (fun k=>k=b) w W):=fun W hW=>by
  subst hW;refine⟨?_,((((((((((Ai _).trans (Ai _)).trans (Ai _)).trans (Ai _)).trans (Ai _)).trans (Ai _)).trans (Ai _)).trans (Ai _)).trans (Ai _)).trans (Ai _)).trans (Ai _)⟩;have e0:=Ap (off:=0) h (.int .i64 y.client);have e1:=Ap (off:=1) e0 (.int .i64 y.Ax);have e2:=Ap (off:=2) e1 (.int .i64 y.line);have e3:=Ap (off:=3) e2 (.int .i64 y.seq);have e4:=Ap (off:=4) e3 (.int .i64 y.uid);have e5:=Ap (off:=5) e4 (.int .i64 3);have e6:=Ap (off:=6) e5 (.string ⟨#[]⟩);have e7:=Ap (off:=7) e6 (.string ⟨#[]⟩);have e8:=Ap (off:=8) e7 (.int .i64 0);have e9:=Ap (off:=9) e8 (.int .i64 0);exact Ap (off:=10) e9 (.int .i64 0)
 clear h;go_enter Tryz.func227,Tryz.ntmps227;go_wp2;go_returns;exact⟨rfl,(Aa HE) _ rfl⟩
theorem TS(w:World)(s g u m cap n:Nat)(bs:Nat->Nat)(wk:Value)(J:Value->Nat->World->Prop)(hn:n<=9)(hm:m<=255)(hu:u<m)(h6:w.cell? ⟨s,6,none⟩=some (.slice (some ⟨g,0,none⟩) m cap))(hg1:w.cell? ⟨g,u*3+1,none⟩=some wk)(hz:w.frozen? ⟨g,u*3+1,none⟩=false)
  (H71:Hid (Calls Tryz.prog 71 #[ptr s] (w.setCell ⟨g,u*3+1,none⟩ .nilIface) fun e w'=>∃O,e=.returned O/\J O 0 w'))
  (HS:Hid (∀O k wr,J O k wr->∃a c,O=.slice a n c))
  (HR:Hid (∀O k wr,k<n->J O k wr->∃g c,O=.slice (some ⟨g,0,none⟩) n c/\wr.cell? ⟨g,k,none⟩=some (ptr (bs k))/\∃x st,wr.cell? ⟨bs k,4,none⟩=some (.int .i64 x)/\wr.cell? ⟨bs k,5,none⟩=some (.int .i64 st)/\(x=(u:Int)+1/\¬st=2->Calls Tryz.prog 227 #[ptr (bs k)] wr fun e w'=>e=.returned (.tuple #[])/\J O (k+1) w')/\(¬(x=(u:Int)+1/\¬st=2)->J O (k+1) wr))):
  Calls Tryz.prog 182 #[ptr s,.int .i64 ((u:Int)+1)] w fun e w'=>e=.returned (.tuple #[])/\∃O,J O n w':=by
 have HV:=Ab (MN w s g u m cap h6 hu hm);have hlg:=lt_of_cell hg1;go_enter Tryz.func182,Tryz.ntmps182;go_wp2_with (first|(go_at_call 132;refine(Aa HV).mono ?_;rintro e w1 ⟨rfl,hw1⟩;rw[hw1];clear hw1))
 refine(Aa H71).mono ?_;rintro e w1 ⟨O,rfl,hJ⟩;obtain⟨a,c,hO⟩:=(Aa HS) O 0 w1 hJ;subst hO;have H0:=Ab hJ;clear hJ hg1 hz h6;go_wp2;go_loopw [14] (fun iv wr=>∃k:Nat,k<=n/\iv=.int .i64 k/\J (.slice a n c) k wr) (fun iv _=>n-(intOf iv).toNat)
 case atStart=>exact⟨0,Nat.zero_le _,rfl,Aa H0⟩
 case round=>
  obtain⟨k,hk,rfl,hJ⟩:=hrel;by_cases hlt:k<n
  ·obtain⟨g',c',hO,hcell,x,st,hx,hst,hyes,hno⟩:=(Aa HR) _ k wr hlt hJ;cases hO;have HY:=Ab hyes;have HN:=Ab hno;clear hyes hno hJ;by_cases h1:x=(u:Int)+1
   ·have e1:(x==(u:Int)+1)=true:=by simpa using h1
    by_cases h2:st=2
    ·have e2:(st != 2)=false:=by simpa using h2
     have HI:=Ab ((Aa HN) (by omega));clear h1 h2;go_wp2;go_roundw
     case rel=>exact⟨k+1,by omega,by go_num,Aa HI⟩
     case measure=>simp[intOf];omega
    ·have e2:(st != 2)=true:=by simpa using h2
     have HC:=Ab ((Aa HY) ⟨h1,h2⟩);clear h1 h2;go_wp2_with (first|(go_at_call 227;refine(Aa HC).mono ?_;rintro e w3 ⟨rfl,hw3⟩))
     go_roundw
     case rel=>exact⟨k+1,by omega,by go_num,hw3⟩
     case measure=>simp[intOf];omega
   ·have e1:(x==(u:Int)+1)=false:=by simpa using h1
    have HI:=Ab ((Aa HN) (by omega));clear h1;go_wp2;go_roundw
    case rel=>exact⟨k+1,by omega,by go_num,Aa HI⟩
    case measure=>simp[intOf];omega
  ·obtain rfl:k=n:=by omega
   have HI:=Ab hJ;clear hJ;go_wp2;go_returns;exact⟨rfl,_,Aa HI⟩
theorem aaf:∀args w,(callFunc 235 args).run Tryz.prog w=.ok (.enter 235 args) w:=fun _ _=>rfl
theorem Z0:∀args w,(callFunc 192 args).run Tryz.prog w=.ok (.enter 192 args) w:=fun _ _=>rfl
def XE(p:Pl)(F:Ag)(w:World)(G:R.Wd)(w':World):Prop:=∃t F',LW {p with t:=t} F' G w'/\Ah F F' w w'
end Go.Proofs.YtblomippkddgiaaGreatDoor
