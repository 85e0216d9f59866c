import Derived.Test.YtblomippkddgiaaGreatDoorJ44
import Derived.Test.YtblomippkddgiaaGreatDoorJ35
set_option maxRecDepth 100000
set_option maxHeartbeats 2000000
namespace Go.Proofs.YtblomippkddgiaaGreatDoor
open Go.RowKit
theorem RM.TC{x:Nat}{v:RV}{F:Ag}{G:R.Wd}{w w':World}(h:RM x v F G w){i gC:Nat}{z:R.Cl×CE}{K:Value}{b':List Int}(hz:v.zc[i]?=some z)(hgC:v.C.ownBlock=some gC)(hk:Ae (fun k=>k=gC\/z.2.bv.ownBlock=some k) w w')(hC:w'.ownsRow 0 232 3 v.C v.zc.length (tab Lx (v.zc.set i ({z.1 with bound:=b'},{z.2 with bv:=K}))))(hr:w'.ownsRow 0 3 1 K b'.length (BI b'))(hK:∀j,K.ownBlock=some j->z.2.bv.ownBlock=some j\/w.heap.size<=j):∃v' F',RM x v' F' {G with Ad:=(v.zc.set i ({z.1 with bound:=b'},{z.2 with bv:=K})).map (·.1)} w'/\Ah F F' w w':=by
 obtain⟨f1,f2,f3⟩:=h.A4;have hzi:=(List.getElem?_eq_some_iff.1 hz).1;obtain⟨ccur,hcb⟩:=C4 h.cl hgC;have hxf:∀k,(k=gC\/z.2.bv.ownBlock=some k)->F k:=fun k hk=>by
  rcases hk with rfl|hk
  ·exact h.rows k (Or.inr (Or.inr (Or.inr (Or.inr hgC))))
  ·exact((h.Bw i z hz).2 k hk).1
 have nb:∀{b:Nat} {ys:Array Value} {t:TypeId},w.heap[b]?=some (.cells ys t (0,0))->t≠232->t≠3->¬(b=gC\/z.2.bv.ownBlock=some b):=fun hb h1 h2 e=>by
  rcases e with rfl|e
  ·exact AO hb hcb h1 rfl
  ·exact Bv (h.bound i z hz) hb (fun q=>h2 q.symm) e
 have nr:∀{n size:Nat} {e:TypeId} {M:Value} {xs:List Value},w.ownsRow 0 e size M n xs->e≠232->e≠3->∀j,M.ownBlock=some j->¬(j=gC\/z.2.bv.ownBlock=some j):=fun hr h1 h2 j hj=>by
  obtain⟨cur,hc⟩:=C4 hr hj;exact nb hc h1 h2
 have nI:∀{b:Nat} {ys:Array Value},w.heap[b]?=some (.cells ys 3 (0,0))->z.2.bv.ownBlock≠some b->¬(b=gC\/z.2.bv.ownBlock=some b):=fun hb h1 e=>by
  rcases e with rfl|e
  ·exact AO hb hcb (by decide) rfl
  ·exact h1 e
 have nL:¬(v.L=gC\/z.2.bv.ownBlock=some v.L):=nI h.Ao (fun e=>((h.Bw i z hz).2 v.L e).2.1 rfl);have nS:∀j,v.S.ownBlock=some j->¬(j=gC\/z.2.bv.ownBlock=some j):=fun j hj=>by
  obtain⟨cur,hc⟩:=C4 h.stands hj;exact nI hc (fun e=>((h.Bw i z hz).2 j e).2.2 hj)
 have hcl:∀(j:Nat) (y:R.Cl×CE),(v.zc.set i ({z.1 with bound:=b'},{z.2 with bv:=K}))[j]?=some y->(i=j/\y=({z.1 with bound:=b'},{z.2 with bv:=K}))\/(i≠j/\v.zc[j]?=some y):=fun j y hy=>by
  rw[List.getElem?_set]at hy;by_cases hij:i=j
  ·subst hij;rw[if_pos rfl,if_pos hzi]at hy;cases hy;exact Or.inl ⟨rfl,rfl⟩
  ·rw[if_neg hij]at hy;exact Or.inr ⟨hij,hy⟩
 refine⟨{v with zc:=v.zc.set i ({z.1 with bound:=b'},{z.2 with bv:=K})},fun k=>F k\/K.ownBlock=some k,⟨hk.at h.bx (nb h.bx (by decide) (by decide)),hk.row h.names (nr h.names (by decide) (by decide)),hk.row h.stands nS,h.zs,hk.row h.C5 (nr h.C5 (by decide) (by decide)),h.F7,hk.row h.EC (nr h.EC (by decide) (by decide)),rfl,by rw[List.length_set];exact hC,fun j y hy=>?_,fun j y hy=>?_,hk.at h.Ao nL,hk.at h.seen (nb h.seen (by decide) (by decide)),⟨Or.inl f1,Or.inl f2,Or.inl f3⟩,fun j hj=>Or.inl (h.rows j hj),fun j y hy=>?_,h.sL,fun a b y y' hy hy' hab=>?_,fun k hf=>?_⟩,⟨hk.mono (fun k _ hf=>hxf k hf),fun k hf=>?_⟩⟩
 ·rcases hcl j y hy with ⟨_,e⟩|⟨hij,hy⟩
  ·rw[e];exact hr
  ·refine hk.row (h.bound j y hy) (fun b hb=>?_);obtain⟨cur,hc⟩:=C4 (h.bound j y hy) hb;exact nI hc (fun e=>(h.inj i j z y hz hy hij).2 b e hb)
 ·rcases hcl j y hy with ⟨_,e⟩|⟨hij,hy⟩
  ·rw[e];obtain⟨zl,l1,l2,l3⟩:=h.ln i z hz;exact⟨zl,l1,hk.at l2 (nb l2 (by decide) (by decide)),l3⟩
  ·obtain⟨zl,l1,l2,l3⟩:=h.ln j y hy;exact⟨zl,l1,hk.at l2 (nb l2 (by decide) (by decide)),l3⟩
 ·rcases hcl j y hy with ⟨_,e⟩|⟨hij,hy⟩
  ·rw[e];refine⟨Or.inl (h.Bw i z hz).1,fun b hb=>⟨Or.inr hb,?_⟩⟩;rcases hK b hb with q|q
   ·exact((h.Bw i z hz).2 b q).2
   ·refine⟨fun e=>?_,fun e=>?_⟩
    ·have e':b=v.L:=e;have:=h.lt v.L f2;omega
    ·have:=h.lt b (h.rows b (Or.inr (Or.inl e)));omega
  ·exact⟨Or.inl (h.Bw j y hy).1,fun b hb=>⟨Or.inl ((h.Bw j y hy).2 b hb).1,((h.Bw j y hy).2 b hb).2⟩⟩
 ·have key:∀(p q:Nat) (yp yq:R.Cl×CE),v.zc[p]?=some yp->v.zc[q]?=some yq->p≠q->∀k,K.ownBlock=some k->p=i->yq.2.bv.ownBlock≠some k:=fun p q yp yq hp hq hpq k hkk hpi e=>by
   subst hpi;rcases hK k hkk with r|r
   ·obtain rfl:=Option.some.inj (hz.symm.trans hp);exact(h.inj p q z yq hz hq hpq).2 k r e
   ·have:=h.lt k ((h.Bw q yq hq).2 k e).1;omega
  rcases hcl a y hy with ⟨ea,e1⟩|⟨hia,hy1⟩
  ·rcases hcl b y' hy' with ⟨eb,e2⟩|⟨hib,hy2⟩
   ·omega
   ·rw[e1];exact⟨(h.inj i b z y' hz hy2 hib).1,fun k hkk=>key i b z y' hz hy2 hib k hkk rfl⟩
  ·rcases hcl b y' hy' with ⟨eb,e2⟩|⟨hib,hy2⟩
   ·rw[e2];refine⟨(h.inj a i y z hy1 hz (fun e=>hia e.symm)).1,fun k hkk e=>?_⟩;exact key i a z y hz hy1 hia k e rfl hkk
   ·exact h.inj a b y y' hy1 hy2 hab
 ·rcases hf with hf|hf
  ·exact Nat.lt_of_lt_of_le (h.lt k hf) hk.size
  ·obtain⟨cur,hc⟩:=C4 hr hf;exact(Array.getElem?_eq_some_iff.1 hc).1
 ·rcases hf with hf|hf
  ·exact Or.inl hf
  ·rcases hK k hf with q|q
   ·exact Or.inl (hxf k (Or.inr q))
   ·exact Or.inr q
theorem RM.bind{x:Nat}{v:RV}{F:Ag}{G:R.Wd}{w W wz:World}{i gC capC:Nat}{z:R.Cl×CE}{K:Value}{j0:Nat}{u:Int}(h:RM x v F G w)(hz:v.zc[i]?=some z)(hC:v.C=.slice (some ⟨gC,0,none⟩) v.zc.length capC)(hb:Below w.heap.size w W)(hg:W.grownBy wz z.2.bv.ownBlock)(hown:wz.ownsRow 0 3 1 K (z.1.bound.length+1) (BI z.1.bound++[.int .i64 u]))(hat:K.ownBlock=z.2.bv.ownBlock\/K.ownBlock=some j0)(hj:w.heap.size<=j0):wz.heap[gC]?=w.heap[gC]?/\wz.heap[x]?=w.heap[x]?/\∃v' F',RM x v' F' {G with Ad:=G.Ad.modify i fun c=>{c with bound:=c.bound++[u]}} (wz.setCell ⟨gC,i*3+1,none⟩ K)/\Ah F F' w (wz.setCell ⟨gC,i*3+1,none⟩ K):=by
 have hgC:v.C.ownBlock=some gC:=by rw[hC];rfl
 obtain⟨ccur,hcb⟩:=C4 h.cl hgC;have hl:=(Array.getElem?_eq_some_iff.1 hcb).1;have hgx:=(C9 h.bx (h.bound i z hz) (by decide) hb hg).trans h.bx.symm;have hgc:wz.heap[gC]?=w.heap[gC]?:=(C9 hcb (h.bound i z hz) (by decide) hb hg).trans hcb.symm;have hrowC:wz.ownsRow 0 232 3 v.C v.zc.length (tab Lx v.zc):=by
  have h0:=h.cl;rw[hC]at h0 ⊢;refine⟨h0.1,?_⟩;rcases h0.2 with ⟨e,_⟩|⟨g',cap',cur,hv,hb',hg',r⟩
  ·cases e
  ·cases hv;exact Or.inr ⟨gC,capC,cur,rfl,hb',hgc.trans hg',r⟩
 have hset:(wz.setCell ⟨gC,i*3+1,none⟩ K).ownsRow 0 232 3 v.C v.zc.length (tab Lx (v.zc.set i ({z.1 with bound:=z.1.bound++[u]},{z.2 with bv:=K}))):=by
  rw[hC]at hrowC ⊢;exact GH Gw hrowC hz (j:=1) (by omega) (u:=K) rfl
 have hkz:Ae (fun k=>k=gC) wz (wz.setCell ⟨gC,i*3+1,none⟩ K):=Ae.setCell (F:=fun k=>k=gC) (Ae.refl _ wz) (p:=⟨gC,i*3+1,none⟩) (Or.inl rfl) K;have hkw:Ae (fun k=>k=gC\/z.2.bv.ownBlock=some k) w (wz.setCell ⟨gC,i*3+1,none⟩ K):=by
  have h1:Ae (fun k=>k=gC\/z.2.bv.ownBlock=some k) w W:=Ae.Aq hb _;exact(h1.grown hg (fun k hk=>Or.inl (Or.inr hk))).setCell (p:=⟨gC,i*3+1,none⟩) (Or.inl (Or.inl rfl)) K
 have hrowK:(wz.setCell ⟨gC,i*3+1,none⟩ K).ownsRow 0 3 1 K (z.1.bound++[u]).length (BI (z.1.bound++[u])):=by
  have e:BI (z.1.bound++[u])=BI z.1.bound++[.int .i64 u]:=by simp[BI]
  rw[e,List.length_append];exact hkz.row hown (fun j hj e=>Bv hown (hgc.trans hcb) (by decide) (e ▸ hj))
 obtain⟨v',F',r1,r2⟩:=h.TC hz hgC hkw hset hrowK (fun j hjj=>by
  rcases hat with q|q
  ·exact Or.inl (q ▸ hjj)
  ·rw[q]at hjj;cases hjj;exact Or.inr hj)
 refine⟨hgc,hgx,v',F',?_,r2⟩;have hcz:G.Ad[i]?=some z.1:=by rw[<-h.zc,List.getElem?_map,hz];rfl
 have e:(v.zc.set i ({z.1 with bound:=z.1.bound++[u]},{z.2 with bv:=K})).map (·.1)=G.Ad.modify i fun c=>{c with bound:=c.bound++[u]}:=by
  rw[List.map_set,h.zc];apply List.ext_getElem?;intro j;rw[List.getElem?_modify,List.getElem?_set];have hi:=(List.getElem?_eq_some_iff.1 hcz).1;by_cases hij:i=j
  ·subst hij;rw[if_pos rfl,if_pos hi,hcz];simp
  ·simp[hij]
 rw[e]at r1;exact r1
theorem MF(w:World)(x:Nat)(a:Option Addr)(n cap:Nat)(cl:Int)(S:ByteArray)(x9:w.cell? ⟨x,9,none⟩=some (.slice a n cap))(h:cl<0\/(n:Int)<=cl):Calls Tryz.prog 162 #[Av x,.int .i64 cl,.string S] w fun e w'=>e=.returned (.tuple #[.int .i64 0,.int .i64 0,.int .i64 13])/\w'=w:=by
 have hx:=lt_of_cell x9;by_cases h0:cl<0
 ·go_enter Tryz.func162,Tryz.ntmps162;go_wp2;go_returns;exact⟨rfl,rfl⟩
 ·have h1:(n:Int)<=cl:=by omega
  go_enter Tryz.func162,Tryz.ntmps162;go_wp2;go_returns;exact⟨rfl,rfl⟩
theorem RO(w:World)(x:Nat)(a:Option Addr)(n cap:Nat)(cl:Int)(S:ByteArray)(x9:w.cell? ⟨x,9,none⟩=some (.slice a n cap))(h0:¬cl<0)(h1:¬(n:Int)<=cl)(H213:Hid (Calls Tryz.prog 216 #[Av x,.string S] w fun e w'=>e=.returned (.int .i64 (-1))/\w'=w)):Calls Tryz.prog 162 #[Av x,.int .i64 cl,.string S] w fun e w'=>e=.returned (.tuple #[.int .i64 0,.int .i64 0,.int .i64 10])/\w'=w:=by
 have hx:=lt_of_cell x9;go_enter Tryz.func162,Tryz.ntmps162;go_wp2_with (go_at_call 216;refine(Aa H213).mono ?_;rintro e w1 ⟨rfl,hw1⟩;rw[hw1];clear hw1)
 go_returns;exact⟨rfl,rfl⟩
theorem Xg(w:World)(x:Nat)(v:RV)(F:Ag)(G:R.Wd)(h:RM x v F G w)(i k u:Nat)(s:R.Sv)(name:List UInt8)(hi:i<G.Ad.length)(hen:Cy G.names name=(k:Int))(hn6:G.names.length<=6)(hst:G.stands[k]?=some ((u:Int)+1))(hs:G.Ac[u]?=some s)(hsv:G.Ac.length<=255)(hbl:∀c,G.Ad[i]?=some c->c.bound.length<=9000000000000):
  Calls Tryz.prog 162 #[Av x,.int .i64 (i:Int),.string (str name)] w fun e w'=>e=.returned (.tuple #[.int .i64 ((u:Int)+1),.int .i64 s.kind,.int .i64 0])/\∃v' F',RM x v' F' {G with Ad:=G.Ad.modify i fun c=>{c with bound:=c.bound++[(u:Int)+1]}} w'/\Ah F F' w w':=by
 have H213:=Ab (h.entry hn6 name);rw[hen]at H213;obtain⟨c,hc⟩:∃c,G.Ad[i]?=some c:=⟨_,List.getElem?_eq_getElem hi⟩;obtain⟨z,hz,hzc⟩:=Ei h.zc hc;have hzc':z.1=c:=hzc;have hzl:v.zc.length=G.Ad.length:=by rw[<-h.zc,List.length_map]
 have hzsl:v.zs.length=G.Ac.length:=by rw[<-h.zs,List.length_map]
 obtain⟨gC,capC,hC,hgCl,hcell,hCz⟩:=DU Gw (by omega) h.cl hz;obtain⟨gS,cS,hS,cu,_,_⟩:=h.GJ hst 0;obtain⟨zs,hzs,hzs1⟩:=Ei h.zs hs;obtain⟨gV,capV,hV,hgVl,hvcell,_⟩:=DU F6 (by omega) h.C5 hzs;obtain⟨ab,cb,hB⟩:=AR (h.bound i z hz);have hbnd:=hbl c hc;rw[<-hzc']at hbnd;have cb1:w.cell? ⟨gC,i*3+1,none⟩=some (.slice ab z.1.bound.length cb):=by
  have:=hcell 1 z.2.bv (by omega) rfl;rw[hB]at this;exact this
 have x6:w.cell? ⟨x,6,none⟩=some (.slice (some ⟨gS,0,none⟩) G.stands.length cS):=cell_of h.bx 6 _ (by rw[<-hS];rfl);have x9:w.cell? ⟨x,9,none⟩=some (.slice (some ⟨gC,0,none⟩) v.zc.length capC):=cell_of h.bx 9 _ (by rw[<-hC];rfl);have x7:w.cell? ⟨x,7,none⟩=some (.slice (some ⟨gV,0,none⟩) v.zs.length capV):=cell_of h.bx 7 _ (by rw[<-hV];rfl);have vk:w.cell? ⟨gV,u*3,none⟩=some (.int .i64 s.kind):=by
  have:=hvcell 0 (.int .i64 zs.1.kind) (by omega) rfl;rw[show zs.1=s from hzs1]at this;exact this
 have hul:=(List.getElem?_eq_some_iff.1 hs).1;have hkl:=(List.getElem?_eq_some_iff.1 hst).1;have q0:(0:Int)<=(k:Int):=by omega
 have q1:(k:Int)<(G.stands.length:Int):=by omega
 have q2:¬(k:Int)<0:=by omega
 have p0:(0:Int)<=(i:Int):=by omega
 have p1:(i:Int)<(v.zc.length:Int):=by omega
 have p2:¬(i:Int)<0:=by omega
 have p3:¬(v.zc.length:Int)<=(i:Int):=by omega
 have r0:(0:Int)<=(u:Int):=by omega
 have r1:(u:Int)<(v.zs.length:Int):=by omega
 have e1:IntKind.i64.wrap ((u:Int)+1-1)=(u:Int):=by rw[IntKind.wrap_i64];omega
 have e2:IntKind.i64.wrap (u:Int)=(u:Int):=by rw[IntKind.wrap_i64];omega
 have hzC:=hCz (i*3+1);have hx:=lt_of_cell x9;have hgS:=lt_of_cell cu;obtain⟨iI,hiI,hI0,hI1,hI2⟩:=info_parts KX;have hrowB:=h.bound i z hz;rw[hB]at hrowB;have HRB:=Ab hrowB;have hgCt:∃cur,w.heap[gC]?=some (.cells cur 232 (0,0)):=C4 h.cl (by rw[hC];rfl);have hgVt:∃cur,w.heap[gV]?=some (.cells cur 271 (0,0)):=C4 h.C5 (by rw[hV];rfl);obtain⟨curC,hcC⟩:=hgCt;obtain⟨curV,hcV⟩:=hgVt;have hne1:gC≠x:=AO hcC h.bx (by decide);have hne2:gC≠gV:=AO hcC hcV (by decide);have HBI:Hid (∀(wz:World) (K:Value),(w.drew.alloc (.cells #[.int .i64 ((u:Int)+1)] 3)).grownBy wz (Value.slice ab z.1.bound.length cb).ownBlock->wz.ownsRow 0 3 1 K (z.1.bound.length+1) (BI z.1.bound++[.int .i64 ((u:Int)+1)])->(K.ownBlock=(Value.slice ab z.1.bound.length cb).ownBlock\/K.ownBlock=some (w.heap.size+1))->wz.cell? ⟨gC,i*3+1,none⟩=some (.slice ab z.1.bound.length cb)/\wz.frozen? ⟨gC,i*3+1,none⟩=false/\wz.cell? ⟨x,9,none⟩=some (.slice (some ⟨gC,0,none⟩) v.zc.length capC)/\(wz.setCell ⟨gC,i*3+1,none⟩ K).cell? ⟨x,7,none⟩=some (.slice (some ⟨gV,0,none⟩) v.zs.length capV)/\(wz.setCell ⟨gC,i*3+1,none⟩ K).cell? ⟨gV,u*3,none⟩=some (.int .i64 s.kind)/\∃v' F',RM x v' F' {G with Ad:=G.Ad.modify i fun c=>{c with bound:=c.bound++[(u:Int)+1]}} (wz.setCell ⟨gC,i*3+1,none⟩ K)/\Ah F F' w (wz.setCell ⟨gC,i*3+1,none⟩ K)):=fun wz K hg ho hat=>by
  have hbA:Below w.heap.size w (w.drew.alloc (.cells #[.int .i64 ((u:Int)+1)] 3)):=(Below.refl w.heap.size w).drew.alloc (by simp) _;obtain⟨t1,t2,t3⟩:=h.bind hz hC hbA (by rw[hB];exact hg) ho (by rw[hB];exact hat) (by omega);have hg':(w.drew.alloc (.cells #[.int .i64 ((u:Int)+1)] 3)).grownBy wz z.2.bv.ownBlock:=by rw[hB];exact hg
  have t4:wz.heap[gV]?=w.heap[gV]?:=(C9 hcV (h.bound i z hz) (by decide) hbA hg').trans hcV.symm;refine⟨(World.cell?_of_block t1).trans cb1,(World.frozen?_of_block t1).trans hzC,(World.cell?_of_block t2).trans x9,?_,?_,t3⟩
  ·rw[World.cell?_setCell_far _ _ _ _ hne1];exact(World.cell?_of_block t2).trans x7
  ·rw[World.cell?_setCell_far _ _ _ _ hne2];exact(World.cell?_of_block t4).trans vk
 clear h hen hc hzc hzc' hC hcell hCz hS hvcell hV hB hrowB hst hs hbl hcC hcV hne1 hne2 hz hzs hzs1;generalize BI z.1.bound=RB at *;generalize z.1.bound.length=nb at *;go_enter Tryz.func162,Tryz.ntmps162;go_wp2_with (go_at_call 216;refine(Aa H213).mono ?_;rintro e w1 ⟨rfl,hw1⟩;rw[hw1];clear hw1 H213)
 go_region_law (first
  |(refine Bb rfl (.tmp 46) (.tmp 48) 35 rfl 0 3 iI (.int .i64 0) 1 8 Tryz.underlying35 hiI hI0 hI1 hI2 rfl (by decide) (.slice ab nb cb) nb RB rfl (by exact(Be (Aa HRB) (Below.refl _ _).drew).alloc _) ⟨w.heap.size,0,none⟩ 1 1 [.int .i64 ((u:Int)+1)] rfl rfl (by exact Em w.drew 3 [.int .i64 ((u:Int)+1)]) (by simp[Value.oneCell']) (by unfold maxLen;omega) (by omega) (by omega) ?_;intro v' wz hown hgrow hat;obtain⟨va,vn,vc,hvs⟩:=Am hown;subst hvs;obtain⟨g1,gz,g9,s7,sv,hfin⟩:=(Aa HBI) _ _ hgrow hown (by simpa [Value.ownBlock] using hat);have HFIN:=Ab hfin;clear hown hgrow hat hfin))
 all_goals
  obtain⟨W5,hW5⟩:∃W5,wz.setCell ⟨gC,i*3+1,none⟩ (.slice va vn vc)=W5:=⟨_,rfl⟩;rw[hW5]at s7 sv HFIN ⊢;clear hW5 g1 gz g9 x6 x7 x9 cb1 vk cu hzC HRB HBI hiI hI0 hI1 hI2;have hx5:=lt_of_cell s7;have hv5:=lt_of_cell sv;go_wp2_with fail
  go_region_held3 (fun w'=>w'.cell? ⟨x,7,none⟩=some (.slice (some ⟨gV,0,none⟩) v.zs.length capV)/\w'.cell? ⟨gV,u*3,none⟩=some (.int .i64 s.kind)) (go_keep) (fail)
  go_wp2;go_returns;obtain⟨v',F',m1,m2⟩:=Aa HFIN;exact⟨rfl,v',F',m1.below (Below.refl _ _).drew,m2.trans (Ah.Aq F' (Below.refl _ _).drew)⟩
theorem RW.imports{x:Nat}{v:RV}{F:Ag}{G:R.Wd}{w:World}(h:RW x v F G w)(cl:Int)(name:List UInt8)(hbl:∀c∈G.Ad,c.bound.length<=9000000000000):Calls Tryz.prog 162 #[Av x,.int .i64 cl,.string (str name)] w fun e w'=>e=.returned (.tuple #[.int .i64 (R.Bn G cl name).1.1,.int .i64 (R.Bn G cl name).1.2.1,.int .i64 (R.Bn G cl name).1.2.2])/\∃v' F',RW x v' F' (R.Bn G cl name).2 w'/\Ah F F' w w':=by
 have hM:=h.mem;have hwf:=h.wf;have hw2:=hwf.imports cl name;have hnm6:=hwf.nm;obtain⟨a,cap,hC⟩:=AR h.cl;have hlen:v.zc.length=G.Ad.length:=by rw[<-h.zc,List.length_map]
 rw[hlen]at hC;have x9:w.cell? ⟨x,9,none⟩=some (.slice a G.Ad.length cap):=cell_of h.bx 9 _ (by rw[<-hC];rfl);unfold R.Bn at hw2 ⊢;by_cases h1:cl<0\/(G.Ad.length:Int)<=cl
 ·rw[if_pos h1];refine(MF w x a _ cap cl (str name) x9 h1).mono ?_;rintro e w' ⟨rfl,rfl⟩;exact⟨rfl,v,F,h,Ah.refl F _⟩
 ·rw[if_neg h1]at hw2 ⊢;cases he:R.Bh G name with
  |none=>
   have hI:Cy G.names name=-1:=by rw[hM.Bh,he]
   have H213:=hM.entry hnm6 name;rw[hI]at H213;refine(RO w x a _ cap cl (str name) x9 (by omega) (by omega) (Ab H213)).mono ?_;rintro e w' ⟨rfl,rfl⟩;exact⟨rfl,v,F,h,Ah.refl F _⟩
  |some k=>
   have hI:Cy G.names name=(k:Int):=by rw[hM.Bh,he]
   simp only[he]at hw2 ⊢;have hkl:=(List.getElem?_eq_some_iff.1 (R.CS he)).1;have hst:k<G.stands.length:=by rw[hwf.st];exact hkl
   have hsg:G.stands[k]?=some (G.stands.getD k 0):=by
    rw[List.getD_eq_getElem?_getD,List.getElem?_eq_getElem hst];rfl
   have hus:=hwf.IC _ (List.mem_of_getElem? hsg);obtain⟨i,rfl⟩:∃i:Nat,cl=(i:Int):=⟨cl.toNat,by omega⟩;obtain⟨u,hu⟩:∃u:Nat,G.stands.getD k 0=(u:Int)+1:=⟨(G.stands.getD k 0-1).toNat,by omega⟩;rw[hu]at hsg hus hw2 ⊢;obtain⟨s,hs⟩:∃s,G.Ac[u]?=some s:=⟨_,List.getElem?_eq_getElem (by omega)⟩;have eu:((u:Int)+1-1).toNat=u:=by omega
   simp only[eu,hs,Option.map_some,Option.getD_some,Int.toNat_natCast]at hw2 ⊢;refine(Xg w x v F G hM i k u s name (by omega) hI hnm6 hsg hs hwf.sv (fun c hc=>hbl c (List.mem_of_getElem? hc))).mono ?_;rintro e w' ⟨rfl,v',F',r1,r2⟩;exact⟨rfl,v',F',r1.whole hw2 h.CF,r2⟩
theorem K5{N:Nat}{t:Tw}{w:World}(h:Ci N t w)(o:EM)(hk:o.kind=8)(_hs:o.s.length<=1000000000000000)(_hN:N<=9000000000000):
  Calls Tryz.prog 95 #[t.val,o.val] w fun e w'=>e=.returned (.bool true)/\Ec (N+1) t (R.AJ t.G o.s o.a).2 w w':=by
 obtain⟨W1,hW1,hb1,hx,hT,hoff⟩:=Dp h o;have HW1:=Ab hW1;have lw1:=lt_of_block hx.t;have lw2:=lt_of_block hx.o;have c0:W1.cell? ⟨w.heap.size,0,none⟩=some (ptr t.p.x):=cell_of hx.t 0 _ rfl;have k8:(o.kind==8)=true:=by rw[hk];rfl
 have d2:W1.cell? ⟨w.heap.size+1,2,none⟩=some (.int .i64 o.a):=cell_of hx.o 2 _ rfl;have d6:W1.cell? ⟨w.heap.size+1,6,none⟩=some (.string (str o.s)):=cell_of hx.o 6 _ rfl;have H1:Hid (Calls Tryz.prog 60 #[ptr t.p.x,.string (str o.s),.int .i64 o.a] W1 fun e w2=>e=.returned (.tuple #[.int .i64 (R.AJ t.G o.s o.a).1.1,.int .i64 (R.AJ t.G o.s o.a).1.2])/\Mid N t (R.AJ t.G o.s o.a).2 W1 w2):=by
  refine(hT.l.export o.s o.a).mono ?_;rintro e w2 ⟨rfl,hM⟩;exact⟨rfl,hT.mid hM⟩
 clear h hW1 hk;have HX:=Ab hx;have HB1:=Ab hb1;clear hx hb1;go_enter Tryz.func95,Tryz.ntmps95;go_wp2_with fail
 rw[Aa HW1];refine(Aa H1).mono ?_;rintro e w2 ⟨rfl,hM⟩;have hy:=(Aa HX).stays hM hoff;have l1:=lt_of_block hy.t;have l2:=lt_of_block hy.o;have e1:w2.cell? ⟨w.heap.size,1,none⟩=some (Av t.x):=cell_of hy.t 1 _ rfl;have e2:w2.cell? ⟨w.heap.size+1,2,none⟩=some (.int .i64 o.a):=cell_of hy.o 2 _ rfl;have e6:w2.cell? ⟨w.heap.size+1,6,none⟩=some (.string (str o.s)):=cell_of hy.o 6 _ rfl;have H2:Hid (Calls Tryz.prog 159 #[Av t.x,.string (str o.s),.int .i64 o.a] w2 fun e w3=>e=.returned (.tuple #[.int .i64 (R.AJ t.G o.s o.a).1.1,.int .i64 (R.AJ t.G o.s o.a).1.2])/\Ec (N+1) t (R.AJ t.G o.s o.a).2 w w3):=by
  refine(hM.r.export o.s o.a).mono ?_;rintro e w3 ⟨rfl,h3⟩;exact⟨rfl,Ec.ahead (Aa HB1) (hM.done h3 ((Bd.export hM.was.bd _ _).le (by omega)))⟩
 clear hM hy H1 hT c0;go_wp2_with fail
 refine(Aa H2).mono ?_;rintro e w3 ⟨rfl,h3⟩;have H3:=Ab h3;clear h3 e1 H2;have HNUM:=Ab Dt;go_wp2_with fail
 refine((Aa HNUM) _ _).mono ?_;rintro e w4 ⟨rfl,hw4⟩;rw[hw4];clear hw4 w4;go_wp2;go_returns;exact⟨rfl,Aa H3⟩
theorem Ji{N:Nat}{t:Tw}{w:World}(h:Ci N t w)(o:EM)(hk:o.kind=9)(_hs:o.s.length<=1000000000000000)(_hN:N<=9000000000000):
  Calls Tryz.prog 95 #[t.val,o.val] w fun e w'=>e=.returned (.bool true)/\Ec (N+1) t (R.AU t.G o.s).2 w w':=by
 obtain⟨W1,hW1,hb1,hx,hT,hoff⟩:=Dp h o;have HW1:=Ab hW1;have lw1:=lt_of_block hx.t;have lw2:=lt_of_block hx.o;have c0:W1.cell? ⟨w.heap.size,0,none⟩=some (ptr t.p.x):=cell_of hx.t 0 _ rfl;have k8:(o.kind==8)=false:=by rw[hk];rfl
 have k9:(o.kind==9)=true:=by rw[hk];rfl
 have d6:W1.cell? ⟨w.heap.size+1,6,none⟩=some (.string (str o.s)):=cell_of hx.o 6 _ rfl;have H1:Hid (Calls Tryz.prog 160 #[ptr t.p.x,.string (str o.s)] W1 fun e w2=>e=.returned (.int .i64 (R.AU t.G o.s).1)/\Mid N t (R.AU t.G o.s).2 W1 w2):=by
  refine(hT.l.EA o.s (by unfold maxLen;omega)).mono ?_;rintro e w2 ⟨rfl,hM⟩;exact⟨rfl,hT.mid hM⟩
 clear h hW1 hk;have HX:=Ab hx;have HB1:=Ab hb1;clear hx hb1;go_enter Tryz.func95,Tryz.ntmps95;go_wp2_with fail
 rw[Aa HW1];refine(Aa H1).mono ?_;rintro e w2 ⟨rfl,hM⟩;have hy:=(Aa HX).stays hM hoff;have l1:=lt_of_block hy.t;have l2:=lt_of_block hy.o;have e1:w2.cell? ⟨w.heap.size,1,none⟩=some (Av t.x):=cell_of hy.t 1 _ rfl;have e6:w2.cell? ⟨w.heap.size+1,6,none⟩=some (.string (str o.s)):=cell_of hy.o 6 _ rfl;have H2:Hid (Calls Tryz.prog 161 #[Av t.x,.string (str o.s)] w2 fun e w3=>e=.returned (.int .i64 (R.AU t.G o.s).1)/\Ec (N+1) t (R.AU t.G o.s).2 w w3):=by
  refine(hM.r.EA o.s).mono ?_;rintro e w3 ⟨rfl,h3⟩;exact⟨rfl,Ec.ahead (Aa HB1) (hM.done h3 ((Bd.EA hM.was.bd _).le (by omega)))⟩
 clear hM hy H1 hT c0;go_wp2_with fail
 refine(Aa H2).mono ?_;rintro e w3 ⟨rfl,h3⟩;have H3:=Ab h3;clear h3 e1 H2;have HNUM:=Ab Dt;go_wp2_with fail
 refine((Aa HNUM) _ _).mono ?_;rintro e w4 ⟨rfl,hw4⟩;rw[hw4];clear hw4 w4;go_wp2;go_returns;exact⟨rfl,Aa H3⟩
theorem K6{N:Nat}{t:Tw}{w:World}(h:Ci N t w)(o:EM)(hk:o.kind=10)(hs:o.s.length<=1000000000000000)(hN:N<=9000000000000):
  Calls Tryz.prog 95 #[t.val,o.val] w fun e w'=>e=.returned (.bool true)/\Ec (N+1) t (R.Bn t.G o.a o.s).2 w w':=by
 obtain⟨W1,hW1,hb1,hx,hT,hoff⟩:=Dp h o;have HW1:=Ab hW1;have lw1:=lt_of_block hx.t;have lw2:=lt_of_block hx.o;have c0:W1.cell? ⟨w.heap.size,0,none⟩=some (ptr t.p.x):=cell_of hx.t 0 _ rfl;have k8:(o.kind==8)=false:=by rw[hk];rfl
 have k9:(o.kind==9)=false:=by rw[hk];rfl
 have d2:W1.cell? ⟨w.heap.size+1,2,none⟩=some (.int .i64 o.a):=cell_of hx.o 2 _ rfl;have d6:W1.cell? ⟨w.heap.size+1,6,none⟩=some (.string (str o.s)):=cell_of hx.o 6 _ rfl;have H1:Hid (Calls Tryz.prog 62 #[ptr t.p.x,.int .i64 o.a,.string (str o.s)] W1 fun e w2=>e=.returned (.tuple #[.int .i64 (R.Bn t.G o.a o.s).1.1,.int .i64 (R.Bn t.G o.a o.s).1.2.1,.int .i64 (R.Bn t.G o.a o.s).1.2.2])/\Mid N t (R.Bn t.G o.a o.s).2 W1 w2):=by
  refine(hT.l.imports o.a o.s hs).mono ?_;rintro e w2 ⟨rfl,hM⟩;exact⟨rfl,hT.Og hM.1 hM.2⟩
 clear h hW1 hk;have HX:=Ab hx;have HB1:=Ab hb1;clear hx hb1;go_enter Tryz.func95,Tryz.ntmps95;go_wp2_with fail
 rw[Aa HW1];refine(Aa H1).mono ?_;rintro e w2 ⟨rfl,hM⟩;have hy:=(Aa HX).stays hM hoff;have l1:=lt_of_block hy.t;have l2:=lt_of_block hy.o;have e1:w2.cell? ⟨w.heap.size,1,none⟩=some (Av t.x):=cell_of hy.t 1 _ rfl;have e2:w2.cell? ⟨w.heap.size+1,2,none⟩=some (.int .i64 o.a):=cell_of hy.o 2 _ rfl;have e6:w2.cell? ⟨w.heap.size+1,6,none⟩=some (.string (str o.s)):=cell_of hy.o 6 _ rfl;have H2:Hid (Calls Tryz.prog 162 #[Av t.x,.int .i64 o.a,.string (str o.s)] w2 fun e w3=>e=.returned (.tuple #[.int .i64 (R.Bn t.G o.a o.s).1.1,.int .i64 (R.Bn t.G o.a o.s).1.2.1,.int .i64 (R.Bn t.G o.a o.s).1.2.2])/\Ec (N+1) t (R.Bn t.G o.a o.s).2 w w3):=by
  refine(hM.r.imports o.a o.s (fun c hc=>Nat.le_trans (hM.was.bd c hc) hN)).mono ?_;rintro e w3 ⟨rfl,h3⟩;exact⟨rfl,Ec.ahead (Aa HB1) (hM.done h3 (Bd.import hM.was.bd _ _))⟩
 clear hM hy H1 hT c0;go_wp2_with fail
 refine(Aa H2).mono ?_;rintro e w3 ⟨rfl,h3⟩;have H3:=Ab h3;clear h3 e1 H2;have HNUM:=Ab Dt;go_wp2_with fail
 refine((Aa HNUM) _ _).mono ?_;rintro e w4 ⟨rfl,hw4⟩;rw[hw4];clear hw4 w4;go_wp2;go_returns;exact⟨rfl,Aa H3⟩
end Go.Proofs.YtblomippkddgiaaGreatDoor
