import Derived.Test.YtblomippkddgiaaGreatDoorJ31
set_option maxRecDepth 100000
set_option maxHeartbeats 1000000
namespace Go.Proofs.YtblomippkddgiaaGreatDoor
open Go.RowKit
structure RM(x:Nat)(v:RV)(F:Ag)(G:R.Wd)(w:World):Prop where
 bx:w.heap[x]?=some (.cells (CB G.c v) 229 (0,0))
 names:w.ownsRow 0 9 1 v.N G.names.length (CP G.names)
 stands:w.ownsRow 0 3 1 v.S G.stands.length (BI G.stands)
 zs:v.zs.map (·.1)=G.Ac
 C5:w.ownsRow 0 271 3 v.V v.zs.length (tab YU v.zs)
 F7:∀z∈v.zs,Lg z.2 z.1.log
 EC:w.ownsRow 0 304 3 v.Fl G.Af.length (tab A1 G.Af)
 zc:v.zc.map (·.1)=G.Ad
 cl:w.ownsRow 0 232 3 v.C v.zc.length (tab Lx v.zc)
 bound:∀(i:Nat) (z:R.Cl×CE),v.zc[i]?=some z->w.ownsRow 0 3 1 z.2.bv z.1.bound.length (BI z.1.bound)
 ln:∀(i:Nat) (z:R.Cl×CE),v.zc[i]?=some z->∃zl:List (R.Ln×Value),zl.map (·.1)=z.1.lines/\w.heap[z.2.lb]?=some (.cells (tab K4 zl).toArray 259 (0,0))/\∀y∈zl,Rs y.2 y.1.result
 Ao:w.heap[v.L]?=some (.cells (BI G.Ao).toArray 3 (0,0))
 seen:w.heap[v.Sn]?=some (.cells (tab XR G.seen).toArray 264 (0,0))
 A4:F x/\F v.L/\F v.Sn
 rows:∀j,(v.N.ownBlock=some j\/v.S.ownBlock=some j\/v.V.ownBlock=some j\/v.Fl.ownBlock=some j\/v.C.ownBlock=some j)->F j
 Bw:∀(i:Nat) (z:R.Cl×CE),v.zc[i]?=some z->F z.2.lb/\∀j,z.2.bv.ownBlock=some j->F j/\j≠v.L/\v.S.ownBlock≠some j
 sL:v.S.ownBlock≠some v.L
 inj:∀(i j:Nat) (z y:R.Cl×CE),v.zc[i]?=some z->v.zc[j]?=some y->i≠j->z.2.lb≠y.2.lb/\∀k,z.2.bv.ownBlock=some k->y.2.bv.ownBlock≠some k
 lt:∀k,F k->k<w.heap.size
theorem RW.mem{x:Nat}{v:RV}{F:Ag}{G:R.Wd}{w:World}(h:RW x v F G w):RM x v F G w:=⟨h.bx,h.names,h.stands,h.zs,h.C5,h.F7,h.EC,h.zc,h.cl,h.bound,h.ln,h.Ao,h.seen,h.A4,h.rows,h.Bw,h.sL,h.inj,h.lt⟩
theorem RM.whole{x:Nat}{v:RV}{F:Ag}{G:R.Wd}{w:World}(h:RM x v F G w)(hw:R.Wf G)(hc:G.Ao=[0,0,0]/\G.seen=List.replicate 9 R.Ef/\G.jobs=[]):RW x v F G w:=⟨hw,hc,h.bx,h.names,h.stands,h.zs,h.C5,h.F7,h.EC,h.zc,h.cl,h.bound,h.ln,h.Ao,h.seen,h.A4,h.rows,h.Bw,h.sL,h.inj,h.lt⟩
theorem RM.elsewhere{x:Nat}{v:RV}{F E:Ag}{G:R.Wd}{w w':World}(h:RM x v F G w)(hk:Ae E w w')(ha:∀k,F k->¬E k):RM x v F G w':=by
 obtain⟨f1,f2,f3⟩:=h.A4;refine⟨hk.at h.bx (ha _ f1),hk.row h.names (fun j hj=>ha j (h.rows j (Or.inl hj))),hk.row h.stands (fun j hj=>ha j (h.rows j (Or.inr (Or.inl hj)))),h.zs,hk.row h.C5 (fun j hj=>ha j (h.rows j (Or.inr (Or.inr (Or.inl hj))))),h.F7,hk.row h.EC (fun j hj=>ha j (h.rows j (Or.inr (Or.inr (Or.inr (Or.inl hj)))))),h.zc,hk.row h.cl (fun j hj=>ha j (h.rows j (Or.inr (Or.inr (Or.inr (Or.inr hj)))))),fun i z hz=>hk.row (h.bound i z hz) (fun j hj=>ha j ((h.Bw i z hz).2 j hj).1),fun i z hz=>?_,hk.at h.Ao (ha _ f2),hk.at h.seen (ha _ f3),h.A4,h.rows,h.Bw,h.sL,h.inj,fun k hf=>Nat.lt_of_lt_of_le (h.lt k hf) hk.size⟩;obtain⟨zl,h1,h2,h3⟩:=h.ln i z hz;exact⟨zl,h1,hk.at h2 (ha _ (h.Bw i z hz).1),h3⟩
theorem RM.below{x:Nat}{v:RV}{F:Ag}{G:R.Wd}{w w':World}(h:RM x v F G w)(hb:Below w.heap.size w w'):RM x v F G w':=h.elsewhere (Ae.Aq hb (fun _=>False)) (fun _ _ h=>h)
theorem RM.Ux{x:Nat}{v:RV}{F:Ag}{G:R.Wd}{w w':World}(h:RM x v F G w){K:Value}{nm:List (List UInt8)}(hk:Ae (fun k=>k=x\/v.N.ownBlock=some k) w w')(hx:w'.heap[x]?=some (.cells (CB G.c {v with N:=K}) 229 (0,0)))(hr:w'.ownsRow 0 9 1 K nm.length (CP nm))(hK:∀j,K.ownBlock=some j->v.N.ownBlock=some j\/w.heap.size<=j):∃F',RM x {v with N:=K} F' {G with names:=nm} w'/\Ah F F' w w':=by
 obtain⟨f1,f2,f3⟩:=h.A4;have hxf:∀k,(k=x\/v.N.ownBlock=some k)->F k:=fun k hk=>by
  rcases hk with rfl|hk
  ·exact f1
  ·exact h.rows k (Or.inl hk)
 have nb:∀{b:Nat} {ys:Array Value} {t:TypeId},w.heap[b]?=some (.cells ys t (0,0))->t≠229->t≠9->¬(b=x\/v.N.ownBlock=some b):=fun hb h1 h2 e=>by
  rcases e with rfl|e
  ·exact AO hb h.bx h1 rfl
  ·exact Bv h.names hb (fun q=>h2 q.symm) e
 have nr:∀{n size:Nat} {e:TypeId} {M:Value} {xs:List Value},w.ownsRow 0 e size M n xs->e≠229->e≠9->∀j,M.ownBlock=some j->¬(j=x\/v.N.ownBlock=some j):=fun hr h1 h2 j hj=>by
  obtain⟨cur,hc⟩:=C4 hr hj;exact nb hc h1 h2
 refine⟨fun k=>F k\/K.ownBlock=some k,⟨hx,hr,hk.row h.stands (nr h.stands (by decide) (by decide)),h.zs,hk.row h.C5 (nr h.C5 (by decide) (by decide)),h.F7,hk.row h.EC (nr h.EC (by decide) (by decide)),h.zc,hk.row h.cl (nr h.cl (by decide) (by decide)),fun i z hz=>hk.row (h.bound i z hz) (nr (h.bound i z hz) (by decide) (by decide)),fun i z hz=>?_,hk.at h.Ao (nb h.Ao (by decide) (by decide)),hk.at h.seen (nb h.seen (by decide) (by decide)),⟨Or.inl f1,Or.inl f2,Or.inl f3⟩,fun j hj=>?_,fun i z hz=>⟨Or.inl (h.Bw i z hz).1,fun j hj=>⟨Or.inl ((h.Bw i z hz).2 j hj).1,((h.Bw i z hz).2 j hj).2⟩⟩,h.sL,h.inj,fun k hf=>?_⟩,⟨hk.mono (fun k _ hf=>hxf k hf),fun k hf=>?_⟩⟩
 ·obtain⟨zl,h1,h2,h3⟩:=h.ln i z hz;exact⟨zl,h1,hk.at h2 (nb h2 (by decide) (by decide)),h3⟩
 ·rcases hj with q|q
  ·exact Or.inr q
  ·exact Or.inl (h.rows j (Or.inr q))
 ·rcases hf with hf|hf
  ·exact Nat.lt_of_lt_of_le (h.lt k hf) hk.size
  ·obtain⟨cur,hc⟩:=C4 hr hf;exact(Array.getElem?_eq_some_iff.1 hc).1
 ·rcases hf with hf|hf
  ·exact Or.inl hf
  ·rcases hK k hf with q|q
   ·exact Or.inl (hxf k (Or.inr q))
   ·exact Or.inr q
theorem RM.Ks{x:Nat}{v:RV}{F:Ag}{G:R.Wd}{w w':World}(h:RM x v F G w){K:Value}{st:List Int}(hk:Ae (fun k=>k=x\/v.S.ownBlock=some k) w w')(hx:w'.heap[x]?=some (.cells (CB G.c {v with S:=K}) 229 (0,0)))(hr:w'.ownsRow 0 3 1 K st.length (BI st))(hK:∀j,K.ownBlock=some j->v.S.ownBlock=some j\/w.heap.size<=j):∃F',RM x {v with S:=K} F' {G with stands:=st} w'/\Ah F F' w w':=by
 obtain⟨f1,f2,f3⟩:=h.A4;have hxf:∀k,(k=x\/v.S.ownBlock=some k)->F k:=fun k hk=>by
  rcases hk with rfl|hk
  ·exact f1
  ·exact h.rows k (Or.inr (Or.inl hk))
 have nb:∀{b:Nat} {ys:Array Value} {t:TypeId},w.heap[b]?=some (.cells ys t (0,0))->t≠229->t≠3->¬(b=x\/v.S.ownBlock=some b):=fun hb h1 h2 e=>by
  rcases e with rfl|e
  ·exact AO hb h.bx h1 rfl
  ·exact Bv h.stands hb (fun q=>h2 q.symm) e
 have nr:∀{n size:Nat} {e:TypeId} {M:Value} {xs:List Value},w.ownsRow 0 e size M n xs->e≠229->e≠3->∀j,M.ownBlock=some j->¬(j=x\/v.S.ownBlock=some j):=fun hr h1 h2 j hj=>by
  obtain⟨cur,hc⟩:=C4 hr hj;exact nb hc h1 h2
 have nL:¬(v.L=x\/v.S.ownBlock=some v.L):=fun e=>by
  rcases e with e|e
  ·rw[<-e]at hx;exact AO h.Ao (e ▸ h.bx) (by decide) rfl
  ·exact h.sL e
 have nB:∀(i:Nat) (z:R.Cl×CE),v.zc[i]?=some z->∀j,z.2.bv.ownBlock=some j->¬(j=x\/v.S.ownBlock=some j):=fun i z hz j hj e=>by
  rcases e with rfl|e
  ·exact Bv (h.bound i z hz) h.bx (by decide) hj
  ·exact((h.Bw i z hz).2 j hj).2.2 e
 refine⟨fun k=>F k\/K.ownBlock=some k,⟨hx,hk.row h.names (nr h.names (by decide) (by decide)),hr,h.zs,hk.row h.C5 (nr h.C5 (by decide) (by decide)),h.F7,hk.row h.EC (nr h.EC (by decide) (by decide)),h.zc,hk.row h.cl (nr h.cl (by decide) (by decide)),fun i z hz=>hk.row (h.bound i z hz) (nB i z hz),fun i z hz=>?_,hk.at h.Ao nL,hk.at h.seen (nb h.seen (by decide) (by decide)),⟨Or.inl f1,Or.inl f2,Or.inl f3⟩,fun j hj=>?_,fun i z hz=>⟨Or.inl (h.Bw i z hz).1,fun j hj=>⟨Or.inl ((h.Bw i z hz).2 j hj).1,((h.Bw i z hz).2 j hj).2.1,fun e=>?_⟩⟩,fun e=>?_,h.inj,fun k hf=>?_⟩,⟨hk.mono (fun k _ hf=>hxf k hf),fun k hf=>?_⟩⟩
 ·obtain⟨zl,h1,h2,h3⟩:=h.ln i z hz;exact⟨zl,h1,hk.at h2 (nb h2 (by decide) (by decide)),h3⟩
 ·rcases hj with q|q|q
  ·exact Or.inl (h.rows j (Or.inl q))
  ·exact Or.inr q
  ·exact Or.inl (h.rows j (Or.inr (Or.inr q)))
 ·rcases hK j e with q|q
  ·exact((h.Bw i z hz).2 j hj).2.2 q
  ·have:=h.lt j ((h.Bw i z hz).2 j hj).1;omega
 ·rcases hK v.L e with q|q
  ·exact h.sL q
  ·have:=h.lt v.L f2;omega
 ·rcases hf with hf|hf
  ·exact Nat.lt_of_lt_of_le (h.lt k hf) hk.size
  ·obtain⟨cur,hc⟩:=C4 hr hf;exact(Array.getElem?_eq_some_iff.1 hc).1
 ·rcases hf with hf|hf
  ·exact Or.inl hf
  ·rcases hK k hf with q|q
   ·exact Or.inl (hxf k (Or.inr q))
   ·exact Or.inr q
theorem RM.Lp{x:Nat}{v:RV}{F:Ag}{G:R.Wd}{w w':World}(h:RM x v F G w){K:Value}{zs:List (R.Sv×Value)}(hk:Ae (fun k=>k=x\/v.V.ownBlock=some k) w w')(hx:w'.heap[x]?=some (.cells (CB G.c {v with V:=K}) 229 (0,0)))(hr:w'.ownsRow 0 271 3 K zs.length (tab YU zs))(hlg:∀z∈zs,Lg z.2 z.1.log)(hK:∀j,K.ownBlock=some j->v.V.ownBlock=some j\/w.heap.size<=j):∃F',RM x {v with V:=K,zs:=zs} F' {G with Ac:=zs.map (·.1)} w'/\Ah F F' w w':=by
 obtain⟨f1,f2,f3⟩:=h.A4;have hxf:∀k,(k=x\/v.V.ownBlock=some k)->F k:=fun k hk=>by
  rcases hk with rfl|hk
  ·exact f1
  ·exact h.rows k (Or.inr (Or.inr (Or.inl hk)))
 have nb:∀{b:Nat} {ys:Array Value} {t:TypeId},w.heap[b]?=some (.cells ys t (0,0))->t≠229->t≠271->¬(b=x\/v.V.ownBlock=some b):=fun hb h1 h2 e=>by
  rcases e with rfl|e
  ·exact AO hb h.bx h1 rfl
  ·exact Bv h.C5 hb (fun q=>h2 q.symm) e
 have nr:∀{n size:Nat} {e:TypeId} {M:Value} {xs:List Value},w.ownsRow 0 e size M n xs->e≠229->e≠271->∀j,M.ownBlock=some j->¬(j=x\/v.V.ownBlock=some j):=fun hr h1 h2 j hj=>by
  obtain⟨cur,hc⟩:=C4 hr hj;exact nb hc h1 h2
 refine⟨fun k=>F k\/K.ownBlock=some k,⟨hx,hk.row h.names (nr h.names (by decide) (by decide)),hk.row h.stands (nr h.stands (by decide) (by decide)),rfl,hr,hlg,hk.row h.EC (nr h.EC (by decide) (by decide)),h.zc,hk.row h.cl (nr h.cl (by decide) (by decide)),fun i z hz=>hk.row (h.bound i z hz) (nr (h.bound i z hz) (by decide) (by decide)),fun i z hz=>?_,hk.at h.Ao (nb h.Ao (by decide) (by decide)),hk.at h.seen (nb h.seen (by decide) (by decide)),⟨Or.inl f1,Or.inl f2,Or.inl f3⟩,fun j hj=>?_,fun i z hz=>⟨Or.inl (h.Bw i z hz).1,fun j hj=>⟨Or.inl ((h.Bw i z hz).2 j hj).1,((h.Bw i z hz).2 j hj).2⟩⟩,h.sL,h.inj,fun k hf=>?_⟩,⟨hk.mono (fun k _ hf=>hxf k hf),fun k hf=>?_⟩⟩
 ·obtain⟨zl,h1,h2,h3⟩:=h.ln i z hz;exact⟨zl,h1,hk.at h2 (nb h2 (by decide) (by decide)),h3⟩
 ·rcases hj with q|q|q|q
  ·exact Or.inl (h.rows j (Or.inl q))
  ·exact Or.inl (h.rows j (Or.inr (Or.inl q)))
  ·exact Or.inr q
  ·exact Or.inl (h.rows j (Or.inr (Or.inr (Or.inr q))))
 ·rcases hf with hf|hf
  ·exact Nat.lt_of_lt_of_le (h.lt k hf) hk.size
  ·obtain⟨cur,hc⟩:=C4 hr hf;exact(Array.getElem?_eq_some_iff.1 hc).1
 ·rcases hf with hf|hf
  ·exact Or.inl hf
  ·rcases hK k hf with q|q
   ·exact Or.inl (hxf k (Or.inr q))
   ·exact Or.inr q
theorem RP{s:List UInt8}(i:Nat)(hi:i<(str s).size)(h:(((str s)[i]'hi).toNat:Int)<97\/122<(((str s)[i]'hi).toNat:Int)):R.AY s=false:=by
 have hg:=Ek s i hi;have hm:=List.mem_of_getElem? hg;unfold R.AY;rw[Bool.and_eq_false_iff];right;rw[List.all_eq_false];refine⟨_,hm,?_⟩;simp;omega
theorem OI{s:List UInt8}(h1:1<=s.length)(h8:s.length<=8)(h:∀(i:Nat) (hi:i<(str s).size),97<=(((str s)[i]'hi).toNat:Int)/\(((str s)[i]'hi).toNat:Int)<=122):R.AY s=true:=by
 unfold R.AY;simp only[Bool.and_eq_true,decide_eq_true_eq,List.all_eq_true];refine⟨⟨h1,h8⟩,fun b hb=>?_⟩;obtain⟨i,hi⟩:=List.mem_iff_getElem?.1 hb;have hl:=(List.getElem?_eq_some_iff.1 hi).1;have hs:i<(str s).size:=by rw[Au];exact hl
 have hg:=Ek s i hs;rw[hi]at hg;cases hg;have:=h i hs;omega
theorem Gq(s:List UInt8)(w:World):Calls Tryz.prog 215 #[.string (str s)] w fun e w'=>e=.returned (.bool (R.AY s))/\w'=w:=by
 have hz:(str s).size=s.length:=Au s;by_cases h1:s.length<1
 ·have hf:R.AY s=false:=by
   unfold R.AY;simp;omega
  rw[hf];have q1:((str s).size:Int)<1:=by omega
  go_enter Tryz.func215,Tryz.ntmps215;go_wp2;go_returns;exact⟨rfl,rfl⟩
 ·by_cases h8:8<s.length
  ·have hf:R.AY s=false:=by
    unfold R.AY;simp;omega
   rw[hf];have q1:¬((str s).size:Int)<1:=by omega
   have q2:8<((str s).size:Int):=by omega
   go_enter Tryz.func215,Tryz.ntmps215;go_wp2;go_returns;exact⟨rfl,rfl⟩
  ·have HNO:=Ab (fun i hi h=>RP (s:=s) i hi h);have HYES:=Ab (fun h=>OI (s:=s) (by omega) (by omega) h);generalize R.AY s=res at *;generalize str s=S at *;obtain⟨n,hn⟩:∃n,S.size=n:=⟨_,rfl⟩;have q1:¬(n:Int)<1:=by omega
   have q2:¬8<(n:Int):=by omega
   clear hz h1 h8;go_enter Tryz.func215,Tryz.ntmps215;go_wp2;go_loopw [3] (fun iv wr=>∃i:Nat,i<=n/\iv=.int .i64 i/\wr=w/\∀(j:Nat) (hj:j<S.size),j<i->97<=((S[j]'hj).toNat:Int)/\((S[j]'hj).toNat:Int)<=122) (fun iv _=>n-(intOf iv).toNat)
   case atStart=>exact⟨0,Nat.zero_le _,rfl,rfl,fun j _ hj=>absurd hj (by omega)⟩
   case round=>
    obtain⟨i,hi,rfl,rfl,hall⟩:=hrel;have HALL:=Ab hall;clear hall;by_cases hlt:i<n
    ·have his:i<S.size:=by omega
     by_cases hb1:((S[i]'his).toNat:Int)<97
     ·have hres:=(Aa HNO) i his (Or.inl hb1);subst hres;go_wp2;go_returns;exact⟨rfl,rfl⟩
     ·by_cases hb2:122<((S[i]'his).toNat:Int)
      ·have hres:=(Aa HNO) i his (Or.inr hb2);subst hres;go_wp2;go_returns;exact⟨rfl,rfl⟩
      ·go_wp2;go_roundw
       case rel=>exact⟨i+1,by omega,by go_num,trivial,fun j hj hji=>by
        by_cases e:j=i
        ·subst e;omega
        ·exact(Aa HALL) j hj (by omega)⟩
       case measure=>simp[intOf];omega
    ·obtain rfl:i=n:=by omega
     have hres:=(Aa HYES) (fun j hj=>(Aa HALL) j hj (by omega));subst hres;go_wp2;go_returns;exact⟨rfl,rfl⟩
theorem EZ{w:World}{e:TypeId}{size n cap g:Nat}{xs:List Value}(h:w.ownsRow 0 e size (.slice (some ⟨g,0,none⟩) n cap) n xs){j:Nat}{u:Value}(hu:xs[j]?=some u):w.cell? ⟨g,j,none⟩=some u:=by
 rcases h.2 with ⟨h0,_⟩|⟨g',cap',cur,hv,_,hg,_,_,_,htk⟩
 ·cases h0
 ·cases hv;have hj:=(List.getElem?_eq_some_iff.1 hu).1;rw[h.1]at hj;rw[<-htk,List.getElem?_take,if_pos hj]at hu;simp[World.cell?,hg];simpa using hu
def Cy(l:List (List UInt8))(name:List UInt8):Int:=match l.findIdx? (·==name) with
 |none=>-1
 |some k=>(k:Int)
theorem NR{l:List (List UInt8)}{name:List UInt8}(h:∀(j:Nat) (y:List UInt8),l[j]?=some y->y≠name):Cy l name=-1:=by
 unfold Cy;have:l.findIdx? (·==name)=none:=by
  rw[List.findIdx?_eq_none_iff];intro y hy;obtain⟨j,hj⟩:=List.mem_iff_getElem?.1 hy;simpa using h j y hj
 rw[this]
theorem NS{l:List (List UInt8)}{name:List UInt8}{i:Nat}(hi:l[i]?=some name)(h:∀(j:Nat) (y:List UInt8),j<i->l[j]?=some y->y≠name):Cy l name=(i:Int):=by
 unfold Cy;obtain⟨hl,e⟩:=List.getElem?_eq_some_iff.1 hi;have:l.findIdx? (·==name)=some i:=by
  rw[List.findIdx?_eq_some_iff_getElem];refine⟨hl,by simp[e],fun j hj=>?_⟩;have:=h j _ hj (List.getElem?_eq_getElem (by omega));simpa using this
 rw[this]
theorem MD(w:World)(x n cap:Nat)(a:Option Addr)(l:List (List UInt8))(name:List UInt8)(hn:l.length=n)(hn6:n<=1000)(x5:w.cell? ⟨x,5,none⟩=some (.slice a n cap))(hc:∀(i:Nat) (y:List UInt8),l[i]?=some y->∃g,a=some ⟨g,0,none⟩/\w.cell? ⟨g,i,none⟩=some (.string (str y))):Calls Tryz.prog 216 #[Av x,.string (str name)] w fun e w'=>e=.returned (.int .i64 (Cy l name))/\w'=w:=by
 have hx:=lt_of_cell x5;have HC:=Ab hc;have HNO:=Ab (NR (l:=l) (name:=name));have HYES:=Ab (fun i=>NS (l:=l) (name:=name) (i:=i));generalize Cy l name=res at *;clear hc;go_enter Tryz.func216,Tryz.ntmps216;go_wp2;go_loopw [5] (fun iv wr=>∃i:Nat,i<=n/\iv=.int .i64 i/\wr=w/\∀(j:Nat) (y:List UInt8),j<i->l[j]?=some y->y≠name) (fun iv _=>n-(intOf iv).toNat)
 case atStart=>exact⟨0,Nat.zero_le _,rfl,rfl,fun j _ hj=>absurd hj (by omega)⟩
 case round=>
  obtain⟨i,hi,rfl,hwr,hall⟩:=hrel;subst hwr;have HALL:=Ab hall;clear hall;by_cases hlt:i<n
  ·obtain⟨y,hy⟩:∃y,l[i]?=some y:=⟨_,List.getElem?_eq_getElem (by omega)⟩;obtain⟨g,ha,cy⟩:=(Aa HC) i y hy;subst ha;have q0:(0:Int)<=(i:Int):=by omega
   have q1:(i:Int)<(n:Int):=by omega
   by_cases he:y=name
   ·subst he;have hres:=(Aa HYES) i hy (Aa HALL);subst hres;go_wp2;go_returns;exact⟨rfl,rfl⟩
   ·have hne:(y==name)=false:=by simpa using he
    go_wp2;go_roundw
    case rel=>exact⟨i+1,by omega,by go_num,trivial,fun j u hj hu=>by
     by_cases e:j=i
     ·subst e;rw[hy]at hu;cases hu;exact he
     ·exact(Aa HALL) j u (by omega) hu⟩
    case measure=>simp[intOf];omega
  ·obtain rfl:i=n:=by omega
   have hres:=(Aa HNO) (fun j y hj=>(Aa HALL) j y (by have:=(List.getElem?_eq_some_iff.1 hj).1;omega) hj);subst hres;go_wp2;go_returns;exact⟨rfl,rfl⟩
theorem RM.entry{x:Nat}{v:RV}{F:Ag}{G:R.Wd}{w:World}(h:RM x v F G w)(h6:G.names.length<=6)(name:List UInt8):Calls Tryz.prog 216 #[Av x,.string (str name)] w fun e w'=>e=.returned (.int .i64 (Cy G.names name))/\w'=w:=by
 obtain⟨a,cap,hN⟩:=AR h.names;refine MD w x G.names.length cap a G.names name rfl (by omega) (cell_of h.bx 5 _ (by rw[<-hN];rfl)) (fun i y hy=>?_);have hrow:=h.names;rw[hN]at hrow;have hi:=(List.getElem?_eq_some_iff.1 hy).1;rcases hrow.2 with ⟨_,h0⟩|⟨g,cap',cur,hv,_,hg,_,_,_,htk⟩
 ·omega
 ·cases hv;refine⟨g,rfl,EZ hrow ?_⟩;simp[CP,hy]
theorem RM.Bh{x:Nat}{v:RV}{F:Ag}{G:R.Wd}{w:World}(_:RM x v F G w)(name:List UInt8):Cy G.names name=(match R.Bh G name with|none=>-1|some k=>(k:Int)):=rfl
theorem RM.LO{x:Nat}{v:RV}{F:Ag}{G:R.Wd}{w:World}(h:RM x v F G w)(hs:G.seen=List.replicate 9 R.Ef):w.cell? ⟨x,11,none⟩=some (.slice (some ⟨v.Sn,0,none⟩) 9 9)/\∀i,i<9->w.cell? ⟨v.Sn,i*10+1,none⟩=some (.int .i64 0):=by
 refine⟨cell_of h.bx 11 _ rfl,fun i hi=>?_⟩;have h1:=h.seen;rw[hs]at h1;refine Bi h1 ?_;have:=CW Qm (List.replicate 9 R.Ef) i 1 R.Ef (by rw[List.getElem?_replicate,if_pos hi]) (by omega);rw[this];rfl
theorem GH{α:Type}{f:α->List Value}{size:Nat}(hf:∀x,(f x).length=size){w:World}{e:TypeId}{n cap g:Nat}{xs:List α}(h:w.ownsRow 0 e size (.slice (some ⟨g,0,none⟩) n cap) n (tab f xs)){i j:Nat}{y y':α}{u:Value}(hy:xs[i]?=some y)(hj:j<size)(e1:f y'=(f y).set j u):(w.setCell ⟨g,i*size+j,none⟩ u).ownsRow 0 e size (.slice (some ⟨g,0,none⟩) n cap) n (tab f (xs.set i y')):=by
 refine⟨by rw[BN hf,List.length_set,<-BN hf];exact h.1,Or.inr ?_⟩;rcases h.2 with ⟨h0,_⟩|⟨g',cap',cur,hv,hb,hg,hc,hcm,hsz,htk⟩
 ·cases h0
 ·cases hv;have hg':w.heap[g]?=some (.cells cur.toList.toArray e (0,0)):=by rw[hg]
  refine⟨g,cap,(cur.toList.set (i*size+j) u).toArray,rfl,hb,Ap hg' u,hc,hcm,by simpa using hsz,?_⟩;simp only;rw[List.take_set,htk,Dy hf xs i j y y' u hy hj e1]
theorem DZ{G:R.Wd}(hs:G.seen=List.replicate 9 R.Ef){uid:Int}(hu:1<=uid):(G.seen.map fun r=>if r.uid=uid/\r.state<3 then {r with state:=4} else r)=G.seen:=by
 rw[hs];simp[R.Ef];omega
theorem Kg(w:World)(x g n cap u sn:Nat)(b0:Bool)(hu:u<n)(hn:n<=255)(x7:w.cell? ⟨x,7,none⟩=some (.slice (some ⟨g,0,none⟩) n cap))(c1:w.cell? ⟨g,u*3+1,none⟩=some (.bool b0))(hz:w.frozen? ⟨g,u*3+1,none⟩=false)(hS:∀W,W=w.setCell ⟨g,u*3+1,none⟩ (.bool false)->W.cell? ⟨x,11,none⟩=some (.slice (some ⟨sn,0,none⟩) 9 9)/\∀i,i<9->W.cell? ⟨sn,i*10+1,none⟩=some (.int .i64 0)):
  Calls Tryz.prog 217 #[Av x,.int .i64 ((u:Int)+1)] w fun e w'=>e=.returned (.tuple #[])/\w'=w.setCell ⟨g,u*3+1,none⟩ (.bool false):=by
 have q0:(0:Int)<=(u:Int):=by omega
 have q1:(u:Int)<(n:Int):=by omega
 have e1:IntKind.i64.wrap ((u:Int)+1-1)=(u:Int):=by rw[IntKind.wrap_i64];omega
 have e2:IntKind.i64.wrap (u:Int)=(u:Int):=by rw[IntKind.wrap_i64];omega
 have hx:=lt_of_cell x7;have hg:=lt_of_cell c1;obtain⟨W1,hW1⟩:∃W1,w.setCell ⟨g,u*3+1,none⟩ (.bool false)=W1:=⟨_,rfl⟩;obtain⟨s11,sc⟩:=hS W1 hW1.symm;have HW1:=Ab hW1;have SC:=Ab sc;have hsn:=lt_of_cell s11;have hu1:((0:Int)==(u:Int)+1)=false:=by simp;omega
 clear hS sc;rw[hW1];clear hW1;go_enter Tryz.func217,Tryz.ntmps217;go_wp2;rw[Aa HW1];go_loopw [4] (fun iv wr=>∃i:Nat,i<=9/\iv=.int .i64 i/\wr=W1) (fun iv _=>9-(intOf iv).toNat)
 case atStart=>exact⟨0,by omega,rfl,rfl⟩
 case round=>
  obtain⟨i,hi,rfl,hwr⟩:=hrel;subst hwr;by_cases hlt:i<9
  ·have si:=(Aa SC) i hlt;have p0:(0:Int)<=(i:Int):=by omega
   have p1:(i:Int)<9:=by omega
   go_wp2;go_roundw
   case rel=>exact⟨i+1,by omega,by go_num,trivial⟩
   case measure=>simp[intOf];omega
  ·obtain rfl:i=9:=by omega
   go_wp2;go_returns;exact⟨rfl,rfl⟩
theorem RM.end_{x:Nat}{v:RV}{F:Ag}{G:R.Wd}{w:World}(h:RM x v F G w)(hs:G.seen=List.replicate 9 R.Ef)(hn:G.Ac.length<=255){uid:Int}(h1:1<=uid)(h2:uid<=(G.Ac.length:Int)):Calls Tryz.prog 217 #[Av x,.int .i64 uid] w fun e w'=>e=.returned (.tuple #[])/\∃v' F',RM x v' F' (R.Ce G uid) w'/\v'.S=v.S/\v'.N=v.N/\Ah F F' w w':=by
 obtain⟨u,rfl⟩:∃u:Nat,uid=(u:Int)+1:=⟨(uid-1).toNat,by omega⟩;have hul:u<G.Ac.length:=by omega
 obtain⟨s,hsv⟩:∃s,G.Ac[u]?=some s:=⟨_,List.getElem?_eq_getElem hul⟩;obtain⟨z,hz,hzs⟩:=Ei h.zs hsv;have hzl:v.zs.length=G.Ac.length:=by rw[<-h.zs,List.length_map]
 obtain⟨g,cap,hV,hgl,hcell,hfz⟩:=DU F6 (by omega) h.C5 hz;have hrow:=h.C5;rw[hV]at hrow;have c1:w.cell? ⟨g,u*3+1,none⟩=some (.bool z.1.alive):=hcell 1 _ (by omega) rfl;have x7:w.cell? ⟨x,7,none⟩=some (.slice (some ⟨g,0,none⟩) v.zs.length cap):=cell_of h.bx 7 _ (by rw[<-hV];rfl);have hk:Ae (fun k=>k=g) w (w.setCell ⟨g,u*3+1,none⟩ (.bool false)):=Ae.setCell (F:=fun k=>k=g) (Ae.refl _ w) (p:=⟨g,u*3+1,none⟩) (Or.inl rfl) _;have hne:¬x=g:=fun e=>by
  subst e;obtain⟨cur,hc⟩:=C4 hrow rfl;exact AO hc h.bx (by decide) rfl
 have hset:=GH F6 hrow (y':=({z.1 with alive:=false},z.2)) hz (j:=1) (by omega) (u:=.bool false) rfl;have hT:=h.Lp (K:=v.V) (zs:=v.zs.set u ({z.1 with alive:=false},z.2)) (hk.mono (fun k _ e=>Or.inr (by rw[hV,e];rfl))) (hk.at h.bx hne) (by rw[hV,List.length_set];exact hset) (fun y hy=>by
  rcases List.mem_or_eq_of_mem_set hy with q|q
  ·exact h.F7 y q
  ·rw[q];exact h.F7 z (List.mem_of_getElem? hz)) (fun j hj=>Or.inl hj)
 obtain⟨F',hM,hWt⟩:=hT;refine(Kg w x g v.zs.length cap u v.Sn z.1.alive (by omega) (by omega) x7 c1 (hfz _) (fun W hW=>?_)).mono ?_
 ·rw[hW];exact hM.LO hs
 ·rintro e w' ⟨rfl,rfl⟩;refine⟨rfl,{v with V:=v.V,zs:=v.zs.set u ({z.1 with alive:=false},z.2)},F',?_,rfl,rfl,hWt⟩;have hE:R.Ce G ((u:Int)+1)={G with Ac:=(v.zs.set u ({z.1 with alive:=false},z.2)).map (·.1)}:=by
   unfold R.Ce;rw[DZ hs h1,List.map_set,h.zs,show ((u:Int)+1-1).toNat=u by omega];congr 1;apply List.ext_getElem?;intro j;rw[List.getElem?_modify,List.getElem?_set];have hzs':z.1=s:=hzs;by_cases hj:u=j
   ·subst hj;rw[if_pos rfl,if_pos hul,hsv,hzs'];simp
   ·simp[hj]
  rw[hE];exact hM
end Go.Proofs.YtblomippkddgiaaGreatDoor
