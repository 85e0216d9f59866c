import Derived.Test.YtblomippkddgiaaGreatDoorJ47
set_option maxRecDepth 100000
set_option maxHeartbeats 4000000
namespace Go.Proofs.YtblomippkddgiaaGreatDoor
open Go.RowKit
theorem OT{ops:Array Oper}{o:Oper}{a:Act}{w:World}{K:Act->World->Prop}{Q:Exit->Act->World->Prop}{E:Prop}
  (hgd:o.guard=none) (f:Nat) (xs:Array Operand) (ts:Array TypeId) (ho:o.op=.call {callee:=.value (.func f),args:=xs,argTypes:=ts}) (hcf:∀args w,(callFunc f args).run Tryz.prog w=.ok (.enter f args) w)
  (vs:Array Value) (hv0:xs.toList.map a.eval=vs.toList) (R:Ending->World->Prop) (hC:Calls Tryz.prog f vs w R) (hR:∀e w',R e w'->∃v,e=.returned v/\K (a.put o.dst v) w'):
  if Region.wanted o (yielded ops a.tmps)=true then Oper.wp Tryz.prog o a w K Q else E:=by
 have hw:Region.wanted o (yielded ops a.tmps)=true:=by simp[Region.wanted,hgd]
 rw[if_pos hw];have hv:xs.map a.eval=vs:=by
  apply Array.ext';simpa using hv0
 clear hv0;subst hv;unfold Oper.wp;simp only[execOp,ho,resolve,invoke,Sem.run_bind];generalize Array.map a.eval xs=vs at hC ⊢;have hC2:Calls Tryz.prog f vs w (fun e w'=>∃v,e=.returned v/\K (a.put o.dst v) w'):=hC.mono hR;clear hC hR;simp[Deferred.ofValue,Act.eval,hcf,go_sem];refine hC2.mono ?_;rintro e w' ⟨v,rfl,hk⟩;exact hk
theorem Yv:∀args w,(callFunc 144 args).run Tryz.prog w=.ok (.enter 144 args) w:=fun _ _=>rfl
theorem Xj{a b:World}(h:Below a.drew.heap.size a.drew b):Below a.heap.size a b:=⟨h.os,h.tape,h.output,h.size,h.block⟩
theorem Yo:(Tryz.prog.info? 232).map (fun i=>(i.zero,i.size,i.bytes))=some (some (.agg #[.int .i64 0,.slice none 0 0,.slice none 0 0]),3,56):=by kernel_rfl
theorem RQ(w:World)(r t tb:Int)(N n:Nat)(hc:R.Cj ⟨(N:Int),(n:Int),r,t,tb⟩):Calls Tryz.prog 87 #[OC ⟨(N:Int),(n:Int),r,t,tb⟩] w fun e w'=>∃x C zc L Sn wr,e=.returned (.tuple #[Av x,.int .i64 0])/\Tg (w.alloc (.cells #[.int .i64 (N:Int),.int .i64 (n:Int),.int .i64 r,.int .i64 t,.int .i64 tb] 26)) x ⟨(N:Int),(n:Int),r,t,tb⟩ n N C zc wr/\wr.heap.size<=L/\wr.heap.size<=Sn/\L≠Sn/\w'.heap[L]?=some (.cells (BI [0,0,0]).toArray 3 (0,0))/\w'.heap[Sn]?=some (.cells (tab XR (List.replicate 9 R.Ef)).toArray 264 (0,0))/\w'.heap[x]?=some (.cells #[.int .i64 (N:Int),.int .i64 (n:Int),.int .i64 r,.int .i64 t,.int .i64 tb,.slice none 0 0,.slice none 0 0,.slice none 0 0,.slice none 0 0,C,.slice (some ⟨L,0,none⟩) 3 3,.slice (some ⟨Sn,0,none⟩) 9 9,.slice none 0 0] 229 (0,0))/\Ae (fun k=>k=x) wr w':=by
 have hc':=hc;unfold R.Cj at hc';simp only at hc';have h1:¬(N:Int)<1:=by omega
 have h2:¬3<(N:Int):=by omega
 have h3:¬(n:Int)<1:=by omega
 have h4:¬3<(n:Int):=by omega
 have h5:¬r<1:=by omega
 have h6:¬8<r:=by omega
 have h7:¬t<1:=by omega
 have h8:¬6<t:=by omega
 have h9:¬tb<1:=by omega
 have h10:¬9<tb:=by omega
 have hN3:N<=3:=by omega
 have hn3:1<=n/\n<=3:=by omega
 have HCN:=Ab (fun w=>MA w 1 n hn3);obtain⟨i0,hi,hz0,hz1,hz2⟩:=info_parts Yo;obtain⟨BX,hBX⟩:∃BX,w.alloc (.cells #[.int .i64 (N:Int),.int .i64 (n:Int),.int .i64 r,.int .i64 t,.int .i64 tb] 26)=BX:=⟨_,rfl⟩;have hbx:BX.heap[w.heap.size]?=some (.cells #[.int .i64 (N:Int),.int .i64 (n:Int),.int .i64 r,.int .i64 t,.int .i64 tb] 26 (0,0)):=by
  rw[<-hBX];exact heap_alloc_new w _
 have hBs:BX.heap.size=w.heap.size+1:=by rw[<-hBX];simp
 obtain⟨W1,hW1⟩:∃W1,BX.alloc (.cells #[.int .i64 (N:Int),.int .i64 (n:Int),.int .i64 r,.int .i64 t,.int .i64 tb,.slice none 0 0,.slice none 0 0,.slice none 0 0,.slice none 0 0,.slice none 0 0,.slice none 0 0,.slice none 0 0,.slice none 0 0] 229)=W1:=⟨_,rfl⟩;have hNI:Tg BX BX.heap.size ⟨(N:Int),(n:Int),r,t,tb⟩ n 0 (.slice none 0 0) [] W1:=by
  rw[<-hW1];exact⟨(Below.refl _ _).alloc (Nat.le_refl _) _,Nat.le_refl _,heap_alloc_new _ _,rfl,World.ownsRow_nil _ _ _ _,fun i z hz=>by simp at hz,fun i j z y hz=>by simp at hz⟩
 have HNI:=Ab hNI;have HBC:Hid (∀(x m:Nat) (C:Value) (zc:List (R.Cl×CE)) (wr:World),Tg BX x ⟨(N:Int),(n:Int),r,t,tb⟩ n m C zc wr->wr.cell? ⟨w.heap.size,0,none⟩=some (.int .i64 (N:Int))/\wr.cell? ⟨w.heap.size,1,none⟩=some (.int .i64 (n:Int))):=fun x m C zc wr h=>by
  have hl:=lt_of_block hbx;exact⟨(h.below.cell (p:=⟨w.heap.size,0,none⟩) hl).trans (cell_of hbx 0 _ rfl),(h.below.cell (p:=⟨w.heap.size,1,none⟩) hl).trans (cell_of hbx 1 _ rfl)⟩
 have HPU:Hid (∀{x m:Nat} {C K:Value} {zc:List (R.Cl×CE)} {wr w2 W wz:World} {lb:Nat},Tg BX x ⟨(N:Int),(n:Int),r,t,tb⟩ n m C zc wr->wr.heap.size<=lb->Below wr.heap.size wr w2->w2.heap[lb]?=some (.cells (tab K4 (XD n)).toArray 259 (0,0))->Below w2.heap.size w2 W->W.grownBy wz C.ownBlock->wz.ownsRow BX.heap.size 232 3 K (m+1) (tab Lx zc++[.int .i64 1,.slice none 0 0,.slice (some ⟨lb,0,none⟩) n n])->wz.heap[x]?=wr.heap[x]?/\Tg BX x ⟨(N:Int),(n:Int),r,t,tb⟩ n (m+1) K (zc++[(⟨1,[],List.replicate n R.Um⟩,⟨.slice none 0 0,lb⟩)]) (wz.setCell ⟨x,9,none⟩ K)):=fun h1 h2 h3 h4 h5 h6 h7=>h1.push h2 h3 h4 h5 h6 h7
 obtain⟨d0,d1⟩:=(Aa HBC) _ _ _ _ _ hNI;obtain⟨X,hX⟩:∃X,BX.heap.size=X:=⟨_,rfl⟩;rw[hX]at HNI hNI;have hXs:w.heap.size+1=X:=by omega
 have HBX:=Ab hBX;have HW1:=Ab hW1;have hl1:X<W1.heap.size:=lt_of_block hNI.bx;have hl0:w.heap.size<W1.heap.size:=by omega
 rw[hBX];clear hc hc' hBX hbx hBs hW1 hNI;go_enter Tryz.func87,Tryz.ntmps87;go_wp2_with fail
 rw[Aa HBX,Aa HW1];go_loopw [5] (fun iv wr=>∃(m:Nat) (C:Value) (zc:List (R.Cl×CE)),m<=N/\iv=.int .i64 (m:Int)/\Tg BX X ⟨(N:Int),(n:Int),r,t,tb⟩ n m C zc wr) (fun iv _=>N-(intOf iv).toNat)
 case atStart=>exact⟨0,_,_,Nat.zero_le _,rfl,Aa HNI⟩
 case round=>
  obtain⟨m,C,zc,hm,rfl,hni⟩:=hrel;obtain⟨b0,b1⟩:=(Aa HBC) _ _ _ _ _ hni;have hbx:=hni.bx;obtain⟨ka,kc,hKs⟩:=AR hni.cl;by_cases hlt:m<N
  ·subst hKs;have a9:wr.cell? ⟨X,9,none⟩=some (.slice ka m kc):=cell_of hbx 9 _ rfl;have f9:wr.frozen? ⟨X,9,none⟩=false:=Cs hbx 9;have hlr:=lt_of_block hbx;have hlw:=lt_of_cell b0;have hbl:=hni.below.size;have HNR:=Ab hni;clear hni hbx d0 d1;go_wp2;go_region_law (first
    |(refine OT rfl 144 #[.const (.int .i64 1),.tmp 69] #[3,3] rfl Yv #[.int .i64 1,.int .i64 (n:Int)] rfl _ ((Aa HCN) _) ?_;rintro e w2 ⟨lb,rfl,hlb,hl2,hb2'⟩;have hb2:=Xj hb2';have s2:=hb2.size;have e9:w2.cell? ⟨X,9,none⟩=some (.slice ka m kc):=(hb2.cell (p:=⟨X,9,none⟩) hlr).trans a9;have e9z:w2.frozen? ⟨X,9,none⟩=false:=(hb2.frozen (p:=⟨X,9,none⟩) hlr).trans f9;have HB2:=Ab hb2;have HL2:=Ab hl2;have HLB:=Ab (show wr.heap.size<=lb from hlb);have hlx2:X<w2.heap.size:=Nat.lt_of_lt_of_le hlr s2;clear hb2 hb2' hl2 hlb;refine⟨_,rfl,?_⟩)
    |(refine Bb rfl (.tmp 67) (.tmp 71) 225 rfl BX.heap.size 232 i0 (.agg #[.int .i64 0,.slice none 0 0,.slice none 0 0]) 3 56 Tryz.underlying225 hi hz0 hz1 hz2 rfl (by decide) (.slice ka m kc) m (tab Lx zc) rfl (by exact(Be (Aa HNR).cl (Aa HB2)).alloc _) ⟨w2.heap.size,0,none⟩ 1 1 [.int .i64 1,.slice none 0 0,.slice (some ⟨lb,0,none⟩) n n] rfl rfl (by exact Em w2 232 [.int .i64 1,.slice none 0 0,.slice (some ⟨lb,0,none⟩) n n]) (by simp[Value.oneCell']) (by unfold maxLen;omega) (by omega) (by simp;have:=(Aa HNR).below.size;omega) ?_;intro v' wz hownz hgrow hat;obtain⟨va,vn,vc,hvs⟩:=Am hownz;subst hvs;obtain⟨hgx,hnx⟩:=(Aa HPU) (Aa HNR) (Aa HLB) (Aa HB2) (Aa HL2) ((Below.refl _ _).alloc (Nat.le_refl _) (.cells #[.int .i64 1,.slice none 0 0,.slice (some ⟨lb,0,none⟩) n n] 232)) hgrow hownz;have gn:wz.cell? ⟨X,9,none⟩=some (.slice ka m kc):=(World.cell?_of_block hgx).trans a9;have gz:wz.frozen? ⟨X,9,none⟩=false:=(World.frozen?_of_block hgx).trans f9;have HNX:=Ab hnx;clear hownz hgrow hat hgx hnx))
   all_goals
    clear HNR HPU;go_wp2;go_roundw
    case rel=>exact⟨m+1,_,_,by omega,by go_num,Aa HNX⟩
    case measure=>simp[intOf];omega
  ·obtain rfl:m=N:=by omega
   have HBG:=Ab (Ox wr X _ _ _ _ _ _ _ _ _ _ hbx);have HNR:=Ab hni;clear hni hbx hKs d0 d1 HPU HNI;go_wp2_with fail
   refine(Aa HBG).mono ?_;rintro e w3 ⟨rfl,L,Sn,g1,g2,g3,g4,g5,g6,g7⟩;have HF:=Ab (And.intro g1 (And.intro g2 (And.intro g3 (And.intro g4 (And.intro g5 (And.intro g6 g7))))));clear HBG g1 g2 g3 g4 g5 g6 g7;go_wp2_with fail
   go_returns;exact⟨X,C,zc,L,Sn,wr,rfl,Aa HNR,Aa HF⟩
def Ew(c:R.Cf):R.Wd:=⟨c,[],[],[],[],List.replicate c.Ad.toNat (R.LM 1 c.lines),[0,0,0],List.replicate 9 R.Ef,[]⟩
theorem U6{c:R.Cf}(h:R.Cj c):R.Wf (Ew c):=by
 have h':=h;unfold R.Cj at h';refine⟨h,by simp only[Ew,List.length_replicate];omega,fun i cl hc=>?_,by simp[Ew],by simp[Ew],by simp[Ew],by simp[Ew],by simp[Ew],rfl,by simp[Ew],by simp[Ew]⟩;simp only[Ew,List.getElem?_replicate]at hc;split at hc
 ·cases hc;refine⟨by simp only[R.LM,List.length_replicate,Ew];omega,by simp[R.LM],by simp[R.LM],fun k l hl=>?_⟩;simp only[R.LM,List.getElem?_replicate]at hl;split at hl
  ·cases hl;exact⟨by decide,fun q=>absurd q (by decide)⟩
  ·cases hl
 ·cases hc
theorem Xi{w0 wr w':World}{x:Nat}{c:R.Cf}{C:Value}{zc:List (R.Cl×CE)}{L Sn:Nat}(hc:R.Cj c)(h:Tg w0 x c c.lines.toNat c.Ad.toNat C zc wr)(g1:wr.heap.size<=L)(g2:wr.heap.size<=Sn)(g4:w'.heap[L]?=some (.cells (BI [0,0,0]).toArray 3 (0,0)))(g5:w'.heap[Sn]?=some (.cells (tab XR (List.replicate 9 R.Ef)).toArray 264 (0,0)))(g6:w'.heap[x]?=some (.cells #[.int .i64 c.Ad,.int .i64 c.lines,.int .i64 c.Al,.int .i64 c.tries,.int .i64 c.table,.slice none 0 0,.slice none 0 0,.slice none 0 0,.slice none 0 0,C,.slice (some ⟨L,0,none⟩) 3 3,.slice (some ⟨Sn,0,none⟩) 9 9,.slice none 0 0] 229 (0,0)))(g7:Ae (fun k=>k=x) wr w'):∃v F,RW x v F (Ew c) w'/\(∀k,F k->w0.heap.size<=k)/\Below w0.heap.size w0 w':=by
 have hb0:=h.below.size;have hlx:=(Array.getElem?_eq_some_iff.1 h.bx).1;have nx:∀{b:Nat} {ys:Array Value} {t:TypeId},wr.heap[b]?=some (.cells ys t (0,0))->t≠229->¬b=x:=fun hb h1 e=>by
  subst e;exact AO hb h.bx h1 rfl
 have hrowC:w'.ownsRow 0 232 3 C zc.length (tab Lx zc):=by
  rw[h.len];exact Jr (g7.row h.cl (fun j hj=>by
   obtain⟨cur,hcc⟩:=C4 h.cl hj;exact nx hcc (by decide)))
 refine⟨⟨.slice none 0 0,.slice none 0 0,.slice none 0 0,.slice none 0 0,C,L,Sn,[],zc⟩,fun k=>k=x\/k=L\/k=Sn\/C.ownBlock=some k\/∃(i:Nat) (z:R.Cl×CE),zc[i]?=some z/\z.2.lb=k,RM.whole ⟨g6,World.ownsRow_nil _ _ _ _,World.ownsRow_nil _ _ _ _,rfl,World.ownsRow_nil _ _ _ _,fun z hz=>by simp at hz,World.ownsRow_nil _ _ _ _,?_,hrowC,fun i z hz=>?_,fun i z hz=>?_,g4,g5,⟨Or.inl rfl,Or.inr (Or.inl rfl),Or.inr (Or.inr (Or.inl rfl))⟩,fun j hj=>?_,fun i z hz=>⟨Or.inr (Or.inr (Or.inr (Or.inr ⟨i,z,hz,rfl⟩))),fun j hj=>?_⟩,by simp[Value.ownBlock],fun i j z y hz hy hij=>⟨h.inj i j z y hz hy hij,fun k hk=>?_⟩,fun k hk=>?_⟩ (U6 hc) ⟨rfl,rfl,rfl⟩,fun k hk=>?_,h.below.trans (g7.below hb0 (fun k e=>by rw[e];exact h.lo))⟩
 ·apply List.ext_getElem?;intro i;rw[List.getElem?_map];simp only[Ew,List.getElem?_replicate];by_cases hi:i<c.Ad.toNat
  ·obtain⟨z,hz⟩:∃z,zc[i]?=some z:=⟨_,List.getElem?_eq_getElem (by rw[h.len];exact hi)⟩;rw[hz,if_pos hi,Option.map_some,(h.each i z hz).1];rfl
  ·rw[if_neg hi,List.getElem?_eq_none (by rw[h.len];omega)];rfl
 ·obtain⟨e1,e2,_⟩:=h.each i z hz;rw[e2,e1];exact World.ownsRow_nil _ _ _ _
 ·obtain⟨e1,_,_,e4⟩:=h.each i z hz;refine⟨XD c.lines.toNat,?_,g7.at e4 (nx e4 (by decide)),fun y hy=>?_⟩
  ·rw[e1];simp[XD]
  ·rw[(List.mem_replicate.1 hy).2];exact⟨rfl,rfl⟩
 ·rcases hj with q|q|q|q|q
  ·simp[Value.ownBlock]at q
  ·simp[Value.ownBlock]at q
  ·simp[Value.ownBlock]at q
  ·simp[Value.ownBlock]at q
  ·exact Or.inr (Or.inr (Or.inr (Or.inl q)))
 ·rw[(h.each i z hz).2.1]at hj;simp[Value.ownBlock]at hj
 ·rw[(h.each i z hz).2.1]at hk;simp[Value.ownBlock]at hk
 ·have hs:=g7.size;rcases hk with rfl|rfl|rfl|q|⟨i,z,hz,rfl⟩
  ·omega
  ·exact(Array.getElem?_eq_some_iff.1 g4).1
  ·exact(Array.getElem?_eq_some_iff.1 g5).1
  ·obtain⟨cur,hcc⟩:=C4 h.cl q;have:=(Array.getElem?_eq_some_iff.1 hcc).1;omega
  ·have:=(Array.getElem?_eq_some_iff.1 (h.each i z hz).2.2.2).1;omega
 ·rcases hk with rfl|rfl|rfl|q|⟨i,z,hz,rfl⟩
  ·exact h.lo
  ·omega
  ·omega
  ·exact Db h.cl q
  ·exact(h.each i z hz).2.2.1
theorem U7(w:World)(c:R.Cf)(hc:R.Cj c):Calls Tryz.prog 87 #[OC c] w fun e w'=>∃x v F,e=.returned (.tuple #[Av x,.int .i64 0])/\RW x v F (Ew c) w'/\(∀k,F k->w.heap.size<=k)/\Below w.heap.size w w':=by
 have hc':=hc;unfold R.Cj at hc';obtain⟨a,b,r,t,tb⟩:=c;simp only at hc';obtain⟨N,rfl⟩:∃N:Nat,a=(N:Int):=⟨a.toNat,by omega⟩;obtain⟨n,rfl⟩:∃n:Nat,b=(n:Int):=⟨b.toNat,by omega⟩;refine(RQ w r t tb N n hc).mono ?_;rintro e w' ⟨x,C,zc,L,Sn,wr,rfl,hN,g1,g2,g3,g4,g5,g6,g7⟩;have hN':Tg (w.alloc (.cells #[.int .i64 (N:Int),.int .i64 (n:Int),.int .i64 r,.int .i64 t,.int .i64 tb] 26)) x ⟨(N:Int),(n:Int),r,t,tb⟩ (⟨(N:Int),(n:Int),r,t,tb⟩:R.Cf).lines.toNat (⟨(N:Int),(n:Int),r,t,tb⟩:R.Cf).Ad.toNat C zc wr:=by
  simp only[Int.toNat_natCast];exact hN
 obtain⟨v,F,q1,q2,q3⟩:=Xi hc hN' g1 g2 g4 g5 g6 g7;have hs:(w.alloc (.cells #[.int .i64 (N:Int),.int .i64 (n:Int),.int .i64 r,.int .i64 t,.int .i64 tb] 26)).heap.size=w.heap.size+1:=by simp
 have hb:Below w.heap.size w (w.alloc (.cells #[.int .i64 (N:Int),.int .i64 (n:Int),.int .i64 r,.int .i64 t,.int .i64 tb] 26)):=(Below.refl _ _).alloc (Nat.le_refl _) _;exact⟨x,v,F,rfl,q1,fun k hk=>by have:=q2 k hk;omega,hb.trans (q3.mono (by omega))⟩
theorem WC:(Tryz.prog.info? 109).map (fun i=>(i.zero,i.size,i.bytes))=some (some (.agg #[.pointer none,.pointer none]),2,16):=by kernel_rfl
theorem Rr(a:Addr)(w:World):(binOp .eql 34 (.pointer (some a)) (.pointer none)).run Tryz.prog w=.ok (.bool false) w:=by kernel_rfl
theorem Ou(a:Addr)(w:World):(binOp .eql 107 (.pointer (some a)) (.pointer none)).run Tryz.prog w=.ok (.bool false) w:=by kernel_rfl
theorem G0(w:World)(b:Nat)(c:R.Cf)(hc:¬R.Cj c):Calls Tryz.prog 52 #[ptr b,OC c] w fun e w'=>e=.returned (.bool true)/\Below w.heap.size w w':=by
 obtain⟨a,l,r,t,tb⟩:=c;have H1:=Ab (Yt a l r t tb hc);have H2:=Ab (fun W=>Xh W ⟨a,l,r,t,tb⟩ hc);have hb1:Below w.heap.size w (w.alloc (.cells #[.int .i64 a,.int .i64 l,.int .i64 r,.int .i64 t,.int .i64 tb] 26)):=(Below.refl _ _).alloc (Nat.le_refl _) _;have hx1:=heap_alloc_new w (.cells #[.int .i64 a,.int .i64 l,.int .i64 r,.int .i64 t,.int .i64 tb] 26);obtain⟨W1,hW1⟩:∃W1,w.alloc (.cells #[.int .i64 a,.int .i64 l,.int .i64 r,.int .i64 t,.int .i64 tb] 26)=W1:=⟨_,rfl⟩;rw[hW1]at hb1 hx1;have HW1:=Ab hW1;have HX:=Ab hx1;have HB:=Ab hb1;have HNUM:=Ab Dt;clear hW1 hb1 hx1 hc;go_enter Tryz.func52,Tryz.ntmps52;go_wp2_with fail
 rw[Aa HW1];refine((Aa H1) W1).mono ?_;rintro e w2 ⟨rfl,hb2⟩;have hx2:=(hb2.block _ (lt_of_block (Aa HX))).trans (Aa HX);have c0:w2.cell? ⟨w.heap.size,0,none⟩=some (.int .i64 a):=cell_of hx2 0 _ rfl;have c1:w2.cell? ⟨w.heap.size,1,none⟩=some (.int .i64 l):=cell_of hx2 1 _ rfl;have c2:w2.cell? ⟨w.heap.size,2,none⟩=some (.int .i64 r):=cell_of hx2 2 _ rfl;have c3:w2.cell? ⟨w.heap.size,3,none⟩=some (.int .i64 t):=cell_of hx2 3 _ rfl;have c4:w2.cell? ⟨w.heap.size,4,none⟩=some (.int .i64 tb):=cell_of hx2 4 _ rfl;have lx:=lt_of_block hx2;have HB2:=Ab ((Aa HB).trans (hb2.mono (Aa HB).size));clear hb2 hx2;go_wp2_with fail
 refine((Aa H2) w2).mono ?_;rintro e w3 ⟨rfl,hb3⟩;have HB3:=Ab ((Aa HB2).trans (hb3.mono (Aa HB2).size));clear hb3 c0 c1 c2 c3 c4;go_wp2_with fail
 refine((Aa HNUM) _ _).mono ?_;rintro e w4 ⟨rfl,hw4⟩;rw[hw4];clear hw4 w4;go_wp2;go_returns;exact⟨rfl,Aa HB3⟩
structure Zj(w:World)(c:R.Cf)(t:Tw)(w3:World):Prop where
 at':Ci 0 t w3
 G:t.G=newG c
 fresh:∀k,t.A4 k->w.heap.size<=k
 Ix:Below w.heap.size w w3
theorem UA{w W1 w2 w3:World}{c:R.Cf}(hb:Below w.heap.size w W1){p:Pl}{F:Ag}(h1:LW p F (newG c) w2)(f1:∀k,F k->W1.heap.size<=k)(b1:Below W1.heap.size W1 w2){x:Nat}{v:RV}{E:Ag}(h2:RW x v E (Ew c) w3)(f2:∀k,E k->w2.heap.size<=k)(b2:Below w2.heap.size w2 w3):Zj w c ⟨p,F,x,v,E,newG c⟩ w3:=by
 have s1:=hb.size;have s2:=b1.size;refine⟨⟨h1.below b2,h2,fun k q e=>?_,fun c' hc'=>?_⟩,rfl,fun k hk=>?_,hb.trans ((b1.trans (b2.mono s2)).mono s1)⟩
 ·have:=h1.lt k q;have:=f2 k e;omega
 ·have:c'.bound=[]:=by
   have hm:c'∈List.replicate c.Ad.toNat (R.LM 1 c.lines):=hc';rw[(List.mem_replicate.1 hm).2];rfl
  simp[this]
 ·rcases hk with q|q
  ·have:=f1 k q;omega
  ·have:=f2 k q;omega
theorem UQ(w:World)(a b:Nat)(j:Nat)(u:Value)(h:([ptr a,Av b]:List Value)[j]?=some u):(w.alloc (.cells #[ptr a,Av b] 109)).cell? ((⟨w.heap.size,0,none⟩:Addr).add j)=some u:=by
 rw[Addr.add_lit,Nat.zero_add,World.cell?_alloc_new w _ _ j,<-h];exact List.getElem?_toArray
theorem LD(w:World)(b:Nat)(c:R.Cf)(lv K:Value)(Ts:List Tw)(hc:R.Cj c)(hcell:w.heap[b]?=some (.cells #[lv,K] 69 (0,0)))(hrow:w.ownsRow 0 109 2 lv Ts.length (tab JU Ts))(hn:Ts.length<=1000000000000):
  Calls Tryz.prog 52 #[ptr b,OC c] w fun e w'=>e=.returned (.bool true)/\∃t w3 lv',Zj w c t w3/\Ae (fun k=>k=b\/lv.ownBlock=some k) w3 w'/\w'.heap[b]?=some (.cells #[lv',K] 69 (0,0))/\w'.ownsRow 0 109 2 lv' (Ts.length+1) (tab JU Ts++JU t)/\∀j,lv'.ownBlock=some j->lv.ownBlock=some j\/w3.heap.size<=j:=by
 have HC:=Ab hcell;have HR:=Ab hrow;have lb:=lt_of_block hcell;have HN1:=Ab (fun W=>WW W c hc);have HN2:=Ab (fun W=>U7 W c hc);have hb1:Below w.heap.size w (w.alloc (.cells #[.int .i64 c.Ad,.int .i64 c.lines,.int .i64 c.Al,.int .i64 c.tries,.int .i64 c.table] 26)):=(Below.refl _ _).alloc (Nat.le_refl _) _;have hx1:=heap_alloc_new w (.cells #[.int .i64 c.Ad,.int .i64 c.lines,.int .i64 c.Al,.int .i64 c.tries,.int .i64 c.table] 26);obtain⟨W1,hW1⟩:∃W1,w.alloc (.cells #[.int .i64 c.Ad,.int .i64 c.lines,.int .i64 c.Al,.int .i64 c.tries,.int .i64 c.table] 26)=W1:=⟨_,rfl⟩;rw[hW1]at hb1 hx1;have HW1:=Ab hW1;have HX:=Ab hx1;have HB:=Ab hb1;have HNUM:=Ab Dt;obtain⟨a0,c0',hlv⟩:=AR hrow;subst hlv;generalize Ts.length=m at *;generalize tab JU Ts=TT at *;clear hW1 hb1 hx1 hc hcell hrow;go_enter Tryz.func52,Tryz.ntmps52;go_wp2_with fail
 rw[Aa HW1];refine((Aa HN1) W1).mono ?_;rintro e w2 ⟨p,F,rfl,l2,f2,hb2⟩;have hx2:=(hb2.block _ (lt_of_block (Aa HX))).trans (Aa HX);have d0:w2.cell? ⟨w.heap.size,0,none⟩=some (.int .i64 c.Ad):=cell_of hx2 0 _ rfl;have d1:w2.cell? ⟨w.heap.size,1,none⟩=some (.int .i64 c.lines):=cell_of hx2 1 _ rfl;have d2:w2.cell? ⟨w.heap.size,2,none⟩=some (.int .i64 c.Al):=cell_of hx2 2 _ rfl;have d3:w2.cell? ⟨w.heap.size,3,none⟩=some (.int .i64 c.tries):=cell_of hx2 3 _ rfl;have d4:w2.cell? ⟨w.heap.size,4,none⟩=some (.int .i64 c.table):=cell_of hx2 4 _ rfl;have lx:=lt_of_block hx2;have HL:=Ab l2;have HF:=Ab f2;have HB2:=Ab hb2;clear hb2 hx2 l2 f2;go_wp2_with fail
 refine((Aa HN2) w2).mono ?_;rintro e w3 ⟨x,v,E,rfl,r3,f3,hb3⟩;have hN:=UA (Aa HB) (Aa HL) (Aa HF) (Aa HB2) r3 f3 hb3;have HN:=Ab hN;have hb0:=hN.Ix;have hc3:=(hb0.block b lb).trans (Aa HC);have hr3:w3.ownsRow 0 109 2 (.slice a0 m c0') m TT:=Be (Aa HR) hb0;have x0:w3.cell? ⟨b,0,none⟩=some (.slice a0 m c0'):=cell_of hc3 0 _ rfl;have xz:w3.frozen? ⟨b,0,none⟩=false:=Cs hc3 0;have lb3:=lt_of_block hc3;have n1:¬w3.heap.size=b:=by omega
 have n2:¬b=w3.heap.size:=by omega
 have HC3:=Ab hc3;have HR3:=Ab hr3;have p1:=Rr ⟨p.x,0,none⟩;have p2:=Ou ⟨x,0,none⟩;clear hN hb0 hb3 r3 f3 d0 d1 d2 d3 d4 hc3 hr3;obtain⟨j0,hj0,hz0,hz1,hz2⟩:=info_parts WC;go_wp2_with fail
 refine((Aa HNUM) _ _).mono ?_;rintro e w4 ⟨rfl,hw4⟩;rw[hw4];clear hw4 w4;go_wp2_with (at_builtin;go_must (refine wpList_append_own_at _ rfl (.tmp 36) (.tmp 40) 64 rfl 0 109 j0 (.agg #[.pointer none,.pointer none]) 2 16 Tryz.underlying64 hj0 hz0 hz1 hz2 rfl (by decide) (.slice a0 m c0') m TT rfl (by exact(Aa HR3).alloc _) ⟨w3.heap.size,0,none⟩ 1 1 [ptr p.x,Av x] rfl rfl (by exact UQ w3 p.x x) (by simp[Value.oneCell']) (by unfold maxLen;omega) (by omega) (by omega) ?_))
 intro v' wz hown hgrow _ hat;obtain⟨va,vn,vc,hvs⟩:=Am hown;subst hvs;have hb9:Below w3.heap.size w3 (w3.alloc (.cells #[ptr p.x,Av x] 109)):=(Below.refl _ _).alloc (Nat.le_refl _) _;obtain⟨r1,r2,r3,r4⟩:=FX (o:=0) (cs:=[.slice a0 m c0',K]) (Aa HC3) (Aa HR3) (by decide) hb9 hgrow hown hat (by simp);have hgx:=C9 (Aa HC3) (Aa HR3) (by decide) hb9 hgrow;have y0:wz.cell? ⟨b,0,none⟩=some (.slice a0 m c0'):=cell_of hgx 0 _ rfl;have yz:wz.frozen? ⟨b,0,none⟩=false:=Cs hgx 0;have lz:=lt_of_block hgx;have R1:=Ab r1;have R2:=Ab r2;have R3:=Ab r3;have R4:=Ab r4;clear r1 r2 r3 r4 hown hgrow hat hb9 hgx;go_wp2;go_returns;exact⟨rfl,_,w3,_,Aa HN,Aa R3,Aa R2,Aa R1,Aa R4⟩
theorem E7{w0:World}{z:Nat->Option Obj}{b N:Nat}{Ts:List Tw}{L:List V.Kp}{lv K:Value}{w:World}(h:Hn w0 z b N Ts L lv K w)(c:R.Cf)(hn:Ts.length<=1000000000000):
  Calls Tryz.prog 52 #[ptr b,OC c] w fun e w'=>e=.returned (.bool true)/\∃Ts' lv',Hn w0 z b N Ts' L lv' K w'/\Ts'.length<=Ts.length+1/\(R.Cj c->∃t,Ts'=Ts++[t]/\t.G=newG c):=by
 by_cases hc:R.Cj c
 ·refine(LD w b c lv K Ts hc h.bo.cell h.row hn).mono ?_;rintro e w' ⟨rfl,t,w3,lv',hN,hk,hcell,hr,hlv⟩;have h3:=h.below hN.Ix;have ht:Ci N t w3:=⟨hN.at'.l,hN.at'.r,hN.at'.ap,fun c hc=>Nat.le_trans (hN.at'.bd c hc) (Nat.zero_le _)⟩;refine⟨rfl,Ts++[t],lv',h3.push hk hcell hr hlv ht (fun k hk=>?_),by simp,fun _=>⟨t,rfl,hN.G⟩⟩;have h1:=hN.fresh k hk;exact⟨⟨Nat.le_trans h.Ix.size h1,h.free k h1⟩,fun q=>by have:=h.lt k q;omega⟩
 ·refine(G0 w b c hc).mono ?_;rintro e w' ⟨rfl,hb⟩;exact⟨rfl,Ts,lv,h.below hb,by omega,fun q=>absurd q hc⟩
end Go.Proofs.YtblomippkddgiaaGreatDoor
