import Derived.Test.YtblomippkddgiaaGreatDoorJ19
import Derived.Handy
set_option maxRecDepth 100000
set_option maxHeartbeats 2000000
namespace Go.Proofs.YtblomippkddgiaaGreatDoor
open Go.RowKit
theorem CV{ops:Array Oper}{o:Oper}{a:Act}{w:World}{K:Act->World->Prop}{Q:Exit->Act->World->Prop}{E:Prop}
  (hgd:o.guard=none) (f:Nat) (xs:Array Operand) (ts:Array TypeId) (ho:o.op=.call {callee:=.value (.func f),args:=xs,argTypes:=ts}) (hcf:∀args w,(callFunc f args).run Tryz.prog w=.ok (.enter f args) w)
  (vs:Array Value) (hv0:xs.toList.map a.eval=vs.toList) (R:Ending->World->Prop) (hC:Calls Tryz.prog f vs w R) (hR:∀e w',R e w'->∃v,e=.returned v/\K (a.put o.dst v) w'):
  if Region.wanted o (yielded ops a.tmps)=true then Oper.wp Tryz.prog o a w K Q else E:=by
 have hw:Region.wanted o (yielded ops a.tmps)=true:=by simp[Region.wanted,hgd]
 rw[if_pos hw];have hv:xs.map a.eval=vs:=by
  apply Array.ext';simpa using hv0
 clear hv0;subst hv;unfold Oper.wp;simp only[execOp,ho,resolve,invoke,Sem.run_bind];generalize Array.map a.eval xs=vs at hC ⊢;have hC2:Calls Tryz.prog f vs w (fun e w'=>∃v,e=.returned v/\K (a.put o.dst v) w'):=hC.mono hR;clear hC hR;simp[Deferred.ofValue,Act.eval,hcf,go_sem];refine hC2.mono ?_;rintro e w' ⟨v,rfl,hk⟩;exact hk
theorem Z2:∀args w,(callFunc 212 args).run Tryz.prog w=.ok (.enter 212 args) w:=fun _ _=>rfl
theorem Ez{a b:World}(h:Below a.drew.heap.size a.drew b):Below a.heap.size a b:=⟨h.os,h.tape,h.output,h.size,h.block⟩
theorem N7:(Tryz.prog.info? 122).map (fun i=>(i.zero,i.size,i.bytes))=some (some (.agg #[.int .i64 0,.string ⟨#[]⟩,.bool false]),3,32):=by kernel_rfl
structure De(w:World)(n:Nat)(K:Value)(fl:List R.Fl)(w':World):Prop where
 cell:∃K',w'.heap[n]?=some (.cells #[K'] 113 (0,0))/\w'.ownsRow 0 122 3 K' fl.length (tab A8 fl)/\(K'.ownBlock=K.ownBlock\/∃j,K'.ownBlock=some j/\w.heap.size<=j)
 keeps:Ae (fun k=>k=n\/K.ownBlock=some k) w w'
theorem GA(w:World)(n:Nat)(a:Option Addr)(m c:Nat)(h:w.heap[n]?=some (.cells #[.slice a m c] 113 (0,0))):
  Calls Tryz.prog 251 #[ptr n] w fun e w'=>e=.returned (.bool (decide (m=40)))/\w'=w:=by
 have c0:w.cell? ⟨n,0,none⟩=some (.slice a m c):=by simp[World.cell?,h]
 go_enter Tryz.func251,Tryz.ntmps251;go_wp2
 go_ret
 exact⟨by rw[show (decide (m=40))=((m:Int)==40) by rw[Bool.eq_iff_iff];simp;omega];rfl,rfl⟩
theorem R7(w:World)(n:Nat)(a:Option Addr)(c:Nat)(host:Int)(p:Pk)(h:w.heap[n]?=some (.cells #[.slice a 40 c] 113 (0,0))):
  Calls Tryz.prog 230 #[ptr n,.int .i64 host,pv p] w fun e w'=>e=.returned (.tuple #[])/\Below w.heap.size w w':=by
 obtain⟨k,cl,li,ln,sq,u,pa,o,pl,body⟩:=p;have HF:=Ab (fun w h=>GA w n a 40 c h);have hl:=lt_of_block h;have HB:=Ab ((Below.refl w.heap.size w).alloc (Nat.le_refl _) (.cells #[.int .i64 k,.int .i64 cl,.int .i64 li,.int .i64 ln,.int .i64 sq,.int .i64 u,.int .i64 pa,.int .i64 o,.bool pl,.string (str body)] 41));have HH:=Ab (((Aa HB).block n hl).trans h);clear h;go_enter Tryz.func230,Tryz.ntmps230;go_wp2_with fail
 refine((Aa HF) _ (Aa HH)).mono ?_;rintro e w1 ⟨rfl,rfl⟩;go_wp2;go_returns;exact⟨rfl,Aa HB⟩
theorem M9(p:Pk)(hr:Bq p)(w:World):Calls Tryz.prog 212 #[pv p] w fun e w'=>e=.returned (.string (str (DG p)))/\Below w.heap.size w w':=by
 refine(Hy p w).mono ?_;rintro e w' ⟨hb,⟨_,rfl⟩|⟨hn,_⟩⟩
 ·exact⟨rfl,hb⟩
 ·exact absurd hr hn
theorem Oj(w:World)(host:Int)(S:ByteArray)(j:Nat)(u:Value)(h:([.int .i64 host,.string S,.bool false]:List Value)[j]?=some u):(w.alloc (.cells #[.int .i64 host,.string S,.bool false] 122)).cell? ((⟨w.heap.size,0,none⟩:Addr).add j)=some u:=by
 rw[Addr.add_lit,Nat.zero_add,World.cell?_alloc_new w _ _ j,<-List.getElem?_toArray]at *;exact h
theorem Dv{w w':World}{B n size:Nat}{e:TypeId}{v:Value}{xs:List Value}(h:w.ownsRow B e size v n xs)(hk:∀g,v.ownBlock=some g->w'.heap[g]?=w.heap[g]?):w'.ownsRow B e size v n xs:=by
 obtain⟨hl,h⟩:=h;refine⟨hl,?_⟩;rcases h with h|⟨g,cap,cur,rfl,hb,hg,r⟩
 ·exact Or.inl h
 ·exact Or.inr ⟨g,cap,cur,rfl,hb,by rw[hk g rfl];exact hg,r⟩
theorem Uy{w BX w1 wz:World}{n m va0 vn vc c:Nat}{a va:Option Addr}{TF:List Value}{host:Int}{SB:ByteArray}(hl:n<w.heap.size)(h:w.heap[n]?=some (.cells #[.slice a m c] 113 (0,0)))(hOn:(Value.slice a m c).ownBlock≠some n)(hb0:Below w.heap.size w BX)(hb1:Below BX.heap.size BX w1)(hlw:n<w1.heap.size)
  (hown:wz.ownsRow 0 122 3 (.slice va vn vc) (m+1) (TF++[.int .i64 host,.string SB,.bool false])) (hg:(w1.alloc (.cells #[.int .i64 host,.string SB,.bool false] 122)).grownBy wz (Value.slice a m c).ownBlock) (hgn:wz.heap[n]?=w1.heap[n]?)
  (hat:(Value.slice va vn vc).ownBlock=(Value.slice a m c).ownBlock\/(Value.slice va vn vc).ownBlock=some va0) (hva:w1.heap.size+1=va0):
  (wz.setCell ⟨n,0,none⟩ (.slice va vn vc)).ownsRow 0 122 3 (.slice va vn vc) (m+1) (TF++[.int .i64 host,.string SB,.bool false])/\(wz.setCell ⟨n,0,none⟩ (.slice va vn vc)).heap[n]?=some (.cells #[.slice va vn vc] 113 (0,0)) /\
  ((Value.slice va vn vc).ownBlock=(Value.slice a m c).ownBlock\/∃j,(Value.slice va vn vc).ownBlock=some j/\w.heap.size<=j)/\Ae (fun k=>k=n\/(Value.slice a m c).ownBlock=some k) w (wz.setCell ⟨n,0,none⟩ (.slice va vn vc)):=by
 have s0:=hb0.size;have s1:=hb1.size;have hne:(Value.slice va vn vc).ownBlock≠some n:=by
  rcases hat with e|e
  ·rw[e];exact hOn
  ·rw[e];intro q;cases q;omega
 have hK:=Ae.Aq (F:=fun k=>k=n\/(Value.slice a m c).ownBlock=some k) (hb0.trans (hb1.mono s0));have hK2:=(hK.alloc (.cells #[.int .i64 host,.string SB,.bool false] 122)).grown hg (fun k hk=>Or.inl (Or.inr hk));refine⟨Dv hown (fun g hg=>?_),?_,?_,hK2.setCell (p:=⟨n,0,none⟩) (Or.inl (Or.inl rfl)) _⟩
 ·exact Below.heap_setCell _ _ _ _ (fun e=>hne (by rw[hg];exact congrArg some e))
 ·have:=Ap (cs:=[.slice a m c]) (off:=0) (hgn.trans ((hb1.block n (by omega)).trans ((hb0.block n hl).trans h))) (.slice va vn vc);exact this
 ·rcases hat with e|e
  ·exact Or.inl e
  ·exact Or.inr ⟨_,e,by omega⟩
theorem R8(w:World)(n:Nat)(a:Option Addr)(c:Nat)(fl:List R.Fl)(host:Int)(p:Pk)(h:w.heap[n]?=some (.cells #[.slice a fl.length c] 113 (0,0)))(hrow:w.ownsRow 0 122 3 (.slice a fl.length c) fl.length (tab A8 fl))(hfl:fl.length<40)(hr:Bq p):
  Calls Tryz.prog 230 #[ptr n,.int .i64 host,pv p] w fun e w'=>e=.returned (.tuple #[])/\De w n (.slice a fl.length c) (fl++[⟨host,DG p,false⟩]) w':=by
 have HWR:=Ab (M9 p hr);obtain⟨SB,hSB⟩:∃SB,SB=str (DG p):=⟨_,rfl⟩;rw[<-hSB]at HWR;have hnew:A8 ⟨host,DG p,false⟩=[.int .i64 host,.string SB,.bool false]:=by rw[hSB];rfl
 obtain⟨m,hm⟩:∃m,m=fl.length:=⟨_,rfl⟩;rw[<-hm]at h hrow hfl ⊢;have HFN:Hid (∀w,w.heap[n]?=some (.cells #[.slice a m c] 113 (0,0))->Calls Tryz.prog 251 #[ptr n] w fun e w'=>e=.returned (.bool false)/\w'=w):=fun w h=>by
  have:=GA w n a m c h;rw[show decide (m=40)=false by simp;omega]at this;exact this
 have HEND:Hid (∀w' K',w'.ownsRow 0 122 3 K' (m+1) (tab A8 fl++[.int .i64 host,.string SB,.bool false])->w'.heap[n]?=some (.cells #[K'] 113 (0,0))->(K'.ownBlock=(Value.slice a m c).ownBlock\/∃j,K'.ownBlock=some j/\w.heap.size<=j)->Ae (fun k=>k=n\/(Value.slice a m c).ownBlock=some k) w w'->De w n (.slice a m c) (fl++[⟨host,DG p,false⟩]) w'):=fun w' K' h1 h2 h3 h4=>by
  refine⟨⟨K',h2,?_,h3⟩,h4⟩;rw[D9,hnew,List.length_append,<-hm];exact h1
 clear hnew hSB;obtain⟨TF,hTF⟩:∃TF,TF=tab A8 fl:=⟨_,rfl⟩;rw[<-hTF]at hrow HEND;clear hTF hm;generalize De w n (.slice a m c) (fl++[⟨host,DG p,false⟩])=Post at *;clear hr;obtain⟨k,cl,li,ln,sq,u,pa,o,pl,body⟩:=p;show Calls Tryz.prog 230 #[ptr n,.int .i64 host,My k cl li ln sq u pa o pl (str body)] w _;have HWR:Hid (∀w,Calls Tryz.prog 212 #[My k cl li ln sq u pa o pl (str body)] w fun e w'=>e=.returned (.string SB)/\Below w.heap.size w w'):=HWR;have hl:=lt_of_block h;have hown:=World.ownsRow.lt hrow;have hOn:(Value.slice a m c).ownBlock≠some n:=fun e=>by
  rcases hrow.2 with ⟨hv,_⟩|⟨g,cap,cur,hv,_,hg,_⟩
  ·rw[hv]at e;cases e
  ·rw[hv]at e;cases e;exact AO hg h (by decide) rfl
 obtain⟨BX,hBX⟩:∃BX,w.alloc (.cells #[.int .i64 k,.int .i64 cl,.int .i64 li,.int .i64 ln,.int .i64 sq,.int .i64 u,.int .i64 pa,.int .i64 o,.bool pl,.string (str body)] 41)=BX:=⟨_,rfl⟩;have HB:Hid (Below w.heap.size w BX):=by
  rw[<-hBX];exact(Below.refl w.heap.size w).alloc (Nat.le_refl _) _
 have hbs:BX.heap.size=w.heap.size+1:=by rw[<-hBX];simp
 have hbx:BX.heap[w.heap.size]?=some (.cells #[.int .i64 k,.int .i64 cl,.int .i64 li,.int .i64 ln,.int .i64 sq,.int .i64 u,.int .i64 pa,.int .i64 o,.bool pl,.string (str body)] 41 (0,0)):=by
  rw[<-hBX];exact heap_alloc_new w _
 have H0:=Ab h;have HH:=Ab (((Aa HB).block n hl).trans h);have HRW:=Ab (Be hrow (Aa HB));have cn:BX.cell? ⟨n,0,none⟩=some (.slice a m c):=cell_of (Aa HH) 0 _ rfl;have zn:BX.frozen? ⟨n,0,none⟩=false:=open_list (Aa HH);generalize str body=SY at *;have c0:BX.cell? ⟨w.heap.size,0,none⟩=some (.int .i64 k):=cell_of hbx 0 _ rfl;have c1:BX.cell? ⟨w.heap.size,1,none⟩=some (.int .i64 cl):=cell_of hbx 1 _ rfl;have c2:BX.cell? ⟨w.heap.size,2,none⟩=some (.int .i64 li):=cell_of hbx 2 _ rfl;have c3:BX.cell? ⟨w.heap.size,3,none⟩=some (.int .i64 ln):=cell_of hbx 3 _ rfl;have c4:BX.cell? ⟨w.heap.size,4,none⟩=some (.int .i64 sq):=cell_of hbx 4 _ rfl;have c5:BX.cell? ⟨w.heap.size,5,none⟩=some (.int .i64 u):=cell_of hbx 5 _ rfl;have c6:BX.cell? ⟨w.heap.size,6,none⟩=some (.int .i64 pa):=cell_of hbx 6 _ rfl;have c7:BX.cell? ⟨w.heap.size,7,none⟩=some (.int .i64 o):=cell_of hbx 7 _ rfl;have c8:BX.cell? ⟨w.heap.size,8,none⟩=some (.bool pl):=cell_of hbx 8 _ rfl;have c9:BX.cell? ⟨w.heap.size,9,none⟩=some (.string SY):=cell_of hbx 9 _ rfl;have HBX:=Ab hBX;have HK9:=Ab hbx;have HOW:=Ab hown;have HGR:Hid (∀(w1 wz:World) (hlx:w.heap.size<w1.heap.size),(w1.alloc (.cells #[.int .i64 host,.string SB,.bool false] 122)).grownBy wz (Value.slice a m c).ownBlock->wz.heap[n]?=w1.heap[n]?/\wz.heap[w.heap.size]?=w1.heap[w.heap.size]?):=by
  intro w1 wz hlx hg;have q1:((w1.alloc (.cells #[.int .i64 host,.string SB,.bool false] 122)).heap.size)=w1.heap.size+1:=by simp
  refine⟨(hg.block n (by omega) (fun e=>hOn e.symm)).trans (Below.heap_alloc _ _ _ (by omega)),(hg.block w.heap.size (by omega) (fun e=>?_)).trans (Below.heap_alloc _ _ _ hlx)⟩;have:=(hown _ e.symm).2;omega
 have HON:=Ab hOn;have hlb:n<BX.heap.size:=by omega
 have hxb:w.heap.size<BX.heap.size:=by omega
 obtain⟨i0,hi,hz0,hz1,hz2⟩:=info_parts N7;clear h hrow hbx hBX hown hOn;go_enter Tryz.func230,Tryz.ntmps230;go_wp2_with fail
 rw[Aa HBX];refine((Aa HFN) _ (Aa HH)).mono ?_;rintro e w0 ⟨rfl,hw0⟩;rw[hw0];clear hw0;go_wp2;go_region_law (first
  |(refine CV rfl 212 #[.tmp 14] #[41] rfl Z2 #[My k cl li ln sq u pa o pl SY] rfl _ ((Aa HWR) _) ?_;rintro e w1 ⟨rfl,hb1⟩;have hs1:=hb1.size;have hlw:n<w1.heap.size:=Nat.lt_of_lt_of_le hlb hs1;have HB1:=Ab (Ez hb1);have hz3:w1.frozen? ⟨n,0,none⟩=false:=(hb1.frozen (p:=⟨n,0,none⟩) hlb).trans zn;have hc1:w1.cell? ⟨n,0,none⟩=some (.slice a m c):=(hb1.cell (p:=⟨n,0,none⟩) hlb).trans cn;have hlx:w.heap.size<w1.heap.size:=Nat.lt_of_lt_of_le hxb hs1;clear hb1;refine⟨_,rfl,?_⟩)
  |(refine Bb rfl (.tmp 12) (.tmp 17) 111 rfl 0 122 i0 (.agg #[.int .i64 0,.string ⟨#[]⟩,.bool false]) 3 32 Tryz.underlying111 hi hz0 hz1 hz2 rfl (by decide) (.slice a m c) m TF rfl (by exact(Be (Aa HRW) (Aa HB1)).alloc _) ⟨w1.heap.size,0,none⟩ 1 1 [.int .i64 host,.string SB,.bool false] rfl rfl (by exact Oj w1 host SB) (by simp[Value.oneCell']) (by unfold maxLen;omega) (by omega) (by omega) ?_;intro v' wz hownz hgrow hat;obtain⟨va,vn,vc,hvs⟩:=Am hownz;subst hvs;have hgg:=(Aa HGR) _ _ hlx hgrow;obtain⟨hgn,hgx⟩:=hgg;have gz:wz.frozen? ⟨n,0,none⟩=false:=(World.frozen?_of_block hgn).trans hz3;have gn:wz.cell? ⟨n,0,none⟩=some (.slice a m c):=(World.cell?_of_block hgn).trans hc1;have HOZ:=Ab hownz;have HGZ:=Ab hgrow;have HAT:=Ab hat;have HGN:=Ab hgn;clear hownz hgrow hat hgn hgx))
 all_goals
  have hdn:=Uy hl (Aa H0) (Aa HON) (Aa HB) (Aa HB1) hlw (Aa HOZ) (Aa HGZ) (Aa HGN) (Aa HAT) (by simp);obtain⟨d1,d2,d3,d4⟩:=hdn;have HD:=Ab ((Aa HEND) _ _ d1 d2 d3 d4);clear d1 d2 d3 d4;go_wp2;go_returns;exact⟨rfl,Aa HD⟩
theorem Fh{w:World}{K:Value}{e:TypeId}{size n B:Nat}{xs:List Value}(h:w.ownsRow B e size K n xs){b:Nat}{ys:Array Value}{t:TypeId}{f:Nat×Nat}(hb:w.heap[b]?=some (.cells ys t f))(hne:e≠t):K.ownBlock≠some b:=fun q=>by
 rcases h.2 with ⟨rfl,_⟩|⟨g,cap,cur,rfl,_,hg,_⟩
 ·cases q
 ·cases q;exact AO hg hb hne rfl
theorem EK{w:World}{K:Value}{e:TypeId}{size n B:Nat}{xs:List Value}(h:w.ownsRow B e size K n xs){b:Nat}{es:Array MapEntry}{cl:Nat}(hb:w.heap[b]?=some (.map es cl)):K.ownBlock≠some b:=fun q=>by
 rcases h.2 with ⟨rfl,_⟩|⟨g,cap,cur,rfl,_,hg,_⟩
 ·cases q
 ·cases q;exact FG hg hb rfl
theorem LW.net{p:Pl}{F:Ag}{G:R.Wd}{w w':World}(h:LW p F G w){K:Value}{fl:List R.Fl}(hK:w.heap[p.n]?=some (.cells #[K] 113 (0,0)))(hr:w.ownsRow 0 122 3 K G.Af.length (tab A8 G.Af))(hn:De w p.n K fl w')(hf:∀j,K.ownBlock=some j->F j)(hwf:R.Wf {G with Af:=fl}):
  ∃F',LW p F' {G with Af:=fl} w'/\Ah F F' w w':=by
 obtain⟨hx,hnn,hcs,hnm⟩:=h.A4;obtain⟨⟨K',k1,k2,k3⟩,hk⟩:=hn;have sz:=hk.size;have at':∀{b:Nat} {ys:Array Value} {t:TypeId} {f:Nat×Nat},w.heap[b]?=some (.cells ys t f)->t≠113->t≠122->w'.heap[b]?=some (.cells ys t f):=fun hb h1 h2=>hk.at hb (by
  rintro (e|e)
  ·exact AO hb hK h1 e
  ·exact Fh hr hb (fun q=>h2 q.symm) e)
 have map':∀{α:Type} {k:TypeId} {b:Nat} {lit:α->Lit} {g:α->Option Int} {n:Nat},Mp w k b lit g n->Mp w' k b lit g n:=fun hm=>by
  obtain⟨es,q,hq⟩:=hm.block;refine hm.keep hk ?_;rintro (e|e)
  ·exact(FG hK hq) e.symm
  ·exact EK hr hq e
 have hav:Avoid w F (fun k=>k=p.n\/K.ownBlock=some k):=Avoid.tags (fun b hb=>by
  rcases hb with rfl|hb
  ·exact Or.inl ⟨_,_,_,hK,by decide⟩
  ·rcases hr.2 with ⟨rfl,_⟩|⟨g,cap,cur,rfl,_,hg,_⟩
   ·cases hb
   ·cases hb;exact Or.inl ⟨_,_,_,hg,by decide⟩)
 refine⟨fun k=>F k\/K'.ownBlock=some k,⟨hwf,h.CF,at' h.bx (by decide) (by decide),?_,⟨K',k1,k2,fun j hj=>Or.inr hj⟩,?_,map' h.names,fun i c hc=>at' (h.cl i c hc) (by decide) (by decide),fun i c hc=>?_,fun i c hc=>map' (h.bound i c hc),⟨Or.inl hx,Or.inl hnn,Or.inl hcs,Or.inl hnm⟩,fun i hi=>?_,h.inj,fun k hk'=>?_⟩,?_⟩
 ·obtain⟨cur,h1,h2⟩:=h.VY;exact⟨cur,at' h1 (by decide) (by decide),h2⟩
 ·exact h.Eb.keep hk hav (fun _ q=>Or.inl q)
 ·obtain⟨xs,h1,h2,h3⟩:=h.ln i c hc;exact⟨xs,at' h1 (by decide) (by decide),h2,h3.Ed hk hav.sv (fun _ q=>Or.inl q)⟩
 ·obtain⟨a1,a2,a3,a4⟩:=h.Bw i hi;exact⟨Or.inl a1,Or.inl a2,Or.inl a3,a4⟩
 ·rcases hk' with q|q
  ·exact Nat.lt_of_lt_of_le (h.lt k q) sz
  ·exact(World.ownsRow.lt k2 k q).2
 ·refine⟨hk.mono (fun k _ q=>?_),fun k q=>?_⟩
  ·rcases q with rfl|q
   ·exact hnn
   ·exact hf k q
  ·rcases q with q|q
   ·exact Or.inl q
   ·rcases k3 with e|⟨j,e,hj⟩
    ·exact Or.inl (hf k (e ▸ q))
    ·rw[e]at q;cases q;exact Or.inr hj
theorem Bu{w:World}{B n size:Nat}{e:TypeId}{K:Value}{xs:List Value}(h:w.ownsRow B e size K n xs):∃a c,K=.slice a n c:=by
 rcases h.2 with ⟨rfl,rfl⟩|⟨g,cap,cur,rfl,_⟩
 ·exact⟨none,0,rfl⟩
 ·exact⟨_,_,rfl⟩
theorem LW.send{p:Pl}{F:Ag}{G:R.Wd}{w:World}(h:LW p F G w)(to:Int)(pk:Pk)(hr:Bq pk):
  Calls Tryz.prog 230 #[ptr p.n,.int .i64 to,pv pk] w fun e w'=>e=.returned (.tuple #[])/\∃F',LW p F' (R.BM G to pk) w'/\Ah F F' w w':=by
 obtain⟨K,hK,hrow,hf⟩:=h.bn;have hfl:=h.wf.EC;have hwf:=h.wf.BM (to:=to) hr;obtain⟨a,c,rfl⟩:=Bu hrow;unfold R.BM at hwf ⊢;by_cases hl:G.Af.length<40
 ·rw[if_pos hl]at hwf ⊢;refine(R8 w p.n a c G.Af to pk hK hrow hl hr).mono ?_;rintro e w' ⟨rfl,hn⟩;exact⟨rfl,h.net hK hrow hn hf hwf⟩
 ·rw[if_neg hl];have e40:G.Af.length=40:=by omega
  rw[e40]at hK;refine(R7 w p.n a c to pk hK).mono ?_;rintro e w' ⟨rfl,hb⟩;exact⟨rfl,F,h.below hb,Ah.Aq F hb⟩
theorem LW.Af{p:Pl}{F:Ag}{G:R.Wd}{w:World}(h:LW p F G w):Calls Tryz.prog 17 #[ptr p.x] w fun e w'=>e=.returned (.int .i64 (G.Af.length:Int))/\w'=w:=by
 obtain⟨K,hK,hrow,_⟩:=h.bn;obtain⟨a,c,rfl⟩:=Bu hrow;have hx:=h.bx;have c0:w.cell? ⟨p.x,0,none⟩=some (ptr p.n):=cell_of hx 0 _ rfl;have c1:w.cell? ⟨p.n,0,none⟩=some (.slice a G.Af.length c):=cell_of hK 0 _ rfl;clear hx hK hrow h;generalize G.Af.length=m at *;go_enter Tryz.func17,Tryz.ntmps17;go_wp2_with (first|(go_at_call 40;go_in))
 go_returns;exact⟨rfl,rfl⟩
theorem Xo(w:World)(x n s cs cn cap:Nat)(g:Nat)(m c:Nat)(i:Nat)(v0:Int)(v1:ByteArray)(hx:w.heap[x]?=some (.cells #[ptr n,ptr s,.slice (some ⟨cs,0,none⟩) cn cap] 84 (0,0)))(hK:w.heap[n]?=some (.cells #[.slice (some ⟨g,0,none⟩) m c] 113 (0,0)))(hi:i<m)(h0:w.cell? ⟨g,i*3,none⟩=some (.int .i64 v0))(h1:w.cell? ⟨g,i*3+1,none⟩=some (.string v1)):
  Calls Tryz.prog 13 #[ptr x,.int .i64 (i:Int)] w fun e w'=>e=.returned (.tuple #[.int .i64 v0,.string v1,.int .i64 0])/\Below w.heap.size w w':=by
 have c0:w.cell? ⟨x,0,none⟩=some (ptr n):=cell_of hx 0 _ rfl;have c1:w.cell? ⟨n,0,none⟩=some (.slice (some ⟨g,0,none⟩) m c):=cell_of hK 0 _ rfl;clear hx hK;have q0:(0:Int)<=(i:Int):=by omega
 have q1:((i:Int)<(m:Int)):=by omega
 go_enter Tryz.func13,Tryz.ntmps13;go_wp2_with (first|(go_at_call 32;go_in)|(go_at_call 65;go_in))
 go_region_held3 (fun w'=>w'.cell? ⟨n,0,none⟩=some (.slice (some ⟨g,0,none⟩) m c)/\w'.cell? ⟨g,i*3,none⟩=some (.int .i64 v0)/\w'.cell? ⟨g,i*3+1,none⟩=some (.string v1)) (go_keep) (fail)
 go_wp2;go_returns;exact⟨rfl,(Below.refl _ _).drew⟩
theorem LW.YI{p:Pl}{F:Ag}{G:R.Wd}{w:World}(h:LW p F G w){i:Nat}{f:R.Fl}(hf:G.Af[i]?=some f):Calls Tryz.prog 13 #[ptr p.x,.int .i64 (i:Int)] w fun e w'=>e=.returned (.tuple #[.int .i64 f.to,.string (str f.s),.int .i64 0])/\Below w.heap.size w w':=by
 obtain⟨K,hK,hrow,_⟩:=h.bn;have hi:=(List.getElem?_eq_some_iff.1 hf).1;rcases hrow.2 with ⟨_,h0⟩|⟨g,cap,cur,rfl,_,hg,_,_,hcs,htk⟩
 ·omega
 ·have q:∀j,j<3->cur[i*3+j]?=(A8 f)[j]?:=fun j hj=>by
   rw[<-CW Cq G.Af i j f hf hj,<-htk,List.getElem?_take,if_pos (by omega)];simp
  refine Xo w p.x p.n p.s p.cs G.Ad.length p.cap g G.Af.length cap i f.to (str f.s) h.bx hK hi ?_ ?_
  ·have:=q 0 (by omega);simp[World.cell?,hg];simpa [A8] using this
  ·have:=q 1 (by omega);simp[World.cell?,hg];simpa [A8] using this
theorem Mv(s:List UInt8):R.Ak s=((s.length:Int)+7) / 8:=by
 unfold R.Ak;omega
theorem Gp(s:List UInt8)(w:World)(hs:s.length<=1000):Calls Tryz.prog 187 #[.string (str s)] w fun e w'=>e=.returned (.int .i64 (R.Ak s))/\w'=w:=by
 have hz:(str s).size=s.length:=Au s;rw[Mv];generalize str s=S at *;generalize s.length=n at *;have e1:IntKind.i64.wrap ((n:Int)+8)=(n:Int)+8:=by rw[IntKind.wrap_i64];omega
 have e2:IntKind.i64.wrap ((n:Int)+8-1)=(n:Int)+7:=by rw[IntKind.wrap_i64];omega
 have e3:IntKind.i64.wrap (((n:Int)+7).tdiv 8)=((n:Int)+7) / 8:=by
  rw[Int.tdiv_eq_ediv_of_nonneg (by omega),IntKind.wrap_i64];omega
 go_enter Tryz.func187,Tryz.ntmps187;go_wp2;go_returns;exact⟨rfl,rfl⟩
theorem Ke(s:List UInt8)(k:Nat)(w:World)(hs:s.length<=1000)(hk:8*k<s.length):Calls Tryz.prog 189 #[.string (str s),.int .i64 (k:Int)] w fun e w'=>e=.returned (.string (str (R.Bs s (k:Int))))/\w'=w:=by
 have hz:(str s).size=s.length:=Au s;have HP:Hid ((str s).extract (k*8) (min (k*8+8) s.length)=str (R.Bs s (k:Int))):=by
  show _=_;rw[MX];congr 1;unfold R.Bs;rw[Int.toNat_natCast,Nat.mul_comm 8 k];apply List.ext_getElem?;intro i;simp only[List.getElem?_take,List.getElem?_drop];by_cases h1:i<8
  ·rw[if_pos h1];by_cases h2:i<min (k*8+8) s.length-k*8
   ·rw[if_pos h2]
   ·rw[if_neg h2,List.getElem?_eq_none];omega
  ·rw[if_neg h1,if_neg];omega
 generalize str (R.Bs s (k:Int))=T at *;generalize str s=S at *;generalize s.length=n at *;have e1:IntKind.i64.wrap ((k:Int)*8)=((k*8:Nat):Int):=by rw[IntKind.wrap_i64];omega
 have e2:IntKind.i64.wrap (((k*8:Nat):Int)+8)=((k*8+8:Nat):Int):=by rw[IntKind.wrap_i64];omega
 go_enter Tryz.func189,Tryz.ntmps189;go_wp2
 ·go_returns;refine⟨?_,rfl⟩;have:=Aa HP;rw[Nat.min_eq_right (by omega)]at this;rw[<-this];rfl
 ·go_returns;refine⟨?_,rfl⟩;have:=Aa HP;rw[Nat.min_eq_left (by omega)]at this;rw[<-this];show Ending.returned (Value.string (S.extract (k*8) ((k:Int)*8+8).toNat))=_;rw[show ((k:Int)*8+8).toNat=k*8+8 by omega]
end Go.Proofs.YtblomippkddgiaaGreatDoor
