import Derived.Test.YtblomippkddgiaaGreatDoorJ37
set_option maxRecDepth 100000
set_option maxHeartbeats 1000000
namespace Go.Proofs.YtblomippkddgiaaGreatDoor
open Go.RowKit
theorem RY(w:World)(x:Nat)(a:Option Addr)(m cc:Nat)(i:Int)(x8:w.cell? ⟨x,8,none⟩=some (.slice a m cc))(h:i<0\/(m:Int)<=i):Calls Tryz.prog 174 #[Av x,.int .i64 i] w fun e w'=>e=.returned (.tuple #[.int .i64 0,.string ⟨#[]⟩,.int .i64 9])/\w'=w:=by
 have hl:=lt_of_cell x8;by_cases h0:i<0
 ·go_enter Tryz.func174,Tryz.ntmps174;go_wp2;go_returns;exact⟨rfl,rfl⟩
 ·have h1:(m:Int)<=i:=by omega
  go_enter Tryz.func174,Tryz.ntmps174;go_wp2;go_returns;exact⟨rfl,rfl⟩
theorem Va(w:World)(x g m cap:Nat)(i:Nat)(v0:Int)(v1:ByteArray)(x8:w.cell? ⟨x,8,none⟩=some (.slice (some ⟨g,0,none⟩) m cap))(hi:i<m)(h0:w.cell? ⟨g,i*3,none⟩=some (.int .i64 v0))(h1:w.cell? ⟨g,i*3+1,none⟩=some (.string v1)):Calls Tryz.prog 174 #[Av x,.int .i64 (i:Int)] w fun e w'=>e=.returned (.tuple #[.int .i64 v0,.string v1,.int .i64 0])/\Below w.heap.size w w':=by
 have q0:¬(i:Int)<0:=by omega
 have q1:¬(m:Int)<=(i:Int):=by omega
 have q2:(0:Int)<=(i:Int):=by omega
 have q3:(i:Int)<(m:Int):=by omega
 go_enter Tryz.func174,Tryz.ntmps174;go_wp2;go_region_held3 (fun w'=>w'.cell? ⟨x,8,none⟩=some (.slice (some ⟨g,0,none⟩) m cap)/\w'.cell? ⟨g,i*3,none⟩=some (.int .i64 v0)/\w'.cell? ⟨g,i*3+1,none⟩=some (.string v1)) (go_keep) (fail)
 go_wp2;go_returns;exact⟨rfl,(Below.refl _ _).drew⟩
theorem RW.LH{x:Nat}{v:RV}{F:Ag}{G:R.Wd}{w:World}(h:RW x v F G w):∃a cc,v.Fl=.slice a G.Af.length cc/\w.cell? ⟨x,8,none⟩=some (.slice a G.Af.length cc):=by
 obtain⟨a,cc,hK⟩:=AR h.EC;exact⟨a,cc,hK,cell_of h.bx 8 _ (by rw[<-hK];rfl)⟩
theorem RW.show{x:Nat}{v:RV}{F:Ag}{G:R.Wd}{w:World}(h:RW x v F G w)(i:Int):Calls Tryz.prog 174 #[Av x,.int .i64 i] w fun e w'=>e=.returned (.tuple #[.int .i64 (R.EL G i).1,.string (str (R.EL G i).2.1),.int .i64 (R.EL G i).2.2])/\Below w.heap.size w w':=by
 obtain⟨a,cc,hK,x8⟩:=h.LH;unfold R.EL;by_cases ho:R.off G i
 ·rw[if_pos ho];refine(RY w x a G.Af.length cc i x8 ho).mono ?_;rintro e w' ⟨rfl,rfl⟩;exact⟨rfl,Below.refl _ _⟩
 ·rw[if_neg ho];unfold R.off at ho;obtain⟨k,rfl⟩:∃k:Nat,i=(k:Int):=⟨i.toNat,by omega⟩;have hk:k<G.Af.length:=by omega
  obtain⟨f,hf⟩:∃f,G.Af[k]?=some f:=⟨_,List.getElem?_eq_getElem hk⟩;simp only[Int.toNat_natCast,hf];obtain⟨g,cap,hv,_,hc,_⟩:=DU Bg (by omega) h.EC hf;rw[hK]at hv;cases hv;exact Va w x g _ cc k f.to (str f.s) x8 hk (hc 0 _ (by omega) rfl) (hc 1 _ (by omega) rfl)
theorem RE(w:World)(x:Nat)(a:Option Addr)(m cc:Nat)(i:Int)(x8:w.cell? ⟨x,8,none⟩=some (.slice a m cc))(h:i<0\/(m:Int)<=i):Calls Tryz.prog 177 #[Av x,.int .i64 i] w fun e w'=>e=.returned (.int .i64 9)/\w'=w:=by
 have hl:=lt_of_cell x8;by_cases h0:i<0
 ·go_enter Tryz.func177,Tryz.ntmps177;go_wp2;go_returns;exact⟨rfl,rfl⟩
 ·have h1:(m:Int)<=i:=by omega
  go_enter Tryz.func177,Tryz.ntmps177;go_wp2;go_returns;exact⟨rfl,rfl⟩
theorem OE(w:World)(x:Nat)(a:Option Addr)(m cc:Nat)(i:Int)(x8:w.cell? ⟨x,8,none⟩=some (.slice a m cc))(h0:¬i<0)(h1:¬(m:Int)<=i)(hm:(40:Int)<=(m:Int)):Calls Tryz.prog 177 #[Av x,.int .i64 i] w fun e w'=>e=.returned (.int .i64 12)/\w'=w:=by
 have hl:=lt_of_cell x8;go_enter Tryz.func177,Tryz.ntmps177;go_wp2;go_returns;exact⟨rfl,rfl⟩
theorem Ms(w:World)(host:Int)(S:ByteArray)(b:Bool)(j:Nat)(u:Value)(h:([.int .i64 host,.string S,.bool b]:List Value)[j]?=some u):(w.alloc (.cells #[.int .i64 host,.string S,.bool b] 304)).cell? ((⟨w.heap.size,0,none⟩:Addr).add j)=some u:=by
 rw[Addr.add_lit,Nat.zero_add,World.cell?_alloc_new w _ _ j,<-List.getElem?_toArray]at *;exact h
theorem OG(w:World)(x:Nat)(c:R.Cf)(v:RV)(fl:List R.Fl)(i:Nat)(f:R.Fl)(hx:w.heap[x]?=some (.cells (CB c v) 229 (0,0)))(hrow:w.ownsRow 0 304 3 v.Fl fl.length (tab A1 fl))(hf:fl[i]?=some f)(hl:fl.length<40):
  Calls Tryz.prog 177 #[Av x,.int .i64 (i:Int)] w fun e w'=>e=.returned (.int .i64 0)/\DW w x c v (fl++[f]) w':=by
 obtain⟨g,cc,hK,hgl,hcell,_⟩:=DU Bg (by omega) hrow hf;have hif:=(List.getElem?_eq_some_iff.1 hf).1;obtain⟨m,hm⟩:∃m,fl.length=m:=⟨_,rfl⟩;rw[hm]at hK;obtain⟨i0,hi,hz0,hz1,hz2⟩:=info_parts N8;obtain⟨to,sf,bf⟩:=f;have k0:w.cell? ⟨g,i*3,none⟩=some (.int .i64 to):=hcell 0 _ (by omega) rfl;have k1:w.cell? ⟨g,i*3+1,none⟩=some (.string (str sf)):=hcell 1 _ (by omega) rfl;have k2:w.cell? ⟨g,i*3+2,none⟩=some (.bool bf):=hcell 2 _ (by omega) rfl;obtain⟨TF,hTF⟩:∃TF,TF=tab A1 fl:=⟨_,rfl⟩;have HEND:Hid (∀(w':World) (K:Value),w'.ownsRow 0 304 3 K (m+1) (TF++[.int .i64 to,.string (str sf),.bool bf])->w'.heap[x]?=some (.cells (CB c {v with Fl:=K}) 229 (0,0))->Ae (fun k=>k=x\/v.Fl.ownBlock=some k) w w'->(∀j,K.ownBlock=some j->v.Fl.ownBlock=some j\/w.heap.size<=j)->DW w x c v (fl++[⟨to,sf,bf⟩]) w'):=fun w' K h1 h2 h3 h4=>⟨K,by
  rw[D9,List.length_append,hm,<-hTF];exact h1,h2,h3,h4⟩
 rw[hm,<-hTF,hK]at hrow;generalize DW w x c v (fl++[⟨to,sf,bf⟩])=Post at *;have hcs:w.heap[x]?=some (.cells [.int .i64 c.Ad,.int .i64 c.lines,.int .i64 c.Al,.int .i64 c.tries,.int .i64 c.table,v.N,v.S,v.V,.slice (some ⟨g,0,none⟩) m cc,v.C,.slice (some ⟨v.L,0,none⟩) 3 3,.slice (some ⟨v.Sn,0,none⟩) 9 9,.slice none 0 0].toArray 229 (0,0)):=by
  rw[hx,<-hK]
 rw[hK]at HEND;have hnm:¬(m:Int)<=(i:Int):=by omega
 have hnm2:(i:Int)<(m:Int):=by omega
 have hn0:¬(i:Int)<0:=by omega
 have hn1:(0:Int)<=(i:Int):=by omega
 have hn40:¬(40:Int)<=(m:Int):=by omega
 have hm40:m<40:=by omega
 have x8:w.cell? ⟨x,8,none⟩=some (.slice (some ⟨g,0,none⟩) m cc):=cell_of hcs 8 _ rfl;have z8:w.frozen? ⟨x,8,none⟩=false:=Cs hcs 8;have hlx:=lt_of_block hcs;have hbA:Below w.heap.size w (w.drew.alloc (.cells #[.int .i64 to,.string (str sf),.bool bf] 304)):=(Below.refl w.heap.size w).drew.alloc (by simp) _;have HGR:Hid (∀(wz:World),(w.drew.alloc (.cells #[.int .i64 to,.string (str sf),.bool bf] 304)).grownBy wz (some g)->wz.heap[x]?=w.heap[x]?):=fun wz hg=>(C9 hcs hrow (by decide) hbA hg).trans hcs.symm
 have HPUT:Hid (∀(wz:World) (v':Value),(w.drew.alloc (.cells #[.int .i64 to,.string (str sf),.bool bf] 304)).grownBy wz (some g)->wz.ownsRow 0 304 3 v' (m+1) (TF++[.int .i64 to,.string (str sf),.bool bf])->(v'.ownBlock=some g\/v'.ownBlock=some (w.heap.size+1))->Post (wz.setCell ⟨x,8,none⟩ v')):=fun wz v' hg hown hat=>by
  have hput:=FX (o:=8) hcs hrow (by decide) hbA hg hown hat (by omega);obtain⟨d1,d2,d3,d4⟩:=hput;exact(Aa HEND) _ _ d1 d2 d3 d4
 have HRW:=Ab hrow;clear hcs hrow hTF hm hl hx hK HEND hbA hcell hf hif;generalize str sf=SF at *;go_enter Tryz.func177,Tryz.ntmps177;go_wp2;go_region_law (first
  |(refine Bb rfl (.tmp 26) (.tmp 34) 224 rfl 0 304 i0 (.agg #[.int .i64 0,.string ⟨#[]⟩,.bool false]) 3 32 Tryz.underlying224 hi hz0 hz1 hz2 rfl (by decide) (.slice (some ⟨g,0,none⟩) m cc) m TF rfl (by exact(Be (Aa HRW) (Below.refl _ _).drew).alloc _) ⟨w.heap.size,0,none⟩ 1 1 [.int .i64 to,.string SF,.bool bf] rfl rfl (by exact Ms w.drew to SF bf) (by simp[Value.oneCell']) (by unfold maxLen;omega) (by omega) (by omega) ?_;intro v' wz hown hgrow hat;obtain⟨va,vn,vc,hvs⟩:=Am hown;subst hvs;have hgx:=(Aa HGR) _ hgrow;have HPO:=Ab ((Aa HPUT) _ _ hgrow hown (by simpa [Value.ownBlock] using hat));have g8:wz.cell? ⟨x,8,none⟩=some (.slice (some ⟨g,0,none⟩) m cc):=(World.cell?_of_block hgx).trans x8;have gz:wz.frozen? ⟨x,8,none⟩=false:=(World.frozen?_of_block hgx).trans z8;clear hown hgrow hat hgx))
 all_goals
  go_wp2;go_returns;exact⟨rfl,Aa HPO⟩
theorem MI{w:World}{e:TypeId}{size n cap g:Nat}{xs:List Value}(h:w.ownsRow 0 e size (.slice (some ⟨g,0,none⟩) n cap) n xs){j:Nat}{u:Value}(hu:xs[j]?=some u):w.cell? ⟨g,j,none⟩=some u:=by
 rcases h.2 with ⟨h0,_⟩|⟨g',cap',cur,hv,_,hg,_,_,_,htk⟩
 ·cases h0
 ·cases hv;have hj:=(List.getElem?_eq_some_iff.1 hu).1;rw[h.1]at hj;rw[<-htk,List.getElem?_take,if_pos hj]at hu;simp[World.cell?,hg];simpa using hu
theorem TY{fl:List R.Fl}:∀u∈tab A1 fl,u.oneCell'=true:=by
 intro u hu;simp only[tab,List.mem_flatMap]at hu;obtain⟨f,_,hf⟩:=hu;simp only[A1,List.mem_cons,List.not_mem_nil,or_false]at hf;rcases hf with rfl|rfl|rfl<;>rfl
theorem RF(w:World)(x:Nat)(a:Option Addr)(m cc:Nat)(i:Int)(x8:w.cell? ⟨x,8,none⟩=some (.slice a m cc))(h:i<0\/(m:Int)<=i):Calls Tryz.prog 175 #[Av x,.int .i64 i] w fun e w'=>e=.returned (.int .i64 9)/\w'=w:=by
 have hl:=lt_of_cell x8;by_cases h0:i<0
 ·go_enter Tryz.func175,Tryz.ntmps175;go_wp2;go_returns;exact⟨rfl,rfl⟩
 ·have h1:(m:Int)<=i:=by omega
  go_enter Tryz.func175,Tryz.ntmps175;go_wp2;go_returns;exact⟨rfl,rfl⟩
theorem U0(w:World)(x:Nat)(c:R.Cf)(v:RV)(fl:List R.Fl)(i:Nat)(hx:w.heap[x]?=some (.cells (CB c v) 229 (0,0)))(hrow:w.ownsRow 0 304 3 v.Fl fl.length (tab A1 fl))(hif:i<fl.length)(hl:fl.length<=40):
  Calls Tryz.prog 175 #[Av x,.int .i64 (i:Int)] w fun e w'=>e=.returned (.int .i64 0)/\DW w x c v (fl.eraseIdx i) w':=by
 obtain⟨g,cc,hK,hgl,-,-⟩:=DU Bg (by omega) hrow (List.getElem?_eq_getElem hif);obtain⟨m,hm⟩:∃m,fl.length=m:=⟨_,rfl⟩;rw[hm]at hK;obtain⟨i0,hi,hz0,hz1,hz2⟩:=info_parts N8;have hcap:m<=cc:=by
  have h2:=hrow.2;rw[hK]at h2;rcases h2 with ⟨h0,_⟩|⟨g',cap',cur,hv,_,_,hc,_⟩
  ·cases h0
  ·cases hv;omega
 have HEND:Hid (∀(w':World) (K:Value),w'.ownsRow 0 304 3 K (i+(m-(i+1))) (tab A1 (fl.take i)++tab A1 (fl.drop (i+1)))->w'.heap[x]?=some (.cells (CB c {v with Fl:=K}) 229 (0,0))->Ae (fun k=>k=x) w w'->(∀j,K.ownBlock=some j->w.heap.size<=j)->DW w x c v (fl.eraseIdx i) w'):=fun w' K h1 h2 h3 h4=>⟨K,by
  rw[List.eraseIdx_eq_take_drop_succ,JB,List.length_append,List.length_take,List.length_drop,hm,Nat.min_eq_left (by omega)];exact h1,h2,h3.mono (fun k _ h=>Or.inl h),fun j hj=>Or.inr (h4 j hj)⟩
 have hn1:∀j u,(tab A1 (fl.take i))[j]?=some u->(tab A1 fl)[j]?=some u:=fun j u hu=>by
  rw[<-JD Bg,List.getElem?_take]at hu;split at hu
  ·exact hu
  ·cases hu
 have hn2:∀j u,(tab A1 (fl.drop (i+1)))[j]?=some u->(tab A1 fl)[(i+1)*3+j]?=some u:=fun j u hu=>by
  rw[<-JC Bg,List.getElem?_drop]at hu;exact hu
 have l1:(tab A1 (fl.take i)).length=i*3:=by rw[BN Bg,List.length_take,hm,Nat.min_eq_left (by omega),Nat.mul_comm]
 have l2:(tab A1 (fl.drop (i+1))).length=(m-(i+1))*3:=by rw[BN Bg,List.length_drop,hm,Nat.mul_comm]
 have o1:∀u∈tab A1 (fl.take i),u.oneCell'=true:=TY;have o2:∀u∈tab A1 (fl.drop (i+1)),u.oneCell'=true:=TY;generalize tab A1 (fl.take i)=T1 at *;generalize tab A1 (fl.drop (i+1))=T2 at *;generalize tab A1 fl=TF at *;rw[hm,hK]at hrow;generalize DW w x c v (fl.eraseIdx i)=Post at *;have hcs:w.heap[x]?=some (.cells [.int .i64 c.Ad,.int .i64 c.lines,.int .i64 c.Al,.int .i64 c.tries,.int .i64 c.table,v.N,v.S,v.V,.slice (some ⟨g,0,none⟩) m cc,v.C,.slice (some ⟨v.L,0,none⟩) 3 3,.slice (some ⟨v.Sn,0,none⟩) 9 9,.slice none 0 0].toArray 229 (0,0)):=by
  rw[hx,<-hK]
 have hnm:¬(m:Int)<=(i:Int):=by omega
 have hn0:¬(i:Int)<0:=by omega
 have x8:w.cell? ⟨x,8,none⟩=some (.slice (some ⟨g,0,none⟩) m cc):=cell_of hcs 8 _ rfl;have hlx:=lt_of_block hcs;have e1:IntKind.i64.wrap ((i:Int)+1)=(i:Int)+1:=by rw[IntKind.wrap_i64];omega
 have HX:=Ab hcs;have HRW:=Ab hrow;have hi40:i<40:=by omega
 have hm40:m<=40:=by omega
 have him:i<m:=by omega
 clear hcs hrow hx hK hif hl hm;go_enter Tryz.func175,Tryz.ntmps175;go_wp2_with (at_builtin;go_must (refine wpList_append_own_at _ rfl (.tmp 17) (.tmp 23) 224 rfl 0 304 i0 (.agg #[.int .i64 0,.string ⟨#[]⟩,.bool false]) 3 32 Tryz.underlying224 hi hz0 hz1 hz2 rfl (by decide) (.slice none 0 0) 0 [] rfl (World.ownsRow_nil _ _ _ _) ⟨g,0,none⟩ i _ T1 rfl l1 (by intro j u hu;rw[Addr.add_lit,Nat.zero_add];exact MI (Aa HRW) (hn1 j u hu)) o1 (by unfold maxLen;omega) (by omega) (by omega) ?_))
 intro v1 w1 how1 hg1 _ hat1;have hb1:Below w.heap.size w w1:=⟨hg1.os,hg1.tape,hg1.output,hg1.size,fun k hk=>hg1.block k hk (fun e=>by cases e)⟩;obtain⟨va,vn,vc,hvs⟩:=Am how1;subst hvs;have hx1:=(hb1.block x hlx).trans (Aa HX);have y8:w1.cell? ⟨x,8,none⟩=some (.slice (some ⟨g,0,none⟩) m cc):=cell_of hx1 8 _ rfl;have hlx1:=lt_of_block hx1;have HR1:=Ab (Be (Aa HRW) hb1);have hv1:∀k,(Value.slice va vn vc).ownBlock=some k->w.heap.size<=k:=fun k hk=>by
  rcases hat1 with q|q
  ·rw[q]at hk;cases hk
  ·rw[q]at hk;cases hk;exact Nat.le_refl _
 have HFIN:Hid (∀(v2:Value) (w2:World),w2.ownsRow 0 304 3 v2 (i+(m-(i+1))) (T1++T2)->w1.grownBy w2 (Value.slice va vn vc).ownBlock->(v2.ownBlock=(Value.slice va vn vc).ownBlock\/v2.ownBlock=some w1.heap.size)->Post (w2.setCell ⟨x,8,none⟩ v2)/\w2.heap[x]?=w1.heap[x]?):=fun v2 w2 ho hg hat=>by
  have hgx:w2.heap[x]?=w1.heap[x]?:=hg.block x hlx1 (fun e=>Bv how1 hx1 (by decide) e.symm);have hx2:=hgx.trans hx1;have hk:Ae (fun k=>k=x) w2 (w2.setCell ⟨x,8,none⟩ v2):=Ae.setCell (F:=fun k=>k=x) (Ae.refl _ w2) (p:=⟨x,8,none⟩) (Or.inl rfl) v2;have h1:Ae (fun k=>k=x) w w1:=Ae.Aq hb1 _;refine⟨(Aa HEND) _ v2 (hk.row ho (fun j hj e=>Bv ho hx2 (by decide) (e ▸ hj))) (Ap hx2 v2) ((h1.grown hg (fun k hk=>Or.inr (hv1 k hk))).setCell (p:=⟨x,8,none⟩) (Or.inl rfl) v2) (fun j hj=>?_),hgx⟩;rcases hat with q|q
  ·exact hv1 j (q ▸ hj)
  ·rw[q]at hj;cases hj;exact hb1.size
 have HO1:=Ab how1;have z8:w1.frozen? ⟨x,8,none⟩=false:=Cs hx1 8;clear how1 hg1 hat1 hb1 hx1 x8 hv1 HEND;by_cases hce:cc=i+1
 ·have hm1:m=i+1:=by omega
  obtain rfl:T2=[]:=List.eq_nil_of_length_eq_zero (by rw[l2,hm1];simp);subst hce hm1;go_wp2_with (at_builtin;go_must (refine wpList_append_own_at _ rfl (.tmp 25) (.tmp 32) 224 rfl 0 304 i0 (.agg #[.int .i64 0,.string ⟨#[]⟩,.bool false]) 3 32 Tryz.underlying224 hi hz0 hz1 hz2 rfl (by decide) (.slice va vn vc) i T1 rfl (by exact(Aa HO1)) ⟨g,0,none⟩ 0 0 [] rfl (by simp) (by intro j u hu;cases hu) (by intro u hu;cases hu) (by unfold maxLen;omega) (by omega) (by omega) ?_))
  intro v2 w2 how2 hg2 _ hat2;obtain⟨ua,un,uc,hus⟩:=Am how2;subst hus;obtain⟨hP,hgx⟩:=(Aa HFIN) _ _ (by rw[Nat.sub_self,List.append_nil];exact how2) hg2 hat2;have u8:w2.cell? ⟨x,8,none⟩=some (.slice (some ⟨g,0,none⟩) (i+1) (i+1)):=(World.cell?_of_block hgx).trans y8;have uz:w2.frozen? ⟨x,8,none⟩=false:=(World.frozen?_of_block hgx).trans z8;have HP:=Ab hP;clear how2 hg2 hat2 hP hgx HFIN;go_wp2_with fail
  go_returns;exact⟨rfl,Aa HP⟩
 ·go_wp2_with (at_builtin;go_must (refine wpList_append_own_at _ rfl (.tmp 25) (.tmp 32) 224 rfl 0 304 i0 (.agg #[.int .i64 0,.string ⟨#[]⟩,.bool false]) 3 32 Tryz.underlying224 hi hz0 hz1 hz2 rfl (by decide) (.slice va vn vc) i T1 rfl (by exact(Aa HO1)) ⟨g,(i+1)*3,none⟩ (m-(i+1)) _ T2 rfl l2 (by intro j u hu;rw[Addr.add_lit];exact MI (Aa HR1) (hn2 j u hu)) o2 (by unfold maxLen;omega) (by omega) (by omega) ?_))
  intro v2 w2 how2 hg2 _ hat2;obtain⟨ua,un,uc,hus⟩:=Am how2;subst hus;obtain⟨hP,hgx⟩:=(Aa HFIN) _ _ how2 hg2 hat2;have u8:w2.cell? ⟨x,8,none⟩=some (.slice (some ⟨g,0,none⟩) m cc):=(World.cell?_of_block hgx).trans y8;have uz:w2.frozen? ⟨x,8,none⟩=false:=(World.frozen?_of_block hgx).trans z8;have HP:=Ab hP;clear how2 hg2 hat2 hP hgx HFIN;go_wp2_with fail
  go_returns;exact⟨rfl,Aa HP⟩
theorem RW.drop{x:Nat}{v:RV}{F:Ag}{G:R.Wd}{w:World}(h:RW x v F G w)(i:Int):Calls Tryz.prog 175 #[Av x,.int .i64 i] w fun e w'=>e=.returned (.int .i64 (R.EF G i).1)/\∃v' F',RW x v' F' (R.EF G i).2 w'/\Ah F F' w w':=by
 obtain⟨a,cc,hK,x8⟩:=h.LH;unfold R.EF;by_cases ho:R.off G i
 ·rw[if_pos ho];refine(RF w x a G.Af.length cc i x8 ho).mono ?_;rintro e w' ⟨rfl,rfl⟩;exact⟨rfl,v,F,h,Ah.refl F _⟩
 ·rw[if_neg ho];unfold R.off at ho;obtain⟨k,rfl⟩:∃k:Nat,i=(k:Int):=⟨i.toNat,by omega⟩;have hk:k<G.Af.length:=by omega
  simp only[Int.toNat_natCast];have hwf:=h.wf;refine(U0 w x G.c v G.Af k h.bx h.EC hk hwf.EC).mono ?_;rintro e w' ⟨rfl,hp⟩;refine⟨rfl,h.Ye ⟨hwf.cf,hwf.JL,fun j c hc=>?_,?_,fun f hf=>hwf.EO f (List.mem_of_mem_eraseIdx hf),hwf.sv,hwf.Lr,hwf.nm,hwf.st,hwf.nd,hwf.IC⟩ hp⟩
  ·have:=hwf.cl j c hc;exact⟨this.lines,this.Ax,this.bound,this.line⟩
  ·have:=List.length_eraseIdx_le (l:=G.Af) (i:=k);have:=hwf.EC;simp only;omega
theorem RW.copy{x:Nat}{v:RV}{F:Ag}{G:R.Wd}{w:World}(h:RW x v F G w)(i:Int):Calls Tryz.prog 177 #[Av x,.int .i64 i] w fun e w'=>e=.returned (.int .i64 (R.D5 G i).1)/\∃v' F',RW x v' F' (R.D5 G i).2 w'/\Ah F F' w w':=by
 obtain⟨a,cc,hK,x8⟩:=h.LH;unfold R.D5;by_cases ho:R.off G i
 ·rw[if_pos ho];refine(RE w x a G.Af.length cc i x8 ho).mono ?_;rintro e w' ⟨rfl,rfl⟩;exact⟨rfl,v,F,h,Ah.refl F _⟩
 ·rw[if_neg ho];unfold R.off at ho;obtain⟨k,rfl⟩:∃k:Nat,i=(k:Int):=⟨i.toNat,by omega⟩;have hk:k<G.Af.length:=by omega
  have hwf:=h.wf;by_cases h40:40<=G.Af.length
  ·rw[if_pos h40];refine(OE w x a G.Af.length cc k x8 (by omega) (by omega) (by omega)).mono ?_;rintro e w' ⟨rfl,rfl⟩;exact⟨rfl,v,F,h,Ah.refl F _⟩
  ·rw[if_neg h40];obtain⟨f,hf⟩:∃f,G.Af[k]?=some f:=⟨_,List.getElem?_eq_getElem hk⟩;simp only[Int.toNat_natCast,hf];refine(OG w x G.c v G.Af k f h.bx h.EC hf (by omega)).mono ?_;rintro e w' ⟨rfl,hp⟩;refine⟨rfl,h.Ye ⟨hwf.cf,hwf.JL,fun j c hc=>?_,?_,fun g hg=>?_,hwf.sv,hwf.Lr,hwf.nm,hwf.st,hwf.nd,hwf.IC⟩ hp⟩
   ·have:=hwf.cl j c hc;exact⟨this.lines,this.Ax,this.bound,this.line⟩
   ·simp only[List.length_append,List.length_singleton];omega
   ·rcases List.mem_append.1 hg with q|q
    ·exact hwf.EO g q
    ·rw[List.mem_singleton.1 q];exact hwf.EO f (List.mem_of_getElem? hf)
end Go.Proofs.YtblomippkddgiaaGreatDoor
