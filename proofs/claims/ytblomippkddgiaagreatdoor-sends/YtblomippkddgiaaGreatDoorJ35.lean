import Derived.Test.YtblomippkddgiaaGreatDoorJ34
import Derived.Test.YtblomippkddgiaaGreatDoorJ32
set_option maxRecDepth 100000
set_option maxHeartbeats 2000000
namespace Go.Proofs.YtblomippkddgiaaGreatDoor
open Go.RowKit
theorem RM.rename{x:Nat}{v:RV}{F:Ag}{G:R.Wd}{w w':World}(h:RM x v F G w){K M:Value}{nm:List (List UInt8)}{st:List Int}(hk:Ae (fun k=>k=x) w w')(hx:w'.heap[x]?=some (.cells (CB G.c {v with N:=K,S:=M}) 229 (0,0)))(hn:w'.ownsRow 0 9 1 K nm.length (CP nm))(hs:w'.ownsRow 0 3 1 M st.length (BI st))(hK:∀j,K.ownBlock=some j->w.heap.size<=j)(hM:∀j,M.ownBlock=some j->w.heap.size<=j):∃v' F',RM x v' F' {G with names:=nm,stands:=st} w'/\Ah F F' w w':=by
 obtain⟨f1,f2,f3⟩:=h.A4;have nb:∀{b:Nat} {ys:Array Value} {t:TypeId},w.heap[b]?=some (.cells ys t (0,0))->t≠229->¬b=x:=fun hb h1 e=>by
  subst e;exact AO hb h.bx h1 rfl
 have nr:∀{n size:Nat} {e:TypeId} {M:Value} {xs:List Value},w.ownsRow 0 e size M n xs->e≠229->∀j,M.ownBlock=some j->¬j=x:=fun hr h1 j hj=>by
  obtain⟨cur,hc⟩:=C4 hr hj;exact nb hc h1
 refine⟨{v with N:=K,S:=M},fun k=>F k\/K.ownBlock=some k\/M.ownBlock=some k,⟨hx,hn,hs,h.zs,hk.row h.C5 (nr h.C5 (by decide)),h.F7,hk.row h.EC (nr h.EC (by decide)),h.zc,hk.row h.cl (nr h.cl (by decide)),fun i z hz=>hk.row (h.bound i z hz) (nr (h.bound i z hz) (by decide)),fun i z hz=>?_,hk.at h.Ao (nb h.Ao (by decide)),hk.at h.seen (nb h.seen (by decide)),⟨Or.inl f1,Or.inl f2,Or.inl f3⟩,fun j hj=>?_,fun i z hz=>⟨Or.inl (h.Bw i z hz).1,fun j hj=>⟨Or.inl ((h.Bw i z hz).2 j hj).1,((h.Bw i z hz).2 j hj).2.1,fun e=>?_⟩⟩,fun e=>?_,h.inj,fun k hf=>?_⟩,⟨hk.mono (fun k _ e=>by rw[e];exact f1),fun k hf=>?_⟩⟩
 ·obtain⟨zl,h1,h2,h3⟩:=h.ln i z hz;exact⟨zl,h1,hk.at h2 (nb h2 (by decide)),h3⟩
 ·rcases hj with q|q|q
  ·exact Or.inr (Or.inl q)
  ·exact Or.inr (Or.inr q)
  ·exact Or.inl (h.rows j (Or.inr (Or.inr q)))
 ·have:=hM j e;have:=h.lt j ((h.Bw i z hz).2 j hj).1;omega
 ·have:=hM v.L e;have:=h.lt v.L f2;omega
 ·rcases hf with hf|hf|hf
  ·exact Nat.lt_of_lt_of_le (h.lt k hf) hk.size
  ·obtain⟨cur,hc⟩:=C4 hn hf;exact(Array.getElem?_eq_some_iff.1 hc).1
  ·obtain⟨cur,hc⟩:=C4 hs hf;exact(Array.getElem?_eq_some_iff.1 hc).1
 ·rcases hf with hf|hf|hf
  ·exact Or.inl hf
  ·exact Or.inr (hK k hf)
  ·exact Or.inr (hM k hf)
def er{α:Type}(l:List α)(k i:Nat):List α:=(l.take i).eraseIdx k
theorem PX{α:Type}(l:List α)(k:Nat):er l k 0=[]:=by simp[er]
theorem TV{α:Type}(l:List α)(k:Nat):er l k l.length=l.eraseIdx k:=by simp[er]
theorem XM{α:Type}(l:List α)(k:Nat)(y:α)(h:l[k]?=some y):er l k (k+1)=er l k k:=by
 have hk:=(List.getElem?_eq_some_iff.1 h).1;unfold er;rw[List.take_add_one,h,Option.toList_some,List.eraseIdx_append_of_length_le (by rw[List.length_take];omega),List.length_take,Nat.min_eq_left (Nat.le_of_lt hk),Nat.sub_self,List.eraseIdx_cons_zero,List.append_nil];exact(List.eraseIdx_of_length_le (by rw[List.length_take];omega)).symm
theorem TX{α:Type}(l:List α)(k i:Nat)(y:α)(h:l[i]?=some y)(hk:¬i=k):er l k (i+1)=er l k i++[y]:=by
 have hi:=(List.getElem?_eq_some_iff.1 h).1;unfold er;rw[List.take_add_one,h,Option.toList_some];by_cases hlt:k<i
 ·rw[List.eraseIdx_append_of_lt_length (by simp;omega)]
 ·rw[List.eraseIdx_of_length_le (by simp;omega),List.eraseIdx_of_length_le (by simp;omega)]
theorem TW{α:Type}(l:List α)(k i:Nat):(er l k i).length<=l.length:=by
 unfold er;have:=List.length_eraseIdx_le (l:=l.take i) (i:=k);have:(l.take i).length<=l.length:=by rw[List.length_take];omega
 omega
theorem Jr{w:World}{B n size:Nat}{e:TypeId}{v:Value}{xs:List Value}(h:w.ownsRow B e size v n xs):w.ownsRow 0 e size v n xs:=by
 refine⟨h.1,?_⟩;rcases h.2 with q|⟨g,cap,cur,hv,_,r⟩
 ·exact Or.inl q
 ·exact Or.inr ⟨g,cap,cur,hv,Nat.zero_le _,r⟩
theorem Db{w:World}{B n size:Nat}{e:TypeId}{v:Value}{xs:List Value}(h:w.ownsRow B e size v n xs){j:Nat}(hj:v.ownBlock=some j):B<=j:=by
 rcases h.2 with ⟨q,_⟩|⟨g,cap,cur,hv,hb,r⟩
 ·rw[q]at hj;cases hj
 ·rw[hv]at hj;cases hj;exact hb
theorem Kj{w W wz:World}{B B' n n' size size':Nat}{e e':TypeId}{v v':Value}{xs ys:List Value}(h:w.ownsRow B e size v n xs)(h':w.ownsRow B' e' size' v' n' ys)(hne:e≠e')(hb:Below w.heap.size w W)(hg:W.grownBy wz v'.ownBlock):wz.ownsRow B e size v n xs:=by
 refine⟨h.1,?_⟩;rcases h.2 with q|⟨g,cap,cur,hv,hb',hgg,r⟩
 ·exact Or.inl q
 ·have hl:=(Array.getElem?_eq_some_iff.1 hgg).1;refine Or.inr ⟨g,cap,cur,hv,hb',?_,r⟩;rw[hg.block g (Nat.lt_of_lt_of_le hl hb.size) (fun q=>?_),hb.block g hl]
  ·exact hgg
  ·rcases h'.2 with ⟨q',_⟩|⟨g2,_,cur2,hv2,_,hg2,_⟩
   ·rw[q']at q;cases q
   ·rw[hv2]at q;cases q;exact AO hgg hg2 hne rfl
theorem below_grown{a W wz:World}{row:Option Nat}(h:Below a.heap.size a W)(hg:W.grownBy wz row)(hr:∀k,row=some k->a.heap.size<=k):Below a.heap.size a wz:=
 ⟨hg.os.trans h.os,hg.tape.trans h.tape,hg.output.trans h.output,Nat.le_trans h.size hg.size,fun k hk=>by
  rw[hg.block k (Nat.lt_of_lt_of_le hk h.size) (fun e=>by have:=hr k e.symm;omega)];exact h.block k hk⟩
structure Hz(w1 wr:World)(nm:List (List UInt8))(st:List Int)(nv sv:Value):Prop where
 below:Below w1.heap.size w1 wr
 n:wr.ownsRow w1.heap.size 9 1 nv nm.length (CP nm)
 s:wr.ownsRow w1.heap.size 3 1 sv st.length (BI st)
theorem Hz.start(w1:World):Hz w1 w1 [] [] (.slice none 0 0) (.slice none 0 0):=⟨Below.refl _ _,World.ownsRow_nil _ _ _ _,World.ownsRow_nil _ _ _ _⟩
theorem OY(w w1:World)(x k:Nat)(u0:Int)(S:ByteArray)(gS cS n gN cN:Nat)(nm:List (List UInt8))(st:List Int)(Post:World->Prop)(hk:k<n)(hn:nm.length=n)(hs:st.length=n)(hn6:n<=6)(x6:w.cell? ⟨x,6,none⟩=some (.slice (some ⟨gS,0,none⟩) n cS))(cu:w.cell? ⟨gS,k,none⟩=some (.int .i64 u0))(H213:Hid (Calls Tryz.prog 216 #[Av x,.string S] w fun e w'=>e=.returned (.int .i64 (k:Int))/\w'=w))(H214:Hid (Calls Tryz.prog 217 #[Av x,.int .i64 u0] w fun e w'=>e=.returned (.tuple #[])/\w'=w1))
  (y5:w1.cell? ⟨x,5,none⟩=some (.slice (some ⟨gN,0,none⟩) n cN)) (y6:w1.cell? ⟨x,6,none⟩=some (.slice (some ⟨gS,0,none⟩) n cS)) (hz:∀o,w1.frozen? ⟨x,o,none⟩=false) (hcn:∀(i:Nat) (y:List UInt8),nm[i]?=some y->w1.cell? ⟨gN,i,none⟩=some (.string (str y))) (hcs:∀(i:Nat) (y:Int),st[i]?=some y->w1.cell? ⟨gS,i,none⟩=some (.int .i64 y))
  (hP:∀wr nv sv,Hz w1 wr (nm.eraseIdx k) (st.eraseIdx k) nv sv->Post ((wr.setCell ⟨x,5,none⟩ nv).setCell ⟨x,6,none⟩ sv)):
  Calls Tryz.prog 161 #[Av x,.string S] w fun e w'=>e=.returned (.int .i64 0)/\Post w':=by
 have hx:=lt_of_cell x6;have hgS:=lt_of_cell cu;have q0:(0:Int)<=(k:Int):=by omega
 have q1:(k:Int)<(n:Int):=by omega
 have q2:¬(k:Int)<0:=by omega
 obtain⟨iS,hiS,hS0,hS1,hS2⟩:=info_parts PZ;obtain⟨iI,hiI,hI0,hI1,hI2⟩:=info_parts KX;have hx1:=lt_of_cell y5;have HCN:=Ab hcn;have HCS:=Ab hcs;have HP:=Ab hP;have HZ5:=hz 5;have HZ6:=hz 6;have Y5:=Ab y5;have Y6:=Ab y6;clear hcn hcs hP hz y5 y6;go_enter Tryz.func161,Tryz.ntmps161;go_wp2_with (first|(go_at_call 216;refine(Aa H213).mono ?_;rintro e w2 ⟨rfl,hw2⟩;rw[hw2];clear hw2 H213)|(go_at_call 217;refine(Aa H214).mono ?_;rintro e w2 ⟨rfl,hw2⟩;rw[hw2];clear hw2 H214))
 go_loopw [6,7,8] (fun nv sv iv wr=>∃i:Nat,i<=n/\iv=.int .i64 (i:Int)/\Hz w1 wr (er nm k i) (er st k i) nv sv) (fun _ _ iv _=>n-(intOf iv).toNat)
 case atStart=>exact⟨0,Nat.zero_le _,rfl,by rw[PX,PX];exact Hz.start w1⟩
 case round=>
  obtain⟨i,hi,rfl,hB⟩:=hrel;obtain⟨na,nc,hnv⟩:=AR hB.n;obtain⟨sa,sc,hsv⟩:=AR hB.s;have z5:wr.cell? ⟨x,5,none⟩=some (.slice (some ⟨gN,0,none⟩) n cN):=(hB.below.cell (p:=⟨x,5,none⟩) hx1).trans (Aa Y5);have z6:wr.cell? ⟨x,6,none⟩=some (.slice (some ⟨gS,0,none⟩) n cS):=(hB.below.cell (p:=⟨x,6,none⟩) hx1).trans (Aa Y6);have f5:wr.frozen? ⟨x,5,none⟩=false:=(hB.below.frozen (p:=⟨x,5,none⟩) hx1).trans HZ5;have f6:wr.frozen? ⟨x,6,none⟩=false:=(hB.below.frozen (p:=⟨x,6,none⟩) hx1).trans HZ6;have hxr:=lt_of_cell z5;have hl1:=TW nm k i;have hl2:=TW st k i;rw[hn]at hl1;rw[hs]at hl2;have p0:(0:Int)<=(i:Int):=by omega
  by_cases hlt:i<n
  ·have p1:(i:Int)<(n:Int):=by omega
   by_cases hik:i=k
   ·subst hik;have HB':Hid (Hz w1 wr (er nm i (i+1)) (er st i (i+1)) u6 u7):=by
     rw[XM nm i _ (List.getElem?_eq_getElem (by omega)),XM st i _ (List.getElem?_eq_getElem (by omega))];exact hB
    clear hB hnv hsv;go_wp2_with fail
    go_roundw
    case rel=>exact⟨i+1,by omega,by go_num,Aa HB'⟩
    case measure=>simp[intOf];omega
   ·obtain⟨y,hy⟩:∃y,nm[i]?=some y:=⟨_,List.getElem?_eq_getElem (by omega)⟩;obtain⟨t,ht⟩:∃t,st[i]?=some t:=⟨_,List.getElem?_eq_getElem (by omega)⟩;have cy:wr.cell? ⟨gN,i,none⟩=some (.string (str y)):=by
     have:=(Aa HCN) i y hy;exact(hB.below.cell (p:=⟨gN,i,none⟩) (lt_of_cell this)).trans this
    have ct0:=(Aa HCS) i t ht;have ct:wr.cell? ⟨gS,i,none⟩=some (.int .i64 t):=by
     have:=(Aa HCS) i t ht;exact(hB.below.cell (p:=⟨gS,i,none⟩) (lt_of_cell this)).trans this
    have hne:((i:Int)==(k:Int))=false:=by simp;omega
    have hbs:=hB.below.size;have e1:=TX nm k i y hy hik;have e2:=TX st k i t ht hik;have hN:=hB.n;rw[hnv]at hN;have hS:=hB.s;rw[hsv]at hS;have HN:=Ab hN;have HS:=Ab hS;have HBl:=Ab hB.below;have HE1:=Ab e1;have HE2:=Ab e2;have hgN:=lt_of_cell cy;have hgS':=lt_of_cell ct;subst hnv hsv;clear hB e1 e2 hN hS hy ht;generalize er nm k i=M at *;generalize er st k i=T at *;go_wp2_with (at_builtin;go_must (refine wpList_append_own_at _ rfl (.tmp 35) (.tmp 43) 222 rfl w1.heap.size 9 iS (.string ⟨#[]⟩) 1 16 Tryz.underlying222 hiS hS0 hS1 hS2 rfl (by decide) (.slice na M.length nc) M.length (CP M) rfl (by exact(Aa HN).alloc _) ⟨wr.heap.size,0,none⟩ 1 1 [.string (str y)] rfl rfl (by exact Em wr 9 [.string (str y)]) (by simp[Value.oneCell']) (by unfold maxLen;omega) (by omega) (by simp;omega) ?_))
    intro K1 wz1 how1 hg1 _ hat1;obtain⟨va1,vn1,vc1,hvs1⟩:=Am how1;subst hvs1;have hbA:Below wr.heap.size wr (wr.alloc (.cells #[.string (str y)] 9)):=(Below.refl _ _).alloc (Nat.le_refl _) _;have hB1:Below w1.heap.size w1 wz1:=below_grown ((Aa HBl).alloc hbs _) hg1 (fun j hj=>Db (Aa HN) hj);have hS1':=Kj (Aa HS) (Aa HN) (by decide) hbA hg1;have v6:wz1.cell? ⟨x,6,none⟩=some (.slice (some ⟨gS,0,none⟩) n cS):=(hB1.cell (p:=⟨x,6,none⟩) hx1).trans (Aa Y6);have vt:wz1.cell? ⟨gS,i,none⟩=some (.int .i64 t):=(hB1.cell (p:=⟨gS,i,none⟩) (lt_of_cell ct0)).trans ct0;have hb1s:=hB1.size;have HO1:=Ab how1;have HB1:=Ab hB1;have HS1:=Ab hS1';clear how1 hg1 hat1 hbA hB1 hS1' HN HS HBl z5 z6 cy ct f5 f6;go_wp2_with (at_builtin;go_must (refine wpList_append_own_at _ rfl (.tmp 45) (.tmp 53) 35 rfl w1.heap.size 3 iI (.int .i64 0) 1 8 Tryz.underlying35 hiI hI0 hI1 hI2 rfl (by decide) (.slice sa T.length sc) T.length (BI T) rfl (by exact(Aa HS1).alloc _) ⟨wz1.heap.size,0,none⟩ 1 1 [.int .i64 t] rfl rfl (by exact Em wz1 3 [.int .i64 t]) (by simp[Value.oneCell']) (by unfold maxLen;omega) (by omega) (by simp;omega) ?_))
    intro K2 wz2 how2 hg2 _ hat2;obtain⟨va2,vn2,vc2,hvs2⟩:=Am how2;subst hvs2;have hbA2:Below wz1.heap.size wz1 (wz1.alloc (.cells #[.int .i64 t] 3)):=(Below.refl _ _).alloc (Nat.le_refl _) _;have hB2:Below w1.heap.size w1 wz2:=below_grown ((Aa HB1).alloc hb1s _) hg2 (fun j hj=>Db (Aa HS1) hj);have hN2:=Kj (Aa HO1) (Aa HS1) (by decide) hbA2 hg2;have HB':Hid (Hz w1 wz2 (er nm k (i+1)) (er st k (i+1)) (.slice va1 vn1 vc1) (.slice va2 vn2 vc2)):=by
     rw[Aa HE1,Aa HE2];refine⟨hB2,?_,?_⟩
     ·rw[show CP (M++[y])=CP M++[.string (str y)] by simp[CP],List.length_append];exact hN2
     ·rw[show BI (T++[t])=BI T++[.int .i64 t] by simp[BI],List.length_append];exact how2
    clear how2 hg2 hat2 hbA2 hB2 hN2 HO1 HB1 HS1 HE1 HE2 v6 vt;go_wp2_with fail
    go_roundw
    case rel=>exact⟨i+1,by omega,by go_num,Aa HB'⟩
    case measure=>simp[intOf];omega
  ·obtain rfl:i=n:=by omega
   have hB':Hz w1 wr (nm.eraseIdx k) (st.eraseIdx k) u6 u7:=by
    rw[<-TV nm k,<-TV st k,hn,hs];exact hB
   have HE:=Ab ((Aa HP) wr u6 u7 hB');subst hnv hsv;clear hB hB' HP;go_wp2_with fail
   go_returns;exact⟨rfl,Aa HE⟩
theorem RM.Zt{x:Nat}{v:RV}{F:Ag}{G:R.Wd}{w:World}(h:RM x v F G w)(hs:G.seen=List.replicate 9 R.Ef)(hn:G.Ac.length<=255){uid:Int}(h1:1<=uid)(h2:uid<=(G.Ac.length:Int)):∃w1 v1 F1,Calls Tryz.prog 217 #[Av x,.int .i64 uid] w (fun e w'=>e=.returned (.tuple #[])/\w'=w1)/\RM x v1 F1 (R.Ce G uid) w1/\v1.S=v.S/\v1.N=v.N/\Ah F F1 w w1:=by
 obtain⟨u,rfl⟩:∃u:Nat,uid=(u:Int)+1:=⟨(uid-1).toNat,by omega⟩;have hul:u<G.Ac.length:=by omega
 obtain⟨s,hsv⟩:∃s,G.Ac[u]?=some s:=⟨_,List.getElem?_eq_getElem hul⟩;obtain⟨z,hz,hzs⟩:=Ei h.zs hsv;have hzl:v.zs.length=G.Ac.length:=by rw[<-h.zs,List.length_map]
 obtain⟨g,cap,hV,hgl,hcell,hfz⟩:=DU F6 (by omega) h.C5 hz;have hrow:=h.C5;rw[hV]at hrow;have c1:w.cell? ⟨g,u*3+1,none⟩=some (.bool z.1.alive):=hcell 1 _ (by omega) rfl;have x7:w.cell? ⟨x,7,none⟩=some (.slice (some ⟨g,0,none⟩) v.zs.length cap):=cell_of h.bx 7 _ (by rw[<-hV];rfl);have hk:Ae (fun k=>k=g) w (w.setCell ⟨g,u*3+1,none⟩ (.bool false)):=Ae.setCell (F:=fun k=>k=g) (Ae.refl _ w) (p:=⟨g,u*3+1,none⟩) (Or.inl rfl) _;have hne:¬x=g:=fun e=>by
  subst e;obtain⟨cur,hc⟩:=C4 hrow rfl;exact AO hc h.bx (by decide) rfl
 have hset:=GH F6 hrow (y':=({z.1 with alive:=false},z.2)) hz (j:=1) (by omega) (u:=.bool false) rfl;have hT:=h.Lp (K:=v.V) (zs:=v.zs.set u ({z.1 with alive:=false},z.2)) (hk.mono (fun k _ e=>Or.inr (by rw[hV,e];rfl))) (hk.at h.bx hne) (by rw[hV,List.length_set];exact hset) (fun y hy=>by
  rcases List.mem_or_eq_of_mem_set hy with q|q
  ·exact h.F7 y q
  ·rw[q];exact h.F7 z (List.mem_of_getElem? hz)) (fun j hj=>Or.inl hj)
 obtain⟨F',hM,hWt⟩:=hT;refine⟨_,{v with V:=v.V,zs:=v.zs.set u ({z.1 with alive:=false},z.2)},F',Kg w x g v.zs.length cap u v.Sn z.1.alive (by omega) (by omega) x7 c1 (hfz _) (fun W hW=>by
  rw[hW];exact hM.LO hs),?_,rfl,rfl,hWt⟩
 have hE:R.Ce G ((u:Int)+1)={G with Ac:=(v.zs.set u ({z.1 with alive:=false},z.2)).map (·.1)}:=by
  unfold R.Ce;rw[DZ hs h1,List.map_set,h.zs,show ((u:Int)+1-1).toNat=u by omega];congr 1;apply List.ext_getElem?;intro j;rw[List.getElem?_modify,List.getElem?_set];have hzs':z.1=s:=hzs;by_cases hj:u=j
  ·subst hj;rw[if_pos rfl,if_pos hul,hsv,hzs'];simp
  ·simp[hj]
 rw[hE];exact hM
theorem OJ{l:List (List UInt8)}{i:Nat}{y:List UInt8}(h:l[i]?=some y):(CP l)[i]?=some (.string (str y)):=by simp[CP,h]
theorem He{l:List Int}{i:Nat}{y:Int}(h:l[i]?=some y):(BI l)[i]?=some (.int .i64 y):=by simp[BI,h]
theorem Ve(w:World)(x:Nat)(S:ByteArray)(H213:Hid (Calls Tryz.prog 216 #[Av x,.string S] w fun e w'=>e=.returned (.int .i64 (-1))/\w'=w)):Calls Tryz.prog 161 #[Av x,.string S] w fun e w'=>e=.returned (.int .i64 10)/\w'=w:=by
 go_enter Tryz.func161,Tryz.ntmps161;go_wp2_with (go_at_call 216;refine(Aa H213).mono ?_;rintro e w1 ⟨rfl,hw1⟩;rw[hw1];clear hw1)
 go_returns;exact⟨rfl,rfl⟩
theorem RW.EA{x:Nat}{v:RV}{F:Ag}{G:R.Wd}{w:World}(h:RW x v F G w)(name:List UInt8):Calls Tryz.prog 161 #[Av x,.string (str name)] w fun e w'=>e=.returned (.int .i64 (R.AU G name).1)/\∃v' F',RW x v' F' (R.AU G name).2 w'/\Ah F F' w w':=by
 have hM:=h.mem;have hwf:=h.wf;have hw2:=hwf.EA name;have hnm6:=hwf.nm;have H213:=hM.entry hnm6 name;unfold R.AU at hw2 ⊢;cases he:R.Bh G name with
 |none=>
  have hI:Cy G.names name=-1:=by rw[hM.Bh,he]
  rw[hI]at H213;refine(Ve w x (str name) (Ab H213)).mono ?_;rintro e w' ⟨rfl,rfl⟩;exact⟨rfl,v,F,h,Ah.refl F _⟩
 |some k=>
  have hI:Cy G.names name=(k:Int):=by rw[hM.Bh,he]
  rw[hI]at H213;simp only[he]at hw2 ⊢;have hkl:=(List.getElem?_eq_some_iff.1 (R.CS he)).1;have hst:k<G.stands.length:=by rw[hwf.st];exact hkl
  have hsg:G.stands[k]?=some (G.stands.getD k 0):=by
   rw[List.getD_eq_getElem?_getD,List.getElem?_eq_getElem hst];rfl
  have hus:=hwf.IC _ (List.mem_of_getElem? hsg);obtain⟨w1,v1,F1,H214,hM1,hvS,hvN,hW1⟩:=hM.Zt h.CF.2.1 hwf.sv hus.1 hus.2;obtain⟨gS,cS,hS,cu,_,_⟩:=hM.GJ hsg 0;have x6:w.cell? ⟨x,6,none⟩=some (.slice (some ⟨gS,0,none⟩) G.stands.length cS):=cell_of hM.bx 6 _ (by rw[<-hS];rfl);have hrowN:=hM1.names;obtain⟨gN,cN,hN⟩:∃gN cN,v1.N=.slice (some ⟨gN,0,none⟩) G.names.length cN:=by
   rcases hrowN.2 with ⟨_,h0⟩|⟨g,cap,cur,hv,_⟩
   ·have:G.names.length=0:=h0;omega
   ·exact⟨g,cap,hv⟩
  rw[hN]at hrowN;have y5:w1.cell? ⟨x,5,none⟩=some (.slice (some ⟨gN,0,none⟩) G.names.length cN):=cell_of hM1.bx 5 _ (by rw[<-hN];rfl);have y6:w1.cell? ⟨x,6,none⟩=some (.slice (some ⟨gS,0,none⟩) G.stands.length cS):=cell_of hM1.bx 6 _ (by rw[<-hS,<-hvS];rfl);have hrowS:=hM1.stands;rw[hvS,hS]at hrowS;rw[hwf.st]at x6 y6;refine(OY w w1 x k (G.stands.getD k 0) (str name) gS cS G.names.length gN cN G.names G.stands (fun w'=>∃v' F',RW x v' F' {R.Ce G (G.stands.getD k 0) with names:=(R.Ce G (G.stands.getD k 0)).names.eraseIdx k,stands:=(R.Ce G (G.stands.getD k 0)).stands.eraseIdx k} w'/\Ah F F' w w') hkl rfl hwf.st hnm6 x6 cu (Ab H213) (Ab H214) y5 y6 (fun o=>open_list hM1.bx) (fun i y hy=>EZ hrowN (OJ hy)) (fun i y hy=>EZ hrowS (He hy)) (fun wr nv sv hB=>?_)).mono ?_
  ·have hx1:w1.heap[x]?=some (.cells (Qr (R.Ce G (G.stands.getD k 0)).c v1).toArray 229 (0,0)):=hM1.bx;have hl:=(Array.getElem?_eq_some_iff.1 hx1).1;have hxr:=(hB.below.block x hl).trans hx1;have b1:=Ap (off:=6) (Ap (off:=5) hxr nv) sv;have hk:Ae (fun j=>j=x) w1 ((wr.setCell ⟨x,5,none⟩ nv).setCell ⟨x,6,none⟩ sv):=((Ae.Aq hB.below (fun j=>j=x)).setCell (p:=⟨x,5,none⟩) (Or.inl rfl) nv).setCell (p:=⟨x,6,none⟩) (Or.inl rfl) sv;have hk2:Ae (fun j=>j=x) wr ((wr.setCell ⟨x,5,none⟩ nv).setCell ⟨x,6,none⟩ sv):=((Ae.refl (fun j=>j=x) wr).setCell (p:=⟨x,5,none⟩) (Or.inl rfl) nv).setCell (p:=⟨x,6,none⟩) (Or.inl rfl) sv;have nx:∀{e:TypeId} {K:Value} {m size:Nat} {xs:List Value},wr.ownsRow w1.heap.size e size K m xs->∀j,K.ownBlock=some j->¬j=x:=fun hr j hj e=>by
    have:=Db hr hj;omega
   obtain⟨v',F',r1,r2⟩:=hM1.rename (nm:=G.names.eraseIdx k) (st:=G.stands.eraseIdx k) hk b1 (hk2.row (Jr hB.n) (nx hB.n)) (hk2.row (Jr hB.s) (nx hB.s)) (fun j hj=>Db hB.n hj) (fun j hj=>Db hB.s hj);refine⟨v',F',r1.whole hw2 ⟨h.CF.1,?_,h.CF.2.2⟩,hW1.trans r2⟩;show (R.Ce G (G.stands.getD k 0)).seen=_;unfold R.Ce;simp only;rw[DZ h.CF.2.1 hus.1];exact h.CF.2.1
  ·rintro e w' ⟨rfl,hp⟩;exact⟨rfl,hp⟩
theorem Sj(k p:Int)(hk:0<=k/\k<=2):(R.E3 k p=none/\MQ k p=16)\/(R.E3 k p=some (Ho k p,Hq k p)/\MQ k p=0/\(0<=p/\p<=1)/\(V.Pt.GX (V.nx (Ho k p)) (Ho k p).size).1=0/\∀v out,V.C8 (Ho k p) v=some out->out.length<=70):=by
 have h5:(k=0/\p=0)\/(k=0/\p=1)\/(k=1/\p=0)\/(k=1/\p=1)\/(k=2/\p=0)\/(¬(k=0/\p=0)/\¬(k=0/\p=1)/\¬(k=1/\p=0)/\¬(k=1/\p=1)/\¬(k=2/\p=0)):=by omega
 rcases h5 with ⟨rfl,rfl⟩|⟨rfl,rfl⟩|⟨rfl,rfl⟩|⟨rfl,rfl⟩|⟨rfl,rfl⟩|⟨n1,n2,n3,n4,n5⟩
 ·exact Or.inr ⟨rfl,rfl,by omega,by decide +kernel,fun v out h=>V.DL h (by decide +kernel) (by decide +kernel) (by decide +kernel) (by decide +kernel) (by decide +kernel)⟩
 ·exact Or.inr ⟨rfl,rfl,by omega,by decide +kernel,fun v out h=>V.DL h (by decide +kernel) (by decide +kernel) (by decide +kernel) (by decide +kernel) (by decide +kernel)⟩
 ·exact Or.inr ⟨rfl,rfl,by omega,by decide +kernel,fun v out h=>V.J5 h (by decide +kernel)⟩
 ·exact Or.inr ⟨rfl,rfl,by omega,by decide +kernel,fun v out h=>V.DL h (by decide +kernel) (by decide +kernel) (by decide +kernel) (by decide +kernel) (by decide +kernel)⟩
 ·exact Or.inr ⟨rfl,rfl,by omega,by decide +kernel,fun v out h=>V.I5 h⟩
 ·refine Or.inl ⟨?_,?_⟩
  ·unfold R.E3;rw[if_neg n1,if_neg n2,if_neg n3,if_neg n4,if_neg n5]
  ·unfold MQ;rw[if_neg (by omega),if_neg n1,if_neg n2,if_neg n3,if_neg n4,if_neg n5]
theorem KH{t:ByteArray}(hc:(V.Pt.GX (V.nx t) t.size).1=0)(hs:∀v out,V.C8 t v=some out->out.length<=70)(v:List V.It):R.Fa t v=V.C8 t v:=by
 have h:=V.NQ t hc v (hs v);unfold R.Fa;cases he:V.C8 t v with
 |none=>
  rw[he]at h;rw[if_neg h]
 |some out=>
  rw[he]at h;simp only at h;rw[h];rfl
theorem O9{W:World}{lb k:Nat}{zl:List (R.Ln×Value)}{l:R.Ln}(l':R.Ln)(hb:W.heap[lb]?=some (.cells (tab K4 zl).toArray 259 (0,0)))(hy:zl[k]?=some (l,.slice none 0 0)):(Vj W lb k l').heap[lb]?=some (.cells (tab K4 (zl.set k (l',.slice none 0 0))).toArray 259 (0,0)):=by
 have hki:=(List.getElem?_eq_some_iff.1 hy).1;have s0:=BH (l1:={l with seq:=l'.seq}) hb hy (j:=0) (u:=.int .i64 l'.seq) (by omega) rfl;have s1:=BH (l1:={l with seq:=l'.seq,state:=l'.state}) s0 (List.getElem?_set_self hki) (j:=1) (u:=.int .i64 l'.state) (by omega) rfl;rw[List.set_set]at s1;have s2:=BH (l1:={l with seq:=l'.seq,state:=l'.state}) s1 (List.getElem?_set_self hki) (j:=2) (u:=.slice none 0 0) (by omega) rfl;rw[List.set_set]at s2;have s3:=BH (l1:={l with seq:=l'.seq,state:=l'.state,uid:=l'.uid}) s2 (List.getElem?_set_self hki) (j:=3) (u:=.int .i64 l'.uid) (by omega) rfl;rw[List.set_set]at s3;have s4:=BH (l1:={l with seq:=l'.seq,state:=l'.state,uid:=l'.uid,to:=l'.to}) s3 (List.getElem?_set_self hki) (j:=4) (u:=.string l'.to) (by omega) rfl;rw[List.set_set]at s4;have s5:=BH (l1:={l with seq:=l'.seq,state:=l'.state,uid:=l'.uid,to:=l'.to,message:=l'.message}) s4 (List.getElem?_set_self hki) (j:=5) (u:=.string (str l'.message)) (by omega) rfl;rw[List.set_set]at s5;have s6:=BH (l1:={l with seq:=l'.seq,state:=l'.state,uid:=l'.uid,to:=l'.to,message:=l'.message,Az:=l'.Az}) s5 (List.getElem?_set_self hki) (j:=6) (u:=.int .i64 l'.Az) (by omega) rfl;rw[List.set_set]at s6;have s7:=BH (l1:={l with seq:=l'.seq,state:=l'.state,uid:=l'.uid,to:=l'.to,message:=l'.message,Az:=l'.Az,came:=l'.came}) s6 (List.getElem?_set_self hki) (j:=7) (u:=.string (str l'.came)) (by omega) rfl;rw[List.set_set]at s7;have s8:=BH (l1:={l with seq:=l'.seq,state:=l'.state,uid:=l'.uid,to:=l'.to,message:=l'.message,Az:=l'.Az,came:=l'.came,pieces:=l'.pieces}) s7 (List.getElem?_set_self hki) (j:=8) (u:=.int .i64 l'.pieces) (by omega) rfl;rw[List.set_set]at s8;have s9:=BH (l1:={l with seq:=l'.seq,state:=l'.state,uid:=l'.uid,to:=l'.to,message:=l'.message,Az:=l'.Az,came:=l'.came,pieces:=l'.pieces,wait:=l'.wait}) s8 (List.getElem?_set_self hki) (j:=9) (u:=.int .i64 l'.wait) (by omega) rfl;rw[List.set_set]at s9;have s10:=BH (l1:=l') s9 (List.getElem?_set_self hki) (j:=10) (u:=.int .i64 l'.tries) (by omega) rfl;rw[List.set_set]at s10;exact s10
theorem MO{W:World}{lb k:Nat}(l':R.Ln):Ae (fun b=>b=lb) W (Vj W lb k l'):=((((((((((BG _).trans (BG _)).trans (BG _)).trans (BG _)).trans (BG _)).trans (BG _)).trans (BG _)).trans (BG _)).trans (BG _)).trans (BG _)).trans (BG _)
end Go.Proofs.YtblomippkddgiaaGreatDoor
