import Derived.Test.YtblomippkddgiaaGreatDoorJ36
set_option maxRecDepth 100000
set_option maxHeartbeats 4000000
namespace Go.Proofs.YtblomippkddgiaaGreatDoor.V
open Go.RowKit
theorem EH{B:Nat}{x:It}{w:World}{T:Value}{k:Nat}(h:Marks B x w T k):Items w T (List.replicate k x):=by
 refine Kk (B:=B) ?_;rw[List.length_replicate];exact h
theorem LQ:∀(L:List Kp) (i:Nat) (k:Kp),L[i]?=some k->∀j,j<7->(Im L)[i*7+j]?=k.cells[j]?
 |[],i,k,h,j,_=>by simp at h
 |y :: L,0,k,h,j,hj=>by
  simp at h;subst h;simp only[Im,Nat.zero_mul,Nat.zero_add];rw[List.getElem?_append_left (by simp[Kp.cells];omega)]
 |y :: L,i+1,k,h,j,hj=>by
  simp only[List.getElem?_cons_succ]at h;simp only[Im];rw[List.getElem?_append_right (by simp[Kp.cells];omega)];rw[show (i+1)*7+j-y.cells.length=i*7+j by simp[Kp.cells];omega];exact LQ L i k h j hj
structure Seen(w:World)(g i:Nat)(la a1 a2 a3:Option Addr)(lc c1 c2 c3 n:Nat)(x0:Int)(x1:ByteArray):Prop where
 e0:w.cell? ⟨g,i*7,none⟩=some (.slice la n lc)
 e1:w.cell? ⟨g,i*7+1,none⟩=some (.slice a1 (n+1) c1)
 e2:w.cell? ⟨g,i*7+2,none⟩=some (.slice a2 (n+2) c2)
 e3:w.cell? ⟨g,i*7+3,none⟩=some (.slice a3 (n+3) c3)
 e4:w.cell? ⟨g,i*7+4,none⟩=some (.int .i64 n)
 e5:w.cell? ⟨g,i*7+5,none⟩=some (.int .i64 x0)
 e6:w.cell? ⟨g,i*7+6,none⟩=some (.string x1)
 small:n<=100000
 s0:∀w',Below w.heap.size w w'->Calls Tryz.prog 103 #[.slice la n lc,.int .i64 n,IK (x0,x1)] w' fun e w''=>e=.returned (.bool true)/\Below w'.heap.size w' w''
 s1:∀w',Below w.heap.size w w'->Calls Tryz.prog 103 #[.slice a1 (n+1) c1,.int .i64 ((n:Int)+1),IK (x0,x1)] w' fun e w''=>e=.returned (.bool true)/\Below w'.heap.size w' w''
 s2:∀w',Below w.heap.size w w'->Calls Tryz.prog 103 #[.slice a2 (n+2) c2,.int .i64 ((n:Int)+2),IK (x0,x1)] w' fun e w''=>e=.returned (.bool true)/\Below w'.heap.size w' w''
 s3:∀w',Below w.heap.size w w'->Calls Tryz.prog 103 #[.slice a3 (n+3) c3,.int .i64 ((n:Int)+3),IK (x0,x1)] w' fun e w''=>e=.returned (.bool true)/\Below w'.heap.size w' w''
theorem Bu{w:World}{B n:Nat}{x:It}{T:Value}(h:Marks B x w T n):∃a c,T=.slice a n c:=by
 rcases h.2 with ⟨hv,h0⟩|⟨g,cap,cur,hv,_⟩
 ·subst h0;exact⟨_,_,hv⟩
 ·exact⟨_,_,hv⟩
theorem V3{w:World}{b:Nat}{L:List Kp}{lv K:Value}(h:Bo b L lv K w){i:Nat}(hi:i<L.length):∃g kc,K=.slice (some ⟨g,0,none⟩) L.length kc/\g<w.heap.size/\∃la a1 a2 a3 lc c1 c2 c3 n x0 x1,Seen w g i la a1 a2 a3 lc c1 c2 c3 n x0 x1:=by
 obtain⟨k,hk⟩:∃k,L[i]?=some k:=⟨_,List.getElem?_eq_getElem hi⟩;have hg:=h.good k (List.mem_of_getElem? hk);have hget:=LQ L i k hk;have hrow:=h.row;rcases hrow.2 with ⟨hv,h0⟩|⟨g,cap,cur,hv,_,hgb,_⟩
 ·omega
 ·subst hv;have hc:=fun j hj u hu=>hrow.cells (g:=g) rfl (i*7+j) u ((hget j hj).trans hu)
  obtain⟨l,g1,g2,g3,n,x⟩:=k;simp only[Kp.lists,List.mem_cons,List.not_mem_nil,or_false,forall_eq_or_imp,forall_eq]at hg;obtain⟨hn,⟨B0,m0⟩,⟨B1,m1⟩,⟨B2,m2⟩,⟨B3,m3⟩⟩:=hg;obtain⟨la,lc,rfl⟩:=Bu m0;obtain⟨a1,c1,rfl⟩:=Bu m1;obtain⟨a2,c2,rfl⟩:=Bu m2;obtain⟨a3,c3,rfl⟩:=Bu m3;refine⟨g,cap,rfl,lt_of_block hgb,la,a1,a2,a3,lc,c1,c2,c3,n,x.1,x.2,?_⟩;simp only[Addr.add_lit,Nat.zero_add]at hc;refine⟨hc 0 (by omega) _ rfl,hc 1 (by omega) _ rfl,hc 2 (by omega) _ rfl,hc 3 (by omega) _ rfl,hc 4 (by omega) _ rfl,hc 5 (by omega) _ rfl,hc 6 (by omega) _ rfl,hn,fun w' hb=>?_,fun w' hb=>?_,fun w' hb=>?_,fun w' hb=>?_⟩
  ·exact F4 w' _ n x ((EH m0).below hb) (by omega)
  ·have:=F4 w' _ (n+1) x ((EH m1).below hb) (by omega)
   rwa [show ((n+1:Nat):Int)=(n:Int)+1 by omega]at this
  ·have:=F4 w' _ (n+2) x ((EH m2).below hb) (by omega)
   rwa [show ((n+2:Nat):Int)=(n:Int)+2 by omega]at this
  ·have:=F4 w' _ (n+3) x ((EH m3).below hb) (by omega)
   rwa [show ((n+3:Nat):Int)=(n:Int)+3 by omega]at this
abbrev Yb(la a1 a2 a3:Option Addr)(lc c1 c2 c3 n:Nat)(x0:Int)(x1:ByteArray):Obj:=.cells #[.slice la n lc,.slice a1 (n+1) c1,.slice a2 (n+2) c2,.slice a3 (n+3) c3,.int .i64 n,.int .i64 x0,.string x1] 178
structure Cpy(w:World)(A:Nat)(la a1 a2 a3:Option Addr)(lc c1 c2 c3 n:Nat)(x0:Int)(x1:ByteArray):Prop where
 l1:w.cell? ⟨A,1,none⟩=some (.slice a1 (n+1) c1)
 l2:w.cell? ⟨A,2,none⟩=some (.slice a2 (n+2) c2)
 l3:w.cell? ⟨A,3,none⟩=some (.slice a3 (n+3) c3)
 l4:w.cell? ⟨A,4,none⟩=some (.int .i64 n)
 l5:w.cell? ⟨A,5,none⟩=some (.int .i64 x0)
 l6:w.cell? ⟨A,6,none⟩=some (.string x1)
theorem NJ{wr w':World}{la a1 a2 a3:Option Addr}{lc c1 c2 c3 n:Nat}{x0:Int}{x1:ByteArray}(hb:Below (wr.heap.size+1) (wr.alloc (Yb la a1 a2 a3 lc c1 c2 c3 n x0 x1)) w'):Cpy w' wr.heap.size la a1 a2 a3 lc c1 c2 c3 n x0 x1:=by
 refine⟨?_,?_,?_,?_,?_,?_⟩<;>exact(hb.cell (by simp)).trans (World.cell?_alloc_new wr _ _ _)
theorem Nx(w:World)(b:Nat)(L:List Kp)(lv K:Value)(hBk:Bo b L lv K w)(hL:L.length<=1000000000000):
  Calls Tryz.prog 56 #[.pointer (some ⟨b,1,none⟩)] w fun e w'=>e=.returned (.bool true)/\Below w.heap.size w w':=by
 obtain⟨ka,kn,kc,hk⟩:=Am hBk.row;subst hk;have hkn:kn=L.length:=by
  rcases hBk.row.2 with ⟨hv,h0⟩|⟨g,cap,cur,hv,_⟩
  ·cases hv;omega
  ·cases hv;rfl
 have HKN:=Ab hkn;rw[<-hkn]at hL;have HBK:=Ab hBk;clear hBk hkn;go_enter Tryz.func56,Tryz.ntmps56;go_wp2;go_loopw [3] (fun iv wr=>∃i:Nat,i<=kn/\iv=.int .i64 i/\Below w.heap.size w wr) (fun iv _=>kn-(intOf iv).toNat)
 case atStart=>exact⟨0,Nat.zero_le _,rfl,Below.refl _ _⟩
 case round=>
  obtain⟨i,hi,rfl,hb⟩:=hrel;have hbk:=(Aa HBK).below hb;have hbc:wr.cell? ⟨b,1,none⟩=some (.slice ka kn kc):=by simp[World.cell?,hbk.cell]
  by_cases hlt:i<kn
  ·obtain⟨g,kc',hK,hgl,la,a1,a2,a3,lc,c1,c2,c3,n,x0,x1,hS⟩:=V3 hbk (i:=i) (by rw[<-Aa HKN];exact hlt);obtain rfl:ka=some ⟨g,0,none⟩:=by injection hK
   obtain⟨e0,e1,e2,e3,e4,e5,e6,hn,s0,s1,s2,s3⟩:=hS;have S0:=Ab s0;have S1:=Ab s1;have S2:=Ab s2;have S3:=Ab s3;have HB:=Ab hb;clear hbk hK s0 s1 s2 s3 hb;go_wp2_with fail
   have b0:Below wr.heap.size wr (wr.alloc (Yb la a1 a2 a3 lc c1 c2 c3 n x0 x1)):=(Below.refl _ _).alloc (Nat.le_refl _) _;have hz:(wr.alloc (Yb la a1 a2 a3 lc c1 c2 c3 n x0 x1)).heap.size=wr.heap.size+1:=by simp
   refine((Aa S0) _ b0).mono ?_;rintro e w1 ⟨rfl,d1⟩;rw[hz]at d1;have b1:=b0.trans (d1.mono (by omega));obtain⟨p1,p2,p3,p4,p5,p6⟩:=NJ d1;have B1:=Ab b1;have D1:=Ab d1;clear b0 b1 d1 hz;go_wp2_with fail
   refine((Aa S1) _ (Aa B1)).mono ?_;rintro e w2 ⟨rfl,d2⟩;have D2:=Ab ((Aa D1).trans (d2.mono (by have:=(Aa D1).size;simpa using this)));have B2:=Ab ((Aa B1).trans (d2.mono (Aa B1).size));obtain⟨q1,q2,q3,q4,q5,q6⟩:=NJ (Aa D2);clear d2 p1 p2 p3 p4 p5 p6;go_wp2_with fail
   refine((Aa S2) _ (Aa B2)).mono ?_;rintro e w3 ⟨rfl,d3⟩;have D3:=Ab ((Aa D2).trans (d3.mono (by have:=(Aa D2).size;simpa using this)));have B3:=Ab ((Aa B2).trans (d3.mono (Aa B2).size));obtain⟨r1,r2,r3,r4,r5,r6⟩:=NJ (Aa D3);clear d3 q1 q2 q3 q4 q5 q6;go_wp2_with fail
   refine((Aa S3) _ (Aa B3)).mono ?_;rintro e w4 ⟨rfl,d4⟩;have B4:=Ab ((Aa B3).trans (d4.mono (Aa B3).size));clear d4 r1 r2 r3 r4 r5 r6;go_wp2;go_roundw
   case rel=>exact⟨i+1,by omega,by go_num,(Aa HB).trans ((Aa B4).mono (Aa HB).size)⟩
   case measure=>simp[intOf];omega
  ·have HB:=Ab hb;clear hb hbk;go_wp2
   go_ret
   exact⟨rfl,Aa HB⟩
end Go.Proofs.YtblomippkddgiaaGreatDoor.V
namespace Go.Proofs.YtblomippkddgiaaGreatDoor
open Go.RowKit
theorem Zn:∀args w,(callFunc 154 args).run Tryz.prog w=.ok (.enter 154 args) w:=fun _ _=>rfl
theorem Sq(w W1:World)(b:Nat)(t:Tw)(o:EM)(hk:o.kind=12)(st sq er:Int)(ua:Option Addr)(un uc:Nat)(Q1:Option Addr->Nat->Nat->World->Prop)(Q4:World->Prop)(hW1:(w.alloc (.cells #[ptr t.p.x,Av t.x] 109)).alloc (.cells o.cells 72)=W1)(hx:Bx w.heap.size t o W1)(hbl:b<w.heap.size)
  (H1:Hid (Calls Tryz.prog 16 #[ptr t.p.x,.int .i64 o.a,.int .i64 o.b] W1 fun e w'=>∃oa on oc,e=.returned (.tuple #[.agg #[.int .i64 st,.int .i64 sq,.slice oa on oc],.int .i64 er])/\Below W1.heap.size W1 w'/\Q1 oa on oc w'))
  (H2:Hid (∀oa on oc w1 w',Q1 oa on oc w1->Below w1.heap.size w1 w'->Calls Tryz.prog 164 #[Av t.x,.int .i64 o.a,.int .i64 o.b] w' fun e w''=>e=.returned (.tuple #[.agg #[.int .i64 st,.int .i64 sq,.slice ua un uc],.int .i64 er])/\Below w'.heap.size w' w''))
  (H3:Hid (∀oa on oc w1 w',Q1 oa on oc w1->Below w1.heap.size w1 w'->Calls Tryz.prog 153 #[.slice oa on oc,.slice ua un uc] w' fun e w''=>e=.returned (.bool true)/\Below w'.heap.size w' w''))
  (H4:Hid (∀oa on oc w1 w',Q1 oa on oc w1->Below w1.heap.size w1 w'->Calls Tryz.prog 154 #[.pointer (some ⟨b,1,none⟩),.slice oa on oc] w' fun e w''=>e=.returned (.tuple #[])/\(∀k,w1.heap.size<=k->k<w'.heap.size->w''.heap[k]?=w'.heap[k]?)/\Q4 w'')):
  Calls Tryz.prog 96 #[ptr b,t.val,o.val] w fun e w'=>e=.returned (.bool true)/\Q4 w':=by
 have HW1:=Ab hW1;have lw1:=lt_of_block hx.t;have lw2:=lt_of_block hx.o;have c0:W1.cell? ⟨w.heap.size,0,none⟩=some (ptr t.p.x):=cell_of hx.t 0 _ rfl;have k11:(o.kind==11)=false:=by rw[hk];rfl
 have d2:W1.cell? ⟨w.heap.size+1,2,none⟩=some (.int .i64 o.a):=cell_of hx.o 2 _ rfl;have d3:W1.cell? ⟨w.heap.size+1,3,none⟩=some (.int .i64 o.b):=cell_of hx.o 3 _ rfl;have HX:=Ab hx;clear hW1 hx hk;go_enter Tryz.func96,Tryz.ntmps96;go_wp2_with fail
 rw[Aa HW1];refine(Aa H1).mono ?_;rintro e w2 ⟨oa,on,oc,rfl,hb2,q1⟩;have hy:Bx w.heap.size t o w2:=⟨(hb2.block _ (lt_of_block (Aa HX).t)).trans (Aa HX).t,(hb2.block _ (lt_of_block (Aa HX).o)).trans (Aa HX).o⟩;have l1:=lt_of_block hy.t;have l2:=lt_of_block hy.o;have e1:w2.cell? ⟨w.heap.size,1,none⟩=some (Av t.x):=cell_of hy.t 1 _ rfl;have e2:w2.cell? ⟨w.heap.size+1,2,none⟩=some (.int .i64 o.a):=cell_of hy.o 2 _ rfl;have e3:w2.cell? ⟨w.heap.size+1,3,none⟩=some (.int .i64 o.b):=cell_of hy.o 3 _ rfl;have lb2:b<w2.heap.size:=by omega
 have G2:=Ab ((Aa H2) oa on oc w2);have G3:=Ab ((Aa H3) oa on oc w2);have G4:=Ab ((Aa H4) oa on oc w2);have HQ1:=Ab q1;clear hy q1 hb2 H1 H2 H3 H4 c0 d2 d3 HX;go_wp2_with fail
 have bS:Below w2.heap.size w2 (w2.alloc (.cells #[.int .i64 st,.int .i64 sq,.slice oa on oc] 46)):=(Below.refl _ _).alloc (Nat.le_refl _) _;have hS:=heap_alloc_new w2 (.cells #[.int .i64 st,.int .i64 sq,.slice oa on oc] 46);obtain⟨W3,hW3⟩:∃W3,w2.alloc (.cells #[.int .i64 st,.int .i64 sq,.slice oa on oc] 46)=W3:=⟨_,rfl⟩;rw[hW3]at bS hS ⊢;refine((Aa G2) W3 (Aa HQ1) bS).mono ?_;rintro e w4 ⟨rfl,hb4⟩;have hS4:=(hb4.block _ (lt_of_block hS)).trans hS;have bT:=bS.trans (hb4.mono bS.size);have s2:w4.cell? ⟨w2.heap.size,2,none⟩=some (.slice oa on oc):=cell_of hS4 2 _ rfl;have ls:=lt_of_block hS4;have HS4:=Ab hS4;have BT:=Ab bT;clear hW3 bS hS hb4 hS4 bT e1 e2 e3 l1 l2 G2;go_wp2_with fail
 have bU:Below w4.heap.size w4 (w4.alloc (.cells #[.int .i64 st,.int .i64 sq,.slice ua un uc] 46)):=(Below.refl _ _).alloc (Nat.le_refl _) _;have hU:=heap_alloc_new w4 (.cells #[.int .i64 st,.int .i64 sq,.slice ua un uc] 46);obtain⟨W5,hW5⟩:∃W5,w4.alloc (.cells #[.int .i64 st,.int .i64 sq,.slice ua un uc] 46)=W5:=⟨_,rfl⟩;rw[hW5]at bU hU ⊢;have bV:=(Aa BT).trans (bU.mono (Aa BT).size);refine((Aa G3) W5 (Aa HQ1) bV).mono ?_;rintro e w6 ⟨rfl,hb6⟩;have hS6:=(hb6.block _ (Nat.lt_of_lt_of_le ls bU.size)).trans ((bU.block _ ls).trans (Aa HS4));have hU6:=(hb6.block _ (lt_of_block hU)).trans hU;have bW:=bV.trans (hb6.mono bV.size);have s2:w6.cell? ⟨w2.heap.size,2,none⟩=some (.slice oa on oc):=cell_of hS6 2 _ rfl;have l6:=lt_of_block hS6;have l7:=lt_of_block hU6;have lbb:b<w6.heap.size:=Nat.lt_of_lt_of_le lb2 bW.size;have HS6:=Ab hS6;have HU6:=Ab hU6;have G5:=Ab ((Aa G4) w6.drew (Aa HQ1) bW.drew);have hle:w2.heap.size<=w4.heap.size:=(Aa BT).size;clear hW5 bU hU bV hb6 hS6 hU6 bW G3 G4 HS4 BT HQ1;go_wp2_with fail
 go_region_law (refine CV rfl 154 #[.tmp 98,.tmp 100] #[67,44] rfl Zn #[.pointer (some ⟨b,1,none⟩),.slice oa on oc] rfl _ (Aa G5) ?_;rintro e w7 ⟨rfl,hkp,q4⟩;have t0:=(hkp w2.heap.size (Nat.le_refl _) l6).trans (Aa HS6);have t1:=(hkp w4.heap.size hle l7).trans (Aa HU6);have HQ4:=Ab q4;clear hkp q4;refine⟨_,rfl,?_⟩)
 have a0:w7.cell? ⟨w2.heap.size,0,none⟩=some (.int .i64 st):=cell_of t0 0 _ rfl;have a1:w7.cell? ⟨w2.heap.size,1,none⟩=some (.int .i64 sq):=cell_of t0 1 _ rfl;have b0:w7.cell? ⟨w4.heap.size,0,none⟩=some (.int .i64 st):=cell_of t1 0 _ rfl;have b1:w7.cell? ⟨w4.heap.size,1,none⟩=some (.int .i64 sq):=cell_of t1 1 _ rfl;have la:=lt_of_block t0;have lb':=lt_of_block t1;have HNUM:=Ab Dt;clear t0 t1;go_wp2_with fail
 refine((Aa HNUM) _ _).mono ?_;rintro e w8 ⟨rfl,hw8⟩;rw[hw8];clear hw8 w8;go_wp2;go_returns;exact⟨rfl,Aa HQ4⟩
theorem RW.res{x:Nat}{v:RV}{F:Ag}{G:R.Wd}{w:World}(h:RW x v F G w):∀(i:Nat) (c:R.Cl) (k:Nat) (l:R.Ln),G.Ad[i]?=some c->c.lines[k]?=some l->l.result=[]:=fun i c k l hc hl=>by
 obtain⟨z,hz,rfl⟩:=Ei h.zc hc;obtain⟨zl,h1,_,h3⟩:=h.ln i z hz;obtain⟨y,hy,rfl⟩:=Ei h1 hl;exact(h3 y (List.mem_of_getElem? hy)).1
theorem RW.Xp{x:Nat}{v:RV}{F:Ag}{G:R.Wd}{w:World}(h:RW x v F G w)(cl li:Int):(R.Df G cl li).2.2.1=[]:=by
 unfold R.Df;split
 ·rfl
 split
 ·rfl
 ·show (R.Da G cl li).result=[];unfold R.Da;cases hc:G.Ad[cl.toNat]? with
  |none=>rfl
  |some c=>
   cases hl:c.lines[li.toNat]? with
   |none=>simp[hl];rfl
   |some l=>
    simp[hl];exact h.res _ c _ l hc hl
theorem JP{w0:World}{z:Nat->Option Obj}{b N:Nat}{Ts:List Tw}{L:List V.Kp}{lv K:Value}{w:World}(h:Hn w0 z b N Ts L lv K w){i:Nat}{t:Tw}(hi:Ts[i]?=some t)(o:EM)(hk:o.kind=12)(hL:L.length<=1000000000000):
  Calls Tryz.prog 96 #[ptr b,t.val,o.val] w fun e w'=>e=.returned (.bool true)/\∃L' K',Hn w0 z b N Ts L' lv K' w'/\L'.length=L.length+1:=by
 have hm:=List.mem_of_getElem? hi;obtain⟨W1,hW1,hb1,hx,hT,hoff⟩:=Dp (h.tw t hm) o;have h1:=h.below hb1;have hres:=hT.r.Xp o.a o.b;have hbF:∀j,V.Iu b L K j->j<W1.heap.size:=fun j hj=>h1.lt j (Or.inl hj)
 refine(Sq w W1 b t o hk (R.Df t.G o.a o.b).1 (R.Df t.G o.a o.b).2.1 (R.Df t.G o.a o.b).2.2.2 none 0 0 (fun oa on oc w2=>Below W1.heap.size W1 w2/\w2.ownsRow W1.heap.size 106 2 (.slice oa on oc) 0 (V.flat []))
  (fun w'=>∃L' K',Hn w0 z b N Ts L' lv K' w'/\L'.length=L.length+1) hW1 hx (lt_of_block h.bo.cell) ?_ ?_ ?_ ?_)
 ·refine(hT.l.status (fun i c k l hc hl=>by rw[hT.r.res i c k l hc hl];simp) o.a o.b).mono ?_;rintro e w2 ⟨⟨O,rfl,hR⟩,hb2⟩;rw[hres]at hR;obtain⟨oa,on,oc,hO⟩:=Am hR;subst hO;exact⟨oa,on,oc,rfl,hb2,hb2,hR⟩
 ·rintro oa on oc w1 w' ⟨hb2,_⟩ hb;have hr:=hT.r.below (hb2.trans (hb.mono hb2.size));exact hr.status o.a o.b
 ·rintro oa on oc w1 w' ⟨_,hR⟩ hb;exact V.Vg w' _ _ [] (V.Kk (Be hR hb)) ⟨none,0,rfl,Nat.le_refl _,Or.inl rfl⟩ (by simp)
 ·rintro oa on oc w1 w' ⟨hb2,hR⟩ hb;have hb3:=hb2.trans (hb.mono hb2.size);have hO:=hR.lt;refine(V.QK W1 w' b L lv K _ [] (h1.bo.below hb3) hb3 (Be hR hb) hL (by simp) hbF).mono ?_;rintro e w'' ⟨rfl,K',k,hB,hw⟩;refine⟨rfl,fun q hq1 hq2=>hw.keeps.block q hq2 (fun f=>?_),L++[k],K',(h1.below hb3).took (fun j hj=>?_) hB hw,by simp⟩
  ·have:=hb2.size;rcases f with f|f
   ·have:=hbF q f;omega
   ·have:=(hO q f).2;omega
  ·have h2:=(hO j hj).1;exact⟨Nat.le_trans h1.Ix.size h2,h1.free j h2,fun e=>by have:=h1.lt j (Or.inr (Or.inl e));omega,fun s hs f=>by have:=h1.lt j (Or.inr (Or.inr ⟨s,hs,f⟩));omega⟩
theorem JD{α:Type}{f:α->List Value}{n:Nat}(hf:∀x,(f x).length=n):∀(xs:List α) (k:Nat),(tab f xs).take (k*n)=tab f (xs.take k)
 |[],k=>by simp[tab]
 |x :: xs,0=>by simp[tab]
 |x :: xs,k+1=>by
  have ih:=JD hf xs k;simp only[tab,List.flatMap_cons,List.take_succ_cons]at ih ⊢;rw[Nat.succ_mul,Nat.add_comm,<-hf x,List.take_length_add_append,hf x,ih]
theorem JC{α:Type}{f:α->List Value}{n:Nat}(hf:∀x,(f x).length=n):∀(xs:List α) (k:Nat),(tab f xs).drop (k*n)=tab f (xs.drop k)
 |[],k=>by simp[tab]
 |x :: xs,0=>by simp[tab]
 |x :: xs,k+1=>by
  have ih:=JC hf xs k;simp only[tab,List.flatMap_cons,List.drop_succ_cons]at ih ⊢;rw[Nat.succ_mul,Nat.add_comm,<-hf x,List.drop_length_add_append,hf x,ih]
theorem JB{α:Type}(f:α->List Value)(xs ys:List α):tab f (xs++ys)=tab f xs++tab f ys:=by simp[tab]
theorem Kq{w:World}{g:Nat}{cur cs:Array Value}{e:TypeId}(h:w.heap[g]?=some (.cells cur e (0,0))):(w.setRow g cs).heap[g]?=some (.cells cs e (0,0)):=by
 simp[World.setRow,Array.getElem?_modify,h]
theorem GI(w:World)(g:Nat)(cs:Array Value):Ae (fun k=>k=g) w (w.setRow g cs):=by
 refine⟨rfl,rfl,rfl,by simp[World.setRow],fun k _ hn=>?_⟩;simp only[World.setRow,Array.getElem?_modify];rw[if_neg (fun e=>hn e.symm)]
theorem Sz{α:Type}{f:α->List Value}{n:Nat}(hf:∀x,(f x).length=n)(xs:List α)(i:Nat):tab f (xs.eraseIdx i)=(tab f xs).take (i*n)++(tab f xs).drop ((i+1)*n):=by
 rw[List.eraseIdx_eq_take_drop_succ,JB,JD hf,JC hf]
theorem TK{L T Z:List Value}{n cap k i:Nat}(hk:0<k)(hL:L.length=cap*k)(hn:n<=cap)(hT:L.take (n*k)=T)(hi:i<n)(hZ:Z.length=k):
  let C1:=L.take (i*k)++T.drop ((i+1)*k)++L.drop (i*k+(T.drop ((i+1)*k)).length)
  let C2:=C1.take ((n-1)*k)++Z++C1.drop ((n-1)*k+k)
  C1.length=cap*k/\C2.length=cap*k/\C2.take ((n-1)*k)=T.take (i*k)++T.drop ((i+1)*k)/\T.length=n*k/\(T.drop ((i+1)*k)).length=(n-(i+1))*k:=by
 have hnk:n*k<=cap*k:=Nat.mul_le_mul_right _ hn;have hTl:T.length=n*k:=by rw[<-hT,List.length_take];omega
 have hik:(i+1)*k<=n*k:=Nat.mul_le_mul_right _ hi;have hik':(i+1)*k=i*k+k:=Nat.succ_mul i k;have hnk':(n-1)*k+k=n*k:=by rw[<-Nat.succ_mul];congr 1;omega
 have hd:(T.drop ((i+1)*k)).length=(n-(i+1))*k:=by rw[List.length_drop,hTl,Nat.sub_mul]
 have hd':(n-(i+1))*k=n*k-(i+1)*k:=Nat.sub_mul _ _ _;have hti:T.take (i*k)=L.take (i*k):=by rw[<-hT,List.take_take,Nat.min_eq_left (by omega)]
 intro C1 C2;have hC1:C1.length=cap*k:=by
  simp only[C1,List.length_append,List.length_take,List.length_drop,hL,hd]at *;omega
 have hhead:C1.take ((n-1)*k)=L.take (i*k)++T.drop ((i+1)*k):=by
  simp only[C1];rw[List.take_append_of_le_length (by rw[List.length_append,List.length_take,hd,hL];omega)];apply List.take_of_length_le;rw[List.length_append,List.length_take,hd,hL];omega
 refine⟨hC1,?_,?_,hTl,hd⟩
 ·simp only[C2,List.length_append,List.length_take,List.length_drop,hC1,hZ];omega
 ·simp only[C2];rw[List.append_assoc,List.take_append_of_le_length (by rw[List.length_take,hC1];omega),List.take_take,Nat.min_self,hhead,hti]
theorem Ft{P:Program}{ops:Array Oper}{o:Oper}{a:Act}{w:World}{K:Act->World->Prop}{Q:Exit->Act->World->Prop}{E:Prop}(hgd:o.guard=none)(s x:Operand)(t:TypeId)
  (ho:o.op=.call {callee:=.builtin .append,args:=#[s,x],argTypes:=#[t,t]}) (v xv v':Value) (w':World) (hs:a.eval s=v) (hx:a.eval x=xv)
  (hr:(Builtin.append_ #[t,t] o.type #[v,xv]).run P w=.ok v' w') (h:K (a.put o.dst v') w'):if Region.wanted o (yielded ops a.tmps)=true then Oper.wp P o a w K Q else E:=by
 have hw:Region.wanted o (yielded ops a.tmps)=true:=by simp[Region.wanted,hgd]
 rw[if_pos hw];unfold Oper.wp;simp[execOp,ho,resolve,invoke,builtin,hs,hx,hr,Result.andThen];exact h
theorem JR{w:World}{g off:Nat}{cur:Array Value}{t e ty:TypeId}{z:Value}(ht:Tryz.prog.underlying t=some (.slice e))(hv:∀w,(zeroValue e).run Tryz.prog w=.ok z w)(h1:∀u∈z.cells.toList,u.oneCell'=true)(hg:w.heap[g]?=some (.cells cur e (0,0)))(hfit:off+z.cells.size<=cur.size)(c:Nat):
  (Builtin.clear_ #[t] ty #[.slice (some ⟨g,off,none⟩) 1 c]).run Tryz.prog w=.ok (.tuple #[]) (w.setRow g (cur.toList.take off++z.cells.toList++cur.toList.drop (off+z.cells.size)).toArray):=by
 have hzc:(Builtin.zeroCells z.cells 1).toList=z.cells.toList:=by
  apply List.ext_getElem
  ·simp[Builtin.zeroCells]
  ·intro i h1 h2;have:i<z.cells.size:=by simpa using h2
   simp[Builtin.zeroCells,Nat.mod_eq_of_lt this,getElem!_pos,this]
 have hst:=run_storeCells_at Tryz.prog g off e z.cells.toList 0 cur w hg (by simpa using hfit) h1;simp only[Nat.add_zero]at hst;simp[Builtin.clear_,run_underlying ht,hv,hzc,hst]
theorem XC(w:World):(zeroValue 122).run Tryz.prog w=.ok (.agg #[.int .i64 0,.string ⟨#[]⟩,.bool false]) w:=by kernel_rfl
theorem Ws{fl:List R.Fl}:∀u∈tab A8 fl,u.oneCell'=true:=by
 intro u hu;obtain⟨f,_,hf⟩:=List.mem_flatMap.1 hu;simp[A8]at hf;rcases hf with rfl|rfl|rfl<;>rfl
abbrev zfl:List Value:=[.int .i64 0,.string ⟨#[]⟩,.bool false]
theorem Wc(w:World)(g n cap i:Nat)(cur:Array Value)(fl:List R.Fl)(hg:w.heap[g]?=some (.cells cur 122 (0,0)))(hn:n=fl.length)(hcap:n<=cap)(hm:cap<=maxLen)(hsz:cur.size=cap*3)(htk:cur.toList.take (n*3)=tab A8 fl)(hi:i<n):
  Calls Tryz.prog 84 #[.slice (some ⟨g,0,none⟩) n cap,.int .i64 (i:Int),.int .i64 ((i:Int)+1)] w fun e w'=>e=.returned (.slice (some ⟨g,0,none⟩) (n-1) cap)/\(∃cur':Array Value,w'.heap[g]?=some (.cells cur' 122 (0,0))/\cur'.size=cap*3/\cur'.toList.take ((n-1)*3)=tab A8 (fl.eraseIdx i))/\Ae (fun k=>k=g) w w':=by
 obtain⟨i0,hi0,hz0,hz1,hz2⟩:=info_parts N7;have hrows:=TK (Z:=zfl) (k:=3) (by decide) (by rw[Array.length_toList];exact hsz) hcap htk hi rfl;obtain⟨r1,r2,r3,r4,r5⟩:=hrows;rw[<-Sz Cq]at r3;obtain⟨NW,hNW⟩:∃NW,NW=(tab A8 fl).drop ((i+1)*3):=⟨_,rfl⟩;rw[<-hNW]at r1 r2 r3 r5;obtain⟨C1,hC1⟩:∃C1,C1=cur.toList.take (i*3)++NW++cur.toList.drop (i*3+NW.length):=⟨_,rfl⟩;rw[<-hC1]at r1 r2 r3;obtain⟨W1,hW1⟩:∃W1,W1=w.drew.setRow g C1.toArray:=⟨_,rfl⟩;have g1:W1.heap[g]?=some (.cells C1.toArray 122 (0,0)):=by rw[hW1];exact Kq (w:=w.drew) hg
 obtain⟨W2,hW2⟩:∃W2,W2=W1.setRow g (C1.take ((n-1)*3)++zfl++C1.drop ((n-1)*3+3)).toArray:=⟨_,rfl⟩;have g2:W2.heap[g]?=some (.cells (C1.take ((n-1)*3)++zfl++C1.drop ((n-1)*3+3)).toArray 122 (0,0)):=by rw[hW2];exact Kq g1
 have HK:Hid (Ae (fun k=>k=g) w W2):=by
  rw[hW2,hW1];have k0:Ae (fun k=>k=g) w w.drew:=(Ae.refl _ w).drew;exact(k0.trans (GI _ _ _)).trans (GI _ _ _)
 have HEND:Hid (∃cur':Array Value,W2.heap[g]?=some (.cells cur' 122 (0,0))/\cur'.size=cap*3/\cur'.toList.take ((n-1)*3)=tab A8 (fl.eraseIdx i)):=⟨_,g2,by simpa using r2,by simpa using r3⟩;have hsrc:∀j u,NW[j]?=some u->w.drew.cell? ((⟨g,(i+1)*3,none⟩:Addr).add j)=some u:=fun j u hj=>by
  rw[hNW,List.getElem?_drop,<-htk,List.getElem?_take]at hj;split at hj
  ·rw[Addr.add_lit];have:w.drew.heap[g]?=some (.cells cur 122 (0,0)):=hg;simp[World.cell?,this];simpa using hj
  ·cases hj
 have happ:∀c,(Builtin.append_ #[111,111] 111 #[.slice (some ⟨g,0,none⟩) i cap,.slice (some ⟨g,(i+1)*3,none⟩) (n-(i+1)) c]).run Tryz.prog w.drew=.ok (.slice (some ⟨g,0,none⟩) (n-1) cap) W1:=fun c=>by
  have h:=run_append_room (P:=Tryz.prog) w.drew 111 111 122 i0 Tryz.underlying111 hi0 g i cap cur hg ⟨g,(i+1)*3,none⟩ (n-(i+1)) c NW (by rw[r5,hz1]) hsrc (fun u hu=>Ws u (List.mem_of_mem_drop (hNW ▸ hu))) (by omega) (by rw[hz1,r5,hsz];omega);rw[hz1]at h;rw[h,hW1,hC1,show i+(n-(i+1))=n-1 by omega]
 have happ0:i+1=n->∀a c,(Builtin.append_ #[111,111] 111 #[.slice (some ⟨g,0,none⟩) i cap,.slice (some a) 0 c]).run Tryz.prog w.drew=.ok (.slice (some ⟨g,0,none⟩) (n-1) cap) W1:=fun he a c=>by
  have hN0:NW=[]:=List.length_eq_zero_iff.1 (by rw[r5,show n-(i+1)=0 by omega]);have h:=run_append_room (P:=Tryz.prog) w.drew 111 111 122 i0 Tryz.underlying111 hi0 g i cap cur hg a 0 c [] (by simp) (by simp) (by simp) (by omega) (by rw[hz1,hsz];simp;omega);rw[hz1]at h;rw[h,hW1,hC1,hN0,show i+0=n-1 by omega]
 have hclr:∀ty c,(Builtin.clear_ #[111] ty #[.slice (some ⟨g,(n-1)*3,none⟩) 1 c]).run Tryz.prog W1=.ok (.tuple #[]) W2:=fun ty c=>by
  have h:=JR (ty:=ty) (off:=(n-1)*3) Tryz.underlying111 XC (by simp[Value.cells,Value.oneCell']) g1 (by simp[Value.cells,r1];omega) c;rw[h,hW2];simp[Value.cells]
 unfold maxLen at hm;clear hNW hC1 hW1 hW2 g1 g2 r1 r2 r3 r4 r5 hsrc hg htk hsz hn;have q1:((i:Int)==(i:Int)+1)=false:=by simp;omega
 obtain⟨m,rfl⟩:∃m,n=m+1:=⟨n-1,by omega⟩;simp only[Nat.add_sub_cancel,Nat.add_sub_add_right]at happ happ0 hclr HEND ⊢;have hm1:m+1-m=1:=by omega
 have HA:=Ab happ;have HA0:=Ab happ0;have HC:=Ab hclr;clear happ happ0 hclr;have HE:Hid (∃cur':Array Value,W2.heap[g]?=some (.cells cur' 122 (0,0))/\cur'.size=cap*3/\cur'.toList.take (m*3)=tab A8 (fl.eraseIdx i)):=HEND;clear HEND;have b1:(i:Int)+1<=((m+1:Nat):Int):=by omega
 have b2:((m+1:Nat):Int)<=(cap:Int):=by omega
 have b3:(i:Int)<=(cap:Int):=by omega
 have b4:(0:Int)<=(i:Int)+1:=by omega
 by_cases hcp:i+1=cap
 ·have him:i=m:=by omega
  subst him;subst hcp;have b7:(i:Int)<=(i:Int)+1:=by omega
  have b8:i<=i+1:=by omega
  have HA1:=Ab ((Aa HA0) rfl ⟨g,0,none⟩ 0);clear HA0 HA;go_enter Tryz.func84,Tryz.ntmps84;go_wp2;go_region_law (refine Ft rfl (.tmp 22) (.tmp 25) 111 rfl (.slice (some ⟨g,0,none⟩) i (i+1)) (.slice (some ⟨g,0,none⟩) 0 0) (.slice (some ⟨g,0,none⟩) i (i+1)) W1 rfl rfl (Aa HA1) ?_)
  all_goals
   have hclr:=(Aa HC);go_wp2
   go_ret
   exact⟨rfl,Aa HE,Aa HK⟩
 ·have b5:i<=m:=by omega
  have b6:¬cap=i+1:=by omega
  go_enter Tryz.func84,Tryz.ntmps84;go_wp2;go_region_law (refine Ft rfl (.tmp 22) (.tmp 25) 111 rfl (.slice (some ⟨g,0,none⟩) i cap) (.slice (some ⟨g,(i+1)*3,none⟩) (m-i) (cap-(i+1))) (.slice (some ⟨g,0,none⟩) m cap) W1 rfl rfl ((Aa HA) _) ?_)
  all_goals
   have hclr:=(Aa HC);go_wp2
   go_ret
   exact⟨rfl,Aa HE,Aa HK⟩
end Go.Proofs.YtblomippkddgiaaGreatDoor
