import Derived.Test.YtblomippkddgiaaGreatDoorJ03
set_option maxRecDepth 100000
set_option maxHeartbeats 1000000
namespace Go.Proofs.YtblomippkddgiaaGreatDoor.V
open Go.RowKit
theorem Yg(k L c r:Nat)(R:List Want)(gb cap:Nat)(w:World)(hr:R.length=r)(hR:r<=1000)(hcap:r+1<=cap)(hgl:gb<w.heap.size)(hcl:∀j u,(Aj R)[j]?=some u->w.cell? ((⟨gb,0,none⟩:Addr).add j)=some u)
  (f0:w.cell? ⟨gb,r*3,none⟩=some (.int .i64 1)) (f1:w.cell? ⟨gb,r*3+1,none⟩=some (.int .i64 k)) (f2:w.cell? ⟨gb,r*3+2,none⟩=some (.int .i64 L)) (t:Bool) (l:List Want) (hl:l.length<=2) (HB:∀w,Calls Tryz.prog 238 #[.int .u8 c,.int .i64 L] w fun e w'=>∃v,e=.returned (.tuple #[v,.bool t])/\Below w.heap.size w w'/\Ea w' w.heap.size v l):
  Calls Tryz.prog 205 #[.slice (some ⟨gb,0,none⟩) (r+1) cap,.int .u8 c] w fun e w'=>∃v,e=.returned (.tuple #[v,.bool t])/\Below w.heap.size w w'/\Ea w' w.heap.size v (l++R):=by
 have HBB:=Ab HB;clear HB;have HRR:=Ab hr;have HN:Hid (∀(o:Obj) (j:Nat) (u:Value),(Aj R)[j]?=some u->(w.alloc o).cell? ((⟨gb,0,none⟩:Addr).add j)=some u):=fun o j u hj=>(World.cell?_of_block (w:=w) (Below.heap_alloc _ _ _ (by rw[add_block];exact hgl))).trans (hcl j u hj)
 clear hcl hr;obtain⟨i0,hi,hz0,hz1,hz2⟩:=info_parts EP;go_enter Tryz.func205,Tryz.ntmps205;go_wp2_with (at_builtin;refine wpList_append_own_at _ rfl (.tmp 19) (.tmp 24) 294 rfl (w.heap.size+1) 293 i0 (.agg #[.int .i64 0,.int .i64 0,.int .i64 0]) 3 24 Tryz.underlying294 hi hz0 hz1 hz2 rfl (by decide) _ 0 [] rfl (World.ownsRow_nil _ _ _ _) ⟨gb,0,none⟩ r cap (Aj R) rfl (by rw[<-Aa HRR];exact Ba R) (Aa HN _) (BA R) (by unfold maxLen;omega) (by omega) (by simp) ?_)
 intro v1 w1 hown hgrow _ _;obtain⟨t0,t1,t2,y0,y1,y2⟩:=(Tw.new w (.int .i64 1) (.int .i64 k) (.int .i64 L)).facts;have b0:=hgrow.cell t0 (by simp[Value.ownBlock]);have b1:=hgrow.cell t1 (by simp[Value.ownBlock]);have b2:=hgrow.cell t2 (by simp[Value.ownBlock]);have hb1:Below w.heap.size w w1:=below_grown hgrow;have s1:w.heap.size+1<=w1.heap.size:=by have:=hgrow.size;simpa using this
 have hown:w1.ownsRow (w.heap.size+1) 293 3 v1 r (Aj R):=by simpa using hown
 have z1:w1.frozen? ⟨w.heap.size,1,none⟩=false:=(World.frozen?_of_block (w:=w.alloc (.cells #[.int .i64 1,.int .i64 k,.int .i64 L] 293)) (hgrow.block w.heap.size (by simp) (by simp[Value.ownBlock]))).trans y1;have HOWN:=Ab hown;have HRS:Hid (Ea w1 w.heap.size v1 R):=by unfold Ea;rw[Aa HRR];exact Cz hown (by omega)
 clear t0 t1 t2 y0 y1 y2 f0 f1 f2 hown hgrow;have HBEL:=(show Hid (Below w.heap.size w w1) from hb1);go_wp2_with fail
 refine((Aa HBB) _).mono ?_;rintro e w2 ⟨v2,rfl,hb2,hs2⟩;have ho2:=own_below (Aa HOWN) hb2;have s2:=hb2.size;have hbw2:=HBEL.out.trans (hb2.mono (by omega));have hcl2:=fun g=>hs2.cells (g:=g)
 rcases hs2.2 with ⟨rfl,h0⟩|⟨g2,cap2,cur2,rfl,_,hh2,_⟩
 ·obtain rfl:l=[]:=List.eq_nil_of_length_eq_zero h0;clear hs2 hcl2 hb2;go_wp2_with (at_builtin;refine wpList_append_own_none rfl (.tmp 79) (.tmp 80) 294 rfl (w.heap.size+1) 293 i0 3 Tryz.underlying294 hi _ (r) (Aj R) rfl (by exact ho2) rfl ?_)
  go_ret2
  refine⟨_,rfl,hbw2,?_⟩;unfold Ea;rw[List.nil_append,Aa HRR];exact Cz ho2 (by omega)
 ·have hcl2':=hcl2 g2 rfl;have HCL2:=Ab hcl2';clear hs2 hcl2 hcl2' hb2 hh2;go_wp2_with (at_builtin;refine wpList_append_own_at _ rfl (.tmp 79) (.tmp 80) 294 rfl (w.heap.size+1) 293 i0 (.agg #[.int .i64 0,.int .i64 0,.int .i64 0]) 3 24 Tryz.underlying294 hi hz0 hz1 hz2 rfl (by decide) _ (r) (Aj R) rfl (by exact ho2) ⟨g2,0,none⟩ l.length cap2 (Aj l) rfl (Ba l) (Aa HCL2) (BA l) (by unfold maxLen;omega) (by omega) (by omega) ?_)
  intro v3 w3 hown3 hgrow3 _ _;have hbw3:=hbw2.grown hgrow3 (by omega) (fun k' hk'=>by have:=(ho2.lt k' hk').1;omega);have HO3:Hid (Ea w3 w.heap.size v3 (l++R)):=by
   unfold Ea;rw[Cx,List.length_append,Aa HRR,Nat.add_comm];exact Cz hown3 (by omega)
  clear hown3 hgrow3;go_wp2
  go_ret2
  exact⟨_,rfl,hbw3,Aa HO3⟩
theorem VG{x:Want}(X:World){m:Nat}{a1:Int}(hm:X.heap.size=m)(h1:a1=(x.2.1:Int)):∀j u,(wc x)[j]?=some u->(X.alloc (.cells #[.int .i64 x.1,.int .i64 a1,.int .i64 x.2.2] 293)).cell? ((⟨m,0,none⟩:Addr).add j)=some u:=by
 subst hm;subst h1;obtain⟨t0,t1,t2,_⟩:=(Tw.new X (.int .i64 x.1) (.int .i64 x.2.1) (.int .i64 x.2.2)).facts;intro j u hj;match j,hj with
 |0,hj=>simp[wc]at hj;subst hj;exact t0
 |1,hj=>simp[wc]at hj;subst hj;exact t1
 |2,hj=>simp[wc]at hj;subst hj;exact t2
theorem VH(x:Want):∀u∈wc x,u.oneCell'=true:=by
 intro u hu;simp[wc]at hu;rcases hu with rfl|rfl|rfl<;>rfl
theorem Wy(k L c r:Nat)(R:List Want)(gb cap:Nat)(w:World)(hr:R.length=r)(hR:r<=1000)(hcap:r+1<=cap)(hgl:gb<w.heap.size)(hcl:∀j u,(Aj R)[j]?=some u->w.cell? ((⟨gb,0,none⟩:Addr).add j)=some u)
  (f0:w.cell? ⟨gb,r*3,none⟩=some (.int .i64 5)) (f1:w.cell? ⟨gb,r*3+1,none⟩=some (.int .i64 k)) (f2:w.cell? ⟨gb,r*3+2,none⟩=some (.int .i64 L)) (hk6:((k:Int)==6)=false) (hk7:k<=6) (hc:((c:Int)==41)=false) (t:Bool) (l:List Want) (hl:l.length<=2) (HB:∀w,Calls Tryz.prog 238 #[.int .u8 c,.int .i64 L] w fun e w'=>∃v,e=.returned (.tuple #[v,.bool t])/\Below w.heap.size w w'/\Ea w' w.heap.size v l):
  Calls Tryz.prog 205 #[.slice (some ⟨gb,0,none⟩) (r+1) cap,.int .u8 c] w fun e w'=>∃v,e=.returned (.tuple #[v,.bool t])/\Below w.heap.size w w'/\Ea w' w.heap.size v (l++(5,k+1,L) :: R):=by
 have HBB:=Ab HB;clear HB;have HRR:=Ab hr;have HN:Hid (∀(o:Obj) (j:Nat) (u:Value),(Aj R)[j]?=some u->(w.alloc o).cell? ((⟨gb,0,none⟩:Addr).add j)=some u):=fun o j u hj=>(World.cell?_of_block (w:=w) (Below.heap_alloc _ _ _ (by rw[add_block];exact hgl))).trans (hcl j u hj)
 clear hcl hr;obtain⟨i0,hi,hz0,hz1,hz2⟩:=info_parts EP;go_enter Tryz.func205,Tryz.ntmps205;go_wp2_with (at_builtin;refine wpList_append_own_at _ rfl (.tmp 19) (.tmp 24) 294 rfl (w.heap.size+1) 293 i0 (.agg #[.int .i64 0,.int .i64 0,.int .i64 0]) 3 24 Tryz.underlying294 hi hz0 hz1 hz2 rfl (by decide) _ 0 [] rfl (World.ownsRow_nil _ _ _ _) ⟨gb,0,none⟩ r cap (Aj R) rfl (by rw[<-Aa HRR];exact Ba R) (Aa HN _) (BA R) (by unfold maxLen;omega) (by omega) (by simp) ?_)
 intro v1 w1 hown hgrow _ _;obtain⟨t0,t1,t2,y0,y1,y2⟩:=(Tw.new w (.int .i64 5) (.int .i64 k) (.int .i64 L)).facts;have b0:=hgrow.cell t0 (by simp[Value.ownBlock]);have b1:=hgrow.cell t1 (by simp[Value.ownBlock]);have b2:=hgrow.cell t2 (by simp[Value.ownBlock]);have hb1:Below w.heap.size w w1:=below_grown hgrow;have s1:w.heap.size+1<=w1.heap.size:=by have:=hgrow.size;simpa using this
 have hown:w1.ownsRow (w.heap.size+1) 293 3 v1 r (Aj R):=by simpa using hown
 have z1:w1.frozen? ⟨w.heap.size,1,none⟩=false:=(World.frozen?_of_block (w:=w.alloc (.cells #[.int .i64 5,.int .i64 k,.int .i64 L] 293)) (hgrow.block w.heap.size (by simp) (by simp[Value.ownBlock]))).trans y1;have HOWN:=Ab hown;have TWH:Tw w1 w.heap.size (.int .i64 5) (.int .i64 k) (.int .i64 L):=by unfold Tw;rw[hgrow.block w.heap.size (by simp) (by simp[Value.ownBlock])];exact Tw.new w _ _ _
 have HRS:Hid (Ea w1 w.heap.size v1 R):=by unfold Ea;rw[Aa HRR];exact Cz hown (by omega)
 clear t0 t1 t2 y0 y1 y2 f0 f1 f2 hown hgrow;have HBEL0:=(show Hid (Below w.heap.size w w1) from hb1);have TW0:Hid (Tw w1 w.heap.size (.int .i64 5) (.int .i64 k) (.int .i64 L)):=TWH;clear TWH;go_wp2_with (at_builtin;refine wpList_append_own_at _ rfl (.tmp 68) (.tmp 70) 294 rfl (w.heap.size+1) 293 i0 (.agg #[.int .i64 0,.int .i64 0,.int .i64 0]) 3 24 Tryz.underlying294 hi hz0 hz1 hz2 rfl (by decide) _ r (Aj R) rfl (by exact(Qe (Aa HOWN) (by omega)).alloc _) ⟨w1.heap.size,0,none⟩ 1 1 (wc (5,k+1,L)) rfl rfl (by exact VG _ (by simp) (by simp)) (by exact VH _) (by unfold maxLen;omega) (by omega) (by simp;omega) ?_)
 intro vA wA hownA hgrowA _ _;have rowne:∀k',v1.ownBlock=some k'->w.heap.size+1<=k':=fun k' hk'=>((Aa HOWN).lt k' hk').1
 have s1':w.heap.size<w1.heap.size:=by omega
 have q2:((w1.setCell {block:=w.heap.size,off:=1} (Value.int IntKind.i64 (↑k+1))).alloc (Obj.cells #[Value.int IntKind.i64 5,Value.int IntKind.i64 (↑k+1),Value.int IntKind.i64 ↑L] 293)).cell? ⟨w.heap.size,2,none⟩=some (.int .i64 L):=by simp[go_sem,b2,s1']
 have c2:=hgrowA.cell q2 (fun e=>by have:=rowne _ e.symm;simp at this;omega);have HBEL:=(show Hid (Below w.heap.size w wA) from ((hb1.setCell (by simp) _).alloc (by simp;omega) _).grown hgrowA (by simp;omega) (fun k' hk'=>by have:=rowne k' hk';omega));have sA:w.heap.size+1<=wA.heap.size:=by have:=hgrowA.size;simp at this;omega
 have HOWNA:Hid (wA.ownsRow (w.heap.size+1) 293 3 vA (r+1) (Aj ((5,k+1,L) :: R))):=by
  rw[show ((5,k+1,L) :: R)=[(5,k+1,L)]++R from rfl,Cx];have e:Aj [(5,k+1,L)]=wc (5,k+1,L):=by simp[Aj]
  rw[e];exact hownA
 clear hownA hgrowA rowne q2 b0 b1 b2 z1 hb1 HBEL0 TW0 hown;go_wp2_with fail
 refine((Aa HBB) _).mono ?_;rintro e w2 ⟨v2,rfl,hb2,hs2⟩;have ho2:=own_below (Aa HOWNA) hb2;have s2:=hb2.size;have hbw2:=HBEL.out.trans (hb2.mono (by omega));have hcl2:=fun g=>hs2.cells (g:=g)
 rcases hs2.2 with ⟨rfl,h0⟩|⟨g2,cap2,cur2,rfl,_,hh2,_⟩
 ·obtain rfl:l=[]:=List.eq_nil_of_length_eq_zero h0;clear hs2 hcl2 hb2;go_wp2_with (at_builtin;refine wpList_append_own_none rfl (.tmp 79) (.tmp 80) 294 rfl (w.heap.size+1) 293 i0 3 Tryz.underlying294 hi _ (r+1) (Aj ((5,k+1,L) :: R)) rfl (by exact ho2) rfl ?_)
  go_ret2
  refine⟨_,rfl,hbw2,?_⟩;unfold Ea;rw[List.nil_append,List.length_cons,Aa HRR];exact Cz ho2 (by omega)
 ·have hcl2':=hcl2 g2 rfl;have HCL2:=Ab hcl2';clear hs2 hcl2 hcl2' hb2 hh2;go_wp2_with (at_builtin;refine wpList_append_own_at _ rfl (.tmp 79) (.tmp 80) 294 rfl (w.heap.size+1) 293 i0 (.agg #[.int .i64 0,.int .i64 0,.int .i64 0]) 3 24 Tryz.underlying294 hi hz0 hz1 hz2 rfl (by decide) _ (r+1) (Aj ((5,k+1,L) :: R)) rfl (by exact ho2) ⟨g2,0,none⟩ l.length cap2 (Aj l) rfl (Ba l) (Aa HCL2) (BA l) (by unfold maxLen;omega) (by omega) (by omega) ?_)
  intro v3 w3 hown3 hgrow3 _ _;have hbw3:=hbw2.grown hgrow3 (by omega) (fun k' hk'=>by have:=(ho2.lt k' hk').1;omega);have HO3:Hid (Ea w3 w.heap.size v3 (l++(5,k+1,L) :: R)):=by
   unfold Ea;rw[Cx,List.length_append,List.length_cons,Aa HRR,Nat.add_comm];exact Cz hown3 (by omega)
  clear hown3 hgrow3;go_wp2
  go_ret2
  exact⟨_,rfl,hbw3,Aa HO3⟩
theorem Wz(k L c r:Nat)(R:List Want)(gb cap:Nat)(w:World)(hr:R.length=r)(hR:r<=1000)(hcap:r+1<=cap)(hgl:gb<w.heap.size)(hcl:∀j u,(Aj R)[j]?=some u->w.cell? ((⟨gb,0,none⟩:Addr).add j)=some u)
  (f0:w.cell? ⟨gb,r*3,none⟩=some (.int .i64 5)) (f1:w.cell? ⟨gb,r*3+1,none⟩=some (.int .i64 k)) (f2:w.cell? ⟨gb,r*3+2,none⟩=some (.int .i64 L)) (hk6:((k:Int)==6)=false) (hk7:k<=6) (hc:((c:Int)==41)=true) (hk0:¬(0:Int)<(k:Int)) (t:Bool) (l:List Want) (hl:l.length<=2) (HB:∀w,Calls Tryz.prog 238 #[.int .u8 c,.int .i64 L] w fun e w'=>∃v,e=.returned (.tuple #[v,.bool t])/\Below w.heap.size w w'/\Ea w' w.heap.size v l):
  Calls Tryz.prog 205 #[.slice (some ⟨gb,0,none⟩) (r+1) cap,.int .u8 c] w fun e w'=>∃v,e=.returned (.tuple #[v,.bool t])/\Below w.heap.size w w'/\Ea w' w.heap.size v (l++(5,k+1,L) :: R):=by
 have HBB:=Ab HB;clear HB;have HRR:=Ab hr;have HN:Hid (∀(o:Obj) (j:Nat) (u:Value),(Aj R)[j]?=some u->(w.alloc o).cell? ((⟨gb,0,none⟩:Addr).add j)=some u):=fun o j u hj=>(World.cell?_of_block (w:=w) (Below.heap_alloc _ _ _ (by rw[add_block];exact hgl))).trans (hcl j u hj)
 clear hcl hr;obtain⟨i0,hi,hz0,hz1,hz2⟩:=info_parts EP;go_enter Tryz.func205,Tryz.ntmps205;go_wp2_with (at_builtin;refine wpList_append_own_at _ rfl (.tmp 19) (.tmp 24) 294 rfl (w.heap.size+1) 293 i0 (.agg #[.int .i64 0,.int .i64 0,.int .i64 0]) 3 24 Tryz.underlying294 hi hz0 hz1 hz2 rfl (by decide) _ 0 [] rfl (World.ownsRow_nil _ _ _ _) ⟨gb,0,none⟩ r cap (Aj R) rfl (by rw[<-Aa HRR];exact Ba R) (Aa HN _) (BA R) (by unfold maxLen;omega) (by omega) (by simp) ?_)
 intro v1 w1 hown hgrow _ _;obtain⟨t0,t1,t2,y0,y1,y2⟩:=(Tw.new w (.int .i64 5) (.int .i64 k) (.int .i64 L)).facts;have b0:=hgrow.cell t0 (by simp[Value.ownBlock]);have b1:=hgrow.cell t1 (by simp[Value.ownBlock]);have b2:=hgrow.cell t2 (by simp[Value.ownBlock]);have hb1:Below w.heap.size w w1:=below_grown hgrow;have s1:w.heap.size+1<=w1.heap.size:=by have:=hgrow.size;simpa using this
 have hown:w1.ownsRow (w.heap.size+1) 293 3 v1 r (Aj R):=by simpa using hown
 have z1:w1.frozen? ⟨w.heap.size,1,none⟩=false:=(World.frozen?_of_block (w:=w.alloc (.cells #[.int .i64 5,.int .i64 k,.int .i64 L] 293)) (hgrow.block w.heap.size (by simp) (by simp[Value.ownBlock]))).trans y1;have HOWN:=Ab hown;have TWH:Tw w1 w.heap.size (.int .i64 5) (.int .i64 k) (.int .i64 L):=by unfold Tw;rw[hgrow.block w.heap.size (by simp) (by simp[Value.ownBlock])];exact Tw.new w _ _ _
 have HRS:Hid (Ea w1 w.heap.size v1 R):=by unfold Ea;rw[Aa HRR];exact Cz hown (by omega)
 clear t0 t1 t2 y0 y1 y2 f0 f1 f2 hown hgrow;have HBEL0:=(show Hid (Below w.heap.size w w1) from hb1);have TW0:Hid (Tw w1 w.heap.size (.int .i64 5) (.int .i64 k) (.int .i64 L)):=TWH;clear TWH;go_wp2_with (at_builtin;refine wpList_append_own_at _ rfl (.tmp 68) (.tmp 70) 294 rfl (w.heap.size+1) 293 i0 (.agg #[.int .i64 0,.int .i64 0,.int .i64 0]) 3 24 Tryz.underlying294 hi hz0 hz1 hz2 rfl (by decide) _ r (Aj R) rfl (by exact(Qe (Aa HOWN) (by omega)).alloc _) ⟨w1.heap.size,0,none⟩ 1 1 (wc (5,k+1,L)) rfl rfl (by exact VG _ (by simp) (by simp)) (by exact VH _) (by unfold maxLen;omega) (by omega) (by simp;omega) ?_)
 intro vA wA hownA hgrowA _ _;have rowne:∀k',v1.ownBlock=some k'->w.heap.size+1<=k':=fun k' hk'=>((Aa HOWN).lt k' hk').1
 have s1':w.heap.size<w1.heap.size:=by omega
 have q2:((w1.setCell {block:=w.heap.size,off:=1} (Value.int IntKind.i64 (↑k+1))).alloc (Obj.cells #[Value.int IntKind.i64 5,Value.int IntKind.i64 (↑k+1),Value.int IntKind.i64 ↑L] 293)).cell? ⟨w.heap.size,2,none⟩=some (.int .i64 L):=by simp[go_sem,b2,s1']
 have c2:=hgrowA.cell q2 (fun e=>by have:=rowne _ e.symm;simp at this;omega);have HBEL:=(show Hid (Below w.heap.size w wA) from ((hb1.setCell (by simp) _).alloc (by simp;omega) _).grown hgrowA (by simp;omega) (fun k' hk'=>by have:=rowne k' hk';omega));have sA:w.heap.size+1<=wA.heap.size:=by have:=hgrowA.size;simp at this;omega
 have HOWNA:Hid (wA.ownsRow (w.heap.size+1) 293 3 vA (r+1) (Aj ((5,k+1,L) :: R))):=by
  rw[show ((5,k+1,L) :: R)=[(5,k+1,L)]++R from rfl,Cx];have e:Aj [(5,k+1,L)]=wc (5,k+1,L):=by simp[Aj]
  rw[e];exact hownA
 clear hownA hgrowA rowne q2 b0 b1 b2 z1 hb1 HBEL0 TW0 hown;go_wp2_with fail
 refine((Aa HBB) _).mono ?_;rintro e w2 ⟨v2,rfl,hb2,hs2⟩;have ho2:=own_below (Aa HOWNA) hb2;have s2:=hb2.size;have hbw2:=HBEL.out.trans (hb2.mono (by omega));have hcl2:=fun g=>hs2.cells (g:=g)
 rcases hs2.2 with ⟨rfl,h0⟩|⟨g2,cap2,cur2,rfl,_,hh2,_⟩
 ·obtain rfl:l=[]:=List.eq_nil_of_length_eq_zero h0;clear hs2 hcl2 hb2;go_wp2_with (at_builtin;refine wpList_append_own_none rfl (.tmp 79) (.tmp 80) 294 rfl (w.heap.size+1) 293 i0 3 Tryz.underlying294 hi _ (r+1) (Aj ((5,k+1,L) :: R)) rfl (by exact ho2) rfl ?_)
  go_ret2
  refine⟨_,rfl,hbw2,?_⟩;unfold Ea;rw[List.nil_append,List.length_cons,Aa HRR];exact Cz ho2 (by omega)
 ·have hcl2':=hcl2 g2 rfl;have HCL2:=Ab hcl2';clear hs2 hcl2 hcl2' hb2 hh2;go_wp2_with (at_builtin;refine wpList_append_own_at _ rfl (.tmp 79) (.tmp 80) 294 rfl (w.heap.size+1) 293 i0 (.agg #[.int .i64 0,.int .i64 0,.int .i64 0]) 3 24 Tryz.underlying294 hi hz0 hz1 hz2 rfl (by decide) _ (r+1) (Aj ((5,k+1,L) :: R)) rfl (by exact ho2) ⟨g2,0,none⟩ l.length cap2 (Aj l) rfl (Ba l) (Aa HCL2) (BA l) (by unfold maxLen;omega) (by omega) (by omega) ?_)
  intro v3 w3 hown3 hgrow3 _ _;have hbw3:=hbw2.grown hgrow3 (by omega) (fun k' hk'=>by have:=(ho2.lt k' hk').1;omega);have HO3:Hid (Ea w3 w.heap.size v3 (l++(5,k+1,L) :: R)):=by
   unfold Ea;rw[Cx,List.length_append,List.length_cons,Aa HRR,Nat.add_comm];exact Cz hown3 (by omega)
  clear hown3 hgrow3;go_wp2
  go_ret2
  exact⟨_,rfl,hbw3,Aa HO3⟩
theorem T9(v:Value)(c:Nat)(w:World)(hv:Ea w 0 v []):Calls Tryz.prog 205 #[v,.int .u8 c] w (II [] c w):=by
 obtain⟨a,cap,rfl⟩:∃a cap,v=.slice a 0 cap:=by
  obtain⟨_,h⟩:=hv;rcases h with ⟨hv,_⟩|⟨gb,cap,cur,hv,_⟩
  ·exact⟨_,_,hv⟩
  ·exact⟨_,_,hv⟩
 clear hv;unfold II;go_enter Tryz.func205,Tryz.ntmps205;go_wp2
 go_ret2
 exact⟨_,rfl,Below.refl _ _,fun S' h=>by cases h⟩
theorem T8(S:List Want)(v:Value)(c:Nat)(w:World)(hv:Ea w 0 v S)(hS:S.length<=1000)(hw:∀x∈S,1<=x.1/\x.1<=5/\x.2.1<=6/\x.2.2<=1000):
  Calls Tryz.prog 205 #[v,.int .u8 c] w (II S c w):=by
 match S,hv,hS,hw with
 |[],hv,_,_=>exact T9 v c w hv
 |(h,k,L) :: R,hv,hS,hw=>
  obtain⟨gb,cap,rfl,hcap,hgl,hcl,f0,f1,f2⟩:=MW hv;obtain⟨h1,h5,hk,hL⟩:=hw (h,k,L) (by simp);simp only at h1 h5 hk hL f0 f1 f2;simp only[List.length_cons]at hS;have HB:∀w,Calls Tryz.prog 238 #[.int .u8 c,.int .i64 L] w fun e w'=>∃v,e=.returned (.tuple #[v,.bool (Pt.begins c L).isSome])/\Below w.heap.size w w'/\Ea w' w.heap.size v ((Pt.begins c L).getD []):=fun w=>E7 c L w hL
  have hl:((Pt.begins c L).getD []).length<=2:=by
   unfold Pt.begins;repeat' split
   all_goals simp
  have fin:∀(t:Bool) (S':List Want),Pt.goes ((h,k,L) :: R) c=(if t then some S' else none) ->
    (Calls Tryz.prog 205 #[.slice (some ⟨gb,0,none⟩) (R.length+1) cap,.int .u8 c] w fun e w'=>∃v,e=.returned (.tuple #[v,.bool t])/\Below w.heap.size w w'/\(t=true->Ea w' w.heap.size v S')) ->
    Calls Tryz.prog 205 #[.slice (some ⟨gb,0,none⟩) (R.length+1) cap,.int .u8 c] w (II ((h,k,L) :: R) c w):=by
   intro t S' hg hc;refine hc.mono ?_;rintro e w' ⟨v,rfl,hb,hst⟩;unfold II;rw[hg];cases t with
   |false=>exact⟨v,rfl,hb,fun S'' h=>by cases h⟩
   |true=>exact⟨v,rfl,hb,fun S'' h=>by cases h;exact hst rfl⟩
  have hcase:h=1\/h=2\/h=3\/h=4\/h=5:=by omega
  rcases hcase with rfl|rfl|rfl|rfl|rfl
  ·refine fin (Pt.begins c L).isSome ((Pt.begins c L).getD []++R) ?_ ((Yg k L c R.length R gb cap w rfl (by omega) hcap hgl hcl (by exact f0) f1 f2 _ _ hl HB).mono ?_)
   ·cases hb:Pt.begins c L<;>simp[Pt.goes,hb]
   ·rintro e w' ⟨v,rfl,hb,hs⟩;exact⟨v,rfl,hb,fun _=>hs⟩
  ·by_cases hc:49<=c
   ·refine fin (decide ((c:Int)<=57)) R ?_ ((Yh k L c R.length R gb cap w rfl (by omega) hcap hgl hcl (by exact f0) f1 f2 (by omega) _ rfl).mono ?_)
    ·by_cases h57:c<=57
     ·have:(c:Int)<=57:=by omega
      simp[Pt.goes,hc,h57,this]
     ·have:¬(c:Int)<=57:=by omega
      simp[Pt.goes,h57,this]
    ·rintro e w' ⟨v,rfl,hb,hs⟩;exact⟨v,rfl,hb,fun _=>hs⟩
   ·refine fin false R (by simp[Pt.goes];omega) ((Wv k L c R.length R gb cap w rfl (by omega) hcap hgl hcl (by exact f0) f1 f2 (by omega)).mono ?_);rintro e w' ⟨v,rfl,hb⟩;exact⟨v,rfl,hb,fun h=>by cases h⟩
  ·by_cases hc:48<=c
   ·refine fin (decide ((c:Int)<=57)) R ?_ ((Yi k L c R.length R gb cap w rfl (by omega) hcap hgl hcl (by exact f0) f1 f2 (by omega) _ rfl).mono ?_)
    ·by_cases h57:c<=57
     ·have:(c:Int)<=57:=by omega
      simp[Pt.goes,hc,h57,this]
     ·have:¬(c:Int)<=57:=by omega
      simp[Pt.goes,h57,this]
    ·rintro e w' ⟨v,rfl,hb,hs⟩;exact⟨v,rfl,hb,fun _=>hs⟩
   ·refine fin false R (by simp[Pt.goes];omega) ((Ww k L c R.length R gb cap w rfl (by omega) hcap hgl hcl (by exact f0) f1 f2 (by omega)).mono ?_);rintro e w' ⟨v,rfl,hb⟩;exact⟨v,rfl,hb,fun h=>by cases h⟩
  ·refine fin ((c:Int)==40) R ?_ ((Yj k L c R.length R gb cap w rfl (by omega) hcap hgl hcl (by exact f0) f1 f2 _ rfl).mono ?_)
   ·by_cases h40:c=40
    ·subst h40;simp[Pt.goes]
    ·have:¬(c:Int)=40:=by omega
     simp[Pt.goes,h40,this]
   ·rintro e w' ⟨v,rfl,hb,hs⟩;exact⟨v,rfl,hb,fun _=>hs⟩
  ·by_cases hc:c=41
   ·by_cases hk0:0<k
    ·refine fin true R (by simp[Pt.goes,hc,hk0]) ((Wx k L c R.length R gb cap w rfl (by omega) hcap hgl hcl (by exact f0) f1 f2 (by simp[hc]) (by omega)).mono ?_);rintro e w' ⟨v,rfl,hb,hs⟩;exact⟨v,rfl,hb,fun _=>hs⟩
    ·refine fin (Pt.begins c L).isSome ((Pt.begins c L).getD []++(5,k+1,L) :: R) ?_ ((Wz k L c R.length R gb cap w rfl (by omega) hcap hgl hcl (by exact f0) f1 f2 (by simp;omega) hk (by simp[hc]) (by omega) _ _ hl HB).mono ?_)
     ·have hk1:k=0:=by omega
      subst hk1;cases hb:Pt.begins c L<;>simp[Pt.goes,hb]
     ·rintro e w' ⟨v,rfl,hb,hs⟩;exact⟨v,rfl,hb,fun _=>hs⟩
   ·have hcI:((c:Int)==41)=false:=by simp;omega
    by_cases hk6:k=6
    ·refine fin false R (by simp[Pt.goes,hc,hk6]) ((WA k L c R.length R gb cap w rfl (by omega) hcap hgl hcl (by exact f0) f1 f2 hcI (by simp;omega)).mono ?_);rintro e w' ⟨v,rfl,hb⟩;exact⟨v,rfl,hb,fun h=>by cases h⟩
    ·refine fin (Pt.begins c L).isSome ((Pt.begins c L).getD []++(5,k+1,L) :: R) ?_ ((Wy k L c R.length R gb cap w rfl (by omega) hcap hgl hcl (by exact f0) f1 f2 (by simp;omega) hk hcI _ _ hl HB).mono ?_)
     ·cases hb:Pt.begins c L<;>simp[Pt.goes,hc,hk6,hb]
     ·rintro e w' ⟨v,rfl,hb,hs⟩;exact⟨v,rfl,hb,fun _=>hs⟩
def okW(M:Nat)(x:Want):Prop:=1<=x.1/\x.1<=5/\x.2.1<=6/\x.2.2<=M
theorem Gr{c L M:Nat}(hL:L<=M):∀l,Pt.begins c L=some l->l.length<=2/\∀x∈l,okW (M+1) x:=by
 intro l hl;unfold Pt.begins at hl;repeat' split at hl
 all_goals (first|(cases hl;done)|skip)
 all_goals (simp only[Option.some.injEq]at hl;subst hl;simp[okW];try omega)
theorem N3{S S':List Want}{c M:Nat}(h:∀x∈S,okW M x)(hg:Pt.goes S c=some S'):S'.length<=S.length+2/\∀x∈S',okW (M+1) x:=by
 match S,h,hg with
 |(a,k,L) :: R,h,hg=>
  have hx:=h (a,k,L) (by simp);have hR:∀x∈R,okW (M+1) x:=fun x hm=>by
   have:=h x (by simp[hm]);unfold okW at this ⊢;omega
  unfold okW at hx;simp only at hx;have popR:some R=some S'->S'.length<=((a,k,L) :: R).length+2/\∀x∈S',okW (M+1) x:=by
   intro e;cases e;exact⟨by simp;omega,hR⟩
  simp only[Pt.goes]at hg;split at hg
  ·split at hg
   ·exact popR hg
   ·cases hg
  ·split at hg
   ·split at hg
    ·exact popR hg
    ·cases hg
   ·split at hg
    ·split at hg
     ·exact popR hg
     ·cases hg
    ·split at hg
     ·split at hg
      ·exact popR hg
      ·split at hg
       ·cases hg
       ·obtain⟨l,hl,rfl⟩:=Option.map_eq_some_iff.1 hg;obtain⟨h1,h2⟩:=Gr (M:=M) hx.2.2.2 l hl;refine⟨by simp;omega,?_⟩;intro x hm;rcases List.mem_append.1 hm with hm|hm
        ·exact h2 x hm
        ·rcases List.mem_cons.1 hm with rfl|hm
         ·unfold okW;simp only;omega
         ·exact hR x hm
     ·obtain⟨l,hl,rfl⟩:=Option.map_eq_some_iff.1 hg;obtain⟨h1,h2⟩:=Gr (M:=M) hx.2.2.2 l hl;refine⟨by simp;omega,?_⟩;intro x hm;rcases List.mem_append.1 hm with hm|hm
      ·exact h2 x hm
      ·exact hR x hm
end Go.Proofs.YtblomippkddgiaaGreatDoor.V
