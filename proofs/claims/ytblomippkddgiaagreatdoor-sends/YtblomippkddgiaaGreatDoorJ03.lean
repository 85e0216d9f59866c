import Derived.Test.YtblomippkddgiaaGreatDoorJ02
set_option maxRecDepth 100000
set_option maxHeartbeats 1000000
namespace Go.Proofs.YtblomippkddgiaaGreatDoor.V
open Go.RowKit
theorem EP:(Tryz.prog.info? 293).map (fun i=>(i.zero,i.size,i.bytes))=some (some (.agg #[.int .i64 0,.int .i64 0,.int .i64 0]),3,24):=by kernel_rfl
def Tw(w:World)(k:Nat)(a0 a1 a2:Value):Prop:=w.heap[k]?=some (.cells #[a0,a1,a2] 293 (0,0))
theorem Tw.facts{w:World}{k:Nat}{a0 a1 a2:Value}(h:Tw w k a0 a1 a2):
  w.cell? ⟨k,0,none⟩=some a0/\w.cell? ⟨k,1,none⟩=some a1/\w.cell? ⟨k,2,none⟩=some a2/\w.frozen? ⟨k,0,none⟩=false/\w.frozen? ⟨k,1,none⟩=false/\w.frozen? ⟨k,2,none⟩=false:=by
 unfold Tw at h;simp[World.cell?,World.frozen?,h]
theorem Tw.new(w:World)(a0 a1 a2:Value):Tw (w.alloc (.cells #[a0,a1,a2] 293)) w.heap.size a0 a1 a2:=by
 show (w.heap.push _)[w.heap.size]?=_;rw[Array.getElem?_push_size]
def II(S:List Want)(c:Nat)(w:World)(e:Ending)(w':World):Prop:=
 ∃v,e=.returned (.tuple #[v,.bool (Pt.goes S c).isSome])/\Below w.heap.size w w'/\∀S',Pt.goes S c=some S'->Ea w' w.heap.size v S'
theorem MW{w:World}{B:Nat}{v:Value}{x:Want}{R:List Want}(h:Ea w B v (x :: R)):∃gb cap,v=.slice (some ⟨gb,0,none⟩) (R.length+1) cap/\R.length+1<=cap/\gb<w.heap.size/\(∀j u,(Aj R)[j]?=some u->w.cell? ((⟨gb,0,none⟩:Addr).add j)=some u) /\
  w.cell? ⟨gb,R.length*3,none⟩=some (.int .i64 x.1)/\w.cell? ⟨gb,R.length*3+1,none⟩=some (.int .i64 x.2.1)/\w.cell? ⟨gb,R.length*3+2,none⟩=some (.int .i64 x.2.2):=by
 have hcl:=fun g=>h.cells (g:=g)
 obtain⟨_,h⟩:=h;rcases h with ⟨_,h0⟩|⟨gb,cap,cur,hv,hg,hh,hc,_⟩
 ·simp at h0
 ·have hcl:=hcl gb (by rw[hv];rfl);have e:Aj (x :: R)=Aj R++wc x:=by
   rw[show x :: R=[x]++R from rfl,Cx];simp[Aj]
  rw[e]at hcl;have ad:∀o,(⟨gb,0,none⟩:Addr).add o=⟨gb,o,none⟩:=fun o=>by simp[Addr.add];omega
  have hl:=Ba R;refine⟨gb,cap,hv,hc,lt_of_block hh,fun j u hj=>hcl j u ?_,?_,?_,?_⟩
  ·rw[List.getElem?_append_left]
   ·exact hj
   ·rcases Nat.lt_or_ge j (Aj R).length with h'|h'
    ·exact h'
    ·rw[List.getElem?_eq_none h']at hj;cases hj
  ·rw[<-ad];refine hcl _ _ ?_;rw[List.getElem?_append_right (by omega),hl,Nat.sub_self];rfl
  ·rw[<-ad];refine hcl _ _ ?_;rw[List.getElem?_append_right (by omega),hl,show R.length*3+1-R.length*3=1 by omega];rfl
  ·rw[<-ad];refine hcl _ _ ?_;rw[List.getElem?_append_right (by omega),hl,show R.length*3+2-R.length*3=2 by omega];rfl
theorem below_grown{w w1:World}{a0 a1 a2:Value}(h:(w.alloc (.cells #[a0,a1,a2] 293)).grownBy w1 none):Below w.heap.size w w1:=
 ((Below.refl _ _).alloc (Nat.le_refl _) (.cells #[a0,a1,a2] 293)).trans ⟨h.os,h.tape,h.output,h.size,fun k hk=>h.block k (by simp;omega) (by simp)⟩
theorem add_block(a:Addr)(j:Nat):(a.add j).block=a.block:=by
 unfold Addr.add;split<;>rfl
theorem own_below{w w':World}{B n:Nat}{v:Value}{xs:List Value}(h:w.ownsRow B 293 3 v n xs)(hb:Below w.heap.size w w'):w'.ownsRow B 293 3 v n xs:=by
 obtain⟨hl,h⟩:=h;refine⟨hl,?_⟩;rcases h with h|⟨g,cap,cur,hv,hg,hh,r⟩
 ·exact Or.inl h
 ·refine Or.inr ⟨g,cap,cur,hv,hg,?_,r⟩;rw[hb.block g (lt_of_block hh)];exact hh
theorem Cz{w:World}{B B' n:Nat}{v:Value}{xs:List Value}(h:w.ownsRow B 293 3 v n xs)(hb:B'<=B):w.ownsRow B' 293 3 v n xs:=by
 obtain⟨hl,h⟩:=h;refine⟨hl,?_⟩;rcases h with h|⟨g,cap,cur,hv,hg,r⟩
 ·exact Or.inl h
 ·exact Or.inr ⟨g,cap,cur,hv,Nat.le_trans hb hg,r⟩
theorem Qe{w:World}{B n k o:Nat}{v x:Value}{xs:List Value}(h:w.ownsRow B 293 3 v n xs)(hk:k<B):(w.setCell ⟨k,o,none⟩ x).ownsRow B 293 3 v n xs:=by
 obtain⟨hl,h⟩:=h;refine⟨hl,?_⟩;rcases h with h|⟨g,cap,cur,hv,hg,hh,r⟩
 ·exact Or.inl h
 ·refine Or.inr ⟨g,cap,cur,hv,hg,?_,r⟩;rw[Below.heap_setCell _ _ _ _ (by simp;omega)];exact hh
theorem Yh(k L c r:Nat)(R:List Want)(gb cap:Nat)(w:World)(hr:R.length=r)(hR:r<=1000)(hcap:r+1<=cap)(hgl:gb<w.heap.size)(hcl:∀j u,(Aj R)[j]?=some u->w.cell? ((⟨gb,0,none⟩:Addr).add j)=some u)
  (f0:w.cell? ⟨gb,r*3,none⟩=some (.int .i64 2)) (f1:w.cell? ⟨gb,r*3+1,none⟩=some (.int .i64 k)) (f2:w.cell? ⟨gb,r*3+2,none⟩=some (.int .i64 L)) (h1:(49:Int)<=(c:Int)) (t:Bool) (h2:decide ((c:Int)<=57)=t):
  Calls Tryz.prog 205 #[.slice (some ⟨gb,0,none⟩) (r+1) cap,.int .u8 c] w fun e w'=>∃v,e=.returned (.tuple #[v,.bool t])/\Below w.heap.size w w'/\Ea w' w.heap.size v R:=by
 have HRR:=Ab hr;have HN:Hid (∀(o:Obj) (j:Nat) (u:Value),(Aj R)[j]?=some u->(w.alloc o).cell? ((⟨gb,0,none⟩:Addr).add j)=some u):=fun o j u hj=>(World.cell?_of_block (w:=w) (Below.heap_alloc _ _ _ (by rw[add_block];exact hgl))).trans (hcl j u hj)
 clear hcl hr;obtain⟨i0,hi,hz0,hz1,hz2⟩:=info_parts EP;go_enter Tryz.func205,Tryz.ntmps205;go_wp2_with (at_builtin;refine wpList_append_own_at _ rfl (.tmp 19) (.tmp 24) 294 rfl (w.heap.size+1) 293 i0 (.agg #[.int .i64 0,.int .i64 0,.int .i64 0]) 3 24 Tryz.underlying294 hi hz0 hz1 hz2 rfl (by decide) _ 0 [] rfl (World.ownsRow_nil _ _ _ _) ⟨gb,0,none⟩ r cap (Aj R) rfl (by rw[<-Aa HRR];exact Ba R) (Aa HN _) (BA R) (by unfold maxLen;omega) (by omega) (by simp) ?_)
 intro v1 w1 hown hgrow _ _;obtain⟨t0,t1,t2,y0,y1,y2⟩:=(Tw.new w (.int .i64 2) (.int .i64 k) (.int .i64 L)).facts;have b0:=hgrow.cell t0 (by simp[Value.ownBlock]);have b1:=hgrow.cell t1 (by simp[Value.ownBlock]);have b2:=hgrow.cell t2 (by simp[Value.ownBlock]);have hb1:Below w.heap.size w w1:=below_grown hgrow;have s1:w.heap.size+1<=w1.heap.size:=by have:=hgrow.size;simpa using this
 have hown:w1.ownsRow (w.heap.size+1) 293 3 v1 r (Aj R):=by simpa using hown
 have z1:w1.frozen? ⟨w.heap.size,1,none⟩=false:=(World.frozen?_of_block (w:=w.alloc (.cells #[.int .i64 2,.int .i64 k,.int .i64 L] 293)) (hgrow.block w.heap.size (by simp) (by simp[Value.ownBlock]))).trans y1;have HOWN:=Ab hown;have HRS:Hid (Ea w1 w.heap.size v1 R):=by unfold Ea;rw[Aa HRR];exact Cz hown (by omega)
 clear t0 t1 t2 y0 y1 y2 f0 f1 f2 hown hgrow;go_wp2
 go_ret2
 exact⟨_,rfl,hb1,Aa HRS⟩
theorem Wv(k L c r:Nat)(R:List Want)(gb cap:Nat)(w:World)(hr:R.length=r)(hR:r<=1000)(hcap:r+1<=cap)(hgl:gb<w.heap.size)(hcl:∀j u,(Aj R)[j]?=some u->w.cell? ((⟨gb,0,none⟩:Addr).add j)=some u)
  (f0:w.cell? ⟨gb,r*3,none⟩=some (.int .i64 2)) (f1:w.cell? ⟨gb,r*3+1,none⟩=some (.int .i64 k)) (f2:w.cell? ⟨gb,r*3+2,none⟩=some (.int .i64 L)) (h1:¬(49:Int)<=(c:Int)):
  Calls Tryz.prog 205 #[.slice (some ⟨gb,0,none⟩) (r+1) cap,.int .u8 c] w fun e w'=>∃v,e=.returned (.tuple #[v,.bool false])/\Below w.heap.size w w':=by
 have HRR:=Ab hr;have HN:Hid (∀(o:Obj) (j:Nat) (u:Value),(Aj R)[j]?=some u->(w.alloc o).cell? ((⟨gb,0,none⟩:Addr).add j)=some u):=fun o j u hj=>(World.cell?_of_block (w:=w) (Below.heap_alloc _ _ _ (by rw[add_block];exact hgl))).trans (hcl j u hj)
 clear hcl hr;obtain⟨i0,hi,hz0,hz1,hz2⟩:=info_parts EP;go_enter Tryz.func205,Tryz.ntmps205;go_wp2_with (at_builtin;refine wpList_append_own_at _ rfl (.tmp 19) (.tmp 24) 294 rfl (w.heap.size+1) 293 i0 (.agg #[.int .i64 0,.int .i64 0,.int .i64 0]) 3 24 Tryz.underlying294 hi hz0 hz1 hz2 rfl (by decide) _ 0 [] rfl (World.ownsRow_nil _ _ _ _) ⟨gb,0,none⟩ r cap (Aj R) rfl (by rw[<-Aa HRR];exact Ba R) (Aa HN _) (BA R) (by unfold maxLen;omega) (by omega) (by simp) ?_)
 intro v1 w1 hown hgrow _ _;obtain⟨t0,t1,t2,y0,y1,y2⟩:=(Tw.new w (.int .i64 2) (.int .i64 k) (.int .i64 L)).facts;have b0:=hgrow.cell t0 (by simp[Value.ownBlock]);have b1:=hgrow.cell t1 (by simp[Value.ownBlock]);have b2:=hgrow.cell t2 (by simp[Value.ownBlock]);have hb1:Below w.heap.size w w1:=below_grown hgrow;have s1:w.heap.size+1<=w1.heap.size:=by have:=hgrow.size;simpa using this
 have hown:w1.ownsRow (w.heap.size+1) 293 3 v1 r (Aj R):=by simpa using hown
 have z1:w1.frozen? ⟨w.heap.size,1,none⟩=false:=(World.frozen?_of_block (w:=w.alloc (.cells #[.int .i64 2,.int .i64 k,.int .i64 L] 293)) (hgrow.block w.heap.size (by simp) (by simp[Value.ownBlock]))).trans y1;have HOWN:=Ab hown;have HRS:Hid (Ea w1 w.heap.size v1 R):=by unfold Ea;rw[Aa HRR];exact Cz hown (by omega)
 clear t0 t1 t2 y0 y1 y2 f0 f1 f2 hown hgrow;go_wp2
 go_ret2
 first
  |exact⟨⟨_,rfl⟩,hb1⟩
  |exact⟨_,rfl,hb1⟩
theorem Yi(k L c r:Nat)(R:List Want)(gb cap:Nat)(w:World)(hr:R.length=r)(hR:r<=1000)(hcap:r+1<=cap)(hgl:gb<w.heap.size)(hcl:∀j u,(Aj R)[j]?=some u->w.cell? ((⟨gb,0,none⟩:Addr).add j)=some u)
  (f0:w.cell? ⟨gb,r*3,none⟩=some (.int .i64 3)) (f1:w.cell? ⟨gb,r*3+1,none⟩=some (.int .i64 k)) (f2:w.cell? ⟨gb,r*3+2,none⟩=some (.int .i64 L)) (h1:(48:Int)<=(c:Int)) (t:Bool) (h2:decide ((c:Int)<=57)=t):
  Calls Tryz.prog 205 #[.slice (some ⟨gb,0,none⟩) (r+1) cap,.int .u8 c] w fun e w'=>∃v,e=.returned (.tuple #[v,.bool t])/\Below w.heap.size w w'/\Ea w' w.heap.size v R:=by
 have HRR:=Ab hr;have HN:Hid (∀(o:Obj) (j:Nat) (u:Value),(Aj R)[j]?=some u->(w.alloc o).cell? ((⟨gb,0,none⟩:Addr).add j)=some u):=fun o j u hj=>(World.cell?_of_block (w:=w) (Below.heap_alloc _ _ _ (by rw[add_block];exact hgl))).trans (hcl j u hj)
 clear hcl hr;obtain⟨i0,hi,hz0,hz1,hz2⟩:=info_parts EP;go_enter Tryz.func205,Tryz.ntmps205;go_wp2_with (at_builtin;refine wpList_append_own_at _ rfl (.tmp 19) (.tmp 24) 294 rfl (w.heap.size+1) 293 i0 (.agg #[.int .i64 0,.int .i64 0,.int .i64 0]) 3 24 Tryz.underlying294 hi hz0 hz1 hz2 rfl (by decide) _ 0 [] rfl (World.ownsRow_nil _ _ _ _) ⟨gb,0,none⟩ r cap (Aj R) rfl (by rw[<-Aa HRR];exact Ba R) (Aa HN _) (BA R) (by unfold maxLen;omega) (by omega) (by simp) ?_)
 intro v1 w1 hown hgrow _ _;obtain⟨t0,t1,t2,y0,y1,y2⟩:=(Tw.new w (.int .i64 3) (.int .i64 k) (.int .i64 L)).facts;have b0:=hgrow.cell t0 (by simp[Value.ownBlock]);have b1:=hgrow.cell t1 (by simp[Value.ownBlock]);have b2:=hgrow.cell t2 (by simp[Value.ownBlock]);have hb1:Below w.heap.size w w1:=below_grown hgrow;have s1:w.heap.size+1<=w1.heap.size:=by have:=hgrow.size;simpa using this
 have hown:w1.ownsRow (w.heap.size+1) 293 3 v1 r (Aj R):=by simpa using hown
 have z1:w1.frozen? ⟨w.heap.size,1,none⟩=false:=(World.frozen?_of_block (w:=w.alloc (.cells #[.int .i64 3,.int .i64 k,.int .i64 L] 293)) (hgrow.block w.heap.size (by simp) (by simp[Value.ownBlock]))).trans y1;have HOWN:=Ab hown;have HRS:Hid (Ea w1 w.heap.size v1 R):=by unfold Ea;rw[Aa HRR];exact Cz hown (by omega)
 clear t0 t1 t2 y0 y1 y2 f0 f1 f2 hown hgrow;go_wp2
 go_ret2
 exact⟨_,rfl,hb1,Aa HRS⟩
theorem Ww(k L c r:Nat)(R:List Want)(gb cap:Nat)(w:World)(hr:R.length=r)(hR:r<=1000)(hcap:r+1<=cap)(hgl:gb<w.heap.size)(hcl:∀j u,(Aj R)[j]?=some u->w.cell? ((⟨gb,0,none⟩:Addr).add j)=some u)
  (f0:w.cell? ⟨gb,r*3,none⟩=some (.int .i64 3)) (f1:w.cell? ⟨gb,r*3+1,none⟩=some (.int .i64 k)) (f2:w.cell? ⟨gb,r*3+2,none⟩=some (.int .i64 L)) (h1:¬(48:Int)<=(c:Int)):
  Calls Tryz.prog 205 #[.slice (some ⟨gb,0,none⟩) (r+1) cap,.int .u8 c] w fun e w'=>∃v,e=.returned (.tuple #[v,.bool false])/\Below w.heap.size w w':=by
 have HRR:=Ab hr;have HN:Hid (∀(o:Obj) (j:Nat) (u:Value),(Aj R)[j]?=some u->(w.alloc o).cell? ((⟨gb,0,none⟩:Addr).add j)=some u):=fun o j u hj=>(World.cell?_of_block (w:=w) (Below.heap_alloc _ _ _ (by rw[add_block];exact hgl))).trans (hcl j u hj)
 clear hcl hr;obtain⟨i0,hi,hz0,hz1,hz2⟩:=info_parts EP;go_enter Tryz.func205,Tryz.ntmps205;go_wp2_with (at_builtin;refine wpList_append_own_at _ rfl (.tmp 19) (.tmp 24) 294 rfl (w.heap.size+1) 293 i0 (.agg #[.int .i64 0,.int .i64 0,.int .i64 0]) 3 24 Tryz.underlying294 hi hz0 hz1 hz2 rfl (by decide) _ 0 [] rfl (World.ownsRow_nil _ _ _ _) ⟨gb,0,none⟩ r cap (Aj R) rfl (by rw[<-Aa HRR];exact Ba R) (Aa HN _) (BA R) (by unfold maxLen;omega) (by omega) (by simp) ?_)
 intro v1 w1 hown hgrow _ _;obtain⟨t0,t1,t2,y0,y1,y2⟩:=(Tw.new w (.int .i64 3) (.int .i64 k) (.int .i64 L)).facts;have b0:=hgrow.cell t0 (by simp[Value.ownBlock]);have b1:=hgrow.cell t1 (by simp[Value.ownBlock]);have b2:=hgrow.cell t2 (by simp[Value.ownBlock]);have hb1:Below w.heap.size w w1:=below_grown hgrow;have s1:w.heap.size+1<=w1.heap.size:=by have:=hgrow.size;simpa using this
 have hown:w1.ownsRow (w.heap.size+1) 293 3 v1 r (Aj R):=by simpa using hown
 have z1:w1.frozen? ⟨w.heap.size,1,none⟩=false:=(World.frozen?_of_block (w:=w.alloc (.cells #[.int .i64 3,.int .i64 k,.int .i64 L] 293)) (hgrow.block w.heap.size (by simp) (by simp[Value.ownBlock]))).trans y1;have HOWN:=Ab hown;have HRS:Hid (Ea w1 w.heap.size v1 R):=by unfold Ea;rw[Aa HRR];exact Cz hown (by omega)
 clear t0 t1 t2 y0 y1 y2 f0 f1 f2 hown hgrow;go_wp2
 go_ret2
 first
  |exact⟨⟨_,rfl⟩,hb1⟩
  |exact⟨_,rfl,hb1⟩
theorem Yj(k L c r:Nat)(R:List Want)(gb cap:Nat)(w:World)(hr:R.length=r)(hR:r<=1000)(hcap:r+1<=cap)(hgl:gb<w.heap.size)(hcl:∀j u,(Aj R)[j]?=some u->w.cell? ((⟨gb,0,none⟩:Addr).add j)=some u)
  (f0:w.cell? ⟨gb,r*3,none⟩=some (.int .i64 4)) (f1:w.cell? ⟨gb,r*3+1,none⟩=some (.int .i64 k)) (f2:w.cell? ⟨gb,r*3+2,none⟩=some (.int .i64 L)) (t:Bool) (h2:((c:Int)==40)=t):
  Calls Tryz.prog 205 #[.slice (some ⟨gb,0,none⟩) (r+1) cap,.int .u8 c] w fun e w'=>∃v,e=.returned (.tuple #[v,.bool t])/\Below w.heap.size w w'/\Ea w' w.heap.size v R:=by
 have HRR:=Ab hr;have HN:Hid (∀(o:Obj) (j:Nat) (u:Value),(Aj R)[j]?=some u->(w.alloc o).cell? ((⟨gb,0,none⟩:Addr).add j)=some u):=fun o j u hj=>(World.cell?_of_block (w:=w) (Below.heap_alloc _ _ _ (by rw[add_block];exact hgl))).trans (hcl j u hj)
 clear hcl hr;obtain⟨i0,hi,hz0,hz1,hz2⟩:=info_parts EP;go_enter Tryz.func205,Tryz.ntmps205;go_wp2_with (at_builtin;refine wpList_append_own_at _ rfl (.tmp 19) (.tmp 24) 294 rfl (w.heap.size+1) 293 i0 (.agg #[.int .i64 0,.int .i64 0,.int .i64 0]) 3 24 Tryz.underlying294 hi hz0 hz1 hz2 rfl (by decide) _ 0 [] rfl (World.ownsRow_nil _ _ _ _) ⟨gb,0,none⟩ r cap (Aj R) rfl (by rw[<-Aa HRR];exact Ba R) (Aa HN _) (BA R) (by unfold maxLen;omega) (by omega) (by simp) ?_)
 intro v1 w1 hown hgrow _ _;obtain⟨t0,t1,t2,y0,y1,y2⟩:=(Tw.new w (.int .i64 4) (.int .i64 k) (.int .i64 L)).facts;have b0:=hgrow.cell t0 (by simp[Value.ownBlock]);have b1:=hgrow.cell t1 (by simp[Value.ownBlock]);have b2:=hgrow.cell t2 (by simp[Value.ownBlock]);have hb1:Below w.heap.size w w1:=below_grown hgrow;have s1:w.heap.size+1<=w1.heap.size:=by have:=hgrow.size;simpa using this
 have hown:w1.ownsRow (w.heap.size+1) 293 3 v1 r (Aj R):=by simpa using hown
 have z1:w1.frozen? ⟨w.heap.size,1,none⟩=false:=(World.frozen?_of_block (w:=w.alloc (.cells #[.int .i64 4,.int .i64 k,.int .i64 L] 293)) (hgrow.block w.heap.size (by simp) (by simp[Value.ownBlock]))).trans y1;have HOWN:=Ab hown;have HRS:Hid (Ea w1 w.heap.size v1 R):=by unfold Ea;rw[Aa HRR];exact Cz hown (by omega)
 clear t0 t1 t2 y0 y1 y2 f0 f1 f2 hown hgrow;go_wp2
 go_ret2
 exact⟨_,rfl,hb1,Aa HRS⟩
theorem Wx(k L c r:Nat)(R:List Want)(gb cap:Nat)(w:World)(hr:R.length=r)(hR:r<=1000)(hcap:r+1<=cap)(hgl:gb<w.heap.size)(hcl:∀j u,(Aj R)[j]?=some u->w.cell? ((⟨gb,0,none⟩:Addr).add j)=some u)
  (f0:w.cell? ⟨gb,r*3,none⟩=some (.int .i64 5)) (f1:w.cell? ⟨gb,r*3+1,none⟩=some (.int .i64 k)) (f2:w.cell? ⟨gb,r*3+2,none⟩=some (.int .i64 L)) (hc:((c:Int)==41)=true) (hk:(0:Int)<(k:Int)):
  Calls Tryz.prog 205 #[.slice (some ⟨gb,0,none⟩) (r+1) cap,.int .u8 c] w fun e w'=>∃v,e=.returned (.tuple #[v,.bool true])/\Below w.heap.size w w'/\Ea w' w.heap.size v R:=by
 have HRR:=Ab hr;have HN:Hid (∀(o:Obj) (j:Nat) (u:Value),(Aj R)[j]?=some u->(w.alloc o).cell? ((⟨gb,0,none⟩:Addr).add j)=some u):=fun o j u hj=>(World.cell?_of_block (w:=w) (Below.heap_alloc _ _ _ (by rw[add_block];exact hgl))).trans (hcl j u hj)
 clear hcl hr;obtain⟨i0,hi,hz0,hz1,hz2⟩:=info_parts EP;go_enter Tryz.func205,Tryz.ntmps205;go_wp2_with (at_builtin;refine wpList_append_own_at _ rfl (.tmp 19) (.tmp 24) 294 rfl (w.heap.size+1) 293 i0 (.agg #[.int .i64 0,.int .i64 0,.int .i64 0]) 3 24 Tryz.underlying294 hi hz0 hz1 hz2 rfl (by decide) _ 0 [] rfl (World.ownsRow_nil _ _ _ _) ⟨gb,0,none⟩ r cap (Aj R) rfl (by rw[<-Aa HRR];exact Ba R) (Aa HN _) (BA R) (by unfold maxLen;omega) (by omega) (by simp) ?_)
 intro v1 w1 hown hgrow _ _;obtain⟨t0,t1,t2,y0,y1,y2⟩:=(Tw.new w (.int .i64 5) (.int .i64 k) (.int .i64 L)).facts;have b0:=hgrow.cell t0 (by simp[Value.ownBlock]);have b1:=hgrow.cell t1 (by simp[Value.ownBlock]);have b2:=hgrow.cell t2 (by simp[Value.ownBlock]);have hb1:Below w.heap.size w w1:=below_grown hgrow;have s1:w.heap.size+1<=w1.heap.size:=by have:=hgrow.size;simpa using this
 have hown:w1.ownsRow (w.heap.size+1) 293 3 v1 r (Aj R):=by simpa using hown
 have z1:w1.frozen? ⟨w.heap.size,1,none⟩=false:=(World.frozen?_of_block (w:=w.alloc (.cells #[.int .i64 5,.int .i64 k,.int .i64 L] 293)) (hgrow.block w.heap.size (by simp) (by simp[Value.ownBlock]))).trans y1;have HOWN:=Ab hown;have HRS:Hid (Ea w1 w.heap.size v1 R):=by unfold Ea;rw[Aa HRR];exact Cz hown (by omega)
 clear t0 t1 t2 y0 y1 y2 f0 f1 f2 hown hgrow;go_wp2
 go_ret2
 exact⟨_,rfl,hb1,Aa HRS⟩
theorem WA(k L c r:Nat)(R:List Want)(gb cap:Nat)(w:World)(hr:R.length=r)(hR:r<=1000)(hcap:r+1<=cap)(hgl:gb<w.heap.size)(hcl:∀j u,(Aj R)[j]?=some u->w.cell? ((⟨gb,0,none⟩:Addr).add j)=some u)
  (f0:w.cell? ⟨gb,r*3,none⟩=some (.int .i64 5)) (f1:w.cell? ⟨gb,r*3+1,none⟩=some (.int .i64 k)) (f2:w.cell? ⟨gb,r*3+2,none⟩=some (.int .i64 L)) (hc:((c:Int)==41)=false) (hk:((k:Int)==6)=true):
  Calls Tryz.prog 205 #[.slice (some ⟨gb,0,none⟩) (r+1) cap,.int .u8 c] w fun e w'=>∃v,e=.returned (.tuple #[v,.bool false])/\Below w.heap.size w w':=by
 have HRR:=Ab hr;have HN:Hid (∀(o:Obj) (j:Nat) (u:Value),(Aj R)[j]?=some u->(w.alloc o).cell? ((⟨gb,0,none⟩:Addr).add j)=some u):=fun o j u hj=>(World.cell?_of_block (w:=w) (Below.heap_alloc _ _ _ (by rw[add_block];exact hgl))).trans (hcl j u hj)
 clear hcl hr;obtain⟨i0,hi,hz0,hz1,hz2⟩:=info_parts EP;go_enter Tryz.func205,Tryz.ntmps205;go_wp2_with (at_builtin;refine wpList_append_own_at _ rfl (.tmp 19) (.tmp 24) 294 rfl (w.heap.size+1) 293 i0 (.agg #[.int .i64 0,.int .i64 0,.int .i64 0]) 3 24 Tryz.underlying294 hi hz0 hz1 hz2 rfl (by decide) _ 0 [] rfl (World.ownsRow_nil _ _ _ _) ⟨gb,0,none⟩ r cap (Aj R) rfl (by rw[<-Aa HRR];exact Ba R) (Aa HN _) (BA R) (by unfold maxLen;omega) (by omega) (by simp) ?_)
 intro v1 w1 hown hgrow _ _;obtain⟨t0,t1,t2,y0,y1,y2⟩:=(Tw.new w (.int .i64 5) (.int .i64 k) (.int .i64 L)).facts;have b0:=hgrow.cell t0 (by simp[Value.ownBlock]);have b1:=hgrow.cell t1 (by simp[Value.ownBlock]);have b2:=hgrow.cell t2 (by simp[Value.ownBlock]);have hb1:Below w.heap.size w w1:=below_grown hgrow;have s1:w.heap.size+1<=w1.heap.size:=by have:=hgrow.size;simpa using this
 have hown:w1.ownsRow (w.heap.size+1) 293 3 v1 r (Aj R):=by simpa using hown
 have z1:w1.frozen? ⟨w.heap.size,1,none⟩=false:=(World.frozen?_of_block (w:=w.alloc (.cells #[.int .i64 5,.int .i64 k,.int .i64 L] 293)) (hgrow.block w.heap.size (by simp) (by simp[Value.ownBlock]))).trans y1;have HOWN:=Ab hown;have HRS:Hid (Ea w1 w.heap.size v1 R):=by unfold Ea;rw[Aa HRR];exact Cz hown (by omega)
 clear t0 t1 t2 y0 y1 y2 f0 f1 f2 hown hgrow;go_wp2
 go_ret2
 first
  |exact⟨⟨_,rfl⟩,hb1⟩
  |exact⟨_,rfl,hb1⟩
end Go.Proofs.YtblomippkddgiaaGreatDoor.V
