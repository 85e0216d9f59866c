import Derived.Test.YtblomippkddgiaaGreatDoorJ48
set_option maxRecDepth 100000
set_option maxHeartbeats 4000000
namespace Go.Proofs.YtblomippkddgiaaGreatDoor
open Go
open Go.RowKit
section
variable {P:Program} {ops:Array Oper} {Q:Exit->Act->World->Prop} {md:Region.Mode} {S T U:World->Prop} {k:Nat}
def Dz(P:Program)(md:Region.Mode)(ops:Array Oper)(Q:Exit->Act->World->Prop)(S T:World->Prop)(k:Nat):Nat->Array Bool->Act->World->Prop
 |0,listed,a,w=>Region.ready md ops listed=[]/\Q .normal a w
 |fuel+1,listed,a,w=>
  (Region.ready md ops listed=[]->Q .normal a w) /\
  ∀i∈Region.ready md ops listed,wpOp P ops Q i (fun a' w'=>(S w'/\((listed.setIfInBounds i true).getD k true=false->T w'))/\Dz P md ops Q S T k fuel (listed.setIfInBounds i true) a' w') a w
theorem JI:∀(fuel:Nat) (listed:Array Bool) (a:Act) (w:World),Dz P md ops Q S T k fuel listed a w->wpAny P md ops Q fuel listed a w
 |0,_,_,_,h=>h
 |fuel+1,_,_,_,h=>⟨h.1,fun i hi=>wpOp_mono (fun a' w' h'=>JI fuel _ a' w' h'.2) (h.2 i hi)⟩
def Down(md:Region.Mode)(ops:Array Oper)(listed:Array Bool):Prop:=
 ∀j oj,ops[j]?=some oj->listed.getD j true=true->∀e∈oj.after,Region.binds md e=true->listed.getD e.on false=true
theorem Down.set{listed:Array Bool}{j:Nat}(h:Down md ops listed)(hj:j∈Region.ready md ops listed):Down md ops (listed.setIfInBounds j true):=by
 intro i oi hoi hl e he hb;by_cases hij:j=i
 ·subst hij;obtain⟨_,oj,hoj,hall⟩:=mem_ready.1 hj;rw[hoi]at hoj;cases hoj;exact getD_set_true (hall e he hb)
 ·rw[getD_set_ne true hij]at hl;exact getD_set_true (h i oi hoi hl e he hb)
inductive BO (md:Region.Mode) (ops:Array Oper):Nat->Nat->Prop
 |one {k i:Nat} {ok:Oper} {e:Edge} (hk:ops[k]?=some ok) (he:e∈ok.after) (hb:Region.binds md e=true) (hi:e.on=i):BO md ops k i
 |more {k j i:Nat} (h:BO md ops k j) (h':BO md ops j i):BO md ops k i
def straight(md:Region.Mode)(ops:Array Oper)(k i:Nat):Bool:=
 match ops[k]? with
 |some ok=>ok.after.any fun e=>Region.binds md e&&e.on==i
 |none=>false
theorem BO.of{i:Nat}(h:straight md ops k i=true):BO md ops k i:=by
 unfold straight at h;split at h
 ·rename_i ok hok;simp only[Array.any_eq_true',Bool.and_eq_true,beq_iff_eq]at h;obtain⟨e,he,hb,hi⟩:=h;exact .one hok he hb hi
 ·cases h
theorem Wu{listed:Array Bool}{i:Nat}(h:listed.getD i false=true):listed.getD i true=true:=by
 rcases Nat.lt_or_ge i listed.size with h'|h'
 ·simp[h']at h ⊢;exact h
 ·simp[Array.getElem?_eq_none h']at h
theorem BO.VB{i:Nat}{listed:Array Bool}(h:BO md ops k i)(hd:Down md ops listed)(hi:listed.getD i true=false):listed.getD k true=false:=by
 induction h with
 |one hk he hb hi'=>
  rename_i kk ii ok e;cases hc:listed.getD kk true with
  |false=>rfl
  |true=>
   have:=Wu (hd _ _ hk hc _ he hb);rw[hi',hi]at this;cases this
 |more _ _ ih1 ih2=>exact ih1 (ih2 hi)
theorem GQ{i:Nat}{oi:Oper}{v:Value}(hi:ops[i]?=some oi)(hsel:∀(j:Nat) (o:Oper) cs b,ops[j]?=some o->o.op≠.select cs b)
  (hQ:∀c a w,Q (.panic c) (a.put oi.dst v) w->Q (.panic c) a w) (hik:i≠k)
  (hU:∀(listed:Array Bool) w,Down md ops listed->listed.getD i true=false->S w->(listed.getD k true=false->T w)->U w):
  ∀(fuel:Nat) (listed:Array Bool) (a:Act) (w:World),Down md ops listed ->
   (∀j oj,ops[j]?=some oj->j≠i->listed.getD j true=false->(∀e∈oj.after,Region.binds md e=true->e.on≠i)->oi.apart ops oj=true) ->
   i∈Region.ready md ops listed->YieldsIf P ops U oi v a->S w->(listed.getD k true=false->T w) ->
   Dz P md ops Q S T k fuel (listed.setIfInBounds i true) (a.put oi.dst v) w->Dz P md ops Q S T k (fuel+1) listed a w:=by
 intro fuel;induction fuel with
 |zero=>
  intro listed a w hd _ hr hy hS hT H;refine⟨fun h=>(by rw[h]at hr;cases hr),fun j hj=>?_⟩;by_cases hji:j=i
  ·subst hji;exact hy.wpOp hi (hU _ _ hd (mem_ready.1 hr).1 hS hT) ⟨⟨hS,by rw[getD_set_ne true hik];exact hT⟩,H⟩
  ·have:=ready_mono hj hji;rw[H.1]at this;cases this
 |succ fuel ih=>
  intro listed a w hd hfree hr hy hS hT H;refine⟨fun h=>(by rw[h]at hr;cases hr),fun j hj=>?_⟩;by_cases hji:j=i
  ·subst hji;exact hy.wpOp hi (hU _ _ hd (mem_ready.1 hr).1 hS hT) ⟨⟨hS,by rw[getD_set_ne true hik];exact hT⟩,H⟩
  ·have h1:=H.2 j (ready_mono hj hji);obtain⟨hjun,oj,hoj,hall⟩:=mem_ready.1 hj;have hnot:∀e∈oj.after,Region.binds md e=true->e.on≠i:=fun e he hb heq=>by
    have h1:=hall e he hb;have h0:=(mem_ready.1 hr).1;rw[heq]at h1;rcases Nat.lt_or_ge i listed.size with h'|h'
    ·simp[h']at h0 h1;rw[h0]at h1;cases h1
    ·simp[Array.getElem?_eq_none h']at h1
   have h2:=wpOp_putIf hoj (hfree j oj hoj hji hjun hnot) (fun cs b=>hsel i oi cs b hi) (fun cs b=>hsel j oj cs b hoj) hQ hy h1;have hfree':∀k ok,ops[k]?=some ok->k≠i->(listed.setIfInBounds j true).getD k true=false ->
     (∀e∈ok.after,Region.binds md e=true->e.on≠i)->oi.apart ops ok=true:=fun k ok hk hki hun hno=>by
    refine hfree k ok hk hki ?_ hno;by_cases hjk:j=k
    ·subst hjk;exact hjun
    ·rw[getD_set_ne true hjk]at hun;exact hun
   refine wpOp_mono (fun a' w' h3=>?_) h2;have hT':(listed.setIfInBounds j true).getD k true=false->T w':=fun h=>h3.2.1.2 (by
    rw[Array.setIfInBounds_comm _ _ (Ne.symm hji),getD_set_ne true hik];exact h)
   refine⟨⟨h3.2.1.1,hT'⟩,ih (listed.setIfInBounds j true) a' w' (hd.set hj) hfree' (ready_mono hr (Ne.symm hji)) h3.1 h3.2.1.1 hT' ?_⟩;rw[Array.setIfInBounds_comm _ _ hji];exact h3.2.2
structure Gb(md:Region.Mode)(ops:Array Oper)(S T:World->Prop)(k:Nat)(listed:Array Bool)(w:World):Prop where
 down:Down md ops listed
 s:S w
 t:listed.getD k true=false->T w
theorem Gb.set{listed:Array Bool}{w:World}{i:Nat}(h:Gb md ops S T k listed w)(hr:(Region.ready md ops listed).contains i=true)(hik:(i==k)=false):Gb md ops S T k (listed.setIfInBounds i true) w:=
 ⟨h.down.set (by simpa using hr),h.s,by rw[getD_set_ne true (by simpa using hik)];exact h.t⟩
theorem M7{i:Nat}{oi:Oper}{v:Value}{fuel:Nat}{listed:Array Bool}{a:Act}{w:World}(hi:ops[i]?=some oi)
  (hs:Region.noSelect ops=true) (hf:Region.free md ops listed i=true) (hr:(Region.ready md ops listed).contains i=true) (hik:(i==k)=false)
  (hQ:∀c a w,Q (.panic c) (a.put oi.dst v) w->Q (.panic c) a w) (hy:YieldsIf P ops S oi v a) (hH:Gb md ops S T k listed w)
  (h:Gb md ops S T k (listed.setIfInBounds i true) w->Dz P md ops Q S T k fuel (listed.setIfInBounds i true) (a.put oi.dst v) w):Dz P md ops Q S T k (fuel+1) listed a w:=
 GQ (U:=S) hi (Region.noSelect_spec hs) hQ (by simpa using hik) (fun _ _ _ _ h _=>h) fuel listed a w hH.down (Region.free_spec hi hf) (by simpa using hr) hy hH.s hH.t (h (hH.set hr hik))
theorem Lw{i:Nat}{oi:Oper}{v:Value}{fuel:Nat}{listed:Array Bool}{a:Act}{w:World}(hi:ops[i]?=some oi)
  (hs:Region.noSelect ops=true) (hf:Region.free md ops listed i=true) (hr:(Region.ready md ops listed).contains i=true) (hik:(i==k)=false) (hw:BO md ops k i)
  (hQ:∀c a w,Q (.panic c) (a.put oi.dst v) w->Q (.panic c) a w) (hy:YieldsIf P ops (fun w=>S w/\T w) oi v a) (hH:Gb md ops S T k listed w)
  (h:Gb md ops S T k (listed.setIfInBounds i true) w->Dz P md ops Q S T k fuel (listed.setIfInBounds i true) (a.put oi.dst v) w):Dz P md ops Q S T k (fuel+1) listed a w:=
 GQ (U:=fun w=>S w/\T w) hi (Region.noSelect_spec hs) hQ (by simpa using hik) (fun _ _ hd hun h ht=>⟨h,ht (hw.VB hd hun)⟩) fuel listed a w hH.down (Region.free_spec hi hf) (by simpa using hr) hy hH.s hH.t (h (hH.set hr hik))
def Ct(P:Program)(md:Region.Mode)(ops:Array Oper)(Q:Exit->Act->World->Prop)(S T:World->Prop)(k:Nat)(fuel:Nat)(listed:Array Bool)(a:Act)(w:World)(rs:List Nat):Prop:=
 ∀i∈rs,wpOp P ops Q i (fun a' w'=>(S w'/\((listed.setIfInBounds i true).getD k true=false->T w'))/\Dz P md ops Q S T k fuel (listed.setIfInBounds i true) a' w') a w
theorem Ct.nil{fuel:Nat}{listed:Array Bool}{a:Act}{w:World}:Ct P md ops Q S T k fuel listed a w []:=fun _ h=>by cases h
theorem Ct.cons{fuel:Nat}{listed:Array Bool}{a:Act}{w:World}{i:Nat}{o:Oper}{rs:List Nat}(ho:ops[i]?=some o)
  (hd:Down md ops listed) (hr:(Region.ready md ops listed).contains i=true)
  (h:∀K':Act->World->Prop,Shut (∀a w,S w->((listed.setIfInBounds i true).getD k true=false->T w)->(Gb md ops S T k (listed.setIfInBounds i true) w->Dz P md ops Q S T k fuel (listed.setIfInBounds i true) a w)->K' a w)->if Region.wanted o (yielded ops a.tmps)=true then Oper.wp P o a w K' Q else K' (a.put o.dst undef) w)
  (hs:Ct P md ops Q S T k fuel listed a w rs):Ct P md ops Q S T k fuel listed a w (i :: rs):=fun j hj=>by
 rcases List.mem_cons.1 hj with rfl|hj
 ·exact wpOp_step ho (fun K' hK=>h K' (fun a w hS hT hW=>hK a w ⟨⟨hS,hT⟩,hW ⟨hd.set (by simpa using hr),hS,hT⟩⟩))
 ·exact hs j hj
theorem GR{rs:List Nat}{fuel:Nat}{listed:Array Bool}{a:Act}{w:World}(hr:Region.ready md ops listed=rs)(hne:rs≠[])
  (h:Ct P md ops Q S T k fuel listed a w rs):Dz P md ops Q S T k (fuel+1) listed a w:=
 ⟨fun h0=>absurd (hr ▸ h0) hne,hr ▸ h⟩
theorem M6{listed:Array Bool}{a:Act}{w:World}(hr:Region.ready md ops listed=[])(h:Q .normal a w):
  ∀fuel,Dz P md ops Q S T k fuel listed a w
 |0=>⟨hr,h⟩
 |_+1=>⟨fun _=>h,by rw[hr];simp⟩
theorem M8{id:Nat}{a:Act}{w:World}(hm:P.follows .mixedOrders=true)(hS:S w.drew)(hT:T w.drew)
  (h:Gb .any ops S T k (Array.replicate ops.size false) w.drew->Dz P .any ops Q S T k ops.size (Array.replicate ops.size false) a w.drew):(Code.region id ops true).wp P Q a w:=
 wp_region_any hm (JI _ _ _ _ (h ⟨fun j oj hoj hl=>by
  have hlt:=(Array.getElem?_eq_some_iff.1 hoj).1;simp[hlt]at hl,hS,fun _=>hT⟩))
def WK(P:Program)(md:Region.Mode)(ops:Array Oper)(Q:Exit->Act->World->Prop)(S T:World->Prop)(k:Nat)(fuel:Nat)(listed:Array Bool)(a:Act)(w:World):Prop:=
 Gb md ops S T k listed w->Dz P md ops Q S T k fuel listed a w
theorem WK.take{i:Nat}{oi:Oper}{v:Value}{fuel:Nat}{listed:Array Bool}{a:Act}{w:World}(hi:ops[i]?=some oi)
  (hs:Region.noSelect ops=true) (hf:Region.free md ops listed i=true) (hr:(Region.ready md ops listed).contains i=true) (hik:(i==k)=false)
  (hQ:∀c a w,Q (.panic c) (a.put oi.dst v) w->Q (.panic c) a w) (hy:YieldsIf P ops S oi v a)
  (h:WK P md ops Q S T k fuel (listed.setIfInBounds i true) (a.put oi.dst v) w):WK P md ops Q S T k (fuel+1) listed a w:=
 fun hH=>M7 hi hs hf hr hik hQ hy hH h
theorem WK.take2{i:Nat}{oi:Oper}{v:Value}{fuel:Nat}{listed:Array Bool}{a:Act}{w:World}(hi:ops[i]?=some oi)
  (hs:Region.noSelect ops=true) (hf:Region.free md ops listed i=true) (hr:(Region.ready md ops listed).contains i=true) (hik:(i==k)=false) (hw:BO md ops k i)
  (hQ:∀c a w,Q (.panic c) (a.put oi.dst v) w->Q (.panic c) a w) (hy:YieldsIf P ops (fun w=>S w/\T w) oi v a)
  (h:WK P md ops Q S T k fuel (listed.setIfInBounds i true) (a.put oi.dst v) w):WK P md ops Q S T k (fuel+1) listed a w:=
 fun hH=>Lw hi hs hf hr hik hw hQ hy hH h
theorem WK.one{i:Nat}{o:Oper}{fuel:Nat}{listed:Array Bool}{a:Act}{w:World}(hr:Region.ready md ops listed=[i])(ho:ops[i]?=some o)
  (h:∀K':Act->World->Prop,Shut (∀a w,S w->T w->WK P md ops Q S T k fuel (listed.setIfInBounds i true) a w->K' a w)->if Region.wanted o (yielded ops a.tmps)=true then Oper.wp P o a w K' Q else K' (a.put o.dst undef) w):WK P md ops Q S T k (fuel+1) listed a w:=
 fun hH=>GR hr (by simp) (Ct.cons ho hH.down (by rw[hr];simp) (fun K' hK=>h K' fun a w hS hT hW=>hK a w hS (fun _=>hT) hW) Ct.nil)
theorem WK.store{o:Oper}{fuel:Nat}{listed:Array Bool}{a:Act}{w:World}(hr:Region.ready md ops listed=[k])(ho:ops[k]?=some o)
  (h:∀K':Act->World->Prop,Shut (∀a w,S w->WK P md ops Q S T k fuel (listed.setIfInBounds k true) a w->K' a w)->if Region.wanted o (yielded ops a.tmps)=true then Oper.wp P o a w K' Q else K' (a.put o.dst undef) w):WK P md ops Q S T k (fuel+1) listed a w:=
 fun hH=>GR hr (by simp) (Ct.cons ho hH.down (by rw[hr];simp) (fun K' hK=>h K' fun a w hS hW=>hK a w hS (fun hc=>by
  exfalso;rcases Nat.lt_or_ge k listed.size with h'|h'
  ·simp[h']at hc
  ·simp[Nat.not_lt.2 h']at hc) hW) Ct.nil)
theorem WK.done{listed:Array Bool}{a:Act}{w:World}{fuel:Nat}(hr:Region.ready md ops listed=[])(h:Q .normal a w):WK P md ops Q S T k fuel listed a w:=
 fun _=>M6 hr h fuel
theorem WK.begin{id:Nat}{a:Act}{w:World}(hm:P.follows .mixedOrders=true)(hS:S w.drew)(hT:T w.drew)
  (h:WK P .any ops Q S T k ops.size (Array.replicate ops.size false) a w.drew):(Code.region id ops true).wp P Q a w:=
 M8 hm hS hT h
end
theorem Rh(c:Int)(n:Nat)(hc:LA c)(hn:0<n)(hn2:n<=1000000000001):∃k:Nat,k<n/\∀w,Calls Tryz.prog 55 #[.int .i64 c,.int .i64 n] w fun e w'=>e=.returned (.int .i64 k)/\w'=w:=by
 obtain⟨h1,h2⟩:=hc;have hn0:¬(n:Int)=0:=by omega
 by_cases hlt:c<0
 ·have h3:=Int.emod_nonneg (-(c+1)) hn0;have h4:=Int.emod_lt_of_pos (-(c+1)) (show (0:Int)<n by omega);refine⟨((-(c+1)) % n).toNat,by omega,fun w=>?_⟩;have e:(-(c+1)).tmod n=(((-(c+1)) % n).toNat:Int):=by rw[Int.tmod_eq_emod_of_nonneg (by omega)];omega
  rw[Int.neg_tmod]at e;have HE:=Ab e;clear e h3 h4;go_enter Tryz.func55,Tryz.ntmps55;go_wp2
  go_ret
  rw[Aa HE];exact⟨rfl,rfl⟩
 ·have h3:=Int.emod_nonneg c hn0;have h4:=Int.emod_lt_of_pos c (show (0:Int)<n by omega);obtain⟨k,hk⟩:∃k:Nat,c % n=(k:Int):=⟨(c % n).toNat,by omega⟩;refine⟨k,by omega,fun w=>?_⟩;have HE:=Ab hk;clear hk h3 h4;go_enter Tryz.func55,Tryz.ntmps55;go_wp2
  go_ret
  rw[Aa HE];exact⟨rfl,rfl⟩
theorem aag:∀args w,(callFunc 54 args).run Tryz.prog w=.ok (.enter 54 args) w:=fun _ _=>rfl
theorem aah:∀args w,(callFunc 55 args).run Tryz.prog w=.ok (.enter 55 args) w:=fun _ _=>rfl
theorem Oo(w:World)(b:Nat)(o:EM)(hk:o.kind=7)(Q1 Q2:World->Prop)(H1:Hid (∀W1,w.alloc (.cells o.cells 72)=W1->Calls Tryz.prog 52 #[ptr b,OC o.W] W1 fun e w'=>e=.returned (.bool true)/\Q1 w'))
  (H2:Hid (∀w',Q1 w'->b<w'.heap.size/\Calls Tryz.prog 56 #[.pointer (some ⟨b,1,none⟩)] w' fun e w''=>e=.returned (.bool true)/\Q2 w'')):
  Calls Tryz.prog 26 #[ptr b,o.val] w fun e w'=>e=.returned (.bool true)/\Q2 w':=by
 obtain⟨W1,hW1⟩:∃W1,w.alloc (.cells o.cells 72)=W1:=⟨_,rfl⟩;have G1:=Ab ((Aa H1) W1 hW1);have HW1:=Ab hW1;have k0:o.kind<7↔False:=by rw[hk];decide
 have k0':decide (o.kind<7)=false:=by rw[hk];rfl
 have k7:(o.kind==7)=true:=by rw[hk];rfl
 clear hW1 H1 hk;go_enter Tryz.func26,Tryz.ntmps26;go_wp2_with fail
 rw[Aa HW1];refine(Aa G1).mono ?_;rintro e w2 ⟨rfl,h2⟩;obtain⟨lb,h3⟩:=(Aa H2) _ h2;have G2:=Ab h3;clear h2 h3;go_wp2_with fail
 refine(Aa G2).mono ?_;rintro e w3 ⟨rfl,h3⟩;have H3:=Ab h3;clear h3;go_wp2;go_returns;exact⟨rfl,Aa H3⟩
theorem Rp(w:World)(b:Nat)(o:EM)(hk:7<o.kind)(a:Option Addr)(cc:Nat)(hlv:w.cell? ⟨b,0,none⟩=some (.slice a 0 cc))(Q2:World->Prop)
  (H2:Hid (∀W1,w.alloc (.cells o.cells 72)=W1->Calls Tryz.prog 56 #[.pointer (some ⟨b,1,none⟩)] W1 fun e w''=>e=.returned (.bool true)/\Q2 w'')):
  Calls Tryz.prog 26 #[ptr b,o.val] w fun e w'=>e=.returned (.bool true)/\Q2 w':=by
 obtain⟨W1,hW1⟩:∃W1,w.alloc (.cells o.cells 72)=W1:=⟨_,rfl⟩;have G1:=Ab ((Aa H2) W1 hW1);have HW1:=Ab hW1;have lb:=lt_of_cell hlv;have k0':decide (o.kind<7)=false:=by simp;omega
 have k7:(o.kind==7)=false:=by simp;omega
 clear hW1 H2 hk;go_enter Tryz.func26,Tryz.ntmps26;go_wp2_with fail
 rw[Aa HW1];refine(Aa G1).mono ?_;rintro e w2 ⟨rfl,h2⟩;have H3:=Ab h2;clear h2;go_wp2;go_returns;exact⟨rfl,Aa H3⟩
theorem Oq(w:World)(b:Nat)(t:Tw)(o:EM)(hk:7<o.kind)(g n cc i:Nat)(hi:i<n)(hlv:w.cell? ⟨b,0,none⟩=some (.slice (some ⟨g,0,none⟩) n cc))(ht0:w.cell? ⟨g,i*2,none⟩=some (ptr t.p.x))(ht1:w.cell? ⟨g,i*2+1,none⟩=some (Av t.x))(hn:n<=1000000000001)
  (HP:Hid (∀w,Calls Tryz.prog 55 #[.int .i64 o.on,.int .i64 n] w fun e w'=>e=.returned (.int .i64 i)/\w'=w)) (Q1 Q2:World->Prop)
  (H1:Hid (∀W1,w.alloc (.cells o.cells 72)=W1->Calls Tryz.prog 54 #[ptr b,t.val,o.val] W1.drew fun e w'=>e=.returned (.bool true)/\Q1 w'))
  (H2:Hid (∀w',Q1 w'->b<w'.heap.size/\Calls Tryz.prog 56 #[.pointer (some ⟨b,1,none⟩)] w' fun e w''=>e=.returned (.bool true)/\Q2 w'')):
  Calls Tryz.prog 26 #[ptr b,o.val] w fun e w'=>e=.returned (.bool true)/\Q2 w':=by
 obtain⟨W1,hW1⟩:∃W1,w.alloc (.cells o.cells 72)=W1:=⟨_,rfl⟩;have G1:=Ab ((Aa H1) W1 hW1);have HW1:=Ab hW1;have lb:=lt_of_cell hlv;have lg:=lt_of_cell ht0;have k0':decide (o.kind<7)=false:=by simp;omega
 have k7:(o.kind==7)=false:=by simp;omega
 have n0:(0:Int)<(n:Int):=by omega
 have i0:(0:Int)<=(i:Int):=by omega
 have i1:(i:Int)<(n:Int):=by omega
 have hbx:W1.heap[w.heap.size]?=some (.cells o.cells 72 (0,0)):=by
  rw[<-hW1];exact heap_alloc_new w _
 have f0:W1.cell? ⟨w.heap.size,0,none⟩=some (.int .i64 o.kind):=cell_of hbx 0 _ rfl;have hbl:Below w.heap.size w W1:=by
  rw[<-hW1];exact(Below.refl _ _).alloc (Nat.le_refl _) _
 have x0:W1.cell? ⟨b,0,none⟩=some (.slice (some ⟨g,0,none⟩) n cc):=(hbl.cell (p:=⟨b,0,none⟩) lb).trans hlv;have lx:=lt_of_cell x0;have lw:=lt_of_block hbx;have HT:Hid (W1.drew.cell? ⟨b,0,none⟩=some (.slice (some ⟨g,0,none⟩) n cc)/\W1.drew.cell? ⟨w.heap.size,1,none⟩=some (.int .i64 o.on)/\W1.drew.rangeAt g (i*2) (JU t)/\W1.drew.rangeAt w.heap.size 0 o.cells.toList):=by
  refine⟨x0,cell_of hbx 1 _ rfl,fun j u hj=>?_,fun j u hj=>?_⟩
  ·have hj2:j=0\/j=1:=by
    have:=(List.getElem?_eq_some_iff.1 hj).1;simp[JU]at this;omega
   rcases hj2 with rfl|rfl
   ·cases hj;exact(hbl.cell (p:=⟨g,i*2,none⟩) lg).trans ht0
   ·cases hj;exact(hbl.cell (p:=⟨g,i*2+1,none⟩) lg).trans ht1
  ·rw[Nat.zero_add];exact cell_of hbx j u (by simpa using hj)
 clear hW1 H1 hk hbx hbl hlv ht0 ht1;go_enter Tryz.func26,Tryz.ntmps26
 go_upto_region 1 with fail
 rw[Aa HW1]
 go_upto_region 7 with fail
 refine WK.begin (S:=fun _=>True) (T:=fun w'=>w'.cell? ⟨b,0,none⟩=some (.slice (some ⟨g,0,none⟩) n cc)/\w'.cell? ⟨w.heap.size,1,none⟩=some (.int .i64 o.on)/\w'.rangeAt g (i*2) (JU t)/\w'.rangeAt w.heap.size 0 o.cells.toList) (k:=16) (by kernel_rfl) trivial ?_ ?_
 ·exact Aa HT
 refine WK.take (i:=0) (v:=?_) rfl (by kernel_rfl) (by kernel_rfl) (by kernel_rfl) rfl (fun _ _ _ h=>h) (Or.inl ⟨by rfl,?_⟩) ?_;rotate_left
 ·intro w _;go_simp;try with_reducible rfl
 try simp only[Act.put,List.setIfInBounds_toArray,List.set_cons_zero,List.set_cons_succ,List.getElem_toArray,List.getElem_cons_zero]
 refine WK.take (i:=1) (v:=?_) rfl (by kernel_rfl) (by kernel_rfl) (by kernel_rfl) rfl (fun _ _ _ h=>h) (Or.inl ⟨by rfl,?_⟩) ?_;rotate_left
 ·intro w _;go_simp;try with_reducible rfl
 try simp only[Act.put,List.setIfInBounds_toArray,List.set_cons_zero,List.set_cons_succ,List.getElem_toArray,List.getElem_cons_zero,List.getElem_cons_succ]
 refine WK.take (i:=2) (v:=?_) rfl (by kernel_rfl) (by kernel_rfl) (by kernel_rfl) rfl (fun _ _ _ h=>h) (Or.inl ⟨by rfl,?_⟩) ?_;rotate_left
 ·intro w _;go_simp;try with_reducible rfl
 try simp only[Act.put,List.setIfInBounds_toArray,List.set_cons_zero,List.set_cons_succ,List.getElem_toArray,List.getElem_cons_zero,List.getElem_cons_succ]
 refine WK.take (i:=3) (v:=?_) rfl (by kernel_rfl) (by kernel_rfl) (by kernel_rfl) rfl (fun _ _ _ h=>h) (Or.inl ⟨by rfl,?_⟩) ?_;rotate_left
 ·intro w _;go_simp;try with_reducible rfl
 try simp only[Act.put,List.setIfInBounds_toArray,List.set_cons_zero,List.set_cons_succ,List.getElem_toArray,List.getElem_cons_zero,List.getElem_cons_succ]
 refine WK.take2 (i:=4) (v:=?_) rfl (by kernel_rfl) (by kernel_rfl) (by kernel_rfl) rfl (BO.more (BO.of (k:=16) (i:=14) (by kernel_rfl)) (BO.more (BO.of (k:=14) (i:=13) (by kernel_rfl)) (BO.of (k:=13) (i:=4) (by kernel_rfl)))) (fun _ _ _ h=>h) (Or.inl ⟨by rfl,?_⟩) ?_;rotate_left
 ·intro w hSw;obtain⟨_,t1,t2,_⟩:=hSw;go_simp;try with_reducible rfl
 try simp only[Act.put,List.setIfInBounds_toArray,List.set_cons_zero,List.set_cons_succ,List.getElem_toArray,List.getElem_cons_zero,List.getElem_cons_succ]
 refine WK.take (i:=5) (v:=?_) rfl (by kernel_rfl) (by kernel_rfl) (by kernel_rfl) rfl (fun _ _ _ h=>h) (Or.inl ⟨by rfl,?_⟩) ?_;rotate_left
 ·intro w _;go_simp;try with_reducible rfl
 try simp only[Act.put,List.setIfInBounds_toArray,List.set_cons_zero,List.set_cons_succ,List.getElem_toArray,List.getElem_cons_zero,List.getElem_cons_succ]
 refine WK.take2 (i:=6) (v:=?_) rfl (by kernel_rfl) (by kernel_rfl) (by kernel_rfl) rfl (BO.more (BO.of (k:=16) (i:=14) (by kernel_rfl)) (BO.more (BO.of (k:=14) (i:=13) (by kernel_rfl)) (BO.more (BO.of (k:=13) (i:=12) (by kernel_rfl)) (BO.of (k:=12) (i:=6) (by kernel_rfl))))) (fun _ _ _ h=>h) (Or.inl ⟨by rfl,?_⟩) ?_;rotate_left
 ·intro w hSw;obtain⟨_,t1,t2,_⟩:=hSw;go_simp;try with_reducible rfl
 try simp only[Act.put,List.setIfInBounds_toArray,List.set_cons_zero,List.set_cons_succ,List.getElem_toArray,List.getElem_cons_zero,List.getElem_cons_succ]
 refine WK.take (i:=7) (v:=?_) rfl (by kernel_rfl) (by kernel_rfl) (by kernel_rfl) rfl (fun _ _ _ h=>h) (Or.inl ⟨by rfl,?_⟩) ?_;rotate_left
 ·intro w _;go_simp;try with_reducible rfl
 try simp only[Act.put,List.setIfInBounds_toArray,List.set_cons_zero,List.set_cons_succ,List.getElem_toArray,List.getElem_cons_zero,List.getElem_cons_succ]
 refine WK.take (i:=8) (v:=?_) rfl (by kernel_rfl) (by kernel_rfl) (by kernel_rfl) rfl (fun _ _ _ h=>h) (Or.inl ⟨by rfl,?_⟩) ?_;rotate_left
 ·intro w _;go_simp;try with_reducible rfl
 try simp only[Act.put,List.setIfInBounds_toArray,List.set_cons_zero,List.set_cons_succ,List.getElem_toArray,List.getElem_cons_zero,List.getElem_cons_succ]
 refine WK.take (i:=9) (v:=?_) rfl (by kernel_rfl) (by kernel_rfl) (by kernel_rfl) rfl (fun _ _ _ h=>h) (Or.inl ⟨by rfl,?_⟩) ?_;rotate_left
 ·intro w _;go_simp;try with_reducible rfl
 try simp only[Act.put,List.setIfInBounds_toArray,List.set_cons_zero,List.set_cons_succ,List.getElem_toArray,List.getElem_cons_zero,List.getElem_cons_succ]
 refine WK.take2 (i:=10) (v:=?_) rfl (by kernel_rfl) (by kernel_rfl) (by kernel_rfl) rfl (BO.more (BO.of (k:=16) (i:=14) (by kernel_rfl)) (BO.more (BO.of (k:=14) (i:=13) (by kernel_rfl)) (BO.more (BO.of (k:=13) (i:=12) (by kernel_rfl)) (BO.more (BO.of (k:=12) (i:=11) (by kernel_rfl)) (BO.of (k:=11) (i:=10) (by kernel_rfl)))))) (fun _ _ _ h=>h) (Or.inl ⟨by rfl,?_⟩) ?_;rotate_left
 ·intro w hSw;obtain⟨_,t1,t2,_⟩:=hSw;go_simp;try with_reducible rfl
 try simp only[Act.put,List.setIfInBounds_toArray,List.set_cons_zero,List.set_cons_succ,List.getElem_toArray,List.getElem_cons_zero,List.getElem_cons_succ]
 refine WK.take (i:=11) (v:=?_) rfl (by kernel_rfl) (by kernel_rfl) (by kernel_rfl) rfl (fun _ _ _ h=>h) (Or.inl ⟨by rfl,?_⟩) ?_;rotate_left
 ·intro w _;go_simp;try with_reducible rfl
 try simp only[Act.put,List.setIfInBounds_toArray,List.set_cons_zero,List.set_cons_succ,List.getElem_toArray,List.getElem_cons_zero,List.getElem_cons_succ]
 refine WK.take2 (i:=15) rfl (by kernel_rfl) (by kernel_rfl) (by kernel_rfl) rfl (BO.of (k:=16) (i:=15) (by kernel_rfl)) (fun _ _ _ h=>h) (yieldsIf_load_mid (by rfl) 72 (.tmp 3) rfl w.heap.size 0 rfl o.cells.toList _ (fun w h=>h.2.2.2.2) Tryz.underlying72 rfl ZP) ?_;try simp only[Act.put,List.setIfInBounds_toArray,List.set_cons_zero,List.set_cons_succ,List.getElem_toArray,List.getElem_cons_zero,List.getElem_cons_succ]
 refine WK.one (i:=12) (by kernel_rfl) rfl (fun K hK=>?_);go_simp;refine((Aa HP) _).mono ?_;rintro e w5 ⟨rfl,hw5⟩;rw[hw5];clear hw5;go_wp2_with fail
 refine hK.out _ _ trivial (Aa HT) ?_;clear hK K;try simp only[Act.put,List.setIfInBounds_toArray,List.set_cons_zero,List.set_cons_succ,List.getElem_toArray,List.getElem_cons_zero,List.getElem_cons_succ]
 refine WK.take (i:=13) (v:=?_) rfl (by kernel_rfl) (by kernel_rfl) (by kernel_rfl) rfl (fun _ _ _ h=>h) (Or.inl ⟨by rfl,?_⟩) ?_;rotate_left
 ·intro w _;go_simp;try with_reducible rfl
 try simp only[Act.put,List.setIfInBounds_toArray,List.set_cons_zero,List.set_cons_succ,List.getElem_toArray,List.getElem_cons_zero,List.getElem_cons_succ]
 refine WK.take2 (i:=14) rfl (by kernel_rfl) (by kernel_rfl) (by kernel_rfl) rfl (BO.of (k:=16) (i:=14) (by kernel_rfl)) (fun _ _ _ h=>h) (yieldsIf_load_mid (by rfl) 109 (.tmp 39) rfl g (i*2) rfl (JU t) _ (fun w h=>h.2.2.2.1) Tryz.underlying109 rfl XU) ?_;try simp only[Act.put,List.setIfInBounds_toArray,List.set_cons_zero,List.set_cons_succ,List.getElem_toArray,List.getElem_cons_zero,List.getElem_cons_succ]
 refine WK.store (by kernel_rfl) rfl (fun K hK=>?_);go_simp;refine(Aa G1).mono ?_;rintro e w6 ⟨rfl,h6⟩;have H6:=Ab h6;clear h6;go_wp2_with fail
 refine hK.out _ _ trivial ?_;clear hK K;try simp only[Act.put,List.setIfInBounds_toArray,List.set_cons_zero,List.set_cons_succ,List.getElem_toArray,List.getElem_cons_zero,List.getElem_cons_succ]
 refine WK.take (i:=17) (v:=?_) rfl (by kernel_rfl) (by kernel_rfl) (by kernel_rfl) rfl (fun _ _ _ h=>h) (Or.inl ⟨by rfl,?_⟩) ?_;rotate_left
 ·intro w _;go_simp;try with_reducible rfl
 try simp only[Act.put,List.setIfInBounds_toArray,List.set_cons_zero,List.set_cons_succ,List.getElem_toArray,List.getElem_cons_zero,List.getElem_cons_succ]
 refine WK.done (by kernel_rfl) ?_;obtain⟨lb',h7⟩:=(Aa H2) _ (Aa H6);have G2:=Ab h7;clear h7;go_wp2_with fail
 refine(Aa G2).mono ?_;rintro e w7 ⟨rfl,h8⟩;have H8:=Ab h8;clear h8;go_wp2;go_returns;exact⟨rfl,Aa H8⟩
theorem Mw{w0:World}{z:Nat->Option Obj}{b N:Nat}{Ts:List Tw}{L:List V.Kp}{lv K:Value}{w:World}(h:Hn w0 z b N Ts L lv K w)(o:EM){v:List V.It}(hok:XZ o v (HF b Ts L lv K) w)(hk:7<=o.kind/\o.kind<=18)(ht:Fu w0)(hN:N<=900000000000)(hL:L.length<=900000000000)(hTs:Ts.length<=900000000000):
  Calls Tryz.prog 26 #[ptr b,o.val] w fun e w'=>e=.returned (.bool true)/\∃Ts' L' lv' K',Hn w0 z b (N+1) Ts' L' lv' K' w'/\L'.length<=L.length+1/\Ts'.length<=Ts.length+1/\∀t,Ts=[t]->7<o.kind->∃t',Ts'=[t']/\t'.G=DI t.G o v:=by
 have hb1:Below w.heap.size w (w.alloc (.cells o.cells 72)):=(Below.refl _ _).alloc (Nat.le_refl _) _;have looks:∀{N':Nat} {Ts':List Tw} {L':List V.Kp} {lv' K':Value} {w':World},Hn w0 z b N' Ts' L' lv' K' w'->L'.length<=1000000000000->b<w'.heap.size/\Calls Tryz.prog 56 #[.pointer (some ⟨b,1,none⟩)] w' fun e w''=>e=.returned (.bool true)/\Hn w0 z b N' Ts' L' lv' K' w'':=fun h' hl=>⟨lt_of_block h'.bo.cell,(V.Nx _ b _ _ _ h'.bo hl).mono (by
  rintro e w'' ⟨rfl,hb⟩;exact⟨rfl,h'.below hb⟩)⟩
 by_cases h7:o.kind=7
 ·refine(Oo w b o h7 (fun w'=>∃Ts' lv',Hn w0 z b (N+1) Ts' L lv' K w'/\Ts'.length<=Ts.length+1) (fun w'=>∃Ts' lv',Hn w0 z b (N+1) Ts' L lv' K w'/\Ts'.length<=Ts.length+1) (fun W1 hW1=>?_) (fun w' hq=>?_)).mono ?_
  ·rw[<-hW1];refine(E7 ((h.below hb1).more (Nat.le_succ N)) o.W (by omega)).mono ?_;rintro e w' ⟨rfl,Ts',lv',h1,h2,_⟩;exact⟨rfl,Ts',lv',h1,h2⟩
  ·obtain⟨Ts',lv',h1,h2⟩:=hq;obtain⟨q1,q2⟩:=looks h1 (by omega);refine⟨q1,q2.mono ?_⟩;rintro e w'' ⟨rfl,h3⟩;exact⟨rfl,Ts',lv',h3,h2⟩
  ·rintro e w' ⟨rfl,Ts',lv',h1,h2⟩;exact⟨rfl,Ts',L,lv',K,h1,by omega,h2,fun t _ hlt=>absurd hlt (by omega)⟩
 ·cases hT:Ts with
  |nil=>
   have hrow:=h.row;rw[hT]at hrow;obtain⟨a,cc,hlv⟩:=AR hrow;refine(Rp w b o (by omega) a cc (cell_of h.bo.cell 0 _ (by rw[hlv];rfl)) (fun w'=>Hn w0 z b (N+1) Ts L lv K w') (fun W1 hW1=>?_)).mono ?_
   ·rw[<-hW1];exact(looks ((h.below hb1).more (Nat.le_succ N)) (by omega)).2
   ·rintro e w' ⟨rfl,h1⟩;rw[hT]at h1;exact⟨rfl,[],L,lv,K,h1,by omega,by simp,fun t q=>by cases q⟩
  |cons t0 Ts0=>
   rw[<-hT];have hpos:0<Ts.length:=by rw[hT];simp
   obtain⟨i,hi,HP⟩:=Rh o.on Ts.length hok.on hpos (by omega);obtain⟨t,hti⟩:∃t,Ts[i]?=some t:=⟨_,List.getElem?_eq_getElem hi⟩;obtain⟨g,cap,hlv,hgl,hcell,_⟩:=DU Qo (by omega) h.row hti;have e0:=hcell 0 _ (by omega) rfl;have e1:=hcell 1 _ (by omega) rfl;have hokW:XZ o v (HF b Ts L lv K) (w.alloc (.cells o.cells 72)).drew:=⟨hok.s,hok.items.below hb1.drew,hok.len,hok.off,hok.c,hok.on⟩;refine(Oq w b t o (by omega) g Ts.length cap i hi (cell_of h.bo.cell 0 _ (by rw[hlv];rfl)) e0 e1 (by omega) HP (fun w'=>Zh w0 z b (N+1) Ts i L lv (DI t.G o v) w') (fun w'=>Zh w0 z b (N+1) Ts i L lv (DI t.G o v) w') (fun W1 hW1=>?_) (fun w' hq=>?_)).mono ?_
   ·rw[<-hW1];exact M5 (h.below hb1.drew) hti o hokW (by omega) ht (by omega) (by omega)
   ·obtain⟨t',L',K',h1,h2,h3⟩:=hq;obtain⟨q1,q2⟩:=looks h1 (by omega);refine⟨q1,q2.mono ?_⟩;rintro e w'' ⟨rfl,h4⟩;exact⟨rfl,t',L',K',h4,h2,h3⟩
   ·rintro e w' ⟨rfl,t',L',K',h1,h2,h3⟩;refine⟨rfl,Ts.set i t',L',lv,K',h1,h3,by simp,fun s hs _=>?_⟩;subst hs;have hi0:i=0:=by simp at hi;omega
    subst hi0;obtain rfl:s=t:=by simpa using hti
    exact⟨t',rfl,h2⟩
end Go.Proofs.YtblomippkddgiaaGreatDoor
