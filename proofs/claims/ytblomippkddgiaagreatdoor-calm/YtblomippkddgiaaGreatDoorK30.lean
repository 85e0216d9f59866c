import Derived.Test.YtblomippkddgiaaGreatDoorK29
set_option maxRecDepth 100000
set_option maxHeartbeats 600000
namespace Go.Proofs.YtblomippkddgiaaGreatDoor
open Go.RowKit
open Go
def Tt:ByteArray:=⟨#[102,111,117,114,116,101,101,110,32,98,121,116,101,115]⟩
theorem RH(n:Nat)(h:n<15):(Tt.extract 0 n).size=n:=by
 have:∀k,k<15->(Tt.extract 0 k).size=k:=by decide +kernel
 exact this n h
def CY(v:List V.It)(w:World)(e:Ending)(w':World):Prop:=∃X,e=.returned X/\BD w' (fun k=>w.heap.size<=k) X v/\Below w.heap.size w w'
theorem aar(a b:Int)(ha:In64 a):∃v,Fits ⟨#[105]⟩ v/\∀w,Calls Tryz.prog 30 #[.int .i64 0,.int .i64 0,.int .i64 a,.int .i64 b] w (CY v w):=by
 obtain⟨n,hn,P⟩:=BU a 65536 ha (by omega) (by omega);refine⟨[((n:Int)-32768,e0)],aaH (by omega),fun w=>?_⟩;have HP:=Ab P;have g1:IntKind.i64.wrap ((n:Int)-32768)=(n:Int)-32768:=by rw[IntKind.wrap_i64];omega
 have HI:=Ab (NT w ((n:Int)-32768,e0));clear P;unfold CY;go_enter Tryz.func30,Tryz.ntmps30;go_wp2_with (first|(go_at_call 11;refine((Aa HP) _).mono ?_;rintro e w1 ⟨rfl,hw1⟩;rw[hw1];clear hw1))
 go_returns;exact⟨_,rfl,Aa HI,(Below.refl _ _).alloc (Nat.le_refl _) _⟩
theorem aas(a b:Int)(ha:In64 a):∃v,Fits ⟨#[98]⟩ v/\∀w,Calls Tryz.prog 30 #[.int .i64 0,.int .i64 1,.int .i64 a,.int .i64 b] w (CY v w):=by
 obtain⟨n,hn,P⟩:=BU a 2 ha (by omega) (by omega);refine⟨[((n:Int),e0)],aaF (by omega),fun w=>?_⟩;have HP:=Ab P;have HI:=Ab (NT w ((n:Int),e0));clear P;unfold CY;go_enter Tryz.func30,Tryz.ntmps30;go_wp2_with (first|(go_at_call 11;refine((Aa HP) _).mono ?_;rintro e w1 ⟨rfl,hw1⟩;rw[hw1];clear hw1))
 go_returns;exact⟨_,rfl,Aa HI,(Below.refl _ _).alloc (Nat.le_refl _) _⟩
theorem aau(a b:Int)(ha:In64 a):∃v,Fits ⟨#[99]⟩ v/\∀w,Calls Tryz.prog 30 #[.int .i64 1,.int .i64 1,.int .i64 a,.int .i64 b] w (CY v w):=by
 obtain⟨n,hn,P⟩:=BU a 6 ha (by omega) (by omega);refine⟨[((n:Int),e0)],aaG (by omega),fun w=>?_⟩;have HP:=Ab P;have HI:=Ab (NT w ((n:Int),e0));clear P;unfold CY;go_enter Tryz.func30,Tryz.ntmps30;go_wp2_with (first|(go_at_call 11;refine((Aa HP) _).mono ?_;rintro e w1 ⟨rfl,hw1⟩;rw[hw1];clear hw1))
 go_returns;exact⟨_,rfl,Aa HI,(Below.refl _ _).alloc (Nat.le_refl _) _⟩
theorem aat(a b:Int)(ha:In64 a):∃v,Fits ⟨#[115]⟩ v/\∀w,Calls Tryz.prog 30 #[.int .i64 1,.int .i64 0,.int .i64 a,.int .i64 b] w (CY v w):=by
 obtain⟨n,hn,P⟩:=BU a 15 ha (by omega) (by omega);refine⟨[(0,Tt.extract 0 n)],aaI (by rw[RH n hn];omega),fun w=>?_⟩;have HP:=Ab P;have HI:=Ab (NT w (0,Tt.extract 0 n));clear P;unfold CY;go_enter Tryz.func30,Tryz.ntmps30;go_wp2_with (first|(go_at_call 11;refine((Aa HP) _).mono ?_;rintro e w1 ⟨rfl,hw1⟩;rw[hw1];clear hw1))
 go_returns;exact⟨_,rfl,Aa HI,(Below.refl _ _).alloc (Nat.le_refl _) _⟩
def MP(m i:Nat):List Int:=(List.range i).map fun (j:Nat)=>(m:Int)+(j:Int)-30000
def GL(a n m i:Nat):List V.It:=((a:Int),e0) :: ((n:Int),e0) :: (MP m i).map fun x=>(x,e0)
theorem Uk(a n m i:Nat):(GL a n m i).length=i+2:=by simp[GL,MP]
theorem Rf(a n m i:Nat):GL a n m (i+1)=GL a n m i++[((m:Int)+(i:Int)-30000,e0)]:=by
 simp[GL,MP,List.range_succ]
theorem aav(a b:Int)(ha:In64 a)(hb:In64 b):∃v,Fits Cr v/\∀w,Calls Tryz.prog 30 #[.int .i64 2,.int .i64 0,.int .i64 a,.int .i64 b] w (CY v w):=by
 obtain⟨n,hn,P⟩:=BU b 4 hb (by omega) (by omega);obtain⟨x,hx,Q⟩:=BU a 3 ha (by omega) (by omega);obtain⟨m,hm,R⟩:=BU a 60000 ha (by omega) (by omega);have hF:Fits Cr (GL x n m n):=by
  have hl:(MP m n).length=n:=by simp[MP]
  have:=Us (a:=(x:Int)) (L:=MP m n) (by omega) (by omega) (fun y hy=>by
   obtain⟨j,hj,rfl⟩:=List.mem_map.1 hy;have:=List.mem_range.1 hj;omega)
  rw[hl]at this;exact this
 refine⟨_,hF,fun w=>?_⟩;have HP:=Ab P;have HQ:=Ab Q;have HR:=Ab R;obtain⟨i0,hi,hz0,hz1,hz2⟩:=info_parts Ru;have HS:Hid ((w.alloc (.cells #[.int .i64 (x:Int),.string ⟨#[]⟩,.int .i64 (n:Int),.string ⟨#[]⟩] 106)).ownsRow w.heap.size 106 2 (.slice (some ⟨w.heap.size,0,none⟩) 2 2) (0+2) (tab Dh (GL x n m 0))):=
  World.ownsRow_lit (base:=w.heap.size) (e:=106) (size:=2) w #[.int .i64 (x:Int),.string ⟨#[]⟩,.int .i64 (n:Int),.string ⟨#[]⟩] 2 (Nat.le_refl _) (by unfold maxLen;omega) rfl
 have HB:Hid (Below w.heap.size w (w.alloc (.cells #[.int .i64 (x:Int),.string ⟨#[]⟩,.int .i64 (n:Int),.string ⟨#[]⟩] 106))):=(Below.refl _ _).alloc (Nat.le_refl _) _;clear P Q R hF;unfold CY;go_enter Tryz.func30,Tryz.ntmps30;go_wp2_with (first|(go_at_call 11;refine((Aa HP) _).mono ?_;clear HP;rintro e w1 ⟨rfl,hw1⟩;rw[hw1];clear hw1)|(go_at_call 11;refine((Aa HQ) _).mono ?_;clear HQ;rintro e w1 ⟨rfl,hw1⟩;rw[hw1];clear hw1))
 go_loopw [10,11] (fun lv iv wr=>∃i:Nat,i<=n/\iv=.int .i64 i/\wr.ownsRow w.heap.size 106 2 lv (i+2) (tab Dh (GL x n m i))/\Below w.heap.size w wr) (fun _ iv _=>n-(intOf iv).toNat)
 case atStart=>exact⟨0,Nat.zero_le _,rfl,Aa HS,Aa HB⟩
 case round=>
  obtain⟨i,hin,rfl,hrow,hbl⟩:=hrel;by_cases hlt:i<n
  ·have hsz:=hbl.size;have hlts:=fun q=>World.ownsRow.lt hrow q
   obtain⟨la,lc,hls⟩:=Bg hrow;subst hls;have HRW:=Ab hrow;have HBL:=Ab hbl;have HLT:=Ab hlts;have g1:IntKind.i64.wrap ((m:Int)+(i:Int))=(m:Int)+(i:Int):=by rw[IntKind.wrap_i64];omega
   have g2:IntKind.i64.wrap ((m:Int)+(i:Int)-30000)=(m:Int)+(i:Int)-30000:=by rw[IntKind.wrap_i64];omega
   clear hrow hbl hlts;go_wp2_with (first
    |(go_at_call 11;refine((Aa HR) _).mono ?_;rintro e w1 ⟨rfl,hw1⟩;rw[hw1];clear hw1)
    |(at_builtin;go_must (refine wpList_append_own_at _ rfl (.tmp 63) (.tmp 70) 44 rfl w.heap.size 106 i0 (.agg #[.int .i64 0,.string ⟨#[]⟩]) 2 24 Tryz.underlying44 hi hz0 hz1 hz2 rfl (by decide) (.slice la (i+2) lc) (i+2) (tab Dh (GL x n m i)) rfl (by exact(Aa HRW).alloc _) ⟨_,0,none⟩ 1 1 [.int .i64 ((m:Int)+(i:Int)-30000),.string ⟨#[]⟩] rfl rfl (by exact Xt _ _) (by simp[Value.oneCell']) (by unfold maxLen;omega) (by omega) (by simp;omega) ?_;intro v' wz hown hgrow _ hat)))
   have HRN:Hid (wz.ownsRow w.heap.size 106 2 v' (i+1+2) (tab Dh (GL x n m (i+1)))):=by
    rw[Rf,Fa];exact hown
   have HBN:=Ab (((Aa HBL).alloc hsz _).grown hgrow (by simp;omega) (fun q hq=>((Aa HLT) q hq).1));clear hown hgrow hat;go_wp2;go_roundw
   case rel=>exact⟨i+1,by omega,by go_num,Aa HRN,Aa HBN⟩
   case measure=>simp[intOf];omega
  ·obtain rfl:i=n:=by omega
   obtain⟨la,lc,hls⟩:=Bg hrow;have HI:Hid (BD wr (fun k=>w.heap.size<=k) u10 (GL x i m i)):=Ry (by rw[Uk];exact hrow) (by simp[GL]);have HBL:=Ab hbl;clear hrow hbl hls;go_wp2;go_returns;exact⟨_,rfl,Aa HI,Aa HBL⟩
section
variable {P:Program} {ops:Array Oper} {Q:Exit->Act->World->Prop} {md:Region.Mode} {S T U:World->Prop} {k:Nat}
def Eg(P:Program)(md:Region.Mode)(ops:Array Oper)(Q:Exit->Act->World->Prop)(S T:World->Prop)(k:Nat):Nat->Array Bool->Act->World->Prop
 |0,listed,a,w=>Region.ready md ops listed=[]/\Q .normal a w
 |fuel+1,listed,a,w=>
  (Region.ready md ops listed=[]->Q .normal a w) /\
  ∀i∈Region.ready md ops listed,wpOp P ops Q i (fun a' w'=>(S w'/\((listed.setIfInBounds i true).getD k true=false->T w'))/\Eg P md ops Q S T k fuel (listed.setIfInBounds i true) a' w') a w
theorem Me:∀(fuel:Nat) (listed:Array Bool) (a:Act) (w:World),Eg P md ops Q S T k fuel listed a w->wpAny P md ops Q fuel listed a w
 |0,_,_,_,h=>h
 |fuel+1,_,_,_,h=>⟨h.1,fun i hi=>wpOp_mono (fun a' w' h'=>Me fuel _ a' w' h'.2) (h.2 i hi)⟩
def Down(md:Region.Mode)(ops:Array Oper)(listed:Array Bool):Prop:=
 ∀j oj,ops[j]?=some oj->listed.getD j true=true->∀e∈oj.after,Region.binds md e=true->listed.getD e.on false=true
theorem Down.set{listed:Array Bool}{j:Nat}(h:Down md ops listed)(hj:j∈Region.ready md ops listed):Down md ops (listed.setIfInBounds j true):=by
 intro i oi hoi hl e he hb;by_cases hij:j=i
 ·subst hij;obtain⟨_,oj,hoj,hall⟩:=mem_ready.1 hj;rw[hoi]at hoj;cases hoj;exact getD_set_true (hall e he hb)
 ·rw[getD_set_ne true hij]at hl;exact getD_set_true (h i oi hoi hl e he hb)
inductive IA (md:Region.Mode) (ops:Array Oper):Nat->Nat->Prop
 |one {k i:Nat} {ok:Oper} {e:Edge} (hk:ops[k]?=some ok) (he:e∈ok.after) (hb:Region.binds md e=true) (hi:e.on=i):IA md ops k i
 |more {k j i:Nat} (h:IA md ops k j) (h':IA md ops j i):IA md ops k i
def straight(md:Region.Mode)(ops:Array Oper)(k i:Nat):Bool:=
 match ops[k]? with
 |some ok=>ok.after.any fun e=>Region.binds md e&&e.on==i
 |none=>false
theorem IA.of{i:Nat}(h:straight md ops k i=true):IA md ops k i:=by
 unfold straight at h;split at h
 ·rename_i ok hok;simp only[Array.any_eq_true',Bool.and_eq_true,beq_iff_eq]at h;obtain⟨e,he,hb,hi⟩:=h;exact .one hok he hb hi
 ·cases h
theorem Zb{listed:Array Bool}{i:Nat}(h:listed.getD i false=true):listed.getD i true=true:=by
 rcases Nat.lt_or_ge i listed.size with h'|h'
 ·simp[h']at h ⊢;exact h
 ·simp[Array.getElem?_eq_none h']at h
theorem IA.Yt{i:Nat}{listed:Array Bool}(h:IA md ops k i)(hd:Down md ops listed)(hi:listed.getD i true=false):listed.getD k true=false:=by
 induction h with
 |one hk he hb hi'=>
  rename_i kk ii ok e;cases hc:listed.getD kk true with
  |false=>rfl
  |true=>
   have:=Zb (hd _ _ hk hc _ he hb);rw[hi',hi]at this;cases this
 |more _ _ ih1 ih2=>exact ih1 (ih2 hi)
theorem JG{i:Nat}{oi:Oper}{v:Value}(hi:ops[i]?=some oi)(hsel:∀(j:Nat) (o:Oper) cs b,ops[j]?=some o->o.op≠.select cs b)
  (hQ:∀c a w,Q (.panic c) (a.put oi.dst v) w->Q (.panic c) a w) (hik:i≠k)
  (hU:∀(listed:Array Bool) w,Down md ops listed->listed.getD i true=false->S w->(listed.getD k true=false->T w)->U w):
  ∀(fuel:Nat) (listed:Array Bool) (a:Act) (w:World),Down md ops listed ->
   (∀j oj,ops[j]?=some oj->j≠i->listed.getD j true=false->(∀e∈oj.after,Region.binds md e=true->e.on≠i)->oi.apart ops oj=true) ->
   i∈Region.ready md ops listed->YieldsIf P ops U oi v a->S w->(listed.getD k true=false->T w) ->
   Eg P md ops Q S T k fuel (listed.setIfInBounds i true) (a.put oi.dst v) w->Eg P md ops Q S T k (fuel+1) listed a w:=by
 intro fuel;induction fuel with
 |zero=>
  intro listed a w hd _ hr hy hS hT H;refine⟨fun h=>(by rw[h]at hr;cases hr),fun j hj=>?_⟩;by_cases hji:j=i
  ·subst hji;exact hy.wpOp hi (hU _ _ hd (mem_ready.1 hr).1 hS hT) ⟨⟨hS,by rw[getD_set_ne true hik];exact hT⟩,H⟩
  ·have:=ready_mono hj hji;rw[H.1]at this;cases this
 |succ fuel ih=>
  intro listed a w hd hfree hr hy hS hT H;refine⟨fun h=>(by rw[h]at hr;cases hr),fun j hj=>?_⟩;by_cases hji:j=i
  ·subst hji;exact hy.wpOp hi (hU _ _ hd (mem_ready.1 hr).1 hS hT) ⟨⟨hS,by rw[getD_set_ne true hik];exact hT⟩,H⟩
  ·have h1:=H.2 j (ready_mono hj hji);obtain⟨hjun,oj,hoj,hall⟩:=mem_ready.1 hj;have hnot:∀e∈oj.after,Region.binds md e=true->e.on≠i:=fun e he hb heq=>by
    have h1:=hall e he hb;have h0:=(mem_ready.1 hr).1;rw[heq]at h1;rcases Nat.lt_or_ge i listed.size with h'|h'
    ·simp[h']at h0 h1;rw[h0]at h1;cases h1
    ·simp[Array.getElem?_eq_none h']at h1
   have h2:=wpOp_putIf hoj (hfree j oj hoj hji hjun hnot) (fun cs b=>hsel i oi cs b hi) (fun cs b=>hsel j oj cs b hoj) hQ hy h1;have hfree':∀k ok,ops[k]?=some ok->k≠i->(listed.setIfInBounds j true).getD k true=false ->
     (∀e∈ok.after,Region.binds md e=true->e.on≠i)->oi.apart ops ok=true:=fun k ok hk hki hun hno=>by
    refine hfree k ok hk hki ?_ hno;by_cases hjk:j=k
    ·subst hjk;exact hjun
    ·rw[getD_set_ne true hjk]at hun;exact hun
   refine wpOp_mono (fun a' w' h3=>?_) h2;have hT':(listed.setIfInBounds j true).getD k true=false->T w':=fun h=>h3.2.1.2 (by
    rw[Array.setIfInBounds_comm _ _ (Ne.symm hji),getD_set_ne true hik];exact h)
   refine⟨⟨h3.2.1.1,hT'⟩,ih (listed.setIfInBounds j true) a' w' (hd.set hj) hfree' (ready_mono hr (Ne.symm hji)) h3.1 h3.2.1.1 hT' ?_⟩;rw[Array.setIfInBounds_comm _ _ hji];exact h3.2.2
structure Iz(md:Region.Mode)(ops:Array Oper)(S T:World->Prop)(k:Nat)(listed:Array Bool)(w:World):Prop where
 down:Down md ops listed
 s:S w
 t:listed.getD k true=false->T w
theorem Iz.set{listed:Array Bool}{w:World}{i:Nat}(h:Iz md ops S T k listed w)(hr:(Region.ready md ops listed).contains i=true)(hik:(i==k)=false):Iz md ops S T k (listed.setIfInBounds i true) w:=
 ⟨h.down.set (by simpa using hr),h.s,by rw[getD_set_ne true (by simpa using hik)];exact h.t⟩
theorem QB{i:Nat}{oi:Oper}{v:Value}{fuel:Nat}{listed:Array Bool}{a:Act}{w:World}(hi:ops[i]?=some oi)
  (hs:Region.noSelect ops=true) (hf:Region.free md ops listed i=true) (hr:(Region.ready md ops listed).contains i=true) (hik:(i==k)=false)
  (hQ:∀c a w,Q (.panic c) (a.put oi.dst v) w->Q (.panic c) a w) (hy:YieldsIf P ops S oi v a) (hH:Iz md ops S T k listed w)
  (h:Iz md ops S T k (listed.setIfInBounds i true) w->Eg P md ops Q S T k fuel (listed.setIfInBounds i true) (a.put oi.dst v) w):Eg P md ops Q S T k (fuel+1) listed a w:=
 JG (U:=S) hi (Region.noSelect_spec hs) hQ (by simpa using hik) (fun _ _ _ _ h _=>h) fuel listed a w hH.down (Region.free_spec hi hf) (by simpa using hr) hy hH.s hH.t (h (hH.set hr hik))
theorem Oq{i:Nat}{oi:Oper}{v:Value}{fuel:Nat}{listed:Array Bool}{a:Act}{w:World}(hi:ops[i]?=some oi)
  (hs:Region.noSelect ops=true) (hf:Region.free md ops listed i=true) (hr:(Region.ready md ops listed).contains i=true) (hik:(i==k)=false) (hw:IA md ops k i)
  (hQ:∀c a w,Q (.panic c) (a.put oi.dst v) w->Q (.panic c) a w) (hy:YieldsIf P ops (fun w=>S w/\T w) oi v a) (hH:Iz md ops S T k listed w)
  (h:Iz md ops S T k (listed.setIfInBounds i true) w->Eg P md ops Q S T k fuel (listed.setIfInBounds i true) (a.put oi.dst v) w):Eg P md ops Q S T k (fuel+1) listed a w:=
 JG (U:=fun w=>S w/\T w) hi (Region.noSelect_spec hs) hQ (by simpa using hik) (fun _ _ hd hun h ht=>⟨h,ht (hw.Yt hd hun)⟩) fuel listed a w hH.down (Region.free_spec hi hf) (by simpa using hr) hy hH.s hH.t (h (hH.set hr hik))
def Cj(P:Program)(md:Region.Mode)(ops:Array Oper)(Q:Exit->Act->World->Prop)(S T:World->Prop)(k:Nat)(fuel:Nat)(listed:Array Bool)(a:Act)(w:World)(rs:List Nat):Prop:=
 ∀i∈rs,wpOp P ops Q i (fun a' w'=>(S w'/\((listed.setIfInBounds i true).getD k true=false->T w'))/\Eg P md ops Q S T k fuel (listed.setIfInBounds i true) a' w') a w
theorem Cj.nil{fuel:Nat}{listed:Array Bool}{a:Act}{w:World}:Cj P md ops Q S T k fuel listed a w []:=fun _ h=>by cases h
theorem Cj.cons{fuel:Nat}{listed:Array Bool}{a:Act}{w:World}{i:Nat}{o:Oper}{rs:List Nat}(ho:ops[i]?=some o)
  (hd:Down md ops listed) (hr:(Region.ready md ops listed).contains i=true)
  (h:∀K':Act->World->Prop,Shut (∀a w,S w->((listed.setIfInBounds i true).getD k true=false->T w)->(Iz md ops S T k (listed.setIfInBounds i true) w->Eg P md ops Q S T k fuel (listed.setIfInBounds i true) a w)->K' a w)->if Region.wanted o (yielded ops a.tmps)=true then Oper.wp P o a w K' Q else K' (a.put o.dst undef) w)
  (hs:Cj P md ops Q S T k fuel listed a w rs):Cj P md ops Q S T k fuel listed a w (i :: rs):=fun j hj=>by
 rcases List.mem_cons.1 hj with rfl|hj
 ·exact wpOp_step ho (fun K' hK=>h K' (fun a w hS hT hW=>hK a w ⟨⟨hS,hT⟩,hW ⟨hd.set (by simpa using hr),hS,hT⟩⟩))
 ·exact hs j hj
theorem GJ{rs:List Nat}{fuel:Nat}{listed:Array Bool}{a:Act}{w:World}(hr:Region.ready md ops listed=rs)(hne:rs≠[])
  (h:Cj P md ops Q S T k fuel listed a w rs):Eg P md ops Q S T k (fuel+1) listed a w:=
 ⟨fun h0=>absurd (hr ▸ h0) hne,hr ▸ h⟩
theorem QA{listed:Array Bool}{a:Act}{w:World}(hr:Region.ready md ops listed=[])(h:Q .normal a w):
  ∀fuel,Eg P md ops Q S T k fuel listed a w
 |0=>⟨hr,h⟩
 |_+1=>⟨fun _=>h,by rw[hr];simp⟩
theorem QC{id:Nat}{a:Act}{w:World}(hm:P.follows .mixedOrders=true)(hS:S w.drew)(hT:T w.drew)
  (h:Iz .any ops S T k (Array.replicate ops.size false) w.drew->Eg P .any ops Q S T k ops.size (Array.replicate ops.size false) a w.drew):(Code.region id ops true).wp P Q a w:=
 wp_region_any hm (Me _ _ _ _ (h ⟨fun j oj hoj hl=>by
  have hlt:=(Array.getElem?_eq_some_iff.1 hoj).1;simp[hlt]at hl,hS,fun _=>hT⟩))
def WK(P:Program)(md:Region.Mode)(ops:Array Oper)(Q:Exit->Act->World->Prop)(S T:World->Prop)(k:Nat)(fuel:Nat)(listed:Array Bool)(a:Act)(w:World):Prop:=
 Iz md ops S T k listed w->Eg P md ops Q S T k fuel listed a w
theorem WK.take{i:Nat}{oi:Oper}{v:Value}{fuel:Nat}{listed:Array Bool}{a:Act}{w:World}(hi:ops[i]?=some oi)
  (hs:Region.noSelect ops=true) (hf:Region.free md ops listed i=true) (hr:(Region.ready md ops listed).contains i=true) (hik:(i==k)=false)
  (hQ:∀c a w,Q (.panic c) (a.put oi.dst v) w->Q (.panic c) a w) (hy:YieldsIf P ops S oi v a)
  (h:WK P md ops Q S T k fuel (listed.setIfInBounds i true) (a.put oi.dst v) w):WK P md ops Q S T k (fuel+1) listed a w:=
 fun hH=>QB hi hs hf hr hik hQ hy hH h
theorem WK.take2{i:Nat}{oi:Oper}{v:Value}{fuel:Nat}{listed:Array Bool}{a:Act}{w:World}(hi:ops[i]?=some oi)
  (hs:Region.noSelect ops=true) (hf:Region.free md ops listed i=true) (hr:(Region.ready md ops listed).contains i=true) (hik:(i==k)=false) (hw:IA md ops k i)
  (hQ:∀c a w,Q (.panic c) (a.put oi.dst v) w->Q (.panic c) a w) (hy:YieldsIf P ops (fun w=>S w/\T w) oi v a)
  (h:WK P md ops Q S T k fuel (listed.setIfInBounds i true) (a.put oi.dst v) w):WK P md ops Q S T k (fuel+1) listed a w:=
 fun hH=>Oq hi hs hf hr hik hw hQ hy hH h
theorem WK.one{i:Nat}{o:Oper}{fuel:Nat}{listed:Array Bool}{a:Act}{w:World}(hr:Region.ready md ops listed=[i])(ho:ops[i]?=some o)
  (h:∀K':Act->World->Prop,Shut (∀a w,S w->T w->WK P md ops Q S T k fuel (listed.setIfInBounds i true) a w->K' a w)->if Region.wanted o (yielded ops a.tmps)=true then Oper.wp P o a w K' Q else K' (a.put o.dst undef) w):WK P md ops Q S T k (fuel+1) listed a w:=
 fun hH=>GJ hr (by simp) (Cj.cons ho hH.down (by rw[hr];simp) (fun K' hK=>h K' fun a w hS hT hW=>hK a w hS (fun _=>hT) hW) Cj.nil)
theorem WK.store{o:Oper}{fuel:Nat}{listed:Array Bool}{a:Act}{w:World}(hr:Region.ready md ops listed=[k])(ho:ops[k]?=some o)
  (h:∀K':Act->World->Prop,Shut (∀a w,S w->WK P md ops Q S T k fuel (listed.setIfInBounds k true) a w->K' a w)->if Region.wanted o (yielded ops a.tmps)=true then Oper.wp P o a w K' Q else K' (a.put o.dst undef) w):WK P md ops Q S T k (fuel+1) listed a w:=
 fun hH=>GJ hr (by simp) (Cj.cons ho hH.down (by rw[hr];simp) (fun K' hK=>h K' fun a w hS hW=>hK a w hS (fun hc=>by
  exfalso;rcases Nat.lt_or_ge k listed.size with h'|h'
  ·simp[h']at hc
  ·simp[Nat.not_lt.2 h']at hc) hW) Cj.nil)
theorem WK.done{listed:Array Bool}{a:Act}{w:World}{fuel:Nat}(hr:Region.ready md ops listed=[])(h:Q .normal a w):WK P md ops Q S T k fuel listed a w:=
 fun _=>QA hr h fuel
theorem WK.begin{id:Nat}{a:Act}{w:World}(hm:P.follows .mixedOrders=true)(hS:S w.drew)(hT:T w.drew)
  (h:WK P .any ops Q S T k ops.size (Array.replicate ops.size false) a w.drew):(Code.region id ops true).wp P Q a w:=
 QC hm hS hT h
end
theorem Ww:(Tryz.prog.info? 55).map (fun i=>(i.zero,i.size,i.bytes))=some (some (.agg #[.int .i64 0,.int .i64 0,.int .i64 0,.int .i64 0,.int .i64 0,.int .i64 0,.slice none 0 0]),7,72):=by kernel_rfl
theorem Xw(w:World)(z:Mk×Value)(j:Nat)(u:Value)(h:(DF z)[j]?=some u):(w.alloc (.cells #[.int .i64 z.1.client,.int .i64 z.1.Ag,.int .i64 z.1.line,.int .i64 z.1.seq,.int .i64 z.1.uid,.int .i64 z.1.proc,z.2] 55)).cell? ((⟨w.heap.size,0,none⟩:Addr).add j)=some u:=by
 rw[Addr.add_lit,Nat.zero_add,World.cell?_alloc_new w _ _ j];simpa [DF] using h
theorem JX{w:World}(n:Nat):Below w.heap.size w (w.drewN n):=⟨rfl,rfl,rfl,Nat.le_refl _,fun _ _=>rfl⟩
theorem Dc{w w':World}{F:Aq}{X:Value}{l:List R.It}(h:BD w F X l)(hb:Below w.heap.size w w'):BD w' F X l:=h.keep (Af.Aj hb (fun _=>False)) (fun _ _ _ _ q=>q) (fun _ q=>q)
theorem WC{w:World}{F:Aq}{X:Value}{l:List R.It}(h:BD w F X l):∃xa xn xc,X=.slice xa xn xc:=by
 rcases h with ⟨_,rfl⟩|⟨b,off,cap,cur,_,rfl,_⟩
 ·exact⟨_,_,_,rfl⟩
 ·exact⟨_,_,_,rfl⟩
theorem S8(k pr:Nat)(hk:k<3)(hpr:pr<2)(h2:k=2->pr=0)(a b:Int)(ha:In64 a)(hb:In64 b):∃v,Fits (I4 k pr) v/\Kx k pr=0/\∀w,Calls Tryz.prog 30 #[.int .i64 (k:Int),.int .i64 (pr:Int),.int .i64 a,.int .i64 b] w (CY v w):=by
 have h3:(k=0/\pr=0)\/(k=0/\pr=1)\/(k=1/\pr=0)\/(k=1/\pr=1)\/(k=2/\pr=0):=by omega
 rcases h3 with ⟨rfl,rfl⟩|⟨rfl,rfl⟩|⟨rfl,rfl⟩|⟨rfl,rfl⟩|⟨rfl,rfl⟩
 ·obtain⟨v,h,q⟩:=aar a b ha;exact⟨v,h,rfl,q⟩
 ·obtain⟨v,h,q⟩:=aas a b ha;exact⟨v,h,rfl,q⟩
 ·obtain⟨v,h,q⟩:=aat a b ha;exact⟨v,h,rfl,q⟩
 ·obtain⟨v,h,q⟩:=aau a b ha;exact⟨v,h,rfl,q⟩
 ·obtain⟨v,h,q⟩:=aav a b ha hb;exact⟨v,h,rfl,q⟩
theorem Qo{k:Nat}{pr:Int}(hk:k<3)(h:Kx k pr=0):R.CO k pr=some (I4 k pr,Sj k pr):=by
 have h3:k=0\/k=1\/k=2:=by omega
 unfold Kx at h;rcases h3 with rfl|rfl|rfl
 ·by_cases a:pr=0
  ·subst a;rfl
  ·by_cases b:pr=1
   ·subst b;rfl
   ·simp[a,b]at h
 ·by_cases a:pr=0
  ·subst a;rfl
  ·by_cases b:pr=1
   ·subst b;rfl
   ·simp[a,b]at h
 ·by_cases a:pr=0
  ·subst a;rfl
  ·simp[a]at h
end Go.Proofs.YtblomippkddgiaaGreatDoor
namespace Go.Proofs.YtblomippkddgiaaGreatDoor.R
theorem Fv:∀(N:Nat) (l:List Nat),l.Nodup->(∀x∈l,x<N)->l.length<=N
 |0,[],_,_=>Nat.le_refl _
 |0,x :: l,_,h=>absurd (h x (by simp)) (by omega)
 |N+1,l,hn,h=>by
  by_cases hm:N∈l
  ·have h1:=Fv N (l.erase N) (hn.erase N) (fun x hx=>by
    have q:=(hn.mem_erase_iff).1 hx;have:=h x q.2;omega)
   have h2:=List.length_erase_of_mem hm;have h3:=List.length_pos_of_mem hm;omega
  ·have h1:=Fv N l hn (fun x hx=>by
    have:=h x hx;have:x≠N:=fun e=>hm (e ▸ hx)
    omega)
   omega
def code(e:En):Nat:=((e.client.toNat*256+e.Ag.toNat)*3+e.line.toNat)*1000+e.seq.toNat
theorem Inv.Tv{M:Bk}{G:Wd}(h:Inv M G){n:Nat}{s:Sv}(hs:G.Ac[n]?=some s):s.log.length<=3000000:=by
 have hl:=h.lg n s hs;have hcf:=h.wf.cf;unfold BL at hcf;have hb:∀e∈s.log,(0<=e.client/\e.client<=2)/\(1<=e.Ag/\e.Ag<=255)/\(0<=e.line/\e.line<=2)/\1<=e.seq/\e.seq<=999:=fun e he=>by
  obtain⟨d,rb,g1,_⟩:=(hl.each e he).some;obtain⟨i,c,k,l,q1,q2,q3,q4,q5,q6,q7,q8,_⟩:=(h.bk _ d g1).2;have hi:=(List.getElem?_eq_some_iff.1 q2).1;have hk:=(List.getElem?_eq_some_iff.1 q4).1;have hc:=h.wf.cl i c q2;have h1:=h.wf.KF;have h2:=hc.lines;have h3:=hc.Ag;simp only[CX]at q1 q3 q5 q6 q7 q8;omega
 have hnd:(s.log.map code).Nodup:=by
  rw[List.Nodup,List.pairwise_map];refine hl.ord.imp_of_mem (fun {a b} ha hb' hab e=>?_);have h1:=hb a ha;have h2:=hb b hb';unfold code at e;have h3:=hab (by omega) (by omega) (by omega);omega
 have:=Fv 2400000 _ hnd (fun x hx=>by
  obtain⟨e,he,rfl⟩:=List.mem_map.1 hx;have:=hb e he;unfold code;omega)
 rw[List.length_map]at this;omega
end Go.Proofs.YtblomippkddgiaaGreatDoor.R
namespace Go.Proofs.YtblomippkddgiaaGreatDoor
def Mk.key(m:Mk):R.Key:=⟨m.client,m.Ag,m.line,m.seq⟩
structure DT(ms:List Mk)(M:R.Bk):Prop where
 some:∀k d,M k=.some d->∃m∈ms,m.key=k/\m.uid=d.uid/\m.proc=d.proc/\m.arg=d.arg
 all:∀m∈ms,∃d,M m.key=.some d
 ord:ms.Pairwise fun a b=>a.client=b.client->a.Ag=b.Ag->a.line=b.line->a.seq<b.seq
theorem DT.none:DT [] (fun _=>.none):=⟨(fun _ _ h=>by cases h),(fun _ h=>by cases h),List.Pairwise.nil⟩
theorem DT.less{ms:List Mk}{M:R.Bk}(h:DT ms M){i j:Nat}{a b:Mk}(ha:ms[i]?=.some a)(hb:ms[j]?=.some b)(hij:i<j)(h1:a.client=b.client)(h2:a.Ag=b.Ag)(h3:a.line=b.line):a.seq<b.seq:=by
 obtain⟨hi,rfl⟩:=List.getElem?_eq_some_iff.1 ha;obtain⟨hj,rfl⟩:=List.getElem?_eq_some_iff.1 hb;exact List.pairwise_iff_getElem.1 h.ord i j hi hj hij h1 h2 h3
theorem DT.uniq{ms:List Mk}{M:R.Bk}(h:DT ms M){i j:Nat}{a b:Mk}(ha:ms[i]?=.some a)(hb:ms[j]?=.some b)(hk:a.key=b.key):i=j:=by
 unfold Mk.key at hk;simp only[R.Key.mk.injEq]at hk;obtain⟨k1,k2,k3,k4⟩:=hk;rcases Nat.lt_trichotomy i j with q|q|q
 ·have:=h.less ha hb q k1 k2 k3;omega
 ·exact q
 ·have:=h.less hb ha q k1.symm k2.symm k3.symm;omega
theorem DT.at{ms:List Mk}{M:R.Bk}(h:DT ms M){k:R.Key}{d:R.Cd}(hk:M k=.some d):∃(i:Nat) (m:Mk),ms[i]?=.some m/\m.key=k/\m.uid=d.uid/\m.proc=d.proc/\m.arg=d.arg:=by
 obtain⟨m,hm,h1⟩:=h.some k d hk;obtain⟨i,hi,rfl⟩:=List.getElem_of_mem hm;exact⟨i,_,List.getElem?_eq_getElem hi,h1⟩
theorem DT.snoc{ms:List Mk}{M:R.Bk}(h:DT ms M){m:Mk}{d:R.Cd}(hu:m.uid=d.uid)(hp:m.proc=d.proc)(ha:m.arg=d.arg)(hn:M m.key=.none)(hl:∀a∈ms,a.client=m.client->a.Ag=m.Ag->a.line=m.line->a.seq<m.seq):DT (ms++[m]) (R.upd M m.key d):=by
 refine⟨fun k e hk=>?_,fun a hm=>?_,?_⟩
 ·unfold R.upd at hk;split at hk
  ·rename_i hkm;cases hk;exact⟨m,by simp,hkm.symm,hu,hp,ha⟩
  ·obtain⟨a,h1,h2⟩:=h.some k e hk;exact⟨a,List.mem_append_left _ h1,h2⟩
 ·unfold R.upd;split
  ·exact⟨d,rfl⟩
  ·rcases List.mem_append.1 hm with h1|h1
   ·exact h.all a h1
   ·rename_i hne;obtain rfl:a=m:=by simpa using h1
    exact absurd rfl hne
 ·rw[List.pairwise_append];refine⟨h.ord,by simp,fun a hma b hb=>?_⟩;obtain rfl:b=m:=by simpa using hb
  exact hl a hma
def Cq(sv:List R.Sv):List R.En:=sv.flatMap (·.log)
theorem TS{sv:List R.Sv}{u:Nat}(h:u<sv.length):Cq sv=Cq (sv.take u)++(sv[u].log++Cq (sv.drop (u+1))):=by
 have e:sv=sv.take u++sv[u] :: sv.drop (u+1):=by rw[<-List.drop_eq_getElem_cons h,List.take_append_drop]
 have:=congrArg Cq e;rw[this];simp only[Cq,List.flatMap_append,List.flatMap_cons]
def Apart(a b:R.En):Prop:=R.CX a≠R.CX b
theorem RB{M:R.Bk}{G:R.Wd}(h:R.Inv M G):(Cq G.Ac).Pairwise Apart:=by
 unfold Cq;rw[List.pairwise_flatMap];refine⟨fun s hs=>?_,?_⟩
 ·obtain⟨u,hu,rfl⟩:=List.getElem_of_mem hs;refine(h.lg u _ (List.getElem?_eq_getElem hu)).ord.imp ?_;intro a b hab e;unfold R.CX at e;simp only[R.Key.mk.injEq]at e;have:=hab e.1 e.2.1 e.2.2.1;omega
 ·rw[List.pairwise_iff_getElem];intro i j hi hj hij x hx y hy e;obtain⟨d,_,h1,h2,_⟩:=((h.lg i _ (List.getElem?_eq_getElem hi)).each x hx).some;obtain⟨d',_,h3,h4,_⟩:=((h.lg j _ (List.getElem?_eq_getElem hj)).each y hy).some;rw[e]at h1;obtain rfl:=Option.some.inj (h1.symm.trans h3);omega
def Cc(K:R.Key)(l:List R.En):Nat:=l.countP fun e=>decide (R.CX e=K)
theorem OP{K:R.Key}:∀{l:List R.En},(∀e∈l,R.CX e≠K)->Cc K l=0:=fun {l} h=>by
 unfold Cc;rw[List.countP_eq_zero];intro e he;simpa using h e he
theorem Td{K:R.Key}:∀{l:List R.En},l.Pairwise Apart->∀{e:R.En},e∈l->R.CX e=K->Cc K l=1
 |[],_,_,h,_=>by cases h
 |x :: l,hp,e,he,hk=>by
  rw[List.pairwise_cons]at hp;unfold Cc;rw[List.countP_cons];rcases List.mem_cons.1 he with rfl|he
  ·have:=OP (K:=K) (l:=l) (fun y hy q=>hp.1 y hy (hk.trans q.symm));unfold Cc at this;rw[this];simp[hk]
  ·have:=Td hp.2 he hk;unfold Cc at this;rw[this,if_neg (by simpa using fun q=>hp.1 e he (q.trans hk.symm))]
theorem Q6(K:R.Key)(a b:List R.En):Cc K (a++b)=Cc K a+Cc K b:=by simp[Cc]
def GR(sv:List R.Sv)(u i:Nat):List R.En:=Cq (sv.take u)++((((sv[u]?).map (·.log)).getD []).take i)
theorem Nl(sv:List R.Sv)(u:Nat):GR sv u 0=Cq (sv.take u):=by simp[GR]
theorem Vu{sv:List R.Sv}{u i:Nat}{s:R.Sv}{e:R.En}(hs:sv[u]?=some s)(he:s.log[i]?=some e):GR sv u (i+1)=GR sv u i++[e]:=by
 unfold GR;rw[hs];simp only[Option.map_some,Option.getD_some];obtain⟨hi,rfl⟩:=List.getElem?_eq_some_iff.1 he;rw[List.append_assoc,<-List.take_append_getElem hi]
theorem Vt{sv:List R.Sv}{u:Nat}{s:R.Sv}(hs:sv[u]?=some s):GR sv u s.log.length=GR sv (u+1) 0:=by
 rw[Nl];unfold GR Cq;obtain⟨hu,rfl⟩:=List.getElem?_eq_some_iff.1 hs;rw[List.take_add_one,List.flatMap_append,hs];simp
theorem Yu(sv:List R.Sv):GR sv sv.length 0=Cq sv:=by rw[Nl,List.take_length]
theorem MQ{M:R.Bk}{G:R.Wd}(h:R.Inv M G){i k:Nat}{c:R.Cl}{l:R.Ln}(hc:G.Ad[i]?=some c)(hl:c.lines[k]?=some l)(h2:l.state=2):
  Cc ⟨i,c.Ag,k,l.seq⟩ (Cq G.Ac)=1/\∀e∈Cq G.Ac,R.CX e=⟨i,c.Ag,k,l.seq⟩->e.result=l.result:=by
 obtain⟨d,e,rb,h3,h4,h5⟩:=(h.ln i c k l hc hl).done h2;have hm:e∈Cq G.Ac:=by
  have:=h4.mem;unfold R.EK at this;cases hs:G.Ac[(d.uid-1).toNat]? with
  |none=>rw[hs]at this;simp at this
  |some s=>
   rw[hs]at this;simp only[Option.map_some,Option.getD_some]at this;exact List.mem_flatMap.2 ⟨s,List.mem_of_getElem? hs,this⟩
 have hp:=RB h;refine⟨Td hp hm h4.key,fun x hx hxk=>?_⟩;have:x=e:=by
  obtain⟨a,ha,rfl⟩:=List.getElem_of_mem hx;obtain⟨b,hb,rfl⟩:=List.getElem_of_mem hm;rw[List.pairwise_iff_getElem]at hp;rcases Nat.lt_trichotomy a b with q|q|q
  ·exact absurd (hxk.trans h4.key.symm) (hp a b ha hb q)
  ·subst q;rfl
  ·exact absurd (h4.key.trans hxk.symm) (hp b a hb ha q)
 rw[this,h5]
end Go.Proofs.YtblomippkddgiaaGreatDoor
