import Derived.Test.YtblomippkddgiaaGreatDoorJ09
import Derived.Test.YtblomippkddgiaaGreatDoorJ17
import Derived.Test.YtblomippkddgiaaGreatDoorJ32
import Derived.Deep.RegionHeld3
set_option maxRecDepth 100000
set_option maxHeartbeats 600000
namespace Go.Proofs.YtblomippkddgiaaGreatDoor
open Go.RowKit
open Go
def abd(x:V.It):List Value:=[.int .i64 x.1,.string x.2]
theorem ajg(x:V.It):(abd x).length=2:=rfl
theorem akZ{w:World}{B:Nat}{X:Value}{v:List V.It}(h:w.ownsRow B 106 2 X v.length (tab abd v))(hv:v≠[]):aa2 w (fun k=>B≤k) X v:=by
 rcases h.2 with ⟨rfl,h0⟩|⟨g,cap,cur,rfl,hB,hg,hcap,_,_,htk⟩
 ·exact absurd (List.eq_nil_of_length_eq_zero h0) hv
 ·refine Or.inr ⟨g,0,cap,cur,hv,rfl,hcap,hB,hg,fun j x hj=>?_⟩
  have hjl:=(List.getElem?_eq_some_iff.1 hj).1
  have q:∀d,d<2→cur[j*2+d]?=(abd x)[d]?:=fun d hd=>by
   rw[←acz ajg v j d x hj hd,←htk,List.getElem?_take,if_pos (by omega)]
   simp
  have q0:=q 0 (by omega)
  have q1:=q 1 (by omega)
  rw[Nat.zero_add]
  exact⟨by simpa [abd] using q0,by simpa [abd] using q1⟩
theorem aia(w:World)(x:V.It):aa2 (w.alloc (.cells #[.int .i64 x.1,.string x.2] 106)) (fun k=>w.heap.size≤k) (.slice (some ⟨w.heap.size,0,none⟩) 1 1) [x]:=
 akZ (World.ownsRow_lit (base:=w.heap.size) (e:=106) (size:=2) w #[.int .i64 x.1,.string x.2] 1 (Nat.le_refl _) (by unfold maxLen;omega) rfl) (by simp)
theorem ak6:(Tryz.prog.info? 106).map (fun i=>(i.zero,i.size,i.bytes))=some (some (.agg #[.int .i64 0,.string ⟨#[]⟩]),2,24):=by kernel_rfl
theorem amP(w:World)(n:Int)(j:Nat)(u:Value)(h:([.int .i64 n,.string ⟨#[]⟩]:List Value)[j]?=some u):(w.alloc (.cells #[.int .i64 n,.string ⟨#[]⟩] 106)).cell? ((⟨w.heap.size,0,none⟩:Addr).add j)=some u:=by
 rw[Addr.add_lit,Nat.zero_add,World.cell?_alloc_new w _ _ j,←List.getElem?_toArray]at *
 exact h
def ani:ByteArray:=⟨#[102,111,117,114,116,101,101,110,32,98,121,116,101,115]⟩
theorem ai6(n:Nat)(h:n<15):(ani.extract 0 n).size=n:=by
 have:∀k,k<15→(ani.extract 0 k).size=k:=by decide +kernel
 exact this n h
def aa1(v:List V.It)(w:World)(e:Ending)(w':World):Prop:=∃X,e=.returned X∧aa2 w' (fun k=>w.heap.size≤k) X v∧Below w.heap.size w w'
theorem aqj(a b:Int)(ha:abW a):∃v,Fits ⟨#[105]⟩ v∧∀w,Calls Tryz.prog 30 #[.int .i64 0,.int .i64 0,.int .i64 a,.int .i64 b] w (aa1 v w):=by
 obtain⟨n,hn,P⟩:=aaH a 65536 ha (by omega) (by omega)
 refine⟨[((n:Int)-32768,e0)],ap5 (by omega),fun w=>?_⟩
 have HP:=aab P
 have g1:IntKind.i64.wrap ((n:Int)-32768)=(n:Int)-32768:=by rw[IntKind.wrap_i64];omega
 have HI:=aab (aia w ((n:Int)-32768,e0))
 clear P
 unfold aa1
 go_enter Tryz.func30,Tryz.ntmps30
 go_wp2_with (first|(go_at_call 11;refine((unhide HP) _).mono ?_;rintro e w1 ⟨rfl,hw1⟩;rw[hw1];clear hw1))
 go_returns
 exact⟨_,rfl,unhide HI,(Below.refl _ _).alloc (Nat.le_refl _) _⟩
theorem aqi(a b:Int)(ha:abW a):∃v,Fits ⟨#[98]⟩ v∧∀w,Calls Tryz.prog 30 #[.int .i64 0,.int .i64 1,.int .i64 a,.int .i64 b] w (aa1 v w):=by
 obtain⟨n,hn,P⟩:=aaH a 2 ha (by omega) (by omega)
 refine⟨[((n:Int),e0)],ap7 (by omega),fun w=>?_⟩
 have HP:=aab P
 have HI:=aab (aia w ((n:Int),e0))
 clear P
 unfold aa1
 go_enter Tryz.func30,Tryz.ntmps30
 go_wp2_with (first|(go_at_call 11;refine((unhide HP) _).mono ?_;rintro e w1 ⟨rfl,hw1⟩;rw[hw1];clear hw1))
 go_returns
 exact⟨_,rfl,unhide HI,(Below.refl _ _).alloc (Nat.le_refl _) _⟩
theorem aqg(a b:Int)(ha:abW a):∃v,Fits ⟨#[99]⟩ v∧∀w,Calls Tryz.prog 30 #[.int .i64 1,.int .i64 1,.int .i64 a,.int .i64 b] w (aa1 v w):=by
 obtain⟨n,hn,P⟩:=aaH a 6 ha (by omega) (by omega)
 refine⟨[((n:Int),e0)],ap6 (by omega),fun w=>?_⟩
 have HP:=aab P
 have HI:=aab (aia w ((n:Int),e0))
 clear P
 unfold aa1
 go_enter Tryz.func30,Tryz.ntmps30
 go_wp2_with (first|(go_at_call 11;refine((unhide HP) _).mono ?_;rintro e w1 ⟨rfl,hw1⟩;rw[hw1];clear hw1))
 go_returns
 exact⟨_,rfl,unhide HI,(Below.refl _ _).alloc (Nat.le_refl _) _⟩
theorem aqh(a b:Int)(ha:abW a):∃v,Fits ⟨#[115]⟩ v∧∀w,Calls Tryz.prog 30 #[.int .i64 1,.int .i64 0,.int .i64 a,.int .i64 b] w (aa1 v w):=by
 obtain⟨n,hn,P⟩:=aaH a 15 ha (by omega) (by omega)
 refine⟨[(0,ani.extract 0 n)],ap4 (by rw[ai6 n hn];omega),fun w=>?_⟩
 have HP:=aab P
 have HI:=aab (aia w (0,ani.extract 0 n))
 clear P
 unfold aa1
 go_enter Tryz.func30,Tryz.ntmps30
 go_wp2_with (first|(go_at_call 11;refine((unhide HP) _).mono ?_;rintro e w1 ⟨rfl,hw1⟩;rw[hw1];clear hw1))
 go_returns
 exact⟨_,rfl,unhide HI,(Below.refl _ _).alloc (Nat.le_refl _) _⟩
def ajs(m i:Nat):List Int:=(List.range i).map fun (j:Nat)=>(m:Int)+(j:Int)-30000
def adC(a n m i:Nat):List V.It:=((a:Int),e0) :: ((n:Int),e0) :: (ajs m i).map fun x=>(x,e0)
theorem aln(a n m i:Nat):(adC a n m i).length=i+2:=by simp[adC,ajs]
theorem ajr(a n m i:Nat):adC a n m (i+1)=adC a n m i++[((m:Int)+(i:Int)-30000,e0)]:=by
 simp[adC,ajs,List.range_succ]
theorem aqf(a b:Int)(ha:abW a)(hb:abW b):∃v,Fits deskT v∧∀w,Calls Tryz.prog 30 #[.int .i64 2,.int .i64 0,.int .i64 a,.int .i64 b] w (aa1 v w):=by
 obtain⟨n,hn,P⟩:=aaH b 4 hb (by omega) (by omega)
 obtain⟨x,hx,Q⟩:=aaH a 3 ha (by omega) (by omega)
 obtain⟨m,hm,R⟩:=aaH a 60000 ha (by omega) (by omega)
 have hF:Fits deskT (adC x n m n):=by
  have hl:(ajs m n).length=n:=by simp[ajs]
  have:=ald (a:=(x:Int)) (L:=ajs m n) (by omega) (by omega) (fun y hy=>by
   obtain⟨j,hj,rfl⟩:=List.mem_map.1 hy
   have:=List.mem_range.1 hj
   omega)
  rw[hl]at this
  exact this
 refine⟨_,hF,fun w=>?_⟩
 have HP:=aab P
 have HQ:=aab Q
 have HR:=aab R
 obtain⟨i0,hi,hz0,hz1,hz2⟩:=info_parts ak6
 have HS:Hid ((w.alloc (.cells #[.int .i64 (x:Int),.string ⟨#[]⟩,.int .i64 (n:Int),.string ⟨#[]⟩] 106)).ownsRow w.heap.size 106 2 (.slice (some ⟨w.heap.size,0,none⟩) 2 2) (0+2) (tab abd (adC x n m 0))):=
  World.ownsRow_lit (base:=w.heap.size) (e:=106) (size:=2) w #[.int .i64 (x:Int),.string ⟨#[]⟩,.int .i64 (n:Int),.string ⟨#[]⟩] 2 (Nat.le_refl _) (by unfold maxLen;omega) rfl
 have HB:Hid (Below w.heap.size w (w.alloc (.cells #[.int .i64 (x:Int),.string ⟨#[]⟩,.int .i64 (n:Int),.string ⟨#[]⟩] 106))):=(Below.refl _ _).alloc (Nat.le_refl _) _
 clear P Q R hF
 unfold aa1
 go_enter Tryz.func30,Tryz.ntmps30
 go_wp2_with (first|(go_at_call 11;refine((unhide HP) _).mono ?_;clear HP;rintro e w1 ⟨rfl,hw1⟩;rw[hw1];clear hw1)|(go_at_call 11;refine((unhide HQ) _).mono ?_;clear HQ;rintro e w1 ⟨rfl,hw1⟩;rw[hw1];clear hw1))
 go_loopw [10,11] (fun lv iv wr=>∃i:Nat,i≤n∧iv=.int .i64 i∧wr.ownsRow w.heap.size 106 2 lv (i+2) (tab abd (adC x n m i))∧Below w.heap.size w wr) (fun _ iv _=>n-(intOf iv).toNat)
 case atStart=>exact⟨0,Nat.zero_le _,rfl,unhide HS,unhide HB⟩
 case round=>
  obtain⟨i,hin,rfl,hrow,hbl⟩:=hrel
  by_cases hlt:i<n
  ·have hsz:=hbl.size
   have hlts:=fun q=>World.ownsRow.lt hrow q
   obtain⟨la,lc,hls⟩:=aas hrow
   subst hls
   have HRW:=aab hrow
   have HBL:=aab hbl
   have HLT:=aab hlts
   have g1:IntKind.i64.wrap ((m:Int)+(i:Int))=(m:Int)+(i:Int):=by rw[IntKind.wrap_i64];omega
   have g2:IntKind.i64.wrap ((m:Int)+(i:Int)-30000)=(m:Int)+(i:Int)-30000:=by rw[IntKind.wrap_i64];omega
   clear hrow hbl hlts
   go_wp2_with (first
    |(go_at_call 11;refine((unhide HR) _).mono ?_;rintro e w1 ⟨rfl,hw1⟩;rw[hw1];clear hw1)
    |(at_builtin;go_must (refine wpList_append_own_at _ rfl (.tmp 63) (.tmp 70) 44 rfl w.heap.size 106 i0 (.agg #[.int .i64 0,.string ⟨#[]⟩]) 2 24 Tryz.underlying44 hi hz0 hz1 hz2 rfl (by decide) (.slice la (i+2) lc) (i+2) (tab abd (adC x n m i)) rfl (by exact(unhide HRW).alloc _) ⟨_,0,none⟩ 1 1 [.int .i64 ((m:Int)+(i:Int)-30000),.string ⟨#[]⟩] rfl rfl (by exact amP _ _) (by simp[Value.oneCell']) (by unfold maxLen;omega) (by omega) (by simp;omega) ?_;intro v' wz hown hgrow _ hat)))
   have HRN:Hid (wz.ownsRow w.heap.size 106 2 v' (i+1+2) (tab abd (adC x n m (i+1)))):=by
    rw[ajr,abQ]
    exact hown
   have HBN:=aab (((unhide HBL).alloc hsz _).grown hgrow (by simp;omega) (fun q hq=>((unhide HLT) q hq).1))
   clear hown hgrow hat
   go_wp2
   go_roundw
   case rel=>exact⟨i+1,by omega,by go_num,unhide HRN,unhide HBN⟩
   case measure=>simp[intOf];omega
  ·obtain rfl:i=n:=by omega
   obtain⟨la,lc,hls⟩:=aas hrow
   have HI:Hid (aa2 wr (fun k=>w.heap.size≤k) u10 (adC x i m i)):=akZ (by rw[aln];exact hrow) (by simp[adC])
   have HBL:=aab hbl
   clear hrow hbl hls
   go_wp2
   go_returns
   exact⟨_,rfl,unhide HI,unhide HBL⟩
section
variable {P:Program} {ops:Array Oper} {Q:Exit→Act→World→Prop} {md:Region.Mode} {S T U:World→Prop} {k:Nat}
def wpAnyK(P:Program)(md:Region.Mode)(ops:Array Oper)(Q:Exit→Act→World→Prop)(S T:World→Prop)(k:Nat):Nat→Array Bool→Act→World→Prop
 |0,listed,a,w=>Region.ready md ops listed=[]∧Q .normal a w
 |fuel+1,listed,a,w=>
  (Region.ready md ops listed=[]→Q .normal a w) ∧
  ∀i∈Region.ready md ops listed,wpOp P ops Q i (fun a' w'=>(S w'∧((listed.setIfInBounds i true).getD k true=false→T w'))∧wpAnyK P md ops Q S T k fuel (listed.setIfInBounds i true) a' w') a w
theorem aeC:∀(fuel:Nat) (listed:Array Bool) (a:Act) (w:World),wpAnyK P md ops Q S T k fuel listed a w→wpAny P md ops Q fuel listed a w
 |0,_,_,_,h=>h
 |fuel+1,_,_,_,h=>⟨h.1,fun i hi=>wpOp_mono (fun a' w' h'=>aeC fuel _ a' w' h'.2) (h.2 i hi)⟩
def an3(md:Region.Mode)(ops:Array Oper)(listed:Array Bool):Prop:=
 ∀j oj,ops[j]?=some oj→listed.getD j true=true→∀e∈oj.after,Region.binds md e=true→listed.getD e.on false=true
theorem an3.set{listed:Array Bool}{j:Nat}(h:an3 md ops listed)(hj:j∈Region.ready md ops listed):an3 md ops (listed.setIfInBounds j true):=by
 intro i oi hoi hl e he hb
 by_cases hij:j=i
 ·subst hij
  obtain⟨_,oj,hoj,hall⟩:=mem_ready.1 hj
  rw[hoi]at hoj
  cases hoj
  exact getD_set_true (hall e he hb)
 ·rw[getD_set_ne true hij]at hl
  exact getD_set_true (h i oi hoi hl e he hb)
inductive Waits (md:Region.Mode) (ops:Array Oper):Nat→Nat→Prop
 |one {k i:Nat} {ok:Oper} {e:Edge} (hk:ops[k]?=some ok) (he:e∈ok.after) (hb:Region.binds md e=true) (hi:e.on=i):Waits md ops k i
 |more {k j i:Nat} (h:Waits md ops k j) (h':Waits md ops j i):Waits md ops k i
def ahL(md:Region.Mode)(ops:Array Oper)(k i:Nat):Bool:=
 match ops[k]? with
 |some ok=>ok.after.any fun e=>Region.binds md e&&e.on==i
 |none=>false
theorem Waits.of{i:Nat}(h:ahL md ops k i=true):Waits md ops k i:=by
 unfold ahL at h
 split at h
 ·rename_i ok hok
  simp only[Array.any_eq_true',Bool.and_eq_true,beq_iff_eq]at h
  obtain⟨e,he,hb,hi⟩:=h
  exact .one hok he hb hi
 ·cases h
theorem aoR{listed:Array Bool}{i:Nat}(h:listed.getD i false=true):listed.getD i true=true:=by
 rcases Nat.lt_or_ge i listed.size with h'|h'
 ·simp[h']at h ⊢;exact h
 ·simp[Array.getElem?_eq_none h']at h
theorem Waits.unlisted{i:Nat}{listed:Array Bool}(h:Waits md ops k i)(hd:an3 md ops listed)(hi:listed.getD i true=false):listed.getD k true=false:=by
 induction h with
 |one hk he hb hi'=>
  rename_i kk ii ok e
  cases hc:listed.getD kk true with
  |false=>rfl
  |true=>
   have:=aoR (hd _ _ hk hc _ he hb)
   rw[hi',hi]at this
   cases this
 |more _ _ ih1 ih2=>exact ih1 (ih2 hi)
theorem adj{i:Nat}{oi:Oper}{v:Value}(hi:ops[i]?=some oi)(hsel:∀(j:Nat) (o:Oper) cs b,ops[j]?=some o→o.op≠.select cs b)
  (hQ:∀c a w,Q (.panic c) (a.put oi.dst v) w→Q (.panic c) a w) (hik:i≠k)
  (hU:∀(listed:Array Bool) w,an3 md ops listed→listed.getD i true=false→S w→(listed.getD k true=false→T w)→U w) :
  ∀(fuel:Nat) (listed:Array Bool) (a:Act) (w:World),an3 md ops listed →
   (∀j oj,ops[j]?=some oj→j≠i→listed.getD j true=false→(∀e∈oj.after,Region.binds md e=true→e.on≠i)→oi.apart ops oj=true) →
   i∈Region.ready md ops listed→YieldsIf P ops U oi v a→S w→(listed.getD k true=false→T w) →
   wpAnyK P md ops Q S T k fuel (listed.setIfInBounds i true) (a.put oi.dst v) w→wpAnyK P md ops Q S T k (fuel+1) listed a w:=by
 intro fuel
 induction fuel with
 |zero=>
  intro listed a w hd _ hr hy hS hT H
  refine⟨fun h=>(by rw[h]at hr;cases hr),fun j hj=>?_⟩
  by_cases hji:j=i
  ·subst hji
   exact hy.wpOp hi (hU _ _ hd (mem_ready.1 hr).1 hS hT) ⟨⟨hS,by rw[getD_set_ne true hik];exact hT⟩,H⟩
  ·have:=ready_mono hj hji
   rw[H.1]at this
   cases this
 |succ fuel ih=>
  intro listed a w hd hfree hr hy hS hT H
  refine⟨fun h=>(by rw[h]at hr;cases hr),fun j hj=>?_⟩
  by_cases hji:j=i
  ·subst hji
   exact hy.wpOp hi (hU _ _ hd (mem_ready.1 hr).1 hS hT) ⟨⟨hS,by rw[getD_set_ne true hik];exact hT⟩,H⟩
  ·have h1:=H.2 j (ready_mono hj hji)
   obtain⟨hjun,oj,hoj,hall⟩:=mem_ready.1 hj
   have hnot:∀e∈oj.after,Region.binds md e=true→e.on≠i:=fun e he hb heq=>by
    have h1:=hall e he hb
    have h0:=(mem_ready.1 hr).1
    rw[heq]at h1
    rcases Nat.lt_or_ge i listed.size with h'|h'
    ·simp[h']at h0 h1;rw[h0]at h1;cases h1
    ·simp[Array.getElem?_eq_none h']at h1
   have h2:=wpOp_putIf hoj (hfree j oj hoj hji hjun hnot) (fun cs b=>hsel i oi cs b hi) (fun cs b=>hsel j oj cs b hoj) hQ hy h1
   have hfree':∀k ok,ops[k]?=some ok→k≠i→(listed.setIfInBounds j true).getD k true=false →
     (∀e∈ok.after,Region.binds md e=true→e.on≠i)→oi.apart ops ok=true:=fun k ok hk hki hun hno=>by
    refine hfree k ok hk hki ?_ hno
    by_cases hjk:j=k
    ·subst hjk;exact hjun
    ·rw[getD_set_ne true hjk]at hun;exact hun
   refine wpOp_mono (fun a' w' h3=>?_) h2
   have hT':(listed.setIfInBounds j true).getD k true=false→T w':=fun h=>h3.2.1.2 (by
    rw[Array.setIfInBounds_comm _ _ (Ne.symm hji),getD_set_ne true hik];exact h)
   refine⟨⟨h3.2.1.1,hT'⟩,ih (listed.setIfInBounds j true) a' w' (hd.set hj) hfree' (ready_mono hr (Ne.symm hji)) h3.1 h3.2.1.1 hT' ?_⟩
   rw[Array.setIfInBounds_comm _ _ hji]
   exact h3.2.2
structure HeldK(md:Region.Mode)(ops:Array Oper)(S T:World→Prop)(k:Nat)(listed:Array Bool)(w:World):Prop where
 down:an3 md ops listed
 s:S w
 t:listed.getD k true=false→T w
theorem HeldK.set{listed:Array Bool}{w:World}{i:Nat}(h:HeldK md ops S T k listed w)(hr:(Region.ready md ops listed).contains i=true)(hik:(i==k)=false):HeldK md ops S T k (listed.setIfInBounds i true) w:=
 ⟨h.down.set (by simpa using hr),h.s,by rw[getD_set_ne true (by simpa using hik)];exact h.t⟩
theorem agC{i:Nat}{oi:Oper}{v:Value}{fuel:Nat}{listed:Array Bool}{a:Act}{w:World}(hi:ops[i]?=some oi)
  (hs:Region.noSelect ops=true) (hf:Region.free md ops listed i=true) (hr:(Region.ready md ops listed).contains i=true) (hik:(i==k)=false)
  (hQ:∀c a w,Q (.panic c) (a.put oi.dst v) w→Q (.panic c) a w) (hy:YieldsIf P ops S oi v a) (hH:HeldK md ops S T k listed w)
  (h:HeldK md ops S T k (listed.setIfInBounds i true) w→wpAnyK P md ops Q S T k fuel (listed.setIfInBounds i true) (a.put oi.dst v) w):wpAnyK P md ops Q S T k (fuel+1) listed a w:=
 adj (U:=S) hi (Region.noSelect_spec hs) hQ (by simpa using hik) (fun _ _ _ _ h _=>h) fuel listed a w hH.down (Region.free_spec hi hf) (by simpa using hr) hy hH.s hH.t (h (hH.set hr hik))
theorem afG{i:Nat}{oi:Oper}{v:Value}{fuel:Nat}{listed:Array Bool}{a:Act}{w:World}(hi:ops[i]?=some oi)
  (hs:Region.noSelect ops=true) (hf:Region.free md ops listed i=true) (hr:(Region.ready md ops listed).contains i=true) (hik:(i==k)=false) (hw:Waits md ops k i)
  (hQ:∀c a w,Q (.panic c) (a.put oi.dst v) w→Q (.panic c) a w) (hy:YieldsIf P ops (fun w=>S w∧T w) oi v a) (hH:HeldK md ops S T k listed w)
  (h:HeldK md ops S T k (listed.setIfInBounds i true) w→wpAnyK P md ops Q S T k fuel (listed.setIfInBounds i true) (a.put oi.dst v) w):wpAnyK P md ops Q S T k (fuel+1) listed a w:=
 adj (U:=fun w=>S w∧T w) hi (Region.noSelect_spec hs) hQ (by simpa using hik) (fun _ _ hd hun h ht=>⟨h,ht (hw.unlisted hd hun)⟩) fuel listed a w hH.down (Region.free_spec hi hf) (by simpa using hr) hy hH.s hH.t (h (hH.set hr hik))
def aaX(P:Program)(md:Region.Mode)(ops:Array Oper)(Q:Exit→Act→World→Prop)(S T:World→Prop)(k:Nat)(fuel:Nat)(listed:Array Bool)(a:Act)(w:World)(rs:List Nat):Prop:=
 ∀i∈rs,wpOp P ops Q i (fun a' w'=>(S w'∧((listed.setIfInBounds i true).getD k true=false→T w'))∧wpAnyK P md ops Q S T k fuel (listed.setIfInBounds i true) a' w') a w
theorem aaX.nil{fuel:Nat}{listed:Array Bool}{a:Act}{w:World}:aaX P md ops Q S T k fuel listed a w []:=fun _ h=>by cases h
theorem aaX.cons{fuel:Nat}{listed:Array Bool}{a:Act}{w:World}{i:Nat}{o:Oper}{rs:List Nat}(ho:ops[i]?=some o)
  (hd:an3 md ops listed) (hr:(Region.ready md ops listed).contains i=true)
  (h:∀K':Act→World→Prop,Shut (∀a w,S w→((listed.setIfInBounds i true).getD k true=false→T w)→(HeldK md ops S T k (listed.setIfInBounds i true) w→wpAnyK P md ops Q S T k fuel (listed.setIfInBounds i true) a w)→K' a w)→if Region.wanted o (yielded ops a.tmps)=true then Oper.wp P o a w K' Q else K' (a.put o.dst undef) w)
  (hs:aaX P md ops Q S T k fuel listed a w rs):aaX P md ops Q S T k fuel listed a w (i :: rs):=fun j hj=>by
 rcases List.mem_cons.1 hj with rfl|hj
 ·exact wpOp_step ho (fun K' hK=>h K' (fun a w hS hT hW=>hK a w ⟨⟨hS,hT⟩,hW ⟨hd.set (by simpa using hr),hS,hT⟩⟩))
 ·exact hs j hj
theorem adi{rs:List Nat}{fuel:Nat}{listed:Array Bool}{a:Act}{w:World}(hr:Region.ready md ops listed=rs)(hne:rs≠[])
  (h:aaX P md ops Q S T k fuel listed a w rs):wpAnyK P md ops Q S T k (fuel+1) listed a w:=
 ⟨fun h0=>absurd (hr ▸ h0) hne,hr ▸ h⟩
theorem agD{listed:Array Bool}{a:Act}{w:World}(hr:Region.ready md ops listed=[])(h:Q .normal a w) :
  ∀fuel,wpAnyK P md ops Q S T k fuel listed a w
 |0=>⟨hr,h⟩
 |_+1=>⟨fun _=>h,by rw[hr];simp⟩
theorem agB{id:Nat}{a:Act}{w:World}(hm:P.follows .mixedOrders=true)(hS:S w.drew)(hT:T w.drew)
  (h:HeldK .any ops S T k (Array.replicate ops.size false) w.drew→wpAnyK P .any ops Q S T k ops.size (Array.replicate ops.size false) a w.drew):(Code.region id ops true).wp P Q a w:=
 wp_region_any hm (aeC _ _ _ _ (h ⟨fun j oj hoj hl=>by
  have hlt:=(Array.getElem?_eq_some_iff.1 hoj).1
  simp[hlt]at hl,hS,fun _=>hT⟩))
def WK(P:Program)(md:Region.Mode)(ops:Array Oper)(Q:Exit→Act→World→Prop)(S T:World→Prop)(k:Nat)(fuel:Nat)(listed:Array Bool)(a:Act)(w:World):Prop:=
 HeldK md ops S T k listed w→wpAnyK P md ops Q S T k fuel listed a w
theorem WK.take{i:Nat}{oi:Oper}{v:Value}{fuel:Nat}{listed:Array Bool}{a:Act}{w:World}(hi:ops[i]?=some oi)
  (hs:Region.noSelect ops=true) (hf:Region.free md ops listed i=true) (hr:(Region.ready md ops listed).contains i=true) (hik:(i==k)=false)
  (hQ:∀c a w,Q (.panic c) (a.put oi.dst v) w→Q (.panic c) a w) (hy:YieldsIf P ops S oi v a)
  (h:WK P md ops Q S T k fuel (listed.setIfInBounds i true) (a.put oi.dst v) w):WK P md ops Q S T k (fuel+1) listed a w:=
 fun hH=>agC hi hs hf hr hik hQ hy hH h
theorem WK.take2{i:Nat}{oi:Oper}{v:Value}{fuel:Nat}{listed:Array Bool}{a:Act}{w:World}(hi:ops[i]?=some oi)
  (hs:Region.noSelect ops=true) (hf:Region.free md ops listed i=true) (hr:(Region.ready md ops listed).contains i=true) (hik:(i==k)=false) (hw:Waits md ops k i)
  (hQ:∀c a w,Q (.panic c) (a.put oi.dst v) w→Q (.panic c) a w) (hy:YieldsIf P ops (fun w=>S w∧T w) oi v a)
  (h:WK P md ops Q S T k fuel (listed.setIfInBounds i true) (a.put oi.dst v) w):WK P md ops Q S T k (fuel+1) listed a w:=
 fun hH=>afG hi hs hf hr hik hw hQ hy hH h
theorem WK.one{i:Nat}{o:Oper}{fuel:Nat}{listed:Array Bool}{a:Act}{w:World}(hr:Region.ready md ops listed=[i])(ho:ops[i]?=some o)
  (h:∀K':Act→World→Prop,Shut (∀a w,S w→T w→WK P md ops Q S T k fuel (listed.setIfInBounds i true) a w→K' a w)→if Region.wanted o (yielded ops a.tmps)=true then Oper.wp P o a w K' Q else K' (a.put o.dst undef) w):WK P md ops Q S T k (fuel+1) listed a w:=
 fun hH=>adi hr (by simp) (aaX.cons ho hH.down (by rw[hr];simp) (fun K' hK=>h K' fun a w hS hT hW=>hK a w hS (fun _=>hT) hW) aaX.nil)
theorem WK.store{o:Oper}{fuel:Nat}{listed:Array Bool}{a:Act}{w:World}(hr:Region.ready md ops listed=[k])(ho:ops[k]?=some o)
  (h:∀K':Act→World→Prop,Shut (∀a w,S w→WK P md ops Q S T k fuel (listed.setIfInBounds k true) a w→K' a w)→if Region.wanted o (yielded ops a.tmps)=true then Oper.wp P o a w K' Q else K' (a.put o.dst undef) w):WK P md ops Q S T k (fuel+1) listed a w:=
 fun hH=>adi hr (by simp) (aaX.cons ho hH.down (by rw[hr];simp) (fun K' hK=>h K' fun a w hS hW=>hK a w hS (fun hc=>by
  exfalso
  rcases Nat.lt_or_ge k listed.size with h'|h'
  ·simp[h']at hc
  ·simp[Nat.not_lt.2 h']at hc) hW) aaX.nil)
theorem WK.done{listed:Array Bool}{a:Act}{w:World}{fuel:Nat}(hr:Region.ready md ops listed=[])(h:Q .normal a w):WK P md ops Q S T k fuel listed a w:=
 fun _=>agD hr h fuel
theorem WK.begin{id:Nat}{a:Act}{w:World}(hm:P.follows .mixedOrders=true)(hS:S w.drew)(hT:T w.drew)
  (h:WK P .any ops Q S T k ops.size (Array.replicate ops.size false) a w.drew):(Code.region id ops true).wp P Q a w:=
 agB hm hS hT h
end
end Go.Proofs.YtblomippkddgiaaGreatDoor
