import Derived.Test.YtblomippkddgiabGreatDoorJ28
set_option maxRecDepth 100000
set_option maxHeartbeats 600000
namespace Go.Proofs.YtblomippkddgiabGreatDoor
open Go.RowKit
open Go
variable {a:Act}{listed:Array Bool}{S T:ByteArray}{n:Int}{rs:List Nat}{r:List V.It}{f fuel i id p:Nat}{g:Nat→Nat}{v:Value}{w:World}
def e0:ByteArray:=⟨#[]⟩
structure Fits(T:ByteArray)(v:List V.It):Prop where
 IZ:(V.Pt.IZ (V.nx T) T.size).1=0
 zero:(V.CW T v).1=0
 len:(V.CW T v).2.length<=70
 few:v.length<=9000000000000
theorem Pv{v:List V.It}{ks:List Bool}(hc:(V.Pt.IZ (V.nx T) T.size).1=0)(he:V.CF (V.nx T) (T.size+1) 0 v=some (ks,[]))(hb:(V.bytesOf ks v).length<=70)(hf:v.length<=100):Fits T v:=by
 have e1:V.CW T v=(0,V.bytesOf ks v):=by
  unfold V.CW;rw[if_pos hc,he];unfold V.NG;simp only;rw[if_pos trivial,if_neg (by omega)]
 exact⟨hc,by rw[e1],by rw[e1];exact hb,by omega⟩
theorem GQ(h1:g p≠97)(h2:g p≠114)(h3:g p≠115)(h4:g p≠117)(h5:g p≠113)(hl:V.CG (g p)<=n)(hh:n<=V.Ci g f p):V.CF g (f+1) p ((n,e0) :: r)=some ([false],r):=by
 have e:V.AO g f p ((n,e0) :: r)=some ([false],[],r):=by
  unfold V.AO;rw[if_neg h1,if_neg h2];simp only;rw[if_neg h3,if_pos ⟨rfl,hl,hh⟩,if_neg h4,if_neg h5]
 show (match V.AO g f p ((n,e0) :: r) with
  |none=>none
  |some (k0,qs,r)=>V.Ck k0 (V.BU (V.CF g f) qs r))=_
 rw[e];rfl
theorem adE(h5:g p=113)(hl:0<=n)(hh:n<=V.Ci g f p):V.CF g (f+1) p ((n,e0) :: r)=V.Ck [false] (V.BU (V.CF g f) (List.replicate n.toNat (p+2)) r):=by
 have e:V.AO g f p ((n,e0) :: r)=some ([false],List.replicate n.toNat (p+2),r):=by
  unfold V.AO;rw[if_neg (by omega),if_neg (by omega)];simp only;rw[if_neg (by omega),if_pos ⟨rfl,by unfold V.CG;rw[if_neg (by omega)];exact hl,hh⟩,if_neg (by omega),if_pos h5]
 show (match V.AO g f p ((n,e0) :: r) with
  |none=>none
  |some (k0,qs,r)=>V.Ck k0 (V.BU (V.CF g f) qs r))=_
 rw[e]
theorem adF{v:List V.It}(h:g p=114):V.CF g (f+1) p v=V.Ck [] (V.BU (V.CF g f) (V.Pt.kids g f p) v):=by
 have e:V.AO g f p v=some ([],V.Pt.kids g f p,v):=by
  unfold V.AO;rw[if_neg (by omega),if_pos h]
 show (match V.AO g f p v with
  |none=>none
  |some (k0,qs,r)=>V.Ck k0 (V.BU (V.CF g f) qs r))=_
 rw[e]
theorem adG(h3:g p=115)(hl:S.size<=14):V.CF g (f+1) p ((0,S) :: r)=some ([true],r):=by
 have e:V.AO g f p ((0,S) :: r)=some ([true],[],r):=by
  unfold V.AO;rw[if_neg (by omega),if_neg (by omega)];simp only;rw[if_pos h3,if_pos ⟨trivial,hl⟩]
 show (match V.AO g f p ((0,S) :: r) with
  |none=>none
  |some (k0,qs,r)=>V.Ck k0 (V.BU (V.CF g f) qs r))=_
 rw[e];rfl
theorem abA(n:Int):(V.A5 n).length=2:=rfl
theorem US(x:V.It):(V.EE false x).length=2:=rfl
theorem MO{c:Nat}(hT:T.size=1)(hc:(V.Pt.IZ (V.nx T) T.size).1=0)(g0:V.nx T 0=c)(aa:c=105\/c=98\/c=99)(hl:V.CG c<=n)(hh:n<=(if c=98 then 1 else if c=99 then 65535 else 32767)):Fits T [(n,e0)]:=by
 refine Pv (ks:=[false]) hc ?_ (by simp[V.bytesOf,US]) (by simp);rw[hT];refine GQ (by omega) (by omega) (by omega) (by omega) (by omega) (by rw[g0];exact hl) ?_;unfold V.Ci;rw[g0];rcases aa with rfl|rfl|rfl
 ·simpa using hh
 ·simpa using hh
 ·simpa using hh
theorem aci(h:-32768<=n/\n<=32767):Fits ⟨#[105]⟩ [(n,e0)]:=MO (c:=105) rfl (by decide +kernel) (by decide +kernel) (by omega) (by unfold V.CG;simp;omega) (by simp;omega)
theorem acg(h:0<=n/\n<=1):Fits ⟨#[98]⟩ [(n,e0)]:=MO (c:=98) rfl (by decide +kernel) (by decide +kernel) (by omega) (by unfold V.CG;simp;omega) (by simp;omega)
theorem ach(h:0<=n/\n<=5):Fits ⟨#[99]⟩ [(n,e0)]:=MO (c:=99) rfl (by decide +kernel) (by decide +kernel) (by omega) (by unfold V.CG;simp;omega) (by simp;omega)
theorem acj(h:S.size<=14):Fits ⟨#[115]⟩ [(0,S)]:=by
 refine Pv (ks:=[true]) (by decide +kernel) (adG (by decide +kernel) h) ?_ (by simp);have hd:S.data.toList.length=S.size:=by simp
 simp only[V.bytesOf,V.EE,if_true,agv,afS,abA,hd];split<;>simp<;>omega
abbrev Cy:ByteArray:=⟨#[114,40,101,51,113,51,105,41]⟩
theorem VU{a:Int}{L:List Int}(ha:0<=a/\a<=2)(hl:L.length<=3)(hL:∀x∈L,-32768<=x/\x<=32767):Fits Cy ((a,e0) :: ((L.length:Int),e0) :: L.map fun x=>(x,e0)):=by
 have g0:V.nx Cy 0=114:=by decide +kernel
 have g2:V.nx Cy 2=101:=by decide +kernel
 have g3:V.nx Cy 3=51:=by decide +kernel
 have g4:V.nx Cy 4=113:=by decide +kernel
 have g5:V.nx Cy 5=51:=by decide +kernel
 have g6:V.nx Cy 6=105:=by decide +kernel
 have hk:V.Pt.kids (V.nx Cy) 8 0=[2,4]:=by decide +kernel
 have e2:∀r,V.CF (V.nx Cy) 8 2 ((a,e0) :: r)=some ([false],r):=fun r=>GQ (by omega) (by omega) (by omega) (by omega) (by omega) (by rw[g2];unfold V.CG;simp;omega) (by unfold V.Ci;rw[g2];simp only[show (2+1:Nat)=3 from rfl,g3];simp;omega)
 have e6:∀x r,x∈L->V.CF (V.nx Cy) 7 6 ((x,e0) :: r)=some ([false],r):=fun x r hx=>GQ (by omega) (by omega) (by omega) (by omega) (by omega) (by have:=hL x hx;rw[g6];unfold V.CG;simp;omega) (by have:=hL x hx;unfold V.Ci;rw[g6];simp;omega)
 have es:∀M:List Int,(∀x∈M,x∈L)->V.BU (V.CF (V.nx Cy) 7) (List.replicate M.length 6) (M.map fun x=>(x,e0))=some (List.replicate M.length false,[]):=fun M=>by
  induction M with
  |nil=>intro _;rfl
  |cons x M ih=>
   intro hM;simp only[af1,age,agD,V.BU];rw[e6 x _ (hM x (by simp)),];simp only;rw[ih (fun y hy=>hM y (by simp[hy]))];rfl
 have e4:V.CF (V.nx Cy) 8 4 (((L.length:Int),e0) :: L.map fun x=>(x,e0))=some (List.replicate (L.length+1) false,[]):=by
  rw[adE g4 (by omega) (by unfold V.Ci;rw[g4];simp only[show (4+1:Nat)=5 from rfl,g5];simp;omega),afY,es L (fun x hx=>hx)];simp[V.Ck,List.replicate_succ]
 have aa:V.CF (V.nx Cy) (Cy.size+1) 0 ((a,e0) :: ((L.length:Int),e0) :: L.map fun x=>(x,e0))=some (List.replicate (L.length+2) false,[]):=by
  show V.CF (V.nx Cy) (8+1) 0 _=_;rw[adF g0,hk];simp only[V.BU];rw[e2];simp only;rw[e4];simp[V.Ck,List.replicate_succ]
 refine Pv (by decide +kernel) aa ?_ (by simp;omega);have hb:∀(v:List V.It) (n:Nat),(V.bytesOf (List.replicate n false) v).length<=2*n:=fun v=>by
  induction v with
  |nil=>intro n;cases n<;>simp[V.bytesOf,List.replicate_succ]
  |cons x v ih=>
   intro n;cases n with
   |zero=>simp[V.bytesOf]
   |succ n=>
    simp only[age,V.bytesOf,afS,US];have:=ih n;omega
 have:=hb ((a,e0) :: ((L.length:Int),e0) :: L.map fun x=>(x,e0)) (L.length+2);omega
def Dp(x:V.It):List Value:=[.int .i64 x.1,.string x.2]
theorem Tv(x:V.It):(Dp x).length=2:=rfl
theorem TA{B:Nat}{X:Value}{v:List V.It}(h:w.ownsRow B 73 2 X v.length (tab Dp v))(hv:v≠[]):BF w (fun k=>B<=k) X v:=by
 rcases h.2 with ⟨rfl,h0⟩|⟨g,cap,ab,rfl,hB,hg,aa,_,_,ac⟩
 ·exact absurd (agl h0) hv
 ·refine afM ⟨g,0,cap,ab,hv,rfl,aa,hB,hg,fun j x hj=>?_⟩;have ad:=(afG.1 hj).1;have q:∀d,d<2->ab[j*2+d]?=(Dp x)[d]?:=fun d hd=>by
   rw[<-E7 Tv v j d x hj hd,<-ac,af7,if_pos (by omega)];simp
  have q0:=q 0 (by omega);have q1:=q 1 (by omega);rw[agn];exact⟨by simpa [Dp] using q0,by simpa [Dp] using q1⟩
theorem MU(w:World)(x:V.It):BF (w.alloc (.cells #[.int .i64 x.1,.string x.2] 73)) (fun k=>w.heap.size<=k) (.slice (some ⟨w.heap.size,0,none⟩) 1 1) [x]:=
 TA (World.ownsRow_lit (base:=w.heap.size) (e:=73) (size:=2) w #[.int .i64 x.1,.string x.2] 1 (afI _) (by unfold maxLen;omega) rfl) (by simp)
theorem Tw:(Tryz.prog.info? 73).map (fun i=>(i.zero,i.size,i.bytes))=some (some (.agg #[.int .i64 0,.string ⟨#[]⟩]),2,24):=by kernel_rfl
theorem Y6(w:World)(n:Int)(j:Nat)(u:Value)(h:([.int .i64 n,.string ⟨#[]⟩]:List Value)[j]?=some u):(w.alloc (.cells #[.int .i64 n,.string ⟨#[]⟩] 73)).cell? ((⟨w.heap.size,0,none⟩:Addr).add j)=some u:=by
 rw[Addr.add_lit,agn,World.cell?_alloc_new w _ _ j,<-agj]at *;exact h
def U0:ByteArray:=⟨#[102,111,117,114,116,101,101,110,32,98,121,116,101,115]⟩
theorem TH(n:Nat)(h:n<15):(U0.extract 0 n).size=n:=by
 have:∀k,k<15->(U0.extract 0 k).size=k:=by decide +kernel
 exact this n h
def Cz(v:List V.It)(w:World)(e:Ending)(w':World):Prop:=∃X,e=.returned X/\BF w' (fun k=>w.heap.size<=k) X v/\Below w.heap.size w w'
theorem ab3(a b:Int)(ha:In64 a):∃v,Fits ⟨#[105]⟩ v/\∀w,Calls Tryz.prog 51 #[.int .i64 0,.int .i64 0,.int .i64 a,.int .i64 b] w (Cz v w):=by
 obtain⟨n,hn,P⟩:=A4 a 65536 ha (by omega) (by omega);refine⟨[((n:Int)-32768,e0)],aci (by omega),fun w=>?_⟩;have HP:=Ac P;have g1:IntKind.i64.wrap ((n:Int)-32768)=(n:Int)-32768:=by rw[IntKind.wrap_i64];omega
 have HI:=Ac (MU w ((n:Int)-32768,e0));clear P;unfold Cz;go_enter Tryz.func51,Tryz.ntmps51;go_wp2_with (first|(go_at_call 27;refine((Aa HP) _).mono ?_;rintro e w1 ⟨rfl,aa⟩;rw[aa];clear aa))
 go_returns;exact⟨_,rfl,Aa HI,(Below.refl _ _).alloc (afI _) _⟩
theorem ab4(a b:Int)(ha:In64 a):∃v,Fits ⟨#[98]⟩ v/\∀w,Calls Tryz.prog 51 #[.int .i64 0,.int .i64 1,.int .i64 a,.int .i64 b] w (Cz v w):=by
 obtain⟨n,hn,P⟩:=A4 a 2 ha (by omega) (by omega);refine⟨[((n:Int),e0)],acg (by omega),fun w=>?_⟩;have HP:=Ac P;have HI:=Ac (MU w ((n:Int),e0));clear P;unfold Cz;go_enter Tryz.func51,Tryz.ntmps51;go_wp2_with (first|(go_at_call 27;refine((Aa HP) _).mono ?_;rintro e w1 ⟨rfl,aa⟩;rw[aa];clear aa))
 go_returns;exact⟨_,rfl,Aa HI,(Below.refl _ _).alloc (afI _) _⟩
theorem ab6(a b:Int)(ha:In64 a):∃v,Fits ⟨#[99]⟩ v/\∀w,Calls Tryz.prog 51 #[.int .i64 1,.int .i64 1,.int .i64 a,.int .i64 b] w (Cz v w):=by
 obtain⟨n,hn,P⟩:=A4 a 6 ha (by omega) (by omega);refine⟨[((n:Int),e0)],ach (by omega),fun w=>?_⟩;have HP:=Ac P;have HI:=Ac (MU w ((n:Int),e0));clear P;unfold Cz;go_enter Tryz.func51,Tryz.ntmps51;go_wp2_with (first|(go_at_call 27;refine((Aa HP) _).mono ?_;rintro e w1 ⟨rfl,aa⟩;rw[aa];clear aa))
 go_returns;exact⟨_,rfl,Aa HI,(Below.refl _ _).alloc (afI _) _⟩
theorem ab5(a b:Int)(ha:In64 a):∃v,Fits ⟨#[115]⟩ v/\∀w,Calls Tryz.prog 51 #[.int .i64 1,.int .i64 0,.int .i64 a,.int .i64 b] w (Cz v w):=by
 obtain⟨n,hn,P⟩:=A4 a 15 ha (by omega) (by omega);refine⟨[(0,U0.extract 0 n)],acj (by rw[TH n hn];omega),fun w=>?_⟩;have HP:=Ac P;have HI:=Ac (MU w (0,U0.extract 0 n));clear P;unfold Cz;go_enter Tryz.func51,Tryz.ntmps51;go_wp2_with (first|(go_at_call 27;refine((Aa HP) _).mono ?_;rintro e w1 ⟨rfl,aa⟩;rw[aa];clear aa))
 go_returns;exact⟨_,rfl,Aa HI,(Below.refl _ _).alloc (afI _) _⟩
def Oi(m i:Nat):List Int:=(List.range i).map fun (j:Nat)=>(m:Int)+(j:Int)-30000
def Hl(a n m i:Nat):List V.It:=((a:Int),e0) :: ((n:Int),e0) :: (Oi m i).map fun x=>(x,e0)
theorem VI(a n m i:Nat):(Hl a n m i).length=i+2:=by simp[Hl,Oi]
theorem Tc(a n m i:Nat):Hl a n m (i+1)=Hl a n m i++[((m:Int)+(i:Int)-30000,e0)]:=by
 simp[Hl,Oi,List.range_succ]
theorem ab7(a b:Int)(ha:In64 a)(hb:In64 b):∃v,Fits Cy v/\∀w,Calls Tryz.prog 51 #[.int .i64 2,.int .i64 0,.int .i64 a,.int .i64 b] w (Cz v w):=by
 obtain⟨n,hn,P⟩:=A4 b 4 hb (by omega) (by omega);obtain⟨x,hx,Q⟩:=A4 a 3 ha (by omega) (by omega);obtain⟨m,hm,R⟩:=A4 a 60000 ha (by omega) (by omega);have hF:Fits Cy (Hl x n m n):=by
  have hl:(Oi m n).length=n:=by simp[Oi]
  have:=VU (a:=(x:Int)) (L:=Oi m n) (by omega) (by omega) (fun y hy=>by
   obtain⟨j,hj,rfl⟩:=agE.1 hy;have:=List.mem_range.1 hj;omega)
  rw[hl]at this;exact this
 refine⟨_,hF,fun w=>?_⟩;have HP:=Ac P;have HQ:=Ac Q;have HR:=Ac R;obtain⟨i0,hi,ao,ap,aq⟩:=info_parts Tw;have HS:Hid ((w.alloc (.cells #[.int .i64 (x:Int),.string ⟨#[]⟩,.int .i64 (n:Int),.string ⟨#[]⟩] 73)).ownsRow w.heap.size 73 2 (.slice (some ⟨w.heap.size,0,none⟩) 2 2) (0+2) (tab Dp (Hl x n m 0))):=
  World.ownsRow_lit (base:=w.heap.size) (e:=73) (size:=2) w #[.int .i64 (x:Int),.string ⟨#[]⟩,.int .i64 (n:Int),.string ⟨#[]⟩] 2 (afI _) (by unfold maxLen;omega) rfl
 have HB:Hid (Below w.heap.size w (w.alloc (.cells #[.int .i64 (x:Int),.string ⟨#[]⟩,.int .i64 (n:Int),.string ⟨#[]⟩] 73))):=(Below.refl _ _).alloc (afI _) _;clear P Q R hF;unfold Cz;go_enter Tryz.func51,Tryz.ntmps51;go_wp2_with (first|(go_at_call 27;refine((Aa HP) _).mono ?_;clear HP;rintro e w1 ⟨rfl,ac⟩;rw[ac];clear ac)|(go_at_call 27;refine((Aa HQ) _).mono ?_;clear HQ;rintro e w1 ⟨rfl,ac⟩;rw[ac];clear ac))
 go_loopw [10,11] (fun lv iv wr=>∃i:Nat,i<=n/\iv=.int .i64 i/\wr.ownsRow w.heap.size 73 2 lv (i+2) (tab Dp (Hl x n m i))/\Below w.heap.size w wr) (fun _ iv _=>n-(intOf iv).toNat)
 case atStart=>exact⟨0,af8 _,rfl,Aa HS,Aa HB⟩
 case round=>
  obtain⟨i,ar,rfl,aa,ad⟩:=hrel;by_cases au:i<n
  ·have an:=ad.size;have ae:=fun q=>World.ownsRow.lt aa q
   obtain⟨la,lc,ah⟩:=AX aa;subst ah;have al:=Ac aa;have ag:=Ac ad;have aj:=Ac ae;have g1:IntKind.i64.wrap ((m:Int)+(i:Int))=(m:Int)+(i:Int):=by rw[IntKind.wrap_i64];omega
   have g2:IntKind.i64.wrap ((m:Int)+(i:Int)-30000)=(m:Int)+(i:Int)-30000:=by rw[IntKind.wrap_i64];omega
   clear aa ad ae;go_wp2_with (first
    |(go_at_call 27;refine((Aa HR) _).mono ?_;rintro e w1 ⟨rfl,ac⟩;rw[ac];clear ac)
    |(at_builtin;go_must (refine wpList_append_own_at _ rfl (.tmp 63) (.tmp 70) 37 rfl w.heap.size 73 i0 (.agg #[.int .i64 0,.string ⟨#[]⟩]) 2 24 Tryz.underlying37 hi ao ap aq rfl (by decide) (.slice la (i+2) lc) (i+2) (tab Dp (Hl x n m i)) rfl (by exact(Aa al).alloc _) ⟨_,0,none⟩ 1 1 [.int .i64 ((m:Int)+(i:Int)-30000),.string ⟨#[]⟩] rfl rfl (by exact Y6 _ _) (by simp[Value.oneCell']) (by unfold maxLen;omega) (by omega) (by simp;omega) ?_;intro v' wz af ab _ am)))
   have ak:Hid (wz.ownsRow w.heap.size 73 2 v' (i+1+2) (tab Dp (Hl x n m (i+1)))):=by
    rw[Tc,EV];exact af
   have ai:=Ac (((Aa ag).alloc an _).grown ab (by simp;omega) (fun q hq=>((Aa aj) q hq).1));clear af ab am;go_wp2;go_roundw
   case rel=>exact⟨i+1,by omega,by go_num,Aa ak,Aa ai⟩
   case measure=>simp[intOf];omega
  ·obtain rfl:i=n:=by omega
   obtain⟨la,lc,ah⟩:=AX aa;have HI:Hid (BF wr (fun k=>w.heap.size<=k) u10 (Hl x i m i)):=TA (by rw[VI];exact aa) (by simp[Hl]);have ag:=Ac ad;clear aa ad ah;go_wp2;go_returns;exact⟨_,rfl,Aa HI,Aa ag⟩
section
variable {P:Program} {ops:Array Oper} {Q:Exit->Act->World->Prop} {md:Region.Mode} {S T U:World->Prop} {k:Nat}
def Ez(P:Program)(md:Region.Mode)(ops:Array Oper)(Q:Exit->Act->World->Prop)(S T:World->Prop)(k:Nat):Nat->Array Bool->Act->World->Prop
 |0,listed,a,w=>Region.ready md ops listed=[]/\Q .normal a w
 |fuel+1,listed,a,w=>
  (Region.ready md ops listed=[]->Q .normal a w) /\
  ∀i∈Region.ready md ops listed,wpOp P ops Q i (fun a' w'=>(S w'/\((listed.setIfInBounds i true).getD k true=false->T w'))/\Ez P md ops Q S T k fuel (listed.setIfInBounds i true) a' w') a w
theorem NH:∀(fuel:Nat) (listed:Array Bool) (a:Act) (w:World),Ez P md ops Q S T k fuel listed a w->wpAny P md ops Q fuel listed a w
 |0,_,_,_,h=>h
 |fuel+1,_,_,_,h=>⟨h.1,fun i hi=>wpOp_mono (fun a' w' h'=>NH fuel _ a' w' h'.2) (h.2 i hi)⟩
def Down(md:Region.Mode)(ops:Array Oper)(listed:Array Bool):Prop:=
 ∀j oj,ops[j]?=some oj->listed.getD j true=true->∀e∈oj.after,Region.binds md e=true->listed.getD e.on false=true
theorem Down.set{j:Nat}(h:Down md ops listed)(hj:j∈Region.ready md ops listed):Down md ops (listed.setIfInBounds j true):=by
 intro i oi ac hl e he hb;by_cases ab:j=i
 ·subst ab;obtain⟨_,oj,ad,aa⟩:=mem_ready.1 hj;rw[ac]at ad;cases ad;exact getD_set_true (aa e he hb)
 ·rw[getD_set_ne true ab]at hl;exact getD_set_true (h i oi ac hl e he hb)
inductive I8 (md:Region.Mode) (ops:Array Oper):Nat->Nat->Prop
 |one {k i:Nat} {ok:Oper} {e:Edge} (hk:ops[k]?=some ok) (he:e∈ok.after) (hb:Region.binds md e=true) (hi:e.on=i):I8 md ops k i
 |more {k j i:Nat} (h:I8 md ops k j) (h':I8 md ops j i):I8 md ops k i
def straight(md:Region.Mode)(ops:Array Oper)(k i:Nat):Bool:=
 match ops[k]? with
 |some ok=>ok.after.any fun e=>Region.binds md e&&e.on==i
 |none=>false
theorem I8.of(h:straight md ops k i=true):I8 md ops k i:=by
 unfold straight at h;split at h
 ·rename_i ok aa;simp only[Array.any_eq_true',Bool.and_eq_true,beq_iff_eq]at h;obtain⟨e,he,hb,hi⟩:=h;exact .one aa he hb hi
 ·cases h
theorem aaR(h:listed.getD i false=true):listed.getD i true=true:=by
 rcases agy i listed.size with h'|h'
 ·simp[h']at h ⊢;exact h
 ·simp[Array.getElem?_eq_none h']at h
theorem I8.Z4(h:I8 md ops k i)(hd:Down md ops listed)(hi:listed.getD i true=false):listed.getD k true=false:=by
 induction h with
 |one hk he hb hi'=>
  rename_i kk ii ok e;cases hc:listed.getD kk true with
  |false=>rfl
  |true=>
   have:=aaR (hd _ _ hk hc _ he hb);rw[hi',hi]at this;cases this
 |more _ _ ih1 ih2=>exact ih1 (ih2 hi)
theorem Kk{oi:Oper}(hi:ops[i]?=some oi)(ae:∀(j:Nat) (o:Oper) cs b,ops[j]?=some o->o.op≠.select cs b)
  (hQ:∀c a w,Q (.panic c) (a.put oi.dst v) w->Q (.panic c) a w) (ag:i≠k)
  (hU:∀(listed:Array Bool) w,Down md ops listed->listed.getD i true=false->S w->(listed.getD k true=false->T w)->U w):
  ∀(fuel:Nat) (listed:Array Bool) (a:Act) (w:World),Down md ops listed ->
   (∀j oj,ops[j]?=some oj->j≠i->listed.getD j true=false->(∀e∈oj.after,Region.binds md e=true->e.on≠i)->oi.apart ops oj=true) ->
   i∈Region.ready md ops listed->YieldsIf P ops U oi v a->S w->(listed.getD k true=false->T w) ->
   Ez P md ops Q S T k fuel (listed.setIfInBounds i true) (a.put oi.dst v) w->Ez P md ops Q S T k (fuel+1) listed a w:=by
 intro fuel;induction fuel with
 |zero=>
  intro listed a w hd _ hr hy hS hT H;refine⟨fun h=>(by rw[h]at hr;cases hr),fun j hj=>?_⟩;by_cases aa:j=i
  ·subst aa;exact hy.wpOp hi (hU _ _ hd (mem_ready.1 hr).1 hS hT) ⟨⟨hS,by rw[getD_set_ne true ag];exact hT⟩,H⟩
  ·have:=ready_mono hj aa;rw[H.1]at this;cases this
 |succ fuel ih=>
  intro listed a w hd ab hr hy hS hT H;refine⟨fun h=>(by rw[h]at hr;cases hr),fun j hj=>?_⟩;by_cases aa:j=i
  ·subst aa;exact hy.wpOp hi (hU _ _ hd (mem_ready.1 hr).1 hS hT) ⟨⟨hS,by rw[getD_set_ne true ag];exact hT⟩,H⟩
  ·have h1:=H.2 j (ready_mono hj aa);obtain⟨ad,oj,ai,af⟩:=mem_ready.1 hj;have ah:∀e∈oj.after,Region.binds md e=true->e.on≠i:=fun e he hb am=>by
    have h1:=af e he hb;have h0:=(mem_ready.1 hr).1;rw[am]at h1;rcases agy i listed.size with h'|h'
    ·simp[h']at h0 h1;rw[h0]at h1;cases h1
    ·simp[Array.getElem?_eq_none h']at h1
   have h2:=wpOp_putIf ai (ab j oj ai aa ad ah) (fun cs b=>ae i oi cs b hi) (fun cs b=>ae j oj cs b ai) hQ hy h1;have ac:∀k ok,ops[k]?=some ok->k≠i->(listed.setIfInBounds j true).getD k true=false ->
     (∀e∈ok.after,Region.binds md e=true->e.on≠i)->oi.apart ops ok=true:=fun k ok hk an al ao=>by
    refine ab k ok hk an ?_ ao;by_cases ak:j=k
    ·subst ak;exact ad
    ·rw[getD_set_ne true ak]at al;exact al
   refine wpOp_mono (fun a' w' h3=>?_) h2;have aj:(listed.setIfInBounds j true).getD k true=false->T w':=fun h=>h3.2.1.2 (by
    rw[Array.setIfInBounds_comm _ _ (Ne.symm aa),getD_set_ne true ag];exact h)
   refine⟨⟨h3.2.1.1,aj⟩,ih (listed.setIfInBounds j true) a' w' (hd.set hj) ac (ready_mono hr (Ne.symm aa)) h3.1 h3.2.1.1 aj ?_⟩;rw[Array.setIfInBounds_comm _ _ aa];exact h3.2.2
structure I7(md:Region.Mode)(ops:Array Oper)(S T:World->Prop)(k:Nat)(listed:Array Bool)(w:World):Prop where
 down:Down md ops listed
 s:S w
 t:listed.getD k true=false->T w
theorem I7.set(h:I7 md ops S T k listed w)(hr:(Region.ready md ops listed).contains i=true)(aa:(i==k)=false):I7 md ops S T k (listed.setIfInBounds i true) w:=
 ⟨h.down.set (by simpa using hr),h.s,by rw[getD_set_ne true (by simpa using aa)];exact h.t⟩
theorem R5{oi:Oper}(hi:ops[i]?=some oi)
  (hs:Region.noSelect ops=true) (hf:Region.free md ops listed i=true) (hr:(Region.ready md ops listed).contains i=true) (aa:(i==k)=false)
  (hQ:∀c a w,Q (.panic c) (a.put oi.dst v) w->Q (.panic c) a w) (hy:YieldsIf P ops S oi v a) (hH:I7 md ops S T k listed w)
  (h:I7 md ops S T k (listed.setIfInBounds i true) w->Ez P md ops Q S T k fuel (listed.setIfInBounds i true) (a.put oi.dst v) w):Ez P md ops Q S T k (fuel+1) listed a w:=
 Kk (U:=S) hi (Region.noSelect_spec hs) hQ (by simpa using aa) (fun _ _ _ _ h _=>h) fuel listed a w hH.down (Region.free_spec hi hf) (by simpa using hr) hy hH.s hH.t (h (hH.set hr aa))
theorem P9{oi:Oper}(hi:ops[i]?=some oi)
  (hs:Region.noSelect ops=true) (hf:Region.free md ops listed i=true) (hr:(Region.ready md ops listed).contains i=true) (aa:(i==k)=false) (hw:I8 md ops k i)
  (hQ:∀c a w,Q (.panic c) (a.put oi.dst v) w->Q (.panic c) a w) (hy:YieldsIf P ops (fun w=>S w/\T w) oi v a) (hH:I7 md ops S T k listed w)
  (h:I7 md ops S T k (listed.setIfInBounds i true) w->Ez P md ops Q S T k fuel (listed.setIfInBounds i true) (a.put oi.dst v) w):Ez P md ops Q S T k (fuel+1) listed a w:=
 Kk (U:=fun w=>S w/\T w) hi (Region.noSelect_spec hs) hQ (by simpa using aa) (fun _ _ hd ab h ht=>⟨h,ht (hw.Z4 hd ab)⟩) fuel listed a w hH.down (Region.free_spec hi hf) (by simpa using hr) hy hH.s hH.t (h (hH.set hr aa))
def Dj(P:Program)(md:Region.Mode)(ops:Array Oper)(Q:Exit->Act->World->Prop)(S T:World->Prop)(k:Nat)(fuel:Nat)(listed:Array Bool)(a:Act)(w:World)(rs:List Nat):Prop:=
 ∀i∈rs,wpOp P ops Q i (fun a' w'=>(S w'/\((listed.setIfInBounds i true).getD k true=false->T w'))/\Ez P md ops Q S T k fuel (listed.setIfInBounds i true) a' w') a w
theorem Dj.nil:Dj P md ops Q S T k fuel listed a w []:=fun _ h=>by cases h
theorem Dj.cons{o:Oper}(ho:ops[i]?=some o)
  (hd:Down md ops listed) (hr:(Region.ready md ops listed).contains i=true)
  (h:∀K':Act->World->Prop,Shut (∀a w,S w->((listed.setIfInBounds i true).getD k true=false->T w)->(I7 md ops S T k (listed.setIfInBounds i true) w->Ez P md ops Q S T k fuel (listed.setIfInBounds i true) a w)->K' a w)->if Region.wanted o (yielded ops a.tmps)=true then Oper.wp P o a w K' Q else K' (a.put o.dst undef) w)
  (hs:Dj P md ops Q S T k fuel listed a w rs):Dj P md ops Q S T k fuel listed a w (i :: rs):=fun j hj=>by
 rcases agR.1 hj with rfl|hj
 ·exact wpOp_step ho (fun K' hK=>h K' (fun a w hS hT hW=>hK a w ⟨⟨hS,hT⟩,hW ⟨hd.set (by simpa using hr),hS,hT⟩⟩))
 ·exact hs j hj
theorem Kl(hr:Region.ready md ops listed=rs)(aa:rs≠[])
  (h:Dj P md ops Q S T k fuel listed a w rs):Ez P md ops Q S T k (fuel+1) listed a w:=
 ⟨fun h0=>absurd (hr ▸ h0) aa,hr ▸ h⟩
theorem R4(hr:Region.ready md ops listed=[])(h:Q .normal a w):
  ∀fuel,Ez P md ops Q S T k fuel listed a w
 |0=>⟨hr,h⟩
 |_+1=>⟨fun _=>h,by rw[hr];simp⟩
theorem R6(hm:P.follows .mixedOrders=true)(hS:S w.drew)(hT:T w.drew)
  (h:I7 .any ops S T k (Array.replicate ops.size false) w.drew->Ez P .any ops Q S T k ops.size (Array.replicate ops.size false) a w.drew):(Code.region id ops true).wp P Q a w:=
 wp_region_any hm (NH _ _ _ _ (h ⟨fun j oj ab hl=>by
  have aa:=(afR.1 ab).1;simp[aa]at hl,hS,fun _=>hT⟩))
def WK(P:Program)(md:Region.Mode)(ops:Array Oper)(Q:Exit->Act->World->Prop)(S T:World->Prop)(k:Nat)(fuel:Nat)(listed:Array Bool)(a:Act)(w:World):Prop:=
 I7 md ops S T k listed w->Ez P md ops Q S T k fuel listed a w
theorem WK.take{oi:Oper}(hi:ops[i]?=some oi)
  (hs:Region.noSelect ops=true) (hf:Region.free md ops listed i=true) (hr:(Region.ready md ops listed).contains i=true) (aa:(i==k)=false)
  (hQ:∀c a w,Q (.panic c) (a.put oi.dst v) w->Q (.panic c) a w) (hy:YieldsIf P ops S oi v a)
  (h:WK P md ops Q S T k fuel (listed.setIfInBounds i true) (a.put oi.dst v) w):WK P md ops Q S T k (fuel+1) listed a w:=
 fun hH=>R5 hi hs hf hr aa hQ hy hH h
theorem WK.take2{oi:Oper}(hi:ops[i]?=some oi)
  (hs:Region.noSelect ops=true) (hf:Region.free md ops listed i=true) (hr:(Region.ready md ops listed).contains i=true) (aa:(i==k)=false) (hw:I8 md ops k i)
  (hQ:∀c a w,Q (.panic c) (a.put oi.dst v) w->Q (.panic c) a w) (hy:YieldsIf P ops (fun w=>S w/\T w) oi v a)
  (h:WK P md ops Q S T k fuel (listed.setIfInBounds i true) (a.put oi.dst v) w):WK P md ops Q S T k (fuel+1) listed a w:=
 fun hH=>P9 hi hs hf hr aa hw hQ hy hH h
theorem WK.one{o:Oper}(hr:Region.ready md ops listed=[i])(ho:ops[i]?=some o)
  (h:∀K':Act->World->Prop,Shut (∀a w,S w->T w->WK P md ops Q S T k fuel (listed.setIfInBounds i true) a w->K' a w)->if Region.wanted o (yielded ops a.tmps)=true then Oper.wp P o a w K' Q else K' (a.put o.dst undef) w):WK P md ops Q S T k (fuel+1) listed a w:=
 fun hH=>Kl hr (by simp) (Dj.cons ho hH.down (by rw[hr];simp) (fun K' hK=>h K' fun a w hS hT hW=>hK a w hS (fun _=>hT) hW) Dj.nil)
theorem WK.store{o:Oper}(hr:Region.ready md ops listed=[k])(ho:ops[k]?=some o)
  (h:∀K':Act->World->Prop,Shut (∀a w,S w->WK P md ops Q S T k fuel (listed.setIfInBounds k true) a w->K' a w)->if Region.wanted o (yielded ops a.tmps)=true then Oper.wp P o a w K' Q else K' (a.put o.dst undef) w):WK P md ops Q S T k (fuel+1) listed a w:=
 fun hH=>Kl hr (by simp) (Dj.cons ho hH.down (by rw[hr];simp) (fun K' hK=>h K' fun a w hS hW=>hK a w hS (fun hc=>by
  exfalso;rcases agy k listed.size with h'|h'
  ·simp[h']at hc
  ·simp[Nat.not_lt.2 h']at hc) hW) Dj.nil)
theorem WK.done(hr:Region.ready md ops listed=[])(h:Q .normal a w):WK P md ops Q S T k fuel listed a w:=
 fun _=>R4 hr h fuel
theorem WK.begin(hm:P.follows .mixedOrders=true)(hS:S w.drew)(hT:T w.drew)
  (h:WK P .any ops Q S T k ops.size (Array.replicate ops.size false) a w.drew):(Code.region id ops true).wp P Q a w:=
 R6 hm hS hT h
end
end Go.Proofs.YtblomippkddgiabGreatDoor
