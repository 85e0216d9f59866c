import Derived.Test.YtblomippkddgiaaGreatDoorJ06
set_option maxRecDepth 100000
set_option maxHeartbeats 1000000
namespace Go.Proofs.YtblomippkddgiaaGreatDoor.V
open Go.RowKit
abbrev aaz(c:Int)(x1:Int)(a:Option Addr)(n k:Nat):Obj:=.cells #[.int .u8 c,.int .i64 x1,.slice a n k] 153
def Or2(er:Nat)(A B:World→Prop)(e:Ending)(w:World):Prop:=(e=aaf er 0∧A w)∨(e=.returned (.tuple #[])∧B w)
def OrN(er:Nat)(A:World→Prop)(B:Int→World→Prop)(e:Ending)(w:World):Prop:=(e=aaf er 0∧A w)∨∃i,e=.returned (.int .i64 i)∧B i w
def aph (tid fn : Nat) (ptr : Addr) : Prop := (∀ w, (method 460 tid (.pointer (some ptr)) "errand/value.number").run Tryz.prog w = .ok (fn, .pointer (some ptr)) w) ∧ ∀ args w, (callFunc fn args).run Tryz.prog w = .ok (.enter fn args) w
def arb (tid fn : Nat) (ptr : Addr) : Prop := (∀ w, (method 460 tid (.pointer (some ptr)) "errand/value.text").run Tryz.prog w = .ok (fn, .pointer (some ptr)) w) ∧ ∀ args w, (callFunc fn args).run Tryz.prog w = .ok (.enter fn args) w
theorem apy(tid fn er:Nat)(ptr:Addr)(hm:aph tid fn ptr)(w:World)(x1:Int)(a0:Option Addr)(n0 k0:Nat)(A:World→Prop)(B:Int→World→Prop)
  (HN:Calls Tryz.prog fn #[.pointer (some ptr),.int .i64 0,.int .i64 1] (w.alloc (aaz 98 x1 a0 n0 k0)) (OrN er A B)) :
  Calls Tryz.prog 125 #[.agg #[.int .u8 98,.int .i64 x1,.slice a0 n0 k0],.iface tid (.pointer (some ptr))] w (Or2 er A fun w'=>∃i,B i w'):=by
 obtain⟨hm1,hm2⟩:=hm
 have HNN:=aab HN
 clear HN
 go_enter Tryz.func125,Tryz.ntmps125
 go_wp2_with fail
 refine(unhide HNN).mono ?_
 rintro e w1 (⟨rfl,hA⟩|⟨i,rfl,hB⟩)
 ·go_wp2
  exact⟨rfl,Or.inl ⟨rfl,hA⟩⟩
 ·go_wp2
  go_end0
  exact Or.inr ⟨rfl,i,hB⟩
theorem apx(tid fn er:Nat)(ptr:Addr)(hm:aph tid fn ptr)(w:World)(x1:Int)(a0:Option Addr)(n0 k0:Nat)(A:World→Prop)(B:Int→World→Prop)
  (HN:Calls Tryz.prog fn #[.pointer (some ptr),.int .i64 0,.int .i64 65535] (w.alloc (aaz 99 x1 a0 n0 k0)) (OrN er A B)) :
  Calls Tryz.prog 125 #[.agg #[.int .u8 99,.int .i64 x1,.slice a0 n0 k0],.iface tid (.pointer (some ptr))] w (Or2 er A fun w'=>∃i,B i w'):=by
 obtain⟨hm1,hm2⟩:=hm
 have HNN:=aab HN
 clear HN
 go_enter Tryz.func125,Tryz.ntmps125
 go_wp2_with fail
 refine(unhide HNN).mono ?_
 rintro e w1 (⟨rfl,hA⟩|⟨i,rfl,hB⟩)
 ·go_wp2
  exact⟨rfl,Or.inl ⟨rfl,hA⟩⟩
 ·go_wp2
  go_end0
  exact Or.inr ⟨rfl,i,hB⟩
theorem apv(tid fn er:Nat)(ptr:Addr)(hm:aph tid fn ptr)(w:World)(x1:Int)(a0:Option Addr)(n0 k0:Nat)(A:World→Prop)(B:Int→World→Prop)
  (HN:Calls Tryz.prog fn #[.pointer (some ptr),.int .i64 (-32768),.int .i64 32767] (w.alloc (aaz 105 x1 a0 n0 k0)) (OrN er A B)) :
  Calls Tryz.prog 125 #[.agg #[.int .u8 105,.int .i64 x1,.slice a0 n0 k0],.iface tid (.pointer (some ptr))] w (Or2 er A fun w'=>∃i,B i w'):=by
 obtain⟨hm1,hm2⟩:=hm
 have HNN:=aab HN
 clear HN
 go_enter Tryz.func125,Tryz.ntmps125
 go_wp2_with fail
 refine(unhide HNN).mono ?_
 rintro e w1 (⟨rfl,hA⟩|⟨i,rfl,hB⟩)
 ·go_wp2
  exact⟨rfl,Or.inl ⟨rfl,hA⟩⟩
 ·go_wp2
  go_end0
  exact Or.inr ⟨rfl,i,hB⟩
theorem apw(tid fn er:Nat)(ptr:Addr)(hm:aph tid fn ptr)(w:World)(x1:Int)(a0:Option Addr)(n0 k0:Nat)(A:World→Prop)(B:Int→World→Prop)(hx:0≤x1∧x1≤9)
  (HN:Calls Tryz.prog fn #[.pointer (some ptr),.int .i64 0,.int .i64 (x1-1)] (w.alloc (aaz 101 x1 a0 n0 k0)) (OrN er A B)) :
  Calls Tryz.prog 125 #[.agg #[.int .u8 101,.int .i64 x1,.slice a0 n0 k0],.iface tid (.pointer (some ptr))] w (Or2 er A fun w'=>∃i,B i w'):=by
 obtain⟨hm1,hm2⟩:=hm
 have HNN:=aab HN
 clear HN
 go_enter Tryz.func125,Tryz.ntmps125
 go_wp2_with fail
 refine(unhide HNN).mono ?_
 rintro e w1 (⟨rfl,hA⟩|⟨i,rfl,hB⟩)
 ·go_wp2
  exact⟨rfl,Or.inl ⟨rfl,hA⟩⟩
 ·go_wp2
  go_end0
  exact Or.inr ⟨rfl,i,hB⟩
theorem aps(tid fn er:Nat)(ptr:Addr)(hm:arb tid fn ptr)(w:World)(x1:Int)(a0:Option Addr)(n0 k0:Nat)(A B:World→Prop)
  (HN:Calls Tryz.prog fn #[.pointer (some ptr)] (w.alloc (aaz 115 x1 a0 n0 k0)) (Or2 er A B)) :
  Calls Tryz.prog 125 #[.agg #[.int .u8 115,.int .i64 x1,.slice a0 n0 k0],.iface tid (.pointer (some ptr))] w (Or2 er A B):=by
 obtain⟨hm1,hm2⟩:=hm
 have HNN:=aab HN
 clear HN
 go_enter Tryz.func125,Tryz.ntmps125
 go_wp2_with fail
 refine(unhide HNN).mono ?_
 rintro e w1 (⟨rfl,hA⟩|⟨rfl,hB⟩)
 ·go_wp2
  exact⟨rfl,Or.inl ⟨rfl,hA⟩⟩
 ·go_wp2
  go_end0
  exact Or.inr ⟨rfl,hB⟩
theorem apz(tid er:Nat)(ptr:Addr)(w:World)(x1:Int)(g n0 k0:Nat)(y0 y1:Int)(ya:Option Addr)(yn yk:Nat)(A B:World→Prop)(hn:0<n0)
  (f0:∀o,(w.alloc o).cell? ⟨g,0,none⟩=some (.int .u8 y0)) (f1:∀o,(w.alloc o).cell? ⟨g,1,none⟩=some (.int .i64 y1)) (f2:∀o,(w.alloc o).cell? ⟨g,2,none⟩=some (.slice ya yn yk))
  (HT:Calls Tryz.prog 193 #[.int .i64 x1,.agg #[.int .u8 y0,.int .i64 y1,.slice ya yn yk],.iface tid (.pointer (some ptr))] (w.alloc (aaz 97 x1 (some ⟨g,0,none⟩) n0 k0)).drew (Or2 er A B)) :
  Calls Tryz.prog 125 #[.agg #[.int .u8 97,.int .i64 x1,.slice (some ⟨g,0,none⟩) n0 k0],.iface tid (.pointer (some ptr))] w (Or2 er A B):=by
 have HTT:=aab HT
 clear HT
 go_enter Tryz.func125,Tryz.ntmps125
 go_wp2_with fail
 go_region_with (go_at_call 193;refine(unhide HTT).mono ?_;rintro e w1 (⟨rfl,hA⟩|⟨rfl,hB⟩);focus (go_wp2;exact⟨rfl,Or.inl ⟨rfl,hA⟩⟩))
 all_goals
  go_wp2
  go_end0
  exact Or.inr ⟨rfl,hB⟩
theorem apu(tid fn er:Nat)(ptr:Addr)(hm:aph tid fn ptr)(w:World)(x1:Int)(g n0 k0:Nat)(y0 y1:Int)(ya:Option Addr)(yn yk:Nat)(A B:World→Prop)(N:Int→World→Prop)(hn:0<n0)
  (HN:Calls Tryz.prog fn #[.pointer (some ptr),.int .i64 0,.int .i64 x1] (w.alloc (aaz 113 x1 (some ⟨g,0,none⟩) n0 k0)) (OrN er A N))
  (hN:∀i w',N i w'→w'.cell? ⟨w.heap.size,2,none⟩=some (.slice (some ⟨g,0,none⟩) n0 k0)∧w'.cell? ⟨g,0,none⟩=some (.int .u8 y0)∧w'.cell? ⟨g,1,none⟩=some (.int .i64 y1)∧w'.cell? ⟨g,2,none⟩=some (.slice ya yn yk) ∧
   Calls Tryz.prog 193 #[.int .i64 i,.agg #[.int .u8 y0,.int .i64 y1,.slice ya yn yk],.iface tid (.pointer (some ptr))] w' (Or2 er A B)) :
  Calls Tryz.prog 125 #[.agg #[.int .u8 113,.int .i64 x1,.slice (some ⟨g,0,none⟩) n0 k0],.iface tid (.pointer (some ptr))] w (Or2 er A B):=by
 obtain⟨hm1,hm2⟩:=hm
 have HNN:=aab HN
 have HNT:=aab hN
 clear HN hN
 go_enter Tryz.func125,Tryz.ntmps125
 go_wp2_with fail
 refine(unhide HNN).mono ?_
 rintro e w1 (⟨rfl,hA⟩|⟨i,rfl,hB⟩)
 ·go_wp2
  exact⟨rfl,Or.inl ⟨rfl,hA⟩⟩
 ·obtain⟨b2,f0,f1,f2,hT⟩:=(unhide HNT) i w1 hB
  have HTT:=aab hT
  clear hT hB
  go_wp2_with fail
  refine(unhide HTT).mono ?_
  rintro e w2 (⟨rfl,hA⟩|⟨rfl,hB⟩)
  ·go_wp2
   exact⟨rfl,Or.inl ⟨rfl,hA⟩⟩
  ·go_wp2
   go_end0
   exact Or.inr ⟨rfl,hB⟩
theorem apr(tid fn er:Nat)(ptr:Addr)(hm:aph tid fn ptr)(w:World)(x1:Int)(g n0 k0:Nat)(A B:World→Prop)(N:Nat→World→Prop)(hn:n0≤6)
  (HN:Calls Tryz.prog fn #[.pointer (some ptr),.int .i64 0,.int .i64 ((n0:Int)-1)] (w.alloc (aaz 117 x1 (some ⟨g,0,none⟩) n0 k0)) (OrN er A fun i w'=>∃j:Nat,i=j∧j<n0∧N j w'))
  (hN:∀j w',N j w'→∃y0 y1 ya yn yk,w'.cell? ⟨w.heap.size,2,none⟩=some (.slice (some ⟨g,0,none⟩) n0 k0)∧w'.cell? ⟨g,j*3,none⟩=some (.int .u8 y0)∧w'.cell? ⟨g,j*3+1,none⟩=some (.int .i64 y1)∧w'.cell? ⟨g,j*3+2,none⟩=some (.slice ya yn yk) ∧
   Calls Tryz.prog 125 #[.agg #[.int .u8 y0,.int .i64 y1,.slice ya yn yk],.iface tid (.pointer (some ptr))] w' (Or2 er A B)) :
  Calls Tryz.prog 125 #[.agg #[.int .u8 117,.int .i64 x1,.slice (some ⟨g,0,none⟩) n0 k0],.iface tid (.pointer (some ptr))] w (Or2 er A B):=by
 obtain⟨hm1,hm2⟩:=hm
 have HNN:=aab HN
 have HNT:=aab hN
 clear HN hN
 go_enter Tryz.func125,Tryz.ntmps125
 go_wp2_with fail
 refine(unhide HNN).mono ?_
 rintro e w1 (⟨rfl,hA⟩|⟨i,rfl,j,rfl,hj,hB⟩)
 ·go_wp2
  exact⟨rfl,Or.inl ⟨rfl,hA⟩⟩
 ·obtain⟨y0,y1,ya,yn,yk,b2,f0,f1,f2,hT⟩:=(unhide HNT) j w1 hB
  have HTT:=aab hT
  clear hT hB
  go_wp2_with fail
  refine(unhide HTT).mono ?_
  rintro e w2 (⟨rfl,hA⟩|⟨rfl,hB⟩)
  ·go_wp2
   exact⟨rfl,Or.inl ⟨rfl,hA⟩⟩
  ·go_wp2
   go_end0
   exact Or.inr ⟨rfl,hB⟩
theorem apt(tid er:Nat)(ptr:Addr)(w:World)(x1:Int)(va:Option Addr)(n0 k0:Nat)(A:World→Prop)(I:Nat→World→Prop)(hn:n0≤6)(h0:I 0 (w.alloc (aaz 114 x1 va n0 k0)))
  (hI:∀j w',j<n0→I j w'→∃g y0 y1 ya yn yk,va=some ⟨g,0,none⟩∧w'.cell? ⟨g,j*3,none⟩=some (.int .u8 y0)∧w'.cell? ⟨g,j*3+1,none⟩=some (.int .i64 y1)∧w'.cell? ⟨g,j*3+2,none⟩=some (.slice ya yn yk) ∧
   Calls Tryz.prog 125 #[.agg #[.int .u8 y0,.int .i64 y1,.slice ya yn yk],.iface tid (.pointer (some ptr))] (w'.alloc (.cells #[.int .u8 y0,.int .i64 y1,.slice ya yn yk] 153)) (Or2 er A (I (j+1)))) :
  Calls Tryz.prog 125 #[.agg #[.int .u8 114,.int .i64 x1,.slice va n0 k0],.iface tid (.pointer (some ptr))] w (Or2 er A (I n0)):=by
 have H0:=aab h0
 have HII:=aab hI
 clear h0 hI
 go_enter Tryz.func125,Tryz.ntmps125
 go_wp2
 go_loopw [61] (fun i wr=>∃k:Nat,k≤n0∧i=.int .i64 k∧I k wr) (fun i _=>n0-(intOf i).toNat)
 case atStart=>exact⟨0,Nat.zero_le _,rfl,unhide H0⟩
 case round=>
  obtain⟨k,hk,rfl,hIk⟩:=hrel
  by_cases hlt:k<n0
  ·obtain⟨g,y0,y1,ya,yn,yk,rfl,f0,f1,f2,hT⟩:=(unhide HII) k wr hlt hIk
   have HTT:=aab hT
   clear hT hIk
   go_wp2_with fail
   refine(unhide HTT).mono ?_
   rintro e w2 (⟨rfl,hA⟩|⟨rfl,hB⟩)
   ·go_wp2
    exact⟨rfl,Or.inl ⟨rfl,hA⟩⟩
   ·have HB:=aab hB
    clear hB f0 f1 f2
    go_wp2
    go_roundw
    case rel=>exact⟨k+1,by omega,by go_num,unhide HB⟩
    case measure=>simp[intOf];omega
  ·obtain rfl:k=n0:=by omega
   have HB:=aab hIk
   clear hIk
   go_wp2
   go_end0
   exact Or.inr ⟨rfl,unhide HB⟩
theorem ais(tid er:Nat)(ptr:Addr)(w:World)(y0 y1:Int)(ya:Option Addr)(yn yk n:Nat)(A:World→Prop)(I:Nat→World→Prop)(hn:n≤9)(h0:I 0 (w.alloc (.cells #[.int .u8 y0,.int .i64 y1,.slice ya yn yk] 153)))
  (hI:∀j w',j<n→I j w'→w'.cell? ⟨w.heap.size,0,none⟩=some (.int .u8 y0)∧w'.cell? ⟨w.heap.size,1,none⟩=some (.int .i64 y1)∧w'.cell? ⟨w.heap.size,2,none⟩=some (.slice ya yn yk) ∧
   Calls Tryz.prog 125 #[.agg #[.int .u8 y0,.int .i64 y1,.slice ya yn yk],.iface tid (.pointer (some ptr))] w' (Or2 er A (I (j+1)))) :
  Calls Tryz.prog 193 #[.int .i64 n,.agg #[.int .u8 y0,.int .i64 y1,.slice ya yn yk],.iface tid (.pointer (some ptr))] w (Or2 er A (I n)):=by
 have H0:=aab h0
 have HII:=aab hI
 clear h0 hI
 go_enter Tryz.func193,Tryz.ntmps193
 go_wp2
 go_loopw [7] (fun i wr=>∃k:Nat,k≤n∧i=.int .i64 k∧I k wr) (fun i _=>n-(intOf i).toNat)
 case atStart=>exact⟨0,Nat.zero_le _,rfl,unhide H0⟩
 case round=>
  obtain⟨k,hk,rfl,hIk⟩:=hrel
  by_cases hlt:k<n
  ·obtain⟨f0,f1,f2,hT⟩:=(unhide HII) k wr hlt hIk
   have HTT:=aab hT
   clear hT hIk
   go_wp2_with fail
   refine(unhide HTT).mono ?_
   rintro e w2 (⟨rfl,hA⟩|⟨rfl,hB⟩)
   ·go_wp2
    exact⟨rfl,Or.inl ⟨rfl,hA⟩⟩
   ·have HB:=aab hB
    clear hB f0 f1 f2
    go_wp2
    go_roundw
    case rel=>exact⟨k+1,by omega,by go_num,unhide HB⟩
    case measure=>simp[intOf];omega
  ·obtain rfl:k=n:=by omega
   have HB:=aab hIk
   clear hIk
   go_wp2
   go_end0
   exact Or.inr ⟨rfl,unhide HB⟩
structure Kept(O O':Nat→Prop)(w w':World):Prop where
 size:w.heap.size≤w'.heap.size
 block:∀k,k<w.heap.size→¬O k→w'.heap[k]?=w.heap[k]?
 row:∀k,O' k→O k∨w.heap.size≤k
theorem Kept.refl(O:Nat→Prop)(w:World):Kept O O w w:=⟨Nat.le_refl _,fun _ _ _=>rfl,fun _ h=>Or.inl h⟩
theorem Kept.trans{O O1 O2:Nat→Prop}{w w1 w2:World}(h:Kept O O1 w w1)(k:Kept O1 O2 w1 w2):Kept O O2 w w2:=by
 have hs:=h.size
 refine⟨Nat.le_trans h.size k.size,fun i hi hr=>?_,fun i hi=>?_⟩
 ·rw[k.block i (by omega) (fun e=>?_),h.block i hi hr]
  rcases h.row i e with h1|h1
  ·exact hr h1
  ·omega
 ·rcases k.row i hi with h1|h1
  ·exact h.row i h1
  ·exact Or.inr (by omega)
theorem Kept.of_below{O:Nat→Prop}{w w':World}(h:Below w.heap.size w w'):Kept O O w w':=⟨h.size,fun k hk _=>h.block k hk,fun _ h=>Or.inl h⟩
theorem Kept.cell{O O':Nat→Prop}{w w':World}(h:Kept O O' w w'){k o:Nat}(hk:k<w.heap.size)(hr:¬O k):w'.cell? ⟨k,o,none⟩=w.cell? ⟨k,o,none⟩:=World.cell?_of_block (w:=w) (h.block k hk hr)
structure Carrier(σ:Type) where
 tid:Nat
 fnum:Nat
 ftxt:Nat
 er:Nat
 ptr:Addr
 w0:World
 St:World→Nat→σ→(Nat→Prop)→Prop
 num:Int→Int→σ→Option (Int×σ)
 txt:σ→Option σ
variable {σ:Type}
abbrev Carrier.I(C:Carrier σ):Value:=.iface C.tid (.pointer (some C.ptr))
def Carrier.Lv(C:Carrier σ)(O:Nat→Prop)(c:Nat)(x':σ)(w w':World):Prop:=∃c' O',c'≤c∧C.St w' c' x' O'∧Kept O O' w w'
def Carrier.No(C:Carrier σ)(P:Prop)(w':World):Prop:=P∧Below C.w0.heap.size C.w0 w'
structure Carries(C:Carrier σ):Prop where
 below:∀{w c x O},C.St w c x O→Below C.w0.heap.size C.w0 w
 fresh:∀{w c x O},C.St w c x O→∀k,O k→C.w0.heap.size≤k∧k<w.heap.size
 go:∀{w c x O w'},C.St w c x O→Below w.heap.size w w'→C.St w' c x O
 range:∀{lo hi x n x'},C.num lo hi x=some (n,x')→lo≤n∧n≤hi
 mnum:aph C.tid C.fnum C.ptr
 mtxt:arb C.tid C.ftxt C.ptr
 number:∀{w c x O} (lo hi:Int),C.St w c x O→c≤40000→(lo=0∧hi≤65535∨lo=-32768∧hi=32767)→Calls Tryz.prog C.fnum #[.pointer (some C.ptr),.int .i64 lo,.int .i64 hi] w
  (OrN C.er (C.No (C.num lo hi x=none)) (fun i w'=>∃x',C.num lo hi x=some (i,x')∧C.Lv O (c+1) x' w w'))
 text:∀{w c x O},C.St w c x O→c≤40000→Calls Tryz.prog C.ftxt #[.pointer (some C.ptr)] w
  (Or2 C.er (C.No (C.txt x=none)) (fun w'=>∃x',C.txt x=some x'∧C.Lv O (c+1) x' w w'))
def aca(C:Carrier σ)(r:Option σ)(O:Nat→Prop)(c:Nat)(w:World):Ending→World→Prop:=
 Or2 C.er (C.No (r=none)) (fun w'=>∃x',r=some x'∧C.Lv O c x' w w')
def apm(C:Carrier σ)(T:Value)(E:σ→Option σ)(M:Nat):Prop:=∀w c x O,C.St w c x O→c+M≤40000→Calls Tryz.prog 125 #[T,C.I] w (aca C (E x) O (c+M) w)
theorem apm.mono{C:Carrier σ}{T:Value}{E:σ→Option σ}{M M':Nat}(h:apm C T E M)(hm:M≤M'):apm C T E M':=by
 intro w c x O hs hc
 refine(h w c x O hs (by omega)).mono ?_
 rintro e w' (h|⟨rfl,x',hx,c',O',hc',h1⟩)
 ·exact Or.inl h
 ·exact Or.inr ⟨rfl,x',hx,c',O',by omega,h1⟩
def seqC(E:Nat→σ→Option σ):List Nat→σ→Option σ
 |[],x=>some x
 |q :: qs,x=>(E q x).bind (seqC E qs)
theorem adX(E:Nat→σ→Option σ):∀(a b:List Nat) (x:σ),seqC E (a++b) x=(seqC E a x).bind (seqC E b):=by
 intro a
 induction a with
 |nil=>intro b x;rfl
 |cons q a ih=>
  intro b x
  simp only[List.cons_append,seqC]
  cases E q x with
  |none=>rfl
  |some y=>exact ih b y
theorem akb{E:Nat→σ→Option σ}{qs:List Nat}{k q:Nat}(h:qs[k]?=some q)(x:σ):seqC E (qs.take (k+1)) x=(seqC E (qs.take k) x).bind (E q):=by
 rw[List.take_add_one,h,adX]
 congr 1
 funext y
 simp only[Option.toList_some,seqC]
 cases E q y <;> rfl
theorem akc{E:Nat→σ→Option σ}{qs:List Nat}{x:σ}{k:Nat}(h:seqC E (qs.take k) x=none):seqC E qs x=none:=by
 rw[←List.take_append_drop k qs,adX,h]
 rfl
def carryP(num:Int→Int→σ→Option (Int×σ))(txt:σ→Option σ)(g:Nat→Nat):Nat→Nat→σ→Option σ
 |0,_,_=>none
 |f+1,p,x=>
  if g p=115 then txt x
  else if g p=97 then seqC (carryP num txt g f) (List.replicate (g (p+1)-48) (p+2)) x
  else if g p=114 then seqC (carryP num txt g f) (Pt.kids g f p) x
  else (num (loOf (g p)) (hiOf g f p) x).bind fun r=>
   if g p=117 then carryP num txt g f (partOf (Pt.kids g f p) r.1) r.2
   else if g p=113 then seqC (carryP num txt g f) (List.replicate r.1.toNat (p+2)) r.2
   else some r.2
structure Far(C:Carrier σ)(E:Nat→σ→Option σ)(qs:List Nat)(x:σ)(c M:Nat)(O:Nat→Prop)(w:World)(k:Nat)(w':World)(xk:σ)(c':Nat)(O':Nat→Prop):Prop where
 seq:seqC E (qs.take k) x=some xk
 le:c'≤c+k*M
 st:C.St w' c' xk O'
 kept:Kept O O' w w'
def aq3(C:Carrier σ)(E:Nat→σ→Option σ)(qs:List Nat)(x:σ)(c M:Nat)(O:Nat→Prop)(w:World)(k:Nat)(w':World):Prop:=∃xk c' O',Far C E qs x c M O w k w' xk c' O'
theorem aif{C:Carrier σ}{E:Nat→σ→Option σ}{qs:List Nat}{x:σ}{c M:Nat}{O:Nat→Prop}{w w' w1:World}{k q:Nat}{xk:σ}{c':Nat}{O':Nat→Prop}(h:Far C E qs x c M O w k w' xk c' O')(hq:qs[k]?=some q)(h1:Kept O' O' w' w1) :
  ∀e w2,aca C (E q xk) O' (c'+M) w1 e w2→Or2 C.er (C.No (seqC E qs x=none)) (aq3 C E qs x c M O w (k+1)) e w2:=by
 have hb:seqC E (qs.take (k+1)) x=E q xk:=by rw[akb hq,h.seq];rfl
 rintro e w2 (⟨rfl,hn,hw⟩|⟨rfl,x',hx,c2,O2,hc2,hs2,hk2⟩)
 ·exact Or.inl ⟨rfl,akc (hb.trans hn),hw⟩
 ·refine Or.inr ⟨rfl,x',c2,O2,hb.trans hx,?_,hs2,h.kept.trans (h1.trans hk2)⟩
  have:=h.le
  rw[Nat.add_mul,Nat.one_mul]
  omega
theorem aeF{C:Carrier σ}(hC:Carries C){y0 y1:Int}{ya:Option Addr}{yn yk:Nat}{E:Nat→σ→Option σ}{q M:Nat}(HK:apm C (.agg #[.int .u8 y0,.int .i64 y1,.slice ya yn yk]) (E q) M)(n:Nat)(hn:n≤9){w:World}{c:Nat}{x:σ}{O:Nat→Prop}(hs:C.St w c x O)(hc:c+n*M≤40000) :
  Calls Tryz.prog 193 #[.int .i64 n,.agg #[.int .u8 y0,.int .i64 y1,.slice ya yn yk],C.I] w (aca C (seqC E (List.replicate n q) x) O (c+n*M) w):=by
 have hb0:=(Below.refl w.heap.size w).alloc (Nat.le_refl _) (.cells #[.int .u8 y0,.int .i64 y1,.slice ya yn yk] 153)
 have hfr:¬O w.heap.size:=fun h=>by have:=(hC.fresh hs _ h).2;omega
 obtain⟨t0,t1,t2,_⟩:=(Tri.new w (.int .u8 y0) (.int .i64 y1) (.slice ya yn yk)).facts
 refine(ais C.tid C.er C.ptr w y0 y1 ya yn yk n (C.No (seqC E (List.replicate n q) x=none)) (aq3 C E (List.replicate n q) x c M O (w.alloc (.cells #[.int .u8 y0,.int .i64 y1,.slice ya yn yk] 153))) hn ⟨x,c,O,rfl,by omega,hC.go hs hb0,Kept.refl _ _⟩ ?_).mono ?_
 ·rintro j w' hj ⟨xj,c',O',h⟩
  have hlt:w.heap.size<(w.alloc (.cells #[.int .u8 y0,.int .i64 y1,.slice ya yn yk] 153)).heap.size:=by simp
  refine⟨(h.kept.cell hlt hfr).trans t0,(h.kept.cell hlt hfr).trans t1,(h.kept.cell hlt hfr).trans t2,?_⟩
  refine(HK w' c' xj O' h.st ?_).mono (aif h (q:=q) ?_ (Kept.refl _ _))
  ·have e1:(j+1)*M≤n*M:=Nat.mul_le_mul_right M hj
   rw[Nat.add_mul,Nat.one_mul]at e1
   have:=h.le
   omega
  ·rw[List.getElem?_replicate,if_pos hj]
 ·rintro e w' (h|⟨rfl,x',c',O',h⟩)
  ·exact Or.inl h
  ·refine Or.inr ⟨rfl,x',?_,c',O',h.le,h.st,(Kept.of_below hb0).trans h.kept⟩
   have:=h.seq
   rw[List.take_of_length_le (by simp)]at this
   exact this
theorem akt{w0:World}{S:Nat→Prop}{g:Nat→Nat}{f p:Nat}{c0 c1 c2:Value}(h:Rep w0 S g (f+1) p c0 c1 c2):c0=.int .u8 (g p)∧c1=.int .i64 (aat g p)∧∃va vc,c2=.slice va (Pt.kids g f p).length vc∧(∀j q,(Pt.kids g f p)[j]?=some q→∃gb y0 y1 ya yn yk,va=some ⟨gb,0,none⟩ ∧
   (∀w,Below w0.heap.size w0 w→w.cell? ⟨gb,j*3,none⟩=some (.int .u8 y0)∧w.cell? ⟨gb,j*3+1,none⟩=some (.int .i64 y1)∧w.cell? ⟨gb,j*3+2,none⟩=some (.slice ya yn yk))∧Rep w0 S g f q (.int .u8 y0) (.int .i64 y1) (.slice ya yn yk)):=by
 obtain⟨h0,h1,xs,ho,hi⟩:=h
 obtain⟨va,vc,hc2⟩:∃a c,c2=.slice a (Pt.kids g f p).length c:=by
  rcases ho.1.2 with ⟨rfl,h0⟩|⟨gb,cap,cur,rfl,_⟩
  ·exact⟨none,0,by rw[h0]⟩
  ·exact⟨_,_,rfl⟩
 refine⟨h0,h1,va,vc,hc2,fun j q hq=>?_⟩
 obtain⟨d0,d1,d2,a0,a1,a2,hr⟩:=hi j q hq
 subst hc2
 obtain⟨gb,rfl,hgb⟩:∃gb,va=some ⟨gb,0,none⟩∧gb<w0.heap.size:=by
  rcases ho.1.2 with ⟨hv,h0⟩|⟨gb,cap,cur,hv,_,hh,_⟩
  ·rw[List.eq_nil_of_length_eq_zero h0]at hq;cases hq
  ·cases hv;exact⟨gb,rfl,lt_of_block hh⟩
 have hcl:=ho.1.cells (g:=gb) rfl
 have ad:∀o,(⟨gb,0,none⟩:Addr).add o=⟨gb,o,none⟩:=fun o=>by simp[Addr.add];omega
 obtain⟨⟨x0,rfl⟩,⟨x1,rfl⟩,⟨ea,en,ec,rfl⟩⟩:=rep_shape hr
 refine⟨gb,x0,x1,ea,en,ec,rfl,fun w hb=>⟨?_,?_,?_⟩,hr⟩
 ·rw[hb.cell (p:=⟨gb,j*3,none⟩) hgb,←ad,Nat.mul_comm];exact hcl _ _ a0
 ·rw[hb.cell (p:=⟨gb,j*3+1,none⟩) hgb,←ad,Nat.mul_comm];exact hcl _ _ a1
 ·rw[hb.cell (p:=⟨gb,j*3+2,none⟩) hgb,←ad,Nat.mul_comm];exact hcl _ _ a2
theorem anT{l:List Nat}{a:Nat}(h:a∈l):a≤Pt.top l:=by
 induction l with
 |nil=>cases h
 |cons b l ih=>
  simp only[Pt.top]
  rcases List.mem_cons.1 h with rfl|h
  ·omega
  ·have:=ih h;omega
def aep(C:Carrier σ)(s:ByteArray)(f:Nat):Prop:=∀p S c0 c1 c2,Rep C.w0 S (nx s) f p c0 c1 c2→Okp s f p→apm C (.agg #[c0,c1,c2]) (carryP C.num C.txt (nx s) f p) (10 ^ Pt.dep (nx s) f p)
end Go.Proofs.YtblomippkddgiaaGreatDoor.V
