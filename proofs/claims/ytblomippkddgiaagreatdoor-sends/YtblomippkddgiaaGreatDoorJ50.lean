import Derived.Test.YtblomippkddgiaaGreatDoorJ49
import Derived.Deep.SlicePairs
import Derived.SizedLaws
import Derived.Carry
set_option maxRecDepth 100000
set_option maxHeartbeats 4000000
namespace Go.Proofs.YtblomippkddgiaaGreatDoor
open Go.RowKit
def VQ(k a c:Int)(s:List UInt8)(L:Value):EM:=⟨k,0,a,0,c,0,s,[],L,⟨0,0,0,0,0,0,0,0,false,[]⟩,⟨0,0,0,0,0⟩⟩
def BD(A:Nat):Nat->EM
 |0=>VQ 8 0 0 [115,117,109] (.slice none 0 0)
 |1=>VQ 8 1 0 [119,97,108,108] (.slice none 0 0)
 |2=>VQ 10 0 0 [115,117,109] (.slice none 0 0)
 |3=>VQ 10 1 0 [115,117,109] (.slice none 0 0)
 |4=>VQ 10 1 0 [119,97,108,108] (.slice none 0 0)
 |_=>VQ 11 0 1 [] (.slice (some ⟨A,0,none⟩) 1 1)
def G7(i:Nat):List V.It:=if i=5 then [(5,⟨#[]⟩)] else []
def V7:R.Cf:=⟨2,2,3,2,2⟩
def NT:Nat->R.Wd
 |0=>newG V7
 |i+1=>DI (NT i) (BD 0 i) (G7 i)
theorem L9:(NT 6).Af.length=1:=by decide +kernel
theorem NV(A i:Nat)(G:R.Wd)(v:List R.It):DI G (BD A i) v=DI G (BD 0 i) v:=by
 unfold BD;split<;>rfl
def IB(o:EM):List Value:=o.cells.toList
theorem XO(o:EM):(IB o).length=24:=rfl
def firstCells(A:Nat):List Value:=tab (fun i=>IB (BD A i)) (List.range 6)
def zA(A:Nat)(k:Nat):Option Obj:=if k=A then some (.cells #[.int .i64 5,.string ⟨#[]⟩] 106 (0,0)) else if k=A+1 then some (.cells (firstCells A).toArray 72 (0,0)) else none
theorem NU{A i:Nat}{w:World}(h:w.heap[A+1]?=some (.cells (firstCells A).toArray 72 (0,0)))(hi:i<6):∀(j:Nat) (u:Value),(BD A i).cells[j]?=some u->w.cell? ⟨A+1,i*24+j,none⟩=some u:=fun j u hj=>by
 have hj24:j<24:=(Array.getElem?_eq_some_iff.1 hj).1;refine Bi h ?_;have:=CW (f:=fun i=>IB (BD A i)) (n:=24) (fun _=>rfl) (List.range 6) i j i (by simp[hi]) hj24;unfold firstCells;rw[this];simpa [IB] using hj
theorem J9{n:Int}(h:-1000<=n/\n<=1000):LA n:=by unfold LA;omega
theorem T5(A i:Nat)(hi:i<6):(7<(BD A i).kind/\(BD A i).kind<=18)/\(BD A i).s.length<=1000/\LA (BD A i).c/\LA (BD A i).on:=by
 have:i=0\/i=1\/i=2\/i=3\/i=4\/i=5:=by omega
 rcases this with rfl|rfl|rfl|rfl|rfl|rfl<;>exact⟨by simp[BD,VQ],by simp[BD,VQ],J9 (by simp[BD,VQ]),J9 (by simp[BD,VQ])⟩
theorem Ma{A i:Nat}{w:World}(hA:w.heap[A]?=some (.cells #[.int .i64 5,.string ⟨#[]⟩] 106 (0,0)))(hi:i<6):V.Items w (BD A i).L (G7 i):=by
 have hnil:V.Items w (.slice none 0 0) []:=⟨none,0,rfl,Nat.le_refl _,Or.inl rfl⟩;have:i=0\/i=1\/i=2\/i=3\/i=4\/i=5:=by omega
 rcases this with rfl|rfl|rfl|rfl|rfl|rfl
 ·exact hnil
 ·exact hnil
 ·exact hnil
 ·exact hnil
 ·exact hnil
 ·refine⟨some ⟨A,0,none⟩,1,rfl,by decide,Or.inr ⟨A,0,rfl,lt_of_block hA,fun j x hx=>?_⟩⟩;have hj:j=0:=by
   have:=(List.getElem?_eq_some_iff.1 hx).1;simp[G7]at this;omega
  subst hj;obtain rfl:x=(5,⟨#[]⟩):=by simpa [G7] using hx.symm
  exact⟨cell_of hA 0 _ rfl,cell_of hA 1 _ rfl⟩
theorem QY{A i:Nat}(hi:i<6){b off n c:Nat}(h:(BD A i).L=.slice (some ⟨b,off,none⟩) n c):b=A:=by
 have:i=0\/i=1\/i=2\/i=3\/i=4\/i=5:=by omega
 rcases this with rfl|rfl|rfl|rfl|rfl|rfl
 ·cases h
 ·cases h
 ·cases h
 ·cases h
 ·cases h
 ·cases h;rfl
def Aw(w0:World)(b A i:Nat)(wr:World):Prop:=∃t L lv K,Hn w0 (zA A) b (i+1) [t] L lv K wr/\t.G=NT i/\L.length<=i
theorem Aw.begin{w0 w2 W:World}{b:Nat}{t:Tw}{lv K:Value}(h:Hn w0 (fun _=>none) b 0 [t] [] lv K w2)(hG:t.G=newG V7)(hW:W=(w2.alloc (.cells #[.int .i64 5,.string ⟨#[]⟩] 106)).alloc (.cells (firstCells w2.heap.size).toArray 72)):Aw w0 b w2.heap.size 0 W:=by
 have hs:(w2.alloc (.cells #[.int .i64 5,.string ⟨#[]⟩] 106)).heap.size=w2.heap.size+1:=by simp
 have hb:Below w2.heap.size w2 W:=by
  rw[hW];exact((Below.refl _ _).alloc (Nat.le_refl _) _).alloc (by omega) _
 refine⟨t,[],lv,K,((h.below hb).more (Nat.zero_le 1)).Qj (fun k o hz=>?_) (fun k hk=>?_),hG,Nat.le_refl _⟩
 ·unfold zA at hz;split at hz
  ·rename_i e;cases hz;rw[e,hW,Below.heap_alloc _ _ _ (by omega)];exact heap_alloc_new w2 _
  ·split at hz
   ·rename_i e;cases hz;rw[e,hW,<-hs];exact heap_alloc_new _ _
   ·cases hz
 ·have:=h.lt k hk;unfold zA;rw[if_neg (by omega),if_neg (by omega)]
theorem Aw.mem{w0 wr:World}{b A i:Nat}(h:Aw w0 b A i wr):wr.heap[A]?=some (.cells #[.int .i64 5,.string ⟨#[]⟩] 106 (0,0))/\wr.heap[A+1]?=some (.cells (firstCells A).toArray 72 (0,0)):=by
 obtain⟨t,L,lv,K,h,_⟩:=h;exact⟨h.kept A _ (by unfold zA;rw[if_pos rfl]),h.kept (A+1) _ (by unfold zA;rw[if_neg (by omega),if_pos rfl])⟩
theorem Aw.Yu{w0 wr:World}{b A i:Nat}(h:Aw w0 b A i wr)(hi:i<6)(ht:Fu w0):Calls Tryz.prog 26 #[ptr b,(BD A i).val] wr fun e w'=>e=.returned (.bool true)/\Aw w0 b A (i+1) w':=by
 obtain⟨m1,m2⟩:=h.mem;obtain⟨t,L,lv,K,h,hG,hL⟩:=h;obtain⟨o1,o2,o3,o4⟩:=T5 A i hi;have hz:∀k,HF b [t] L lv K k->k≠A:=fun k hk e=>by
  have:=h.F9 k hk;unfold zA at this;rw[if_pos e]at this;cases this
 refine(Mw h (BD A i) (v:=G7 i) ⟨by omega,Ma m1 hi,by unfold G7;split<;>decide,fun _ b' off n c q f=>hz b' f (QY hi q),o3,o4⟩ ⟨by omega,o1.2⟩ ht (by omega) (by omega) (by simp)).mono ?_;rintro e w' ⟨rfl,Ts',L',lv',K',h1,h2,_,h3⟩;obtain⟨t',rfl,hG'⟩:=h3 t rfl o1.1;exact⟨rfl,t',L',lv',K',h1,by rw[hG',hG,NV];rfl,by omega⟩
theorem Aw.over{w0 wr:World}{b A:Nat}(h:Aw w0 b A 6 wr):∃t L lv K g cap,Hn w0 (fun _=>none) b 7 [t] L lv K wr/\L.length<=6/\wr.cell? ⟨b,0,none⟩=some (.slice (some ⟨g,0,none⟩) 1 cap)/\wr.cell? ⟨g,0,none⟩=some (ptr t.p.x)/\Calls Tryz.prog 17 #[ptr t.p.x] wr fun e w'=>e=.returned (.int .i64 1)/\w'=wr:=by
 obtain⟨t,L,lv,K,h,hG,hL⟩:=h;obtain⟨g,cap,hlv,hgl,hcell,_⟩:=DU (i:=0) Qo (by omega) h.row rfl;have e0:=hcell 0 _ (by omega) rfl;have hfl:=(h.tw t (by simp)).l.Af;rw[hG,L9]at hfl;refine⟨t,L,lv,K,g,cap,h.Qj (fun k o q=>by cases q) (fun _ _=>rfl),hL,cell_of h.bo.cell 0 _ (by rw[hlv];rfl),by simpa using e0,hfl⟩
theorem Qx(w0:World)(b:Nat)(w:World)(h:Hn w0 (fun _=>none) b 0 [] [] (.slice none 0 0) (.slice none 0 0) w)(ht:Fu w0):
  Calls Tryz.prog 25 #[ptr b] w fun e w'=>e=.returned (.bool true)/\∃t L lv K,Hn w0 (fun _=>none) b 7 [t] L lv K w'/\L.length<=6:=by
 have HB:Hid (Calls Tryz.prog 52 #[ptr b,.agg #[.int .i64 2,.int .i64 2,.int .i64 3,.int .i64 2,.int .i64 2]] w fun e w'=>e=.returned (.bool true)/\∃t lv cc a,Hn w0 (fun _=>none) b 0 [t] [] lv (.slice none 0 0) w'/\t.G=newG V7/\lv=.slice a 1 cc):=by
  refine(E7 h V7 (by simp)).mono ?_;rintro e w' ⟨rfl,Ts',lv',h1,_,h2⟩;obtain⟨t,rfl,hG⟩:=h2 (by unfold R.Cj;decide);obtain⟨a,cc,hlv⟩:=AR h1.row;exact⟨rfl,t,lv',cc,a,h1,hG,hlv⟩
 have HT:=Ab ht;clear h ht;go_enter Tryz.func25,Tryz.ntmps25;go_wp2_with fail
 refine(Aa HB).mono ?_;rintro e w2 ⟨rfl,t,lv,cc,a,h2,hG,hlv⟩;subst hlv;have x0:w2.cell? ⟨b,0,none⟩=some (.slice a 1 cc):=cell_of h2.bo.cell 0 _ rfl;have lb:=lt_of_cell x0;have HA:=Ab (fun W hW=>Aw.begin (W:=W) h2 hG hW);clear h2 hG HB;go_wp2_with fail
 go_loopw [3,5] (fun ok iv wr=>ok=.bool true/\∃i:Nat,i<=6/\iv=.int .i64 (i:Int)/\Aw w0 b w2.heap.size i wr) (fun _ iv _=>6-(intOf iv).toNat)
 case atStart=>exact⟨rfl,0,by omega,rfl,(Aa HA) _ rfl⟩
 case round=>
  obtain⟨rfl,i,hi,rfl,hAw⟩:=hrel;by_cases hlt:i<6
  ·have HP:=Ab (hAw.Yu hlt (Aa HT));have fc:=NU hAw.mem.2 hlt;have la:=lt_of_block hAw.mem.2;generalize BD w2.heap.size i=o at *;clear hAw x0;have FC:=Ab fc;have i1:(i:Int)<6:=by omega
   have i0:(0:Int)<=(i:Int):=by omega
   clear fc
   go_upto_region 8 with fail
   refine wp_region_list ?_;refine Fq rfl (.tmp 0) rfl (ptr b) rfl ?_;refine Fq rfl (.tmp 4) rfl (.slice (some ⟨w2.heap.size+1,0,none⟩) 6 6) rfl ?_;refine Fq rfl (.tmp 5) rfl (.int .i64 (i:Int)) rfl ?_;simp only[Act.put,List.setIfInBounds_toArray,List.set_cons_zero,List.set_cons_succ];refine M4 rfl (.pointer (some ⟨w2.heap.size+1,i*24,none⟩)) (by go_simp;try with_reducible rfl) ?_;simp only[Act.put,List.setIfInBounds_toArray,List.set_cons_zero,List.set_cons_succ];refine M3 rfl (.tmp 41) rfl (w2.heap.size+1) (i*24) rfl o (Aa FC) ?_;simp only[Act.put,List.setIfInBounds_toArray,List.set_cons_zero,List.set_cons_succ];go_wp2_with fail
   refine(Aa HP).mono ?_;rintro e w3 ⟨rfl,h3⟩;have H3:=Ab h3;clear h3 HP;go_wp2_with fail
   go_roundw
   case rel=>exact⟨rfl,i+1,by omega,by go_num,Aa H3⟩
   case measure=>simp[intOf];omega
  ·obtain rfl:i=6:=by omega
   obtain⟨t',L',lv',K',g,cap,h4,hL,y0,y1,hF⟩:=hAw.over;have lg:=lt_of_cell y1;have lb':=lt_of_cell y0;have HF':=Ab hF;have H4:=Ab (And.intro h4 hL);clear hAw h4 hF hL;go_wp2_with fail
   refine(Aa HF').mono ?_;rintro e w5 ⟨rfl,hw5⟩;rw[hw5];clear hw5;go_wp2;go_returns;exact⟨rfl,t',L',lv',K',(Aa H4).1,(Aa H4).2⟩
theorem Ue{w:World}{X:Value}{v:List V.It}(h:V.Items w X v)(hv:v≠[]){b off n c:Nat}(e:X=.slice (some ⟨b,off,none⟩) n c):b<w.heap.size:=by
 obtain⟨a,cap,hX,_,q⟩:=h;rcases q with q|⟨b',off',ha,hl,_⟩
 ·exact absurd q hv
 ·rw[hX,ha]at e;cases e;exact hl
def Up(w0:World)(b i:Nat)(wr:World):Prop:=∃N Ts L lv K,Hn w0 (fun _=>none) b N Ts L lv K wr/\N<=i+7/\L.length<=i+7/\Ts.length<=i+7
theorem Up.next{w0 wr:World}{b i:Nat}(h:Up w0 b i wr):Up w0 b (i+1) wr:=by
 obtain⟨N,Ts,L,lv,K,h,h1,h2,h3⟩:=h;exact⟨N,Ts,L,lv,K,h,by omega,by omega,by omega⟩
theorem Up.Yu{w0 wr:World}{b i:Nat}(h:Up w0 b i wr)(hi:i<=800000000000){vb off:Nat}{o:EM}{v:List V.It}(ho:Tj w0 vb off o v)(hk:7<=o.kind/\o.kind<=18)(ht:Fu w0):Calls Tryz.prog 26 #[ptr b,o.val] wr fun e w'=>e=.returned (.bool true)/\Up w0 b (i+1) w':=by
 obtain⟨N,Ts,L,lv,K,h,h1,h2,h3⟩:=h;refine(Mw h o (v:=v) ⟨ho.s,ho.items.below h.Ix,ho.len,fun hv b' off n c q f=>?_,ho.c,ho.on⟩ hk ht (by omega) (by omega) (by omega)).mono ?_
 ·have q1:=Ue ho.items hv q;have q2:=h.base b' f;omega
 ·rintro e w' ⟨rfl,Ts',L',lv',K',h4,h5,h6,_⟩;exact⟨rfl,N+1,Ts',L',lv',K',h4,by omega,by omega,by omega⟩
theorem Up.below{w0 wr:World}{b i:Nat}(h:Up w0 b i wr):Below w0.heap.size w0 wr:=by
 obtain⟨N,Ts,L,lv,K,h,_⟩:=h;exact h.Ix
theorem VD(w:World):Hn w (fun _=>none) w.heap.size 0 [] [] (.slice none 0 0) (.slice none 0 0) (w.alloc (.cells #[.slice none 0 0,.slice none 0 0] 69)):=by
 refine⟨⟨heap_alloc_new w _,World.ownsRow_nil _ _ _ _,fun k hk=>(by cases hk)⟩,World.ownsRow_nil _ _ _ _,fun t ht=>(by cases ht),fun i j t s hi=>(by simp at hi),fun t ht=>(by cases ht),(Below.refl _ _).alloc (Nat.le_refl _) _,fun k hk=>?_,fun k o q=>(by cases q),fun _ _=>rfl⟩;rcases hk with (q|q|⟨k',hk',_⟩)|q|⟨t,ht,_⟩
 ·omega
 ·cases q
 ·cases hk'
 ·cases q
 ·cases ht
theorem VC(lo hi:Int)(hlo:7<=lo)(hhi:hi<=18)(va:Option Addr)(vn vc:Nat)(w:World)(hV:Script w va vn)(hvn:vn<=800000000000)(ht:Fu w):
  Calls Tryz.prog 8 #[.slice va vn vc,.int .i64 lo,.int .i64 hi] w fun e w'=>e=.returned (.bool true)/\Below w.heap.size w w':=by
 have hst:=VD w;obtain⟨W1,hW1⟩:∃W1,w.alloc (.cells #[.slice none 0 0,.slice none 0 0] 69)=W1:=⟨_,rfl⟩;rw[hW1]at hst;have HA:=Ab (Qx w w.heap.size W1 hst ht);have HW1:=Ab hW1;have HT:=Ab ht;have HV:=Ab hV;have HLO:=Ab hlo;have HHI:=Ab hhi;clear hst hW1 ht hV hlo hhi;go_enter Tryz.func8,Tryz.ntmps8;go_wp2_with fail
 rw[Aa HW1];refine(Aa HA).mono ?_;rintro e w2 ⟨rfl,t,L,lv,K,h2,hL⟩;have HU:Hid (Up w w.heap.size 0 w2):=⟨7,[t],L,lv,K,h2,by omega,by omega,by simp⟩;clear h2 hL HA;go_wp2_with fail
 go_loopw [8,9] (fun ok iv wr=>ok=.bool true/\∃i:Nat,i<=vn/\iv=.int .i64 (i:Int)/\Up w w.heap.size i wr) (fun _ iv _=>vn-(intOf iv).toNat)
 case atStart=>exact⟨rfl,0,by omega,rfl,Aa HU⟩
 case round=>
  obtain⟨rfl,i,hi',rfl,hUp⟩:=hrel;by_cases hlt:i<vn
  ·rcases Aa HV with h0|⟨vb,off,hva,hvl,hS⟩
   ·omega
   ·subst hva;obtain⟨o,v,hO⟩:=hS i hlt;have hbel:=hUp.below;have fc:∀(j:Nat) (u:Value),o.cells[j]?=some u->wr.cell? ⟨vb,off+i*24+j,none⟩=some u:=fun j u hj=>(hbel.cell (p:=⟨vb,_,none⟩) hvl).trans (hO.cell j u hj)
    have lv:=Nat.lt_of_lt_of_le hvl hbel.size;have HN:=Ab hUp.next;by_cases hk:lo<=o.kind/\o.kind<=hi
    ·have HP:=Ab (hUp.Yu (by omega) hO ⟨Int.le_trans (Aa HLO) hk.1,Int.le_trans hk.2 (Aa HHI)⟩ (Aa HT));have k1:decide (lo<=o.kind)=true:=by simp[hk.1]
     have k2:decide (o.kind<=hi)=true:=by simp[hk.2]
     clear hUp hO hbel hS hk;have f0:wr.cell? ⟨vb,off+i*24,none⟩=some (.int .i64 o.kind):=fc 0 _ rfl;have FC:=Ab fc;have i1:(i:Int)<(vn:Int):=by omega
     have i0:(0:Int)<=(i:Int):=by omega
     clear fc
     go_upto_region 7 with fail
     refine wp_region_list ?_;refine Fq rfl (.tmp 7) rfl (ptr w.heap.size) rfl ?_;refine Fq rfl (.tmp 0) rfl (.slice (some ⟨vb,off,none⟩) vn vc) rfl ?_;refine Fq rfl (.tmp 9) rfl (.int .i64 (i:Int)) rfl ?_;simp only[Act.put,List.setIfInBounds_toArray,List.set_cons_zero,List.set_cons_succ];refine M4 rfl (.pointer (some ⟨vb,off+i*24,none⟩)) (by go_simp;try with_reducible rfl) ?_;simp only[Act.put,List.setIfInBounds_toArray,List.set_cons_zero,List.set_cons_succ];refine M3 rfl (.tmp 42) rfl (vb) (off+i*24) rfl o (Aa FC) ?_;simp only[Act.put,List.setIfInBounds_toArray,List.set_cons_zero,List.set_cons_succ];go_wp2_with fail
     refine(Aa HP).mono ?_;rintro e w3 ⟨rfl,h3⟩;have H3:=Ab h3;clear h3 HP;go_wp2_with fail
     go_roundw
     case rel=>exact⟨rfl,i+1,by omega,by go_num,Aa H3⟩
     case measure=>simp[intOf];omega
    ·obtain⟨q1,hq1⟩:∃q1,decide (lo<=o.kind)=q1:=⟨_,rfl⟩;obtain⟨q2,hq2⟩:∃q2,decide (o.kind<=hi)=q2:=⟨_,rfl⟩;have hq:q1=false\/(q1=true/\q2=false):=by
      rw[<-hq1,<-hq2];by_cases e1:lo<=o.kind
      ·by_cases e2:o.kind<=hi
       ·exact absurd ⟨e1,e2⟩ hk
       ·exact Or.inr ⟨by simp[e1],by simp[e2]⟩
      ·exact Or.inl (by simp[e1])
     have f0:wr.cell? ⟨vb,off+i*24,none⟩=some (.int .i64 o.kind):=fc 0 _ rfl;clear hUp hO hbel hS hk fc;rcases hq with rfl|⟨rfl,rfl⟩;all_goals
      go_wp2_with fail
      go_roundw
      case rel=>exact⟨rfl,i+1,by omega,by go_num,Aa HN⟩
      case measure=>simp[intOf];omega
  ·have HB:=Ab hUp.below;clear hUp;go_wp2;go_returns;exact⟨rfl,Aa HB⟩
end Go.Proofs.YtblomippkddgiaaGreatDoor
namespace Go.Proofs.YtblomippkddgiaaGreatDoor.V
open Go.RowKit
open Go.ChangeShapes Go.WideShapes Go.ChangeAt
open Go.ChangeMaps (open_string shut_string)
theorem Vq:∃f0 f1:Field,Tryz.prog.underlying 106=some (.struct #[f0,f1])/\f0.offset=0/\f1.offset=1/\f0.type=3/\f1.type=9:=⟨_,_,Tryz.underlying106,rfl,rfl,rfl,rfl⟩
theorem Uf{H:Type}{enc:TypeId×Value->H}{W:World}{v:Value}{d:DataW H}{p:List MemPlace}{a0:Option Addr}{n0 c0:Nat}(hv:v=.slice a0 n0 c0)(h:DataW.Trod enc Tryz.prog W 0 (fun _=>true) true 44 v d p):
  (v=.slice none 0 0)\/∃(ad:Addr) (cap:Nat) (l:List It) (es sp:List (DataW H)),v=.slice (some ad) l.length cap/\Items W v l/\d=.slice es sp/\es.length=l.length:=by
 subst hv;obtain⟨fuel,h⟩:=h;simp only[Value.cells]at h;obtain⟨f0,f1,hs,o0,o1,t0,t1⟩:=Vq;rcases Deep.open_slice_pairs Tryz.underlying44 hs (by kernel_rfl) o0 o1 (by rw[t0];kernel_rfl) (by rw[t1];kernel_rfl) h with ⟨h1,_⟩|⟨a,len,cap,m,n,V0,V1,D0,D1,P0,P1,h1,_,hl,hm,hmm,hx,hc⟩
 ·left;simpa using h1
 ·right;have hV:Value.slice a0 n0 c0=.slice (some a) len cap:=by simpa using h1
  rw[if_pos rfl]at hmm;have each:∀i,i<len->∃x:It,V0 i=.int .i64 x.1/\V1 i=.string x.2:=by
   intro i hi;obtain⟨_,_,g0,g1⟩:=hc i (by omega);rw[t0]at g0;rw[t1]at g1;obtain⟨k,e0,_⟩:=DataW.trod_int Tryz.underlying3 g0;obtain⟨S,e1,_⟩:=DataW.trod_string Tryz.underlying9 g1;exact⟨(k,S),by simpa using e0,by simpa using e1⟩
  obtain⟨X,hX⟩:∃X:Nat->It,∀i,i<len->V0 i=.int .i64 (X i).1/\V1 i=.string (X i).2:=by
   refine⟨fun i=>if h:i<len then Classical.choose (each i h) else (0,⟨#[]⟩),fun i hi=>?_⟩;simp only[dif_pos hi];exact Classical.choose_spec (each i hi)
  have hll:((List.range len).map X).length=len:=by simp
  simp only[Prod.mk.injEq]at hx;refine⟨a,cap,(List.range len).map X,_,_,by rw[hll];exact hV,?_,hx.1,by simp⟩;rw[hV];refine⟨some a,cap,by rw[hll],by rw[hll];exact hl,?_⟩;by_cases h0:len=0
  ·left;rw[h0];rfl
  ·right;obtain⟨c0',_,_,_⟩:=hc 0 (by omega);have hsp:a.spot=none:=by
    cases hsp:a.spot with
    |none=>rfl
    |some y=>
     simp only[World.cell?,Addr.add]at c0';split at c0'
     ·simp[hsp]at c0'
     ·cases c0'
   obtain⟨b,off,spt⟩:=a;simp only at hsp;subst hsp;refine⟨b,off,rfl,lt_of_cell (o:=off+0*2) (v:=V0 0) (by simpa [Addr.add] using c0'),fun j x hj=>?_⟩;have hjl:j<len:=by
    have:=(List.getElem?_eq_some_iff.1 hj).1;simpa using this
   have hxj:x=X j:=by
    rw[List.getElem?_map,List.getElem?_range hjl]at hj;simpa using hj.symm
   obtain⟨e0,e1,_,_⟩:=hc j (by omega);obtain⟨g0,g1⟩:=hX j hjl;rw[g0]at e0;rw[g1]at e1;have had:∀o,(⟨b,off,none⟩:Addr).add o=⟨b,off+o,none⟩:=fun o=>by simp[Addr.add]
   rw[had]at e0 e1;rw[hxj];exact⟨e0,e1⟩
theorem V4:Tryz.prog.bytesOf 106=24:=by kernel_rfl
end Go.Proofs.YtblomippkddgiaaGreatDoor.V
namespace Go.Proofs.YtblomippkddgiaaGreatDoor
open Go.ChangeShapes Go.WideShapes Go.ChangeAt Go.WideMaps Go.WideElems Go.RowKit
theorem Yk{k:Int}(hwf:(Lit.int .i64 k).wf=true):LA k:=by
 unfold LA;simp[Lit.wf]at hwf;have hmin:IntKind.i64.min=-9223372036854775808:=by decide
 rw[hmin]at hwf;exact hwf
theorem Z9:Tryz.prog.cellsOf 41=10:=by kernel_rfl
theorem Z8:Tryz.prog.cellsOf 26=5:=by kernel_rfl
theorem ZJ:Tryz.prog.cellsOf 72=24:=by kernel_rfl
theorem Z7:Tryz.prog.bytesOf 72=232:=by kernel_rfl
theorem X6(s:ByteArray):s=str s.data.toList:=by
 apply ByteArray.ext;simp
section
variable {H:Type} {enc:TypeId×Value->H} {W:World}
theorem Dx{q:Nat}{v:Value}{y:DataW H×List MemPlace}(h:DataW.trod enc Tryz.prog W 0 (fun _=>true) true q 3 [v]=some y):∃k,v=.int .i64 k/\LA k:=by
 obtain⟨k,e,_,hw⟩:=DataW.trod_int Tryz.underlying3 h;exact⟨k,by simpa using e,Yk hw⟩
theorem Vf{q:Nat}{v:Value}{y:DataW H×List MemPlace}(h:DataW.trod enc Tryz.prog W 0 (fun _=>true) true q 9 [v]=some y):∃s:List UInt8,v=.string (str s)/\y.1=.lit (.string s):=by
 obtain⟨s,e,hy,_⟩:=DataW.trod_string Tryz.underlying9 h;refine⟨s.data.toList,?_,by rw[hy]⟩;rw[<-X6 s];simpa using e
theorem YG{q:Nat}{v:Value}{y:DataW H×List MemPlace}(h:DataW.trod enc Tryz.prog W 0 (fun _=>true) true q 4 [v]=some y):∃b,v=.bool b:=by
 obtain⟨b,e,_⟩:=DataW.trod_bool Tryz.underlying4 h;exact⟨b,by simpa using e⟩
theorem Z6{q:Nat}{cs:List Value}{y:DataW H×List MemPlace}(h:DataW.trod enc Tryz.prog W 0 (fun _=>true) true q 41 cs=some y):∃P:Pk,cs=[.int .i64 P.kind,.int .i64 P.client,.int .i64 P.Ax,.int .i64 P.line,.int .i64 P.seq,.int .i64 P.uid,.int .i64 P.part,.int .i64 P.off,.bool P.please,.string (str P.body)]:=by
 obtain⟨xs,n,_,_,hl,hxl,hf⟩:=DataW.trod_struct Tryz.underlying41 h;rw[Z9]at hl;match cs,hl,xs,hxl,hf with
 |[v0,v1,v2,v3,v4,v5,v6,v7,v8,v9],_,[x0,x1,x2,x3,x4,x5,x6,x7,x8,x9],_,hf=>
  obtain⟨k0,rfl,_⟩:=Dx (show DataW.trod enc Tryz.prog W 0 (fun _=>true) true n 3 [v0]=some x0 from hf 0 _ rfl);obtain⟨k1,rfl,_⟩:=Dx (show DataW.trod enc Tryz.prog W 0 (fun _=>true) true n 3 [v1]=some x1 from hf 1 _ rfl);obtain⟨k2,rfl,_⟩:=Dx (show DataW.trod enc Tryz.prog W 0 (fun _=>true) true n 3 [v2]=some x2 from hf 2 _ rfl);obtain⟨k3,rfl,_⟩:=Dx (show DataW.trod enc Tryz.prog W 0 (fun _=>true) true n 3 [v3]=some x3 from hf 3 _ rfl);obtain⟨k4,rfl,_⟩:=Dx (show DataW.trod enc Tryz.prog W 0 (fun _=>true) true n 3 [v4]=some x4 from hf 4 _ rfl);obtain⟨k5,rfl,_⟩:=Dx (show DataW.trod enc Tryz.prog W 0 (fun _=>true) true n 3 [v5]=some x5 from hf 5 _ rfl);obtain⟨k6,rfl,_⟩:=Dx (show DataW.trod enc Tryz.prog W 0 (fun _=>true) true n 3 [v6]=some x6 from hf 6 _ rfl);obtain⟨k7,rfl,_⟩:=Dx (show DataW.trod enc Tryz.prog W 0 (fun _=>true) true n 3 [v7]=some x7 from hf 7 _ rfl);obtain⟨b8,rfl⟩:=YG (show DataW.trod enc Tryz.prog W 0 (fun _=>true) true n 4 [v8]=some x8 from hf 8 _ rfl);obtain⟨s9,rfl,_⟩:=Vf (show DataW.trod enc Tryz.prog W 0 (fun _=>true) true n 9 [v9]=some x9 from hf 9 _ rfl);exact⟨⟨k0,k1,k2,k3,k4,k5,k6,k7,b8,s9⟩,rfl⟩
theorem Z5{q:Nat}{cs:List Value}{y:DataW H×List MemPlace}(h:DataW.trod enc Tryz.prog W 0 (fun _=>true) true q 26 cs=some y):∃C:R.Cf,cs=[.int .i64 C.Ad,.int .i64 C.lines,.int .i64 C.Al,.int .i64 C.tries,.int .i64 C.table]:=by
 obtain⟨xs,n,_,_,hl,hxl,hf⟩:=DataW.trod_struct Tryz.underlying26 h;rw[Z8]at hl;match cs,hl,xs,hxl,hf with
 |[v0,v1,v2,v3,v4],_,[x0,x1,x2,x3,x4],_,hf=>
  obtain⟨k0,rfl,_⟩:=Dx (show DataW.trod enc Tryz.prog W 0 (fun _=>true) true n 3 [v0]=some x0 from hf 0 _ rfl);obtain⟨k1,rfl,_⟩:=Dx (show DataW.trod enc Tryz.prog W 0 (fun _=>true) true n 3 [v1]=some x1 from hf 1 _ rfl);obtain⟨k2,rfl,_⟩:=Dx (show DataW.trod enc Tryz.prog W 0 (fun _=>true) true n 3 [v2]=some x2 from hf 2 _ rfl);obtain⟨k3,rfl,_⟩:=Dx (show DataW.trod enc Tryz.prog W 0 (fun _=>true) true n 3 [v3]=some x3 from hf 3 _ rfl);obtain⟨k4,rfl,_⟩:=Dx (show DataW.trod enc Tryz.prog W 0 (fun _=>true) true n 3 [v4]=some x4 from hf 4 _ rfl);exact⟨⟨k0,k1,k2,k3,k4⟩,rfl⟩
theorem YH{q:Nat}{v:Value}{y:DataW H×List MemPlace}(h:DataW.trod enc Tryz.prog W 0 (fun _=>true) true q 44 [v]=some y)(hw:(DataW.weights Tryz.prog 44 y.1).all (·<=reachBytes)=true):∃l:List V.It,V.Items W v l/\l.length<=9000000000000:=by
 have hsl:∃a n c,v=.slice a n c:=by
  rcases Deep.open_slice Tryz.underlying44 h with ⟨h1,_⟩|⟨a,len,cap,m,n,D,Pl,h1,_⟩
  ·exact⟨_,_,_,by simpa using h1⟩
  ·exact⟨_,_,_,by simpa using h1⟩
 obtain⟨a,n,c,hv⟩:=hsl;have h':DataW.trod enc Tryz.prog W 0 (fun _=>true) true q 44 v.cells.toList=some (y.1,y.2):=by rw[hv];rw[hv]at h;exact h
 rcases V.Uf (d:=y.1) (p:=y.2) hv ⟨q,h'⟩ with e|⟨ad,cap',l,es,sp,hv',hI,hd,hel⟩
 ·exact⟨[],⟨none,0,by rw[e];rfl,Nat.le_refl _,Or.inl rfl⟩,by simp⟩
 ·refine⟨l,hI,?_⟩;rw[hd]at hw;have:=List.all_eq_true.1 hw ((es.length+sp.length)*Tryz.prog.bytesOf 106) (by simp[DataW.weights,Tryz.underlying44]);rw[V.V4,hel]at this;have hr:=reachBytes_lt;have h2:l.length*24<=(l.length+sp.length)*24:=Nat.mul_le_mul_right _ (by omega);simp at this;omega
theorem s_op{q:Nat}{cs:List Value}{y:DataW H×List MemPlace}(h:DataW.trod enc Tryz.prog W 0 (fun _=>true) true q 72 cs=some y)(hw:(DataW.weights Tryz.prog 72 y.1).all (·<=reachBytes)=true):∃(o:EM) (l:List V.It),cs=o.cells.toList/\o.s.length<=1000000000000000/\V.Items W o.L l/\l.length<=9000000000000/\LA o.c/\LA o.on:=by
 obtain⟨xs,n,_,hy,hl,hxl,hf⟩:=DataW.trod_struct Tryz.underlying72 h;rw[ZJ]at hl;match cs,hl,xs,hxl,hf,hy with
 |[v0,v1,v2,v3,v4,v5,v6,v7,v8,v9,v10,v11,v12,v13,v14,v15,v16,v17,v18,v19,v20,v21,v22,v23],_,[x0,x1,x2,x3,x4,x5,x6,x7,x8,x9,x10],_,hf,hy=>
  have hww:∀(j:Nat) (t:TypeId) (d:DataW H),([3,3,3,3,3,3,9,9,44,41,26]:List TypeId)[j]?=some t->([x0.1,x1.1,x2.1,x3.1,x4.1,x5.1,x6.1,x7.1,x8.1,x9.1,x10.1]:List (DataW H))[j]?=some d->(DataW.weights Tryz.prog t d).all (·<=reachBytes)=true:=fun j t d ht hd=>by
   rw[hy]at hw;simp only[DataW.weights,Tryz.underlying72]at hw;refine List.all_eq_true.2 fun z hz=>?_
   exact List.all_eq_true.1 hw z (DataW.weights_mem_each (ts:=[3,3,3,3,3,3,9,9,44,41,26]) ht hd z hz)
  obtain⟨k0,rfl,_⟩:=Dx (show DataW.trod enc Tryz.prog W 0 (fun _=>true) true n 3 [v0]=some x0 from hf 0 _ rfl);obtain⟨k1,rfl,i1⟩:=Dx (show DataW.trod enc Tryz.prog W 0 (fun _=>true) true n 3 [v1]=some x1 from hf 1 _ rfl);obtain⟨k2,rfl,_⟩:=Dx (show DataW.trod enc Tryz.prog W 0 (fun _=>true) true n 3 [v2]=some x2 from hf 2 _ rfl);obtain⟨k3,rfl,_⟩:=Dx (show DataW.trod enc Tryz.prog W 0 (fun _=>true) true n 3 [v3]=some x3 from hf 3 _ rfl);obtain⟨k4,rfl,i4⟩:=Dx (show DataW.trod enc Tryz.prog W 0 (fun _=>true) true n 3 [v4]=some x4 from hf 4 _ rfl);obtain⟨k5,rfl,_⟩:=Dx (show DataW.trod enc Tryz.prog W 0 (fun _=>true) true n 3 [v5]=some x5 from hf 5 _ rfl);obtain⟨s6,rfl,e6⟩:=Vf (show DataW.trod enc Tryz.prog W 0 (fun _=>true) true n 9 [v6]=some x6 from hf 6 _ rfl);obtain⟨s7,rfl,_⟩:=Vf (show DataW.trod enc Tryz.prog W 0 (fun _=>true) true n 9 [v7]=some x7 from hf 7 _ rfl);obtain⟨l,hI,hll⟩:=YH (show DataW.trod enc Tryz.prog W 0 (fun _=>true) true n 44 [v8]=some x8 from hf 8 _ rfl) (hww 8 44 x8.1 rfl rfl);obtain⟨P,hP⟩:=Z6 (show DataW.trod enc Tryz.prog W 0 (fun _=>true) true n 41 [v9,v10,v11,v12,v13,v14,v15,v16,v17,v18]=some x9 from hf 9 _ rfl);obtain⟨C,hC⟩:=Z5 (show DataW.trod enc Tryz.prog W 0 (fun _=>true) true n 26 [v19,v20,v21,v22,v23]=some x10 from hf 10 _ rfl);have h6:=hww 6 9 x6.1 rfl rfl;rw[e6]at h6;simp only[DataW.weights,List.all_cons,List.all_nil,Bool.and_true,decide_eq_true_eq]at h6;have hr:=reachBytes_lt;simp only[List.cons.injEq,and_true]at hP hC;obtain⟨rfl,rfl,rfl,rfl,rfl,rfl,rfl,rfl,rfl,rfl⟩:=hP;obtain⟨rfl,rfl,rfl,rfl,rfl⟩:=hC;exact⟨⟨k0,k1,k2,k3,k4,k5,s6,s7,v8,P,C⟩,l,rfl,show s6.length<=_ by omega,hI,hll,i4,i1⟩
theorem R6{v:Value}{d:DataW H}{p:List MemPlace}{a0:Option Addr}{n0 c0:Nat}(hv:v=.slice a0 n0 c0)(h:DataW.Trod enc Tryz.prog W 0 (fun _=>true) true 22 v d p)(hw:(DataW.weights Tryz.prog 22 d).all (·<=reachBytes)=true):Script W a0 n0/\n0<=800000000000:=by
 subst hv;obtain⟨fuel,h⟩:=h;simp only[Value.cells]at h;rcases Deep.open_slice Tryz.underlying22 h with ⟨h1,_⟩|⟨a,len,cap,m,n,D,Pl,h1,_,hl,hm,hmm,hx,hc⟩
 ·have:Value.slice a0 n0 c0=.slice none 0 0:=by simpa using h1
  cases this;exact⟨Or.inl rfl,Nat.zero_le _⟩
 ·have hV:Value.slice a0 n0 c0=.slice (some a) len cap:=by simpa using h1
  cases hV;rw[if_pos rfl]at hmm;have hd:d=.slice ((List.range n0).map D) ((List.range (m-n0)).map fun j=>D (n0+j)):=(Prod.mk.inj hx).1;rw[hd]at hw;simp only[DataW.weights,Tryz.underlying22,List.all_cons,Bool.and_eq_true,List.all_append]at hw;obtain⟨hw0,hw1,_⟩:=hw;have hwe:∀i,i<n0->(DataW.weights Tryz.prog 72 (D i)).all (·<=reachBytes)=true:=fun i hi=>by
   have gen:∀(l:List (DataW H)),(DataW.weightsAll Tryz.prog 72 l).all (·<=reachBytes)=true->∀x∈l,(DataW.weights Tryz.prog 72 x).all (·<=reachBytes)=true:=fun l=>by
    induction l with
    |nil=>intro _ x hx;cases hx
    |cons y l ih=>
     intro hl x hx;simp only[DataW.weightsAll,List.all_append,Bool.and_eq_true]at hl;rcases List.mem_cons.1 hx with rfl|hx
     ·exact hl.1
     ·exact ih hl.2 x hx
   exact gen _ hw1 (D i) (List.mem_map.2 ⟨i,by simpa using hi,rfl⟩)
  have hn:n0<=800000000000:=by
   have hr:=reachBytes_lt;rw[Z7]at hw0;simp at hw0;have h2:n0*232<=(n0+(m-n0))*232:=Nat.mul_le_mul_right _ (by omega);omega
  refine⟨?_,hn⟩;by_cases h0:n0=0
  ·exact Or.inl h0
  ·right;rw[ZJ]at hc;have each:∀i,i<n0->∃(o:EM) (l:List V.It),(∀j u,o.cells[j]?=some u->W.cell? (a.add (i*24+j))=some u)/\o.s.length<=1000000000000000/\V.Items W o.L l/\l.length<=9000000000000/\LA o.c/\LA o.on:=fun i hi=>by
    obtain⟨cs',g1,g2⟩:=hc i (by omega);obtain⟨_,hlen,hcell⟩:=World.cells?_some g1;obtain⟨o,l,e1,e2⟩:=s_op g2 (hwe i hi);refine⟨o,l,fun j u hj=>?_,e2⟩;have hj24:j<24:=(Array.getElem?_eq_some_iff.1 hj).1;have:=hcell j hj24;rw[Deep.add_add,e1]at this;rw[this];simpa using hj
   obtain⟨o0,_,c0',_⟩:=each 0 (by omega);have c00:=c0' 0 _ rfl;have hsp:a.spot=none:=by
    cases hsp:a.spot with
    |none=>rfl
    |some y=>
     simp only[World.cell?,Addr.add]at c00;split at c00
     ·simp[hsp]at c00
     ·cases c00
   obtain⟨b,off,spt⟩:=a;simp only at hsp;subst hsp;have had:∀o,(⟨b,off,none⟩:Addr).add o=⟨b,off+o,none⟩:=fun o=>by simp[Addr.add]
   rw[had]at c00;refine⟨b,off,rfl,V.lt_of_cell c00,fun i hi=>?_⟩;obtain⟨o,l,e1,e2,e3,e4,e5,e6⟩:=each i hi;refine⟨o,l,fun j u hj=>?_,e2,e3,e4,e5,e6⟩;have:=e1 j u hj;rw[had]at this;rw[Nat.add_assoc];exact this
end
end Go.Proofs.YtblomippkddgiaaGreatDoor
