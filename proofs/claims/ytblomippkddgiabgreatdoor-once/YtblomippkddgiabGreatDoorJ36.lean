import Derived.Test.YtblomippkddgiabGreatDoorJ35
set_option maxRecDepth 100000
set_option maxHeartbeats 4000000
namespace Go.Proofs.YtblomippkddgiabGreatDoor
open Go.RowKit
variable {cs:List Value}{b i j s:Nat}{o:Obj}{P:Pk}{W w:World}
def Boxed(w V:World)(o:Obj)(W:World):Prop:=Below w.heap.size V W/\W.heap[w.heap.size]?=some o
theorem aal{m:Nat}{v:Value}(hb:b<w.heap.size):Boxed w (w.setCell ⟨b,i,none⟩ v) o (((w.alloc o).drewN m).setCell ⟨b,i,none⟩ v):=by
 have e:((w.alloc o).drewN m).setCell ⟨b,i,none⟩ v=((w.setCell ⟨b,i,none⟩ v).alloc o).drewN m:=by
  rw[<-World.setCell_alloc_past o b i v hb];rfl
 rw[e];refine⟨below_drewN ((Below.refl _ _).alloc (by simp) _) _,?_⟩;have:=heap_alloc_new (w.setCell ⟨b,i,none⟩ v) o;simpa using this
theorem AQ{f:World->Prop}(P:World->Prop)(hP:P W)(h:∀W',P W'->f W'):f W:=h W hP
theorem Xz(w:World)(cb lb nl k:Nat)(n ac:Int)(P:Pk)(S:ByteArray)(A ab:World->Prop)(hk:k<nl)(hP:P.line=(k:Int))(b3:w.cell? ⟨cb,3,none⟩=some (.slice (some ⟨lb,0,none⟩) nl nl))(a5:w.cell? ⟨lb,k*10+5,none⟩=some (.string S))(a6:w.cell? ⟨lb,k*10+6,none⟩=some (.int .i64 ac))(z6:w.frozen? ⟨lb,k*10+6,none⟩=false)(an:0<=ac/\ac<=10)(ak:P.part=ac)
  (aa:Hid (∀w,Calls Tryz.prog 203 #[.string S] w fun e w'=>e=.returned (.int .i64 n)/\w'=w))
  (HS:Hid (ac+1<n->∀wa,Below w.heap.size (w.setCell ⟨lb,k*10+6,none⟩ (.int .i64 (ac+1))) wa->Calls Tryz.prog 150 #[ptr cb,.int .i64 (k:Int),.bool false] wa fun e w'=>e=.returned (.tuple #[])/\A w'))
  (HR:Hid (∀w',A w'->Calls Tryz.prog 149 #[ptr cb,.pointer (some ⟨lb,k*10,none⟩)] w' fun e am=>e=.returned (.tuple #[])/\ab am))
  (HN:Hid (¬ac+1<n->∀wa,Below w.heap.size (w.setCell ⟨lb,k*10+6,none⟩ (.int .i64 (ac+1))) wa->A wa)):
  Calls Tryz.prog 159 #[ptr cb,pv P] w fun e w'=>e=.returned (.tuple #[])/\ab w':=by
 obtain⟨kd,cl,li,ln,ah,u,pa,o,pl,body⟩:=P;dsimp only[pv]at *;subst hP ak;have ao:=lt_of_cell b3;have af:=lt_of_cell a6;have q1:(0:Int)<=(k:Int):=by omega
 have q2:(k:Int)<(nl:Int):=by omega
 have e1:(pa != pa)=false:=by simp
 have ew:IntKind.i64.wrap (pa+1)=pa+1:=by rw[IntKind.wrap_i64];omega
 generalize str body=SB at *;have ae:Hid (∀m,Boxed w (w.setCell ⟨lb,k*10+6,none⟩ (.int .i64 (pa+1))) (.cells #[.int .i64 kd,.int .i64 cl,.int .i64 li,.int .i64 (k:Int),.int .i64 ah,.int .i64 u,.int .i64 pa,.int .i64 o,.bool pl,.string SB] 82) (((w.alloc (.cells #[.int .i64 kd,.int .i64 cl,.int .i64 li,.int .i64 (k:Int),.int .i64 ah,.int .i64 u,.int .i64 pa,.int .i64 o,.bool pl,.string SB] 82)).drewN m).setCell ⟨lb,k*10+6,none⟩ (.int .i64 (pa+1)))):=fun m=>aal af
 have HF:Hid (∀W,Boxed w (w.setCell ⟨lb,k*10+6,none⟩ (.int .i64 (pa+1))) (.cells #[.int .i64 kd,.int .i64 cl,.int .i64 li,.int .i64 (k:Int),.int .i64 ah,.int .i64 u,.int .i64 pa,.int .i64 o,.bool pl,.string SB] 82) W->W.cell? ⟨lb,k*10+5,none⟩=some (.string S)/\W.cell? ⟨lb,k*10+6,none⟩=some (.int .i64 (pa+1))/\W.cell? ⟨w.heap.size,3,none⟩=some (.int .i64 (k:Int))/\Below w.heap.size (w.setCell ⟨lb,k*10+6,none⟩ (.int .i64 (pa+1))) W.drew):=fun W hW=>by
  refine⟨?_,?_,cell_of hW.2 3 _ rfl,hW.1.drew⟩
  ·have al:(⟨lb,k*10+6,none⟩:Addr)≠⟨lb,k*10+5,none⟩:=by simp
   exact((hW.1.cell (p:=⟨lb,k*10+5,none⟩) af).trans (World.cell?_setCell_other (h:=al) ..)).trans a5
  ·rw[hW.1.cell (p:=⟨lb,k*10+6,none⟩) af];exact World.cell?_setCell_same (h:=a6) ..
 by_cases ai:pa+1<n
 ·have HQ:=Ac ((Aa HS) ai);clear HS HN;go_enter Tryz.func159,Tryz.ntmps159;go_wp2_with fail
  go_quiet (fail);go_wp2_with fail
  go_quiet (fail);go_wp2_with fail
  refine AQ _ ((Aa ae) _) ?_;intro W hW;obtain⟨d5,d6,d3,hB⟩:=(Aa HF) W hW;have HB:=Ac hB;clear hW hB ae;go_region_held3 (fun w'=>w'.cell? ⟨lb,k*10+5,none⟩=some (.string S)/\w'.cell? ⟨lb,k*10+6,none⟩=some (.int .i64 (pa+1))/\w'.cell? ⟨w.heap.size,3,none⟩=some (.int .i64 (k:Int))) (go_keep) (first|(go_at_call 203;refine((Aa aa) _).mono ?_;rintro e w1 ⟨rfl,ad⟩;rw[ad];clear ad))
  go_wp2_with (first|(go_at_call 150;refine((Aa HQ) _ (Aa HB)).mono ?_;rintro e w3 ⟨rfl,aj⟩;have HC:=Ac ((Aa HR) w3 aj);clear aj)|(go_at_call 149;refine(Aa HC).mono ?_;rintro e w4 ⟨rfl,ag⟩))
  go_returns;exact⟨rfl,ag⟩
 ·have HQ:=Ac ((Aa HN) ai);clear HS HN;go_enter Tryz.func159,Tryz.ntmps159;go_wp2_with fail
  go_quiet (fail);go_wp2_with fail
  go_quiet (fail);go_wp2_with fail
  refine AQ _ ((Aa ae) _) ?_;intro W hW;obtain⟨d5,d6,d3,hB⟩:=(Aa HF) W hW;have HB:=Ac hB;clear hW hB ae;go_region_held3 (fun w'=>w'.cell? ⟨lb,k*10+5,none⟩=some (.string S)/\w'.cell? ⟨lb,k*10+6,none⟩=some (.int .i64 (pa+1))/\w'.cell? ⟨w.heap.size,3,none⟩=some (.int .i64 (k:Int))) (go_keep) (first|(go_at_call 203;refine((Aa aa) _).mono ?_;rintro e w1 ⟨rfl,ad⟩;rw[ad];clear ad))
  go_wp2_with (first|(go_at_call 149;refine((Aa HR) _ ((Aa HQ) _ (Aa HB))).mono ?_;rintro e w4 ⟨rfl,ag⟩))
  go_returns;exact⟨rfl,ag⟩
abbrev Jj(P:Pk):Obj:=.cells #[.int .i64 P.kind,.int .i64 P.client,.int .i64 P.Ae,.int .i64 P.line,.int .i64 P.seq,.int .i64 P.uid,.int .i64 P.part,.int .i64 P.off,.bool P.please,.string (str P.body)] 82
structure KW(W:World)(b:Nat)(P:Pk):Prop where
 g0:W.cell? ⟨b,0,none⟩=some (.int .i64 P.kind)
 g1:W.cell? ⟨b,1,none⟩=some (.int .i64 P.client)
 g2:W.cell? ⟨b,2,none⟩=some (.int .i64 P.Ae)
 g3:W.cell? ⟨b,3,none⟩=some (.int .i64 P.line)
 g4:W.cell? ⟨b,4,none⟩=some (.int .i64 P.seq)
 g5:W.cell? ⟨b,5,none⟩=some (.int .i64 P.uid)
 g6:W.cell? ⟨b,6,none⟩=some (.int .i64 P.part)
 g7:W.cell? ⟨b,7,none⟩=some (.int .i64 P.off)
 g8:W.cell? ⟨b,8,none⟩=some (.bool P.please)
 g9:W.cell? ⟨b,9,none⟩=some (.string (str P.body))
theorem Ml(h:W.heap[b]?=some (Jj P)):KW W b P:=⟨cell_of h 0 _ rfl,cell_of h 1 _ rfl,cell_of h 2 _ rfl,cell_of h 3 _ rfl,cell_of h 4 _ rfl,cell_of h 5 _ rfl,cell_of h 6 _ rfl,cell_of h 7 _ rfl,cell_of h 8 _ rfl,cell_of h 9 _ rfl⟩
theorem YP(w:World)(s:Nat)(L:Value)(hL:L=.pointer none\/∃b,L=pt b)(P:Pk)(aa:World->Prop)
  (HV:Hid (∀wa,Below w.heap.size w wa->Calls Tryz.prog 248 #[pt s,.int .i64 P.uid] wa fun e w'=>e=.returned (.bool false)/\w'=wa))
  (HQ:Hid (∀wa,Below w.heap.size w wa->Calls Tryz.prog 249 #[pt s,pv P,.int .i64 0] wa fun e w'=>e=.returned (.tuple #[])/\aa w')):
  Calls Tryz.prog 215 #[pt s,L,pv P] w fun e w'=>e=.returned (.tuple #[])/\aa w':=by
 have HB:Hid (∀o,Below w.heap.size w (w.alloc o)):=fun o=>(Below.refl _ _).alloc (Nat.le_refl _) _
 have ac:∃a,L=.pointer a:=by
  rcases hL with rfl|⟨b,rfl⟩
  ·exact⟨_,rfl⟩
  ·exact⟨_,rfl⟩
 obtain⟨a,rfl⟩:=ac;clear hL;go_enter Tryz.func215,Tryz.ntmps215;go_wp2_with (first|(go_at_call 248;refine((Aa HV) _ ((Aa HB) _)).mono ?_;rintro e w1 ⟨rfl,ab⟩;rw[ab];clear ab)|(go_at_call 249;refine((Aa HQ) _ ((Aa HB) _)).mono ?_;rintro e w3 ⟨rfl,ad⟩))
 go_returns;exact⟨rfl,ad⟩
theorem YR(w:World)(s:Nat)(L:Value)(hL:L=.pointer none\/∃b,L=pt b)(P:Pk)(aa:World->Prop)(hk:P.kind=3\/¬P.part=0)
  (HV:Hid (∀wa,Below w.heap.size w wa->Calls Tryz.prog 248 #[pt s,.int .i64 P.uid] wa fun e w'=>e=.returned (.bool true)/\w'=wa))
  (HQ:Hid (∀wa,Below w.heap.size w wa->aa wa)):
  Calls Tryz.prog 215 #[pt s,L,pv P] w fun e w'=>e=.returned (.tuple #[])/\aa w':=by
 have HB:Hid (∀o,Below w.heap.size w (w.alloc o)):=fun o=>(Below.refl _ _).alloc (Nat.le_refl _) _
 have ac:∃a,L=.pointer a:=by
  rcases hL with rfl|⟨b,rfl⟩
  ·exact⟨_,rfl⟩
  ·exact⟨_,rfl⟩
 obtain⟨a,rfl⟩:=ac;clear hL;by_cases h3:P.kind=3
 ·have e1:(P.kind==3)=true:=by simpa using h3
  clear h3 hk;go_enter Tryz.func215,Tryz.ntmps215;go_wp2_with (first|(go_at_call 248;refine((Aa HV) _ ((Aa HB) _)).mono ?_;rintro e w1 ⟨rfl,ab⟩;rw[ab];clear ab))
  go_returns;exact⟨rfl,(Aa HQ) _ ((Aa HB) _)⟩
 ·have e1:(P.kind==3)=false:=by simpa using h3
  have e2:(P.part != 0)=true:=by simp;omega
  clear h3 hk;go_enter Tryz.func215,Tryz.ntmps215;go_wp2_with (first|(go_at_call 248;refine((Aa HV) _ ((Aa HB) _)).mono ?_;rintro e w1 ⟨rfl,ab⟩;rw[ab];clear ab))
  go_returns;exact⟨rfl,(Aa HQ) _ ((Aa HB) _)⟩
theorem YQ(w:World)(s n:Nat)(tb:Int)(P:Pk)(aa:World->Prop)(s4:w.cell? ⟨s,4,none⟩=some (.int .i64 tb))(hn:(n:Int)=tb)(hk:¬P.kind=3)(ae:P.part=0)
  (HV:Hid (∀wa,Below w.heap.size w wa->Calls Tryz.prog 248 #[pt s,.int .i64 P.uid] wa fun e w'=>e=.returned (.bool true)/\w'=wa))
  (HM:Hid (∀wa,Below w.heap.size w wa->Calls Tryz.prog 99 #[pt s] wa fun e w'=>∃a cap,e=.returned (.slice a n cap)/\Below wa.heap.size wa w'))
  (HQ:Hid (∀wa,Below w.heap.size w wa->Calls Tryz.prog 249 #[pt s,pv P,.int .i64 1] wa fun e w'=>e=.returned (.tuple #[])/\aa w')):
  Calls Tryz.prog 215 #[pt s,.pointer none,pv P] w fun e w'=>e=.returned (.tuple #[])/\aa w':=by
 have HB:Hid (∀o,Below w.heap.size w (w.alloc o)):=fun o=>(Below.refl _ _).alloc (Nat.le_refl _) _
 have e1:(P.kind==3)=false:=by simpa using hk
 have e2:(P.part != 0)=false:=by simp;omega
 have e3:((n:Int)==tb)=true:=by simpa using hn
 have hl:=lt_of_cell s4;have HF:Hid (∀w1,Below (w.alloc (Jj P)).drew.heap.size (w.alloc (Jj P)).drew w1->Below w.heap.size w w1/\w1.cell? ⟨s,4,none⟩=some (.int .i64 tb)/\KW w1 w.heap.size P):=fun w1 h1=>by
  have hb:Below w.heap.size w w1:=((Aa HB) (Jj P)).drew.trans (h1.mono (by simp));refine⟨hb,(hb.cell (p:=⟨s,4,none⟩) hl).trans s4,Ml ?_⟩;rw[h1.block _ (by simp)];exact heap_alloc_new w _
 clear hn hk ae;go_enter Tryz.func215,Tryz.ntmps215;go_wp2_with (first|(go_at_call 248;refine((Aa HV) _ ((Aa HB) _)).mono ?_;rintro e w1 ⟨rfl,ab⟩;rw[ab];clear ab)|fail)
 go_region_held3 (fun w'=>w'.cell? ⟨s,4,none⟩=some (.int .i64 tb)) (go_keep) (first|(go_at_call 99;refine((Aa HM) _ ((Aa HB) _).drew).mono ?_;rintro e w1 ⟨a1,c1,rfl,ab⟩;have hf:=(Aa HF) w1 ab;obtain⟨ac,f4,⟨g0,g1,g2,g3,g4,g5,g6,g7,g8,g9⟩⟩:=hf;have ad:=Ac ac;clear ab ac))
 all_goals
  go_wp2_with (first|(go_at_call 249;refine((Aa HQ) _ (Aa ad)).mono ?_;rintro e w3 ⟨rfl,af⟩))
  go_returns;exact⟨rfl,af⟩
structure Made(w:World)(s:Nat)(cs:List Value)(i:Nat)(P:Pk)(b:Nat)(W:World):Prop where
 ge:w.heap.size<=b
 keep:Af (fun k=>k=s) w W
 cells:W.heap[s]?=some (.cells (cs.set (10+i) (pt b)).toArray 144 (0,0))
 line:W.heap[b]?=some (.cells #[.int .i64 P.client,.int .i64 P.Ae,.int .i64 P.line,.int .i64 P.seq,.int .i64 P.uid,.int .i64 0,.string ⟨#[]⟩,.string ⟨#[]⟩,.int .i64 0,.int .i64 0,.int .i64 0] 179 (0,0))
theorem YB(h:w.heap[s]?=some (.cells cs.toArray 144 (0,0)))(hb:Below w.heap.size w W)(hB:W.heap[w.heap.size]?=some o)(hj:j=10+i):Made w s cs i P W.heap.size ((W.alloc (.cells #[.int .i64 P.client,.int .i64 P.Ae,.int .i64 P.line,.int .i64 P.seq,.int .i64 P.uid,.int .i64 0,.string ⟨#[]⟩,.string ⟨#[]⟩,.int .i64 0,.int .i64 0,.int .i64 0] 179)).setCell ⟨s,j,none⟩ (pt W.heap.size))/\((W.alloc (.cells #[.int .i64 P.client,.int .i64 P.Ae,.int .i64 P.line,.int .i64 P.seq,.int .i64 P.uid,.int .i64 0,.string ⟨#[]⟩,.string ⟨#[]⟩,.int .i64 0,.int .i64 0,.int .i64 0] 179)).setCell ⟨s,j,none⟩ (pt W.heap.size)).heap[w.heap.size]?=some o:=by
 subst hj;have hl:=lt_of_block h;have hs:=hb.size;have aa:=(Array.getElem?_eq_some_iff.1 hB).1;have h1:W.heap[s]?=some (.cells cs.toArray 144 (0,0)):=by rw[hb.block s hl];exact h
 have h2:(W.alloc (.cells #[.int .i64 P.client,.int .i64 P.Ae,.int .i64 P.line,.int .i64 P.seq,.int .i64 P.uid,.int .i64 0,.string ⟨#[]⟩,.string ⟨#[]⟩,.int .i64 0,.int .i64 0,.int .i64 0] 179)).heap[s]?=some (.cells cs.toArray 144 (0,0)):=(Below.heap_alloc _ _ _ (by omega)).trans h1;refine⟨⟨hs,((Af.Al hb _).alloc _).trans (Ah _),Ai (cs:=cs) (off:=10+i) h2 _,?_⟩,?_⟩
 ·rw[Below.heap_setCell _ _ _ _ (by simp;omega)];exact heap_alloc_new W _
 ·rw[Below.heap_setCell _ _ _ _ (by simp;omega),Below.heap_alloc _ _ _ aa];exact hB
abbrev Lg(P:Pk):Obj:=.cells #[.int .i64 P.client,.int .i64 P.Ae,.int .i64 P.line,.int .i64 P.seq,.int .i64 P.uid,.int .i64 0,.string ⟨#[]⟩,.string ⟨#[]⟩,.int .i64 0,.int .i64 0,.int .i64 0] 179
def Qd(w:World)(s:Nat)(cs:List Value)(i:Nat)(P:Pk)(b:Nat)(V:World):Prop:=Made w s cs i P b V/\V.heap[w.heap.size]?=some (Jj P)
theorem QV(h:w.heap[s]?=some (.cells cs.toArray 144 (0,0)))(hW:Boxed w w (Jj P) W)(hj:j=10+i):Qd w s cs i P W.heap.size ((W.setCell ⟨s,j,none⟩ (pt W.heap.size)).alloc (Lg P)).drew:=by
 have hl:=lt_of_block h;have hs:=hW.1.size;have e:(W.alloc (Lg P)).setCell ⟨s,j,none⟩ (pt W.heap.size)=(W.setCell ⟨s,j,none⟩ (pt W.heap.size)).alloc (Lg P):=World.setCell_alloc_past (Lg P) s j _ (by omega);rw[<-e];obtain⟨⟨q1,q2,q3,q4⟩,q5⟩:=YB (P:=P) (i:=i) (j:=j) h hW.1 hW.2 hj;exact⟨⟨q1,q2.drew,q3,q4⟩,q5⟩
theorem YS(w:World)(s b ci ni:Nat)(cs:List Value)(P:Pk)(aa:World->Prop)(h:w.heap[s]?=some (.cells cs.toArray 144 (0,0)))(ad:Option Addr)(hold:cs[10+(3*ci+ni)]?=some (.pointer ad))(ag:P.client=(ci:Int))(ah:P.line=(ni:Int))(h3:ci<3)(al:ni<3)(hk:¬P.kind=3)(ai:P.part=0)
  (HV:Hid (∀wa,Below w.heap.size w wa->Calls Tryz.prog 248 #[pt s,.int .i64 P.uid] wa fun e w'=>e=.returned (.bool true)/\w'=wa))
  (HG:Hid (∀b' W,Made w s cs (3*ci+ni) P b' W->Calls Tryz.prog 251 #[pt s,pt b',pv P] W fun e w'=>e=.returned (.tuple #[])/\aa w')):
  Calls Tryz.prog 215 #[pt s,pt b,pv P] w fun e w'=>e=.returned (.tuple #[])/\aa w':=by
 have HB:Hid (∀o,Below w.heap.size w (w.alloc o)):=fun o=>(Below.refl _ _).alloc (Nat.le_refl _) _
 have HC:=Ac (fun w=>GN P w);have e1:(P.kind==3)=false:=by simpa using hk
 have e2:(P.part != 0)=false:=by simp;omega
 have hl:=lt_of_block h;have HF:Hid (∀m w1,Below ((w.alloc (Jj P)).drewN m).heap.size ((w.alloc (Jj P)).drewN m) w1->Boxed w w (Jj P) w1):=fun m w1 h1=>by
  refine⟨(below_drewN ((Aa HB) (Jj P)) m).trans (h1.mono (by simp)),?_⟩;rw[h1.block _ (by simp)];exact heap_alloc_new w _
 have HW:Hid (∀W,Boxed w w (Jj P) W->KW W w.heap.size P/\W.cell? ⟨s,10+ci*3+ni,none⟩=some (.pointer ad)/\W.frozen? ⟨s,10+ci*3+ni,none⟩=false/\s<W.heap.size/\w.heap.size<W.heap.size):=fun W hW=>by
  have h1:W.heap[s]?=some (.cells cs.toArray 144 (0,0)):=by rw[hW.1.block s hl];exact h
  have ab:cs[10+ci*3+ni]?=some (.pointer ad):=by rw[<-hold];congr 1;omega
  exact⟨Ml hW.2,AP h1 ab,open_list h1,lt_of_block h1,(Array.getElem?_eq_some_iff.1 hW.2).1⟩
 have ae:Hid (∀W,Boxed w w (Jj P) W->Qd w s cs (3*ci+ni) P W.heap.size ((W.setCell ⟨s,10+ci*3+ni,none⟩ (pt W.heap.size)).alloc (Lg P)).drew):=fun W hW=>QV h hW (by omega)
 have HN:Hid (∀b' V,Qd w s cs (3*ci+ni) P b' V->KW V w.heap.size P/\Calls Tryz.prog 251 #[pt s,pt b',pv P] V fun e w'=>e=.returned (.tuple #[])/\aa w'):=fun b' V hV=>⟨Ml hV.2,(Aa HG) b' V hV.1⟩
 clear HG h;obtain⟨kd,cl,li,ln,am,u,pa,o,pl,body⟩:=P;dsimp only[pv,cv,Jj,Lg]at *;subst ag ah;have q1:(0:Int)<=(ci:Int):=by omega
 have q2:(ci:Int)<3:=by omega
 have q3:(0:Int)<=(ni:Int):=by omega
 have q4:(ni:Int)<3:=by omega
 clear hk ai;go_enter Tryz.func215,Tryz.ntmps215;go_wp2_with (first|(go_at_call 248;refine((Aa HV) _ ((Aa HB) _)).mono ?_;rintro e w1 ⟨rfl,ac⟩;rw[ac];clear ac)|fail)
 go_quiet (fail);go_wp2_with (first|(go_at_call 250;refine((Aa HC) _).mono ?_;rintro e w1 ⟨rfl,ac⟩;have hW:=(Aa HF) _ w1 ac;have af:=Ac hW;have aj:=(Aa HW) w1 hW;obtain⟨⟨g0,g1,g2,g3,g4,g5,g6,g7,g8,g9⟩,f1,f2,f3,f4⟩:=aj;clear ac hW)|fail)
 go_region
 all_goals
  refine AQ _ ((Aa ae) w1 (Aa af)) ?_;intro V hV;have hn:=(Aa HN) _ V hV;obtain⟨⟨y0,y1,y2,y3,y4,y5,y6,y7,y8,y9⟩,hc⟩:=hn;have HQ:=Ac hc;clear hV hc;go_wp2_with (first|(go_at_call 251;refine(Aa HQ).mono ?_;rintro e w3 ⟨rfl,ak⟩))
  go_returns;exact⟨rfl,ak⟩
theorem YT(w:World)(s n ci ni:Nat)(tb:Int)(cs:List Value)(P:Pk)(aa:World->Prop)(h:w.heap[s]?=some (.cells cs.toArray 144 (0,0)))(ae:Option Addr)(hold:cs[10+(3*ci+ni)]?=some (.pointer ae))(ak:P.client=(ci:Int))(al:P.line=(ni:Int))(h3:ci<3)(ar:ni<3)(hk:¬P.kind=3)(am:P.part=0)(s4:w.cell? ⟨s,4,none⟩=some (.int .i64 tb))(hn:¬(n:Int)=tb)
  (HM:Hid (∀wa,Below w.heap.size w wa->Calls Tryz.prog 99 #[pt s] wa fun e w'=>∃a cap,e=.returned (.slice a n cap)/\Below wa.heap.size wa w'))
  (HV:Hid (∀wa,Below w.heap.size w wa->Calls Tryz.prog 248 #[pt s,.int .i64 P.uid] wa fun e w'=>e=.returned (.bool true)/\w'=wa))
  (HG:Hid (∀b' W,Made w s cs (3*ci+ni) P b' W->Calls Tryz.prog 251 #[pt s,pt b',pv P] W fun e w'=>e=.returned (.tuple #[])/\aa w')):
  Calls Tryz.prog 215 #[pt s,.pointer none,pv P] w fun e w'=>e=.returned (.tuple #[])/\aa w':=by
 have HB:Hid (∀o,Below w.heap.size w (w.alloc o)):=fun o=>(Below.refl _ _).alloc (Nat.le_refl _) _
 have HC:=Ac (fun w=>GN P w);have e1:(P.kind==3)=false:=by simpa using hk
 have e2:(P.part != 0)=false:=by simp;omega
 have e3:((n:Int)==tb)=false:=by simpa using hn
 have hl:=lt_of_block h;have HF:Hid (∀w1,Below (w.alloc (Jj P)).drew.heap.size (w.alloc (Jj P)).drew w1->Boxed w w (Jj P) w1):=fun w1 h1=>by
  refine⟨((Aa HB) (Jj P)).drew.trans (h1.mono (by simp)),?_⟩;rw[h1.block _ (by simp)];exact heap_alloc_new w _
 have ag:Hid (∀W w1,Boxed w w (Jj P) W->Below W.heap.size W w1->Boxed w w (Jj P) w1):=fun W w1 hW h1=>by
  refine⟨hW.1.trans (h1.mono hW.1.size),?_⟩;rw[h1.block _ (Array.getElem?_eq_some_iff.1 hW.2).1];exact hW.2
 have HW:Hid (∀W,Boxed w w (Jj P) W->KW W w.heap.size P/\W.cell? ⟨s,10+ci*3+ni,none⟩=some (.pointer ae)/\W.frozen? ⟨s,10+ci*3+ni,none⟩=false/\s<W.heap.size/\w.heap.size<W.heap.size):=fun W hW=>by
  have h1:W.heap[s]?=some (.cells cs.toArray 144 (0,0)):=by rw[hW.1.block s hl];exact h
  have ab:cs[10+ci*3+ni]?=some (.pointer ae):=by rw[<-hold];congr 1;omega
  exact⟨Ml hW.2,AP h1 ab,open_list h1,lt_of_block h1,(Array.getElem?_eq_some_iff.1 hW.2).1⟩
 have ah:Hid (∀W,Boxed w w (Jj P) W->Qd w s cs (3*ci+ni) P W.heap.size ((W.setCell ⟨s,10+ci*3+ni,none⟩ (pt W.heap.size)).alloc (Lg P)).drew):=fun W hW=>QV h hW (by omega)
 have HN:Hid (∀b' V,Qd w s cs (3*ci+ni) P b' V->KW V w.heap.size P/\Calls Tryz.prog 251 #[pt s,pt b',pv P] V fun e w'=>e=.returned (.tuple #[])/\aa w'):=fun b' V hV=>⟨Ml hV.2,(Aa HG) b' V hV.1⟩
 clear HG h;obtain⟨kd,cl,li,ln,au,u,pa,o,pl,body⟩:=P;dsimp only[pv,cv,Jj,Lg]at *;subst ak al;have q1:(0:Int)<=(ci:Int):=by omega
 have q2:(ci:Int)<3:=by omega
 have q3:(0:Int)<=(ni:Int):=by omega
 have q4:(ni:Int)<3:=by omega
 clear hk am hn;go_enter Tryz.func215,Tryz.ntmps215;go_wp2_with (first|(go_at_call 248;refine((Aa HV) _ ((Aa HB) _)).mono ?_;rintro e w1 ⟨rfl,ac⟩;rw[ac];clear ac)|fail)
 go_region_held3 (fun w'=>w'.cell? ⟨s,4,none⟩=some (.int .i64 tb)) (go_keep) (first|(go_at_call 99;refine((Aa HM) _ ((Aa HB) _).drew).mono ?_;rintro e w0 ⟨a1,c1,rfl,af⟩;have ad:=(Aa HF) w0 af;have ai:=Ac ad;have ap:=(Aa HW) w0 ad;obtain⟨⟨u0,u1,u2,u3,u4,u5,u6,u7,u8,u9⟩,v1,v2,v3,v4⟩:=ap;have aq:w0.cell? ⟨s,4,none⟩=some (.int .i64 tb):=(ad.1.cell (p:=⟨s,4,none⟩) hl).trans s4;clear af ad))
 all_goals
  go_wp2_with (first|(go_at_call 250;refine((Aa HC) _).mono ?_;rintro e w1 ⟨rfl,ac⟩;have hW:=(Aa ag) _ w1 (Aa ai) ac;have aj:=Ac hW;have an:=(Aa HW) w1 hW;obtain⟨⟨g0,g1,g2,g3,g4,g5,g6,g7,g8,g9⟩,f1,f2,f3,f4⟩:=an;clear ac hW)|fail)
  go_region
  all_goals
   refine AQ _ ((Aa ah) w1 (Aa aj)) ?_;intro V hV;have hn:=(Aa HN) _ V hV;obtain⟨⟨y0,y1,y2,y3,y4,y5,y6,y7,y8,y9⟩,hc⟩:=hn;have HQ:=Ac hc;clear hV hc;go_wp2_with (first|(go_at_call 251;refine(Aa HQ).mono ?_;rintro e w3 ⟨rfl,ao⟩))
   go_returns;exact⟨rfl,ao⟩
theorem ZM(w:World)(s:Nat)(P:Pk):
  Calls Tryz.prog 156 #[pt s,.pointer none,pv P] w fun e w'=>e=.returned (.tuple #[])/\Below w.heap.size w w':=by
 have HB:Hid (∀o,Below w.heap.size w (w.alloc o)):=fun o=>(Below.refl _ _).alloc (Nat.le_refl _) _
 go_enter Tryz.func156,Tryz.ntmps156;go_wp2_with fail
 go_quiet (fail);go_wp2;go_returns;exact⟨rfl,below_drewN ((Aa HB) _) _⟩
theorem abt(w:World)(s b:Nat)(sq st:Int)(P:Pk)(h3:w.cell? ⟨b,3,none⟩=some (.int .i64 sq))(h5:w.cell? ⟨b,5,none⟩=some (.int .i64 st))(hn:¬sq=P.seq\/¬st=2):
  Calls Tryz.prog 156 #[pt s,pt b,pv P] w fun e w'=>e=.returned (.tuple #[])/\Below w.heap.size w w':=by
 have HB:Hid (∀o,Below w.heap.size w (w.alloc o)):=fun o=>(Below.refl _ _).alloc (Nat.le_refl _) _
 have hl:=lt_of_cell h3;by_cases h:sq=P.seq
 ·have e1:(sq != P.seq)=false:=by simpa using h
  have e2:(st != 2)=true:=by simp;omega
  clear hn h;go_enter Tryz.func156,Tryz.ntmps156;go_wp2_with fail
  go_quiet (fail);go_wp2;go_returns;exact⟨rfl,below_drewN ((Aa HB) _) _⟩
 ·have e1:(sq != P.seq)=true:=by simpa using h
  clear hn h;go_enter Tryz.func156,Tryz.ntmps156;go_wp2_with fail
  go_quiet (fail);go_wp2;go_returns;exact⟨rfl,below_drewN ((Aa HB) _) _⟩
theorem WW(w:World)(s b:Nat)(n at':Int)(S:ByteArray)(ac:Bool)(P:Pk)(ae:World->Prop)(h3:w.cell? ⟨b,3,none⟩=some (.int .i64 P.seq))(h5:w.cell? ⟨b,5,none⟩=some (.int .i64 2))(h7:w.cell? ⟨b,7,none⟩=some (.string S))(h8:w.cell? ⟨b,8,none⟩=some (.int .i64 at'))(z8:w.frozen? ⟨b,8,none⟩=false)(ak:0<=at'/\at'<=100)
  (ab:Hid (∀w,Calls Tryz.prog 203 #[.string S] w fun e w'=>e=.returned (.int .i64 n)/\w'=w))
  (af:Hid (∀wa,Below w.heap.size w wa->Calls Tryz.prog 214 #[pt b] wa fun e w'=>e=.returned (.bool ac)/\w'=wa.drew))
  (HN:Hid (¬P.off=n\/¬P.part=at'\/ac=true->∀wa,Below w.heap.size w wa->ae wa))
  (HQ:Hid (P.off=n->P.part=at'->ac=false->∀wa,Below w.heap.size (w.setCell ⟨b,8,none⟩ (.int .i64 (at'+1))) wa->Calls Tryz.prog 166 #[pt s,pt b] wa fun e w'=>e=.returned (.tuple #[])/\ae w')):
  Calls Tryz.prog 156 #[pt s,pt b,pv P] w fun e w'=>e=.returned (.tuple #[])/\ae w':=by
 have HB:Hid (∀o,Below w.heap.size w (w.alloc o)):=fun o=>(Below.refl _ _).alloc (Nat.le_refl _) _
 have hl:=lt_of_cell h3;have e1:(P.seq != P.seq)=false:=by simp
 have ew:IntKind.i64.wrap (at'+1)=at'+1:=by rw[IntKind.wrap_i64];omega
 have HF:Hid (∀m,Boxed w w (Jj P) ((w.alloc (Jj P)).drewN m)):=fun m=>⟨below_drewN ((Aa HB) _) m,heap_alloc_new w _⟩
 have HC:Hid (∀W,Boxed w w (Jj P) W->W.cell? ⟨b,7,none⟩=some (.string S)/\W.cell? ⟨b,8,none⟩=some (.int .i64 at')/\W.frozen? ⟨b,8,none⟩=false/\KW W w.heap.size P/\b<W.heap.size/\(∀V,Below w.heap.size w V->True)):=fun W hW=>⟨(hW.1.cell (p:=⟨b,7,none⟩) hl).trans h7,(hW.1.cell (p:=⟨b,8,none⟩) hl).trans h8,(hW.1.frozen (p:=⟨b,8,none⟩) hl).trans z8,Ml hW.2,Nat.lt_of_lt_of_le hl hW.1.size,fun _ _=>trivial⟩
 have HT:Hid (∀W,Boxed w w (Jj P) W->Below w.heap.size (w.setCell ⟨b,8,none⟩ (.int .i64 (at'+1))) (W.setCell ⟨b,8,none⟩ (.int .i64 (at'+1))).drew.drew):=fun W hW=>by
  refine⟨hW.1.os,hW.1.tape,hW.1.output,by simpa using hW.1.size,fun j hj=>?_⟩;by_cases e:j=b
  ·subst e;show (W.setCell ⟨j,8,none⟩ (.int .i64 (at'+1))).heap[j]?=_;simp only[World.setCell,Array.getElem?_modify,if_true];rw[hW.1.block j hj]
  ·show (W.setCell ⟨b,8,none⟩ (.int .i64 (at'+1))).heap[j]?=_;rw[Below.heap_setCell _ _ _ _ e,Below.heap_setCell _ _ _ _ e];exact hW.1.block j hj
 obtain⟨kd,cl,li,ln,al,u,pa,o,pl,body⟩:=P;dsimp only[pv,cv,Jj]at *;by_cases h1:o=n
 ·have n1:(o != n)=false:=by simpa using h1
  by_cases h2:pa=at'
  ·have n2:(pa != at')=false:=by simpa using h2
   cases ac with
   |true=>
    have ad:=Ac ((Aa HN) (Or.inr (Or.inr rfl)));clear HN HQ h1 h2;go_enter Tryz.func156,Tryz.ntmps156;go_wp2_with fail
    go_quiet (fail);go_wp2_with fail
    refine AQ _ ((Aa HF) _) ?_;intro W hW;obtain⟨d7,d8,y8,⟨g0,g1,g2,g3,g4,g5,g6,g7,g8,g9⟩,ah,_⟩:=(Aa HC) W hW;have HD:=Ac ((Aa af) W.drew hW.1.drew);have ag:=Ac hW.1.drew.drew;clear hW HF HC HT;go_region_held3 (fun w'=>w'.cell? ⟨b,7,none⟩=some (.string S)/\w'.cell? ⟨b,8,none⟩=some (.int .i64 at')/\w'.cell? ⟨w.heap.size,6,none⟩=some (.int .i64 pa)/\w'.cell? ⟨w.heap.size,7,none⟩=some (.int .i64 o)) (go_keep) (first|(go_at_call 203;refine((Aa ab) _).mono ?_;rintro e w1 ⟨rfl,aa⟩;rw[aa];clear aa)|(go_at_call 214;refine(Aa HD).mono ?_;rintro e w1 ⟨rfl,aa⟩;rw[aa];clear aa))
    all_goals
     go_wp2;go_returns;exact⟨rfl,(Aa ad) _ (Aa ag)⟩
   |false=>
    have ad:=Ac ((Aa HQ) h1 h2 rfl);clear HN HQ h1 h2;go_enter Tryz.func156,Tryz.ntmps156;go_wp2_with fail
    go_quiet (fail);go_wp2_with fail
    refine AQ _ ((Aa HF) _) ?_;intro W hW;obtain⟨d7,d8,y8,⟨g0,g1,g2,g3,g4,g5,g6,g7,g8,g9⟩,ah,_⟩:=(Aa HC) W hW;have HD:=Ac ((Aa af) W.drew hW.1.drew);have ai:=Ac ((Aa HT) W hW);clear hW HF HC HT;go_region_held3 (fun w'=>w'.cell? ⟨b,7,none⟩=some (.string S)/\w'.cell? ⟨b,8,none⟩=some (.int .i64 at')/\w'.cell? ⟨w.heap.size,6,none⟩=some (.int .i64 pa)/\w'.cell? ⟨w.heap.size,7,none⟩=some (.int .i64 o)) (go_keep) (first|(go_at_call 203;refine((Aa ab) _).mono ?_;rintro e w1 ⟨rfl,aa⟩;rw[aa];clear aa)|(go_at_call 214;refine(Aa HD).mono ?_;rintro e w1 ⟨rfl,aa⟩;rw[aa];clear aa))
    all_goals
     go_wp2_with (first|(go_at_call 166;refine((Aa ad) _ (Aa ai)).mono ?_;rintro e w3 ⟨rfl,aj⟩))
     go_returns;exact⟨rfl,aj⟩
  ·have n2:(pa != at')=true:=by simpa using h2
   have ad:=Ac ((Aa HN) (Or.inr (Or.inl h2)));clear HN HQ h1 h2;go_enter Tryz.func156,Tryz.ntmps156;go_wp2_with fail
   go_quiet (fail);go_wp2_with fail
   refine AQ _ ((Aa HF) _) ?_;intro W hW;obtain⟨d7,d8,y8,⟨g0,g1,g2,g3,g4,g5,g6,g7,g8,g9⟩,ah,_⟩:=(Aa HC) W hW;have ag:=Ac hW.1;clear hW HF HC HT;go_quiet (first|(go_at_call 203;refine Calls.quiet_of_same ((Aa ab) _)));all_goals
    go_wp2;go_returns;exact⟨rfl,(Aa ad) _ (below_drewN (Aa ag) _)⟩
 ·have n1:(o != n)=true:=by simpa using h1
  have ad:=Ac ((Aa HN) (Or.inl h1));clear HN HQ h1;go_enter Tryz.func156,Tryz.ntmps156;go_wp2_with fail
  go_quiet (fail);go_wp2_with fail
  refine AQ _ ((Aa HF) _) ?_;intro W hW;obtain⟨d7,d8,y8,⟨g0,g1,g2,g3,g4,g5,g6,g7,g8,g9⟩,ah,_⟩:=(Aa HC) W hW;have ag:=Ac hW.1;clear hW HF HC HT;go_quiet (first|(go_at_call 203;refine Calls.quiet_of_same ((Aa ab) _)));all_goals
   go_wp2;go_returns;exact⟨rfl,(Aa ad) _ (below_drewN (Aa ag) _)⟩
theorem W9(w:World)(s ci:Nat)(lv:Int)(P:Pk)(h7:w.cell? ⟨s,7+ci,none⟩=some (.int .i64 lv))(aa:P.client=(ci:Int))(h3:ci<3)(ab:P.Ae<lv):
  Calls Tryz.prog 93 #[pt s,pv P] w fun e w'=>e=.returned (.tuple #[])/\Below w.heap.size w w':=by
 have HB:Hid (∀o,Below w.heap.size w (w.alloc o)):=fun o=>(Below.refl _ _).alloc (Nat.le_refl _) _
 have hl:=lt_of_cell h7;obtain⟨kd,cl,li,ln,ac,u,pa,o,pl,body⟩:=P;dsimp only[pv]at *;subst aa;have q1:(0:Int)<=(ci:Int):=by omega
 have q2:(ci:Int)<3:=by omega
 have e1:decide (li<lv)=true:=by simpa using ab
 go_enter Tryz.func93,Tryz.ntmps93;go_wp2_with fail
 go_quiet (fail);go_wp2;go_returns;exact⟨rfl,below_drewN ((Aa HB) _) _⟩
theorem Uh(w:World)(s ci ni:Nat)(ac:Option Addr)(P:Pk)(aa:World->Prop)(h7:w.cell? ⟨s,7+ci,none⟩=some (.int .i64 P.Ae))(af:w.cell? ⟨s,10+ci*3+ni,none⟩=some (.pointer ac))(ad:P.client=(ci:Int))(ae:P.line=(ni:Int))(h3:ci<3)(ag:ni<3)
  (HG:Hid (P.kind=6->∀wa,Below w.heap.size w wa->Calls Tryz.prog 156 #[pt s,.pointer ac,pv P] wa fun e w'=>e=.returned (.tuple #[])/\aa w'))
  (HA:Hid (P.kind=1\/P.kind=3->∀wa,Below w.heap.size w wa->Calls Tryz.prog 157 #[pt s,.pointer ac,pv P] wa fun e w'=>e=.returned (.tuple #[])/\aa w'))
  (HN:Hid (¬(P.kind=6\/P.kind=1\/P.kind=3)->∀wa,Below w.heap.size w wa->aa wa)):
  Calls Tryz.prog 93 #[pt s,pv P] w fun e w'=>e=.returned (.tuple #[])/\aa w':=by
 have HB:Hid (∀o n,Below w.heap.size w ((w.alloc o).drewN n)):=fun o n=>below_drewN ((Below.refl _ _).alloc (Nat.le_refl _) _) n
 have hl:=lt_of_cell h7;obtain⟨kd,cl,li,ln,ah,u,pa,o,pl,body⟩:=P;dsimp only[pv]at *;subst ad ae;have q1:(0:Int)<=(ci:Int):=by omega
 have q2:(ci:Int)<3:=by omega
 have q3:(0:Int)<=(ni:Int):=by omega
 have q4:(ni:Int)<3:=by omega
 have e1:decide (li<li)=false:=by simp
 by_cases k6:kd=6
 ·have HQ:=Ac ((Aa HG) k6);subst k6;clear HG HA HN;go_enter Tryz.func93,Tryz.ntmps93;go_wp2_with fail
  go_quiet (fail);go_wp2_with fail
  go_quiet (fail);go_wp2_with fail
  go_quiet (fail);go_wp2_with (first|(go_at_call 156;refine((Aa HQ) _ ((Aa HB) _ _)).mono ?_;rintro e w3 ⟨rfl,ab⟩))
  go_returns;exact⟨rfl,ab⟩
 ·have n6:(kd==6)=false:=by simpa using k6
  by_cases k1:kd=1
  ·have HQ:=Ac ((Aa HA) (Or.inl k1));subst k1;clear HG HA HN k6;go_enter Tryz.func93,Tryz.ntmps93;go_wp2_with fail
   go_quiet (fail);go_wp2_with fail
   go_quiet (fail);go_wp2_with fail
   go_quiet (fail);go_wp2_with (first|(go_at_call 157;refine((Aa HQ) _ ((Aa HB) _ _)).mono ?_;rintro e w3 ⟨rfl,ab⟩))
   go_returns;exact⟨rfl,ab⟩
  ·have n1:(kd==1)=false:=by simpa using k1
   by_cases k3:kd=3
   ·have HQ:=Ac ((Aa HA) (Or.inr k3));subst k3;clear HG HA HN k6 k1;go_enter Tryz.func93,Tryz.ntmps93;go_wp2_with fail
    go_quiet (fail);go_wp2_with fail
    go_quiet (fail);go_wp2_with fail
    go_quiet (fail);go_wp2_with (first|(go_at_call 157;refine((Aa HQ) _ ((Aa HB) _ _)).mono ?_;rintro e w3 ⟨rfl,ab⟩))
    go_returns;exact⟨rfl,ab⟩
   ·have n3:(kd==3)=false:=by simpa using k3
    have HQ:=Ac ((Aa HN) (by omega));clear HG HA HN k6 k1 k3;go_enter Tryz.func93,Tryz.ntmps93;go_wp2_with fail
    go_quiet (fail);go_wp2_with fail
    go_quiet (fail);go_wp2_with fail
    go_quiet (fail);go_wp2;go_returns;exact⟨rfl,(Aa HQ) _ ((Aa HB) _ _)⟩
end Go.Proofs.YtblomippkddgiabGreatDoor
