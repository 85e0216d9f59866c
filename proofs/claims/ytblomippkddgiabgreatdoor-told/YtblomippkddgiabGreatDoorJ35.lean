import Derived.Test.YtblomippkddgiabGreatDoorJ34
set_option maxRecDepth 100000
set_option maxHeartbeats 4000000
namespace Go.Proofs.YtblomippkddgiabGreatDoor
open Go.RowKit
variable {Ae:Int}{ci s:Nat}{w:World}
abbrev Lg(P:Pk):Obj:=.cells #[.int .i64 P.client,.int .i64 P.Ae,.int .i64 P.line,.int .i64 P.seq,.int .i64 P.uid,.int .i64 0,.string ⟨#[]⟩,.string ⟨#[]⟩,.int .i64 0,.int .i64 0,.int .i64 0] 179
def Qd(w:World)(s:Nat)(cs:List Value)(i:Nat)(P:Pk)(b:Nat)(V:World):Prop:=Made w s cs i P b V/\V.heap[w.heap.size]?=some (Jj P)
theorem QV{W:World}{cs:List Value}{P:Pk}{i j:Nat}(h:w.heap[s]?=some (.cells cs.toArray 144 (0,0)))(hW:Boxed w w (Jj P) W)(hj:j=10+i):Qd w s cs i P W.heap.size ((W.setCell ⟨s,j,none⟩ (pt W.heap.size)).alloc (Lg P)).drew:=by
 have hl:=lt_of_block h;have hs:=hW.1.size;have e:(W.alloc (Lg P)).setCell ⟨s,j,none⟩ (pt W.heap.size)=(W.setCell ⟨s,j,none⟩ (pt W.heap.size)).alloc (Lg P):=World.setCell_alloc_past (Lg P) s j _ (by omega);rw[<-e];obtain⟨⟨q1,q2,q3,q4⟩,q5⟩:=YB (P:=P) (i:=i) (j:=j) h hW.1 hW.2 hj;exact⟨⟨q1,q2.drew,q3,q4⟩,q5⟩
theorem YS(w:World)(s b ci ni:Nat)(cs:List Value)(P:Pk)(aa:World->Prop)(h:w.heap[s]?=some (.cells cs.toArray 144 (0,0)))(ad:Option Addr)(hold:cs[10+(3*ci+ni)]?=some (.pointer ad))(ag:P.client=(ci:Int))(ah:P.line=(ni:Int))(h3:ci<3)(al:ni<3)(hk:¬P.kind=3)(ai:P.part=0)
  (HV:Hid (∀wa,Below w.heap.size w wa->Calls Tryz.prog 248 #[pt s,.int .i64 P.uid] wa fun e w'=>e=.returned (.bool true)/\w'=wa))
  (HG:Hid (∀b' W,Made w s cs (3*ci+ni) P b' W->Calls Tryz.prog 251 #[pt s,pt b',pv P] W fun e w'=>e=.returned (.tuple #[])/\aa w')):
  Calls Tryz.prog 215 #[pt s,pt b,pv P] w fun e w'=>e=.returned (.tuple #[])/\aa w':=by
 have HB:Hid (∀o,Below w.heap.size w (w.alloc o)):=fun o=>(Below.refl _ _).alloc (afI _) _
 have HC:=Ac (fun w=>GN P w);have e1:(P.kind==3)=false:=by simpa using hk
 have e2:(P.part != 0)=false:=by simp;omega
 have hl:=lt_of_block h;have HF:Hid (∀m w1,Below ((w.alloc (Jj P)).drewN m).heap.size ((w.alloc (Jj P)).drewN m) w1->Boxed w w (Jj P) w1):=fun m w1 h1=>by
  refine⟨(below_drewN ((Aa HB) (Jj P)) m).trans (h1.mono (by simp)),?_⟩;rw[h1.block _ (by simp)];exact heap_alloc_new w _
 have HW:Hid (∀W,Boxed w w (Jj P) W->KW W w.heap.size P/\W.cell? ⟨s,10+ci*3+ni,none⟩=some (.pointer ad)/\W.frozen? ⟨s,10+ci*3+ni,none⟩=false/\s<W.heap.size/\w.heap.size<W.heap.size):=fun W hW=>by
  have h1:W.heap[s]?=some (.cells cs.toArray 144 (0,0)):=by rw[hW.1.block s hl];exact h
  have ab:cs[10+ci*3+ni]?=some (.pointer ad):=by rw[<-hold];congr 1;omega
  exact⟨Ml hW.2,AP h1 ab,open_list h1,lt_of_block h1,(afR.1 hW.2).1⟩
 have ae:Hid (∀W,Boxed w w (Jj P) W->Qd w s cs (3*ci+ni) P W.heap.size ((W.setCell ⟨s,10+ci*3+ni,none⟩ (pt W.heap.size)).alloc (Lg P)).drew):=fun W hW=>QV h hW (by omega)
 have HN:Hid (∀b' V,Qd w s cs (3*ci+ni) P b' V->KW V w.heap.size P/\Calls Tryz.prog 251 #[pt s,pt b',pv P] V fun e w'=>e=.returned (.tuple #[])/\aa w'):=fun b' V hV=>⟨Ml hV.2,(Aa HG) b' V hV.1⟩
 clear HG h;obtain⟨kd,cl,li,ln,am,u,pa,o,pl,body⟩:=P;dsimp only[pv,cv,Jj,Lg]at *;subst ag ah;have q1:(0:Int)<=(ci:Int):=by omega
 have q2:(ci:Int)<3:=by omega
 have q3:(0:Int)<=(ni:Int):=by omega
 have q4:(ni:Int)<3:=by omega
 clear hk ai;go_enter Tryz.func215,Tryz.ntmps215;go_wp2_with (first|(go_at_call 248;refine((Aa HV) _ ((Aa HB) _)).mono ?_;rintro e w1 ⟨rfl,ac⟩;rw[ac];clear ac)|fail)
 go_quiet (fail);go_wp2_with (first|(go_at_call 250;refine((Aa HC) _).mono ?_;rintro e w1 ⟨rfl,ac⟩;have hW:=(Aa HF) _ w1 ac;have af:=Ac hW;have aj:=(Aa HW) w1 hW;obtain⟨⟨g0,g1,g2,g3,g4,g5,g6,g7,g8,g9⟩,f1,f2,f3,f4⟩:=aj;clear ac hW)|fail)
 go_region
 all_goals
  refine AQ _ ((Aa ae) w1 (Aa af)) ?_;intro V hV;have hn:=(Aa HN) _ V hV;obtain⟨⟨y0,y1,y2,y3,y4,y5,y6,y7,y8,y9⟩,hc⟩:=hn;have HQ:=Ac hc;clear hV hc;go_wp2_with (first|(go_at_call 251;refine(Aa HQ).mono ?_;rintro e w3 ⟨rfl,ak⟩))
  go_returns;exact⟨rfl,ak⟩
theorem YT(w:World)(s n ci ni:Nat)(tb:Int)(cs:List Value)(P:Pk)(aa:World->Prop)(h:w.heap[s]?=some (.cells cs.toArray 144 (0,0)))(ae:Option Addr)(hold:cs[10+(3*ci+ni)]?=some (.pointer ae))(ak:P.client=(ci:Int))(al:P.line=(ni:Int))(h3:ci<3)(ar:ni<3)(hk:¬P.kind=3)(am:P.part=0)(s4:w.cell? ⟨s,4,none⟩=some (.int .i64 tb))(hn:¬(n:Int)=tb)
  (HM:Hid (∀wa,Below w.heap.size w wa->Calls Tryz.prog 99 #[pt s] wa fun e w'=>∃a cap,e=.returned (.slice a n cap)/\Below wa.heap.size wa w'))
  (HV:Hid (∀wa,Below w.heap.size w wa->Calls Tryz.prog 248 #[pt s,.int .i64 P.uid] wa fun e w'=>e=.returned (.bool true)/\w'=wa))
  (HG:Hid (∀b' W,Made w s cs (3*ci+ni) P b' W->Calls Tryz.prog 251 #[pt s,pt b',pv P] W fun e w'=>e=.returned (.tuple #[])/\aa w')):
  Calls Tryz.prog 215 #[pt s,.pointer none,pv P] w fun e w'=>e=.returned (.tuple #[])/\aa w':=by
 have HB:Hid (∀o,Below w.heap.size w (w.alloc o)):=fun o=>(Below.refl _ _).alloc (afI _) _
 have HC:=Ac (fun w=>GN P w);have e1:(P.kind==3)=false:=by simpa using hk
 have e2:(P.part != 0)=false:=by simp;omega
 have e3:((n:Int)==tb)=false:=by simpa using hn
 have hl:=lt_of_block h;have HF:Hid (∀w1,Below (w.alloc (Jj P)).drew.heap.size (w.alloc (Jj P)).drew w1->Boxed w w (Jj P) w1):=fun w1 h1=>by
  refine⟨((Aa HB) (Jj P)).drew.trans (h1.mono (by simp)),?_⟩;rw[h1.block _ (by simp)];exact heap_alloc_new w _
 have ag:Hid (∀W w1,Boxed w w (Jj P) W->Below W.heap.size W w1->Boxed w w (Jj P) w1):=fun W w1 hW h1=>by
  refine⟨hW.1.trans (h1.mono hW.1.size),?_⟩;rw[h1.block _ (afR.1 hW.2).1];exact hW.2
 have HW:Hid (∀W,Boxed w w (Jj P) W->KW W w.heap.size P/\W.cell? ⟨s,10+ci*3+ni,none⟩=some (.pointer ae)/\W.frozen? ⟨s,10+ci*3+ni,none⟩=false/\s<W.heap.size/\w.heap.size<W.heap.size):=fun W hW=>by
  have h1:W.heap[s]?=some (.cells cs.toArray 144 (0,0)):=by rw[hW.1.block s hl];exact h
  have ab:cs[10+ci*3+ni]?=some (.pointer ae):=by rw[<-hold];congr 1;omega
  exact⟨Ml hW.2,AP h1 ab,open_list h1,lt_of_block h1,(afR.1 hW.2).1⟩
 have ah:Hid (∀W,Boxed w w (Jj P) W->Qd w s cs (3*ci+ni) P W.heap.size ((W.setCell ⟨s,10+ci*3+ni,none⟩ (pt W.heap.size)).alloc (Lg P)).drew):=fun W hW=>QV h hW (by omega)
 have HN:Hid (∀b' V,Qd w s cs (3*ci+ni) P b' V->KW V w.heap.size P/\Calls Tryz.prog 251 #[pt s,pt b',pv P] V fun e w'=>e=.returned (.tuple #[])/\aa w'):=fun b' V hV=>⟨Ml hV.2,(Aa HG) b' V hV.1⟩
 clear HG h;obtain⟨kd,cl,li,ln,au,u,pa,o,pl,body⟩:=P;dsimp only[pv,cv,Jj,Lg]at *;subst ak al;have q1:(0:Int)<=(ci:Int):=by omega
 have q2:(ci:Int)<3:=by omega
 have q3:(0:Int)<=(ni:Int):=by omega
 have q4:(ni:Int)<3:=by omega
 clear hk am hn;go_enter Tryz.func215,Tryz.ntmps215;go_wp2_with (first|(go_at_call 248;refine((Aa HV) _ ((Aa HB) _)).mono ?_;rintro e w1 ⟨rfl,ac⟩;rw[ac];clear ac)|fail)
 go_region_held3 (fun w'=>w'.cell? ⟨s,4,none⟩=some (.int .i64 tb)) (go_keep) (first|(go_at_call 99;refine((Aa HM) _ ((Aa HB) _).drew).mono ?_;rintro e w0 ⟨a1,c1,rfl,af⟩;have ad:=(Aa HF) w0 af;have ai:=Ac ad;have ap:=(Aa HW) w0 ad;obtain⟨⟨u0,u1,u2,u3,u4,u5,u6,u7,u8,u9⟩,v1,v2,v3,v4⟩:=ap;have aq:w0.cell? ⟨s,4,none⟩=some (.int .i64 tb):=(ad.1.cell (p:=⟨s,4,none⟩) hl).trans s4;clear af ad))
 all_goals
  go_wp2_with (first|(go_at_call 250;refine((Aa HC) _).mono ?_;rintro e w1 ⟨rfl,ac⟩;have hW:=(Aa ag) _ w1 (Aa ai) ac;have aj:=Ac hW;have an:=(Aa HW) w1 hW;obtain⟨⟨g0,g1,g2,g3,g4,g5,g6,g7,g8,g9⟩,f1,f2,f3,f4⟩:=an;clear ac hW)|fail)
  go_region
  all_goals
   refine AQ _ ((Aa ah) w1 (Aa aj)) ?_;intro V hV;have hn:=(Aa HN) _ V hV;obtain⟨⟨y0,y1,y2,y3,y4,y5,y6,y7,y8,y9⟩,hc⟩:=hn;have HQ:=Ac hc;clear hV hc;go_wp2_with (first|(go_at_call 251;refine(Aa HQ).mono ?_;rintro e w3 ⟨rfl,ao⟩))
   go_returns;exact⟨rfl,ao⟩
theorem ZM(w:World)(s:Nat)(P:Pk):
  Calls Tryz.prog 156 #[pt s,.pointer none,pv P] w fun e w'=>e=.returned (.tuple #[])/\Below w.heap.size w w':=by
 have HB:Hid (∀o,Below w.heap.size w (w.alloc o)):=fun o=>(Below.refl _ _).alloc (afI _) _
 go_enter Tryz.func156,Tryz.ntmps156;go_wp2_with fail
 go_quiet (fail);go_wp2;go_returns;exact⟨rfl,below_drewN ((Aa HB) _) _⟩
theorem abt(w:World)(s b:Nat)(sq st:Int)(P:Pk)(h3:w.cell? ⟨b,3,none⟩=some (.int .i64 sq))(h5:w.cell? ⟨b,5,none⟩=some (.int .i64 st))(hn:¬sq=P.seq\/¬st=2):
  Calls Tryz.prog 156 #[pt s,pt b,pv P] w fun e w'=>e=.returned (.tuple #[])/\Below w.heap.size w w':=by
 have HB:Hid (∀o,Below w.heap.size w (w.alloc o)):=fun o=>(Below.refl _ _).alloc (afI _) _
 have hl:=lt_of_cell h3;by_cases h:sq=P.seq
 ·have e1:(sq != P.seq)=false:=by simpa using h
  have e2:(st != 2)=true:=by simp;omega
  clear hn h;go_enter Tryz.func156,Tryz.ntmps156;go_wp2_with fail
  go_quiet (fail);go_wp2;go_returns;exact⟨rfl,below_drewN ((Aa HB) _) _⟩
 ·have e1:(sq != P.seq)=true:=by simpa using h
  clear hn h;go_enter Tryz.func156,Tryz.ntmps156;go_wp2_with fail
  go_quiet (fail);go_wp2;go_returns;exact⟨rfl,below_drewN ((Aa HB) _) _⟩
theorem WW(w:World)(s b:Nat)(n at':Int)(S:ByteArray)(ac:Bool)(P:Pk)(ae:World->Prop)(h3:w.cell? ⟨b,3,none⟩=some (.int .i64 P.seq))(h5:w.cell? ⟨b,5,none⟩=some (.int .i64 2))(h7:w.cell? ⟨b,7,none⟩=some (.string S))(h8:w.cell? ⟨b,8,none⟩=some (.int .i64 at'))(z8:w.frozen? ⟨b,8,none⟩=false)(ak:0<=at'/\at'<=100)
  (ab:Hid (∀w,Calls Tryz.prog 203 #[.string S] w fun e w'=>e=.returned (.int .i64 n)/\w'=w))
  (af:Hid (∀wa,Below w.heap.size w wa->Calls Tryz.prog 214 #[pt b] wa fun e w'=>e=.returned (.bool ac)/\w'=wa.drew))
  (HN:Hid (¬P.off=n\/¬P.part=at'\/ac=true->∀wa,Below w.heap.size w wa->ae wa))
  (HQ:Hid (P.off=n->P.part=at'->ac=false->∀wa,Below w.heap.size (w.setCell ⟨b,8,none⟩ (.int .i64 (at'+1))) wa->Calls Tryz.prog 166 #[pt s,pt b] wa fun e w'=>e=.returned (.tuple #[])/\ae w')):
  Calls Tryz.prog 156 #[pt s,pt b,pv P] w fun e w'=>e=.returned (.tuple #[])/\ae w':=by
 have HB:Hid (∀o,Below w.heap.size w (w.alloc o)):=fun o=>(Below.refl _ _).alloc (afI _) _
 have hl:=lt_of_cell h3;have e1:(P.seq != P.seq)=false:=by simp
 have ew:IntKind.i64.wrap (at'+1)=at'+1:=by rw[IntKind.wrap_i64];omega
 have HF:Hid (∀m,Boxed w w (Jj P) ((w.alloc (Jj P)).drewN m)):=fun m=>⟨below_drewN ((Aa HB) _) m,heap_alloc_new w _⟩
 have HC:Hid (∀W,Boxed w w (Jj P) W->W.cell? ⟨b,7,none⟩=some (.string S)/\W.cell? ⟨b,8,none⟩=some (.int .i64 at')/\W.frozen? ⟨b,8,none⟩=false/\KW W w.heap.size P/\b<W.heap.size/\(∀V,Below w.heap.size w V->True)):=fun W hW=>⟨(hW.1.cell (p:=⟨b,7,none⟩) hl).trans h7,(hW.1.cell (p:=⟨b,8,none⟩) hl).trans h8,(hW.1.frozen (p:=⟨b,8,none⟩) hl).trans z8,Ml hW.2,afT hl hW.1.size,fun _ _=>trivial⟩
 have HT:Hid (∀W,Boxed w w (Jj P) W->Below w.heap.size (w.setCell ⟨b,8,none⟩ (.int .i64 (at'+1))) (W.setCell ⟨b,8,none⟩ (.int .i64 (at'+1))).drew.drew):=fun W hW=>by
  refine⟨hW.1.os,hW.1.tape,hW.1.output,by simpa using hW.1.size,fun j hj=>?_⟩;by_cases e:j=b
  ·subst e;show (W.setCell ⟨j,8,none⟩ (.int .i64 (at'+1))).heap[j]?=_;simp only[World.setCell,agi,if_true];rw[hW.1.block j hj]
  ·show (W.setCell ⟨b,8,none⟩ (.int .i64 (at'+1))).heap[j]?=_;rw[Below.heap_setCell _ _ _ _ e,Below.heap_setCell _ _ _ _ e];exact hW.1.block j hj
 obtain⟨kd,cl,li,ln,al,u,pa,o,pl,body⟩:=P;dsimp only[pv,cv,Jj]at *;by_cases h1:o=n
 ·have n1:(o != n)=false:=by simpa using h1
  by_cases h2:pa=at'
  ·have n2:(pa != at')=false:=by simpa using h2
   cases ac with
   |true=>
    have ad:=Ac ((Aa HN) (afM (afM rfl)));clear HN HQ h1 h2;go_enter Tryz.func156,Tryz.ntmps156;go_wp2_with fail
    go_quiet (fail);go_wp2_with fail
    refine AQ _ ((Aa HF) _) ?_;intro W hW;obtain⟨d7,d8,y8,⟨g0,g1,g2,g3,g4,g5,g6,g7,g8,g9⟩,ah,_⟩:=(Aa HC) W hW;have HD:=Ac ((Aa af) W.drew hW.1.drew);have ag:=Ac hW.1.drew.drew;clear hW HF HC HT;go_region_held3 (fun w'=>w'.cell? ⟨b,7,none⟩=some (.string S)/\w'.cell? ⟨b,8,none⟩=some (.int .i64 at')/\w'.cell? ⟨w.heap.size,6,none⟩=some (.int .i64 pa)/\w'.cell? ⟨w.heap.size,7,none⟩=some (.int .i64 o)) (go_keep) (first|(go_at_call 203;refine((Aa ab) _).mono ?_;rintro e w1 ⟨rfl,aa⟩;rw[aa];clear aa)|(go_at_call 214;refine(Aa HD).mono ?_;rintro e w1 ⟨rfl,aa⟩;rw[aa];clear aa))
    all_goals
     go_wp2;go_returns;exact⟨rfl,(Aa ad) _ (Aa ag)⟩
   |false=>
    have ad:=Ac ((Aa HQ) h1 h2 rfl);clear HN HQ h1 h2;go_enter Tryz.func156,Tryz.ntmps156;go_wp2_with fail
    go_quiet (fail);go_wp2_with fail
    refine AQ _ ((Aa HF) _) ?_;intro W hW;obtain⟨d7,d8,y8,⟨g0,g1,g2,g3,g4,g5,g6,g7,g8,g9⟩,ah,_⟩:=(Aa HC) W hW;have HD:=Ac ((Aa af) W.drew hW.1.drew);have ai:=Ac ((Aa HT) W hW);clear hW HF HC HT;go_region_held3 (fun w'=>w'.cell? ⟨b,7,none⟩=some (.string S)/\w'.cell? ⟨b,8,none⟩=some (.int .i64 at')/\w'.cell? ⟨w.heap.size,6,none⟩=some (.int .i64 pa)/\w'.cell? ⟨w.heap.size,7,none⟩=some (.int .i64 o)) (go_keep) (first|(go_at_call 203;refine((Aa ab) _).mono ?_;rintro e w1 ⟨rfl,aa⟩;rw[aa];clear aa)|(go_at_call 214;refine(Aa HD).mono ?_;rintro e w1 ⟨rfl,aa⟩;rw[aa];clear aa))
    all_goals
     go_wp2_with (first|(go_at_call 166;refine((Aa ad) _ (Aa ai)).mono ?_;rintro e w3 ⟨rfl,aj⟩))
     go_returns;exact⟨rfl,aj⟩
  ·have n2:(pa != at')=true:=by simpa using h2
   have ad:=Ac ((Aa HN) (afM (afJ h2)));clear HN HQ h1 h2;go_enter Tryz.func156,Tryz.ntmps156;go_wp2_with fail
   go_quiet (fail);go_wp2_with fail
   refine AQ _ ((Aa HF) _) ?_;intro W hW;obtain⟨d7,d8,y8,⟨g0,g1,g2,g3,g4,g5,g6,g7,g8,g9⟩,ah,_⟩:=(Aa HC) W hW;have ag:=Ac hW.1;clear hW HF HC HT;go_quiet (first|(go_at_call 203;refine Calls.quiet_of_same ((Aa ab) _)));all_goals
    go_wp2;go_returns;exact⟨rfl,(Aa ad) _ (below_drewN (Aa ag) _)⟩
 ·have n1:(o != n)=true:=by simpa using h1
  have ad:=Ac ((Aa HN) (afJ h1));clear HN HQ h1;go_enter Tryz.func156,Tryz.ntmps156;go_wp2_with fail
  go_quiet (fail);go_wp2_with fail
  refine AQ _ ((Aa HF) _) ?_;intro W hW;obtain⟨d7,d8,y8,⟨g0,g1,g2,g3,g4,g5,g6,g7,g8,g9⟩,ah,_⟩:=(Aa HC) W hW;have ag:=Ac hW.1;clear hW HF HC HT;go_quiet (first|(go_at_call 203;refine Calls.quiet_of_same ((Aa ab) _)));all_goals
   go_wp2;go_returns;exact⟨rfl,(Aa ad) _ (below_drewN (Aa ag) _)⟩
theorem W9(w:World)(s ci:Nat)(lv:Int)(P:Pk)(h7:w.cell? ⟨s,7+ci,none⟩=some (.int .i64 lv))(aa:P.client=(ci:Int))(h3:ci<3)(ab:P.Ae<lv):
  Calls Tryz.prog 93 #[pt s,pv P] w fun e w'=>e=.returned (.tuple #[])/\Below w.heap.size w w':=by
 have HB:Hid (∀o,Below w.heap.size w (w.alloc o)):=fun o=>(Below.refl _ _).alloc (afI _) _
 have hl:=lt_of_cell h7;obtain⟨kd,cl,li,ln,ac,u,pa,o,pl,body⟩:=P;dsimp only[pv]at *;subst aa;have q1:(0:Int)<=(ci:Int):=by omega
 have q2:(ci:Int)<3:=by omega
 have e1:decide (li<lv)=true:=by simpa using ab
 go_enter Tryz.func93,Tryz.ntmps93;go_wp2_with fail
 go_quiet (fail);go_wp2;go_returns;exact⟨rfl,below_drewN ((Aa HB) _) _⟩
theorem Uh(w:World)(s ci ni:Nat)(ac:Option Addr)(P:Pk)(aa:World->Prop)(h7:w.cell? ⟨s,7+ci,none⟩=some (.int .i64 P.Ae))(h10:w.cell? ⟨s,10+ci*3+ni,none⟩=some (.pointer ac))(ad:P.client=(ci:Int))(ae:P.line=(ni:Int))(h3:ci<3)(af:ni<3)
  (HG:Hid (P.kind=6->∀wa,Below w.heap.size w wa->Calls Tryz.prog 156 #[pt s,.pointer ac,pv P] wa fun e w'=>e=.returned (.tuple #[])/\aa w'))
  (HA:Hid (P.kind=1\/P.kind=3->∀wa,Below w.heap.size w wa->Calls Tryz.prog 157 #[pt s,.pointer ac,pv P] wa fun e w'=>e=.returned (.tuple #[])/\aa w'))
  (HN:Hid (¬(P.kind=6\/P.kind=1\/P.kind=3)->∀wa,Below w.heap.size w wa->aa wa)):
  Calls Tryz.prog 93 #[pt s,pv P] w fun e w'=>e=.returned (.tuple #[])/\aa w':=by
 have HB:Hid (∀o n,Below w.heap.size w ((w.alloc o).drewN n)):=fun o n=>below_drewN ((Below.refl _ _).alloc (afI _) _) n
 have hl:=lt_of_cell h7;obtain⟨kd,cl,li,ln,ag,u,pa,o,pl,body⟩:=P;dsimp only[pv]at *;subst ad ae;have q1:(0:Int)<=(ci:Int):=by omega
 have q2:(ci:Int)<3:=by omega
 have q3:(0:Int)<=(ni:Int):=by omega
 have q4:(ni:Int)<3:=by omega
 have e1:decide (li<li)=false:=by simp
 by_cases k6:kd=6
 ·have HQ:=Ac ((Aa HG) k6);subst k6;clear HG HA HN;go_enter Tryz.func93,Tryz.ntmps93;go_wp2_with fail
  go_quiet (fail);go_wp2_with fail
  go_quiet (fail);go_wp2_with fail
  go_quiet (fail);go_wp2_with (first|(go_at_call 156;refine((Aa HQ) _ ((Aa HB) _ _)).mono ?_;rintro e w3 ⟨rfl,ab⟩))
  go_returns;exact⟨rfl,ab⟩
 ·have n6:(kd==6)=false:=by simpa using k6
  by_cases k1:kd=1
  ·have HQ:=Ac ((Aa HA) (afJ k1));subst k1;clear HG HA HN k6;go_enter Tryz.func93,Tryz.ntmps93;go_wp2_with fail
   go_quiet (fail);go_wp2_with fail
   go_quiet (fail);go_wp2_with fail
   go_quiet (fail);go_wp2_with (first|(go_at_call 157;refine((Aa HQ) _ ((Aa HB) _ _)).mono ?_;rintro e w3 ⟨rfl,ab⟩))
   go_returns;exact⟨rfl,ab⟩
  ·have n1:(kd==1)=false:=by simpa using k1
   by_cases k3:kd=3
   ·have HQ:=Ac ((Aa HA) (afM k3));subst k3;clear HG HA HN k6 k1;go_enter Tryz.func93,Tryz.ntmps93;go_wp2_with fail
    go_quiet (fail);go_wp2_with fail
    go_quiet (fail);go_wp2_with fail
    go_quiet (fail);go_wp2_with (first|(go_at_call 157;refine((Aa HQ) _ ((Aa HB) _ _)).mono ?_;rintro e w3 ⟨rfl,ab⟩))
    go_returns;exact⟨rfl,ab⟩
   ·have n3:(kd==3)=false:=by simpa using k3
    have HQ:=Ac ((Aa HN) (by omega));clear HG HA HN k6 k1 k3;go_enter Tryz.func93,Tryz.ntmps93;go_wp2_with fail
    go_quiet (fail);go_wp2_with fail
    go_quiet (fail);go_wp2_with fail
    go_quiet (fail);go_wp2;go_returns;exact⟨rfl,(Aa HQ) _ ((Aa HB) _ _)⟩
abbrev BM(w:World)(s ci:Nat)(Ae:Int):World:=(((w.setCell ⟨s,7+ci,none⟩ (.int .i64 Ae)).setCell ⟨s,10+ci*3,none⟩ (.pointer none)).setCell ⟨s,10+ci*3+1,none⟩ (.pointer none)).setCell ⟨s,10+ci*3+2,none⟩ (.pointer none)
theorem Sw{o:Obj}{m:Nat}(hs:s<w.heap.size):Boxed w (BM w s ci Ae) o (BM ((w.alloc o).drewN m) s ci Ae).drew:=by
 have e:BM (w.alloc o) s ci Ae=(BM w s ci Ae).alloc o:=by
  unfold BM;rw[World.setCell_alloc_past o s _ _ hs,World.setCell_alloc_past o s _ _ (by simpa using hs),World.setCell_alloc_past o s _ _ (by simpa using hs),World.setCell_alloc_past o s _ _ (by simpa using hs)]
 have e2:(BM ((w.alloc o).drewN m) s ci Ae).drew=(((BM w s ci Ae).alloc o).drewN m).drew:=by
  rw[<-e];rfl
 rw[e2];refine⟨(below_drewN ((Below.refl _ _).alloc (by simp) _) _).drew,?_⟩;have:=heap_alloc_new (BM w s ci Ae) o;simpa using this
theorem Tq{ni:Nat}{o0 o1 o2:Option Addr}(d0:w.cell? ⟨s,10+ci*3,none⟩=some (.pointer o0))(d1:w.cell? ⟨s,10+ci*3+1,none⟩=some (.pointer o1))(d2:w.cell? ⟨s,10+ci*3+2,none⟩=some (.pointer o2))(hc:ci<3)(hn:ni<3):(BM w s ci Ae).cell? ⟨s,10+ci*3+ni,none⟩=some (.pointer none):=by
 have ne:∀{a b:Nat},a≠b->(⟨s,a,none⟩:Addr)≠⟨s,b,none⟩:=fun h q=>h (by cases q;rfl)
 have h:ni=0\/ni=1\/ni=2:=by omega
 unfold BM;rcases h with rfl|rfl|rfl
 ·rw[World.cell?_setCell_other (h:=ne (by omega)),World.cell?_setCell_other (h:=ne (by omega))];exact World.cell?_setCell_same (h:=(World.cell?_setCell_other (h:=ne (by omega)) ..).trans d0) ..
 ·rw[World.cell?_setCell_other (h:=ne (by omega))];exact World.cell?_setCell_same (h:=(World.cell?_setCell_other (h:=ne (by omega)) ..).trans ((World.cell?_setCell_other (h:=ne (by omega)) ..).trans d1)) ..
 ·exact World.cell?_setCell_same (h:=(World.cell?_setCell_other (h:=ne (by omega)) ..).trans ((World.cell?_setCell_other (h:=ne (by omega)) ..).trans ((World.cell?_setCell_other (h:=ne (by omega)) ..).trans d2))) ..
theorem W7(w:World)(s ci ni:Nat)(lv:Int)(o0 o1 o2:Option Addr)(P:Pk)(aa:World->Prop)(h7:w.cell? ⟨s,7+ci,none⟩=some (.int .i64 lv))(d0:w.cell? ⟨s,10+ci*3,none⟩=some (.pointer o0))(d1:w.cell? ⟨s,10+ci*3+1,none⟩=some (.pointer o1))(d2:w.cell? ⟨s,10+ci*3+2,none⟩=some (.pointer o2))(z:∀j,w.frozen? ⟨s,j,none⟩=false)(af:P.client=(ci:Int))(ah:P.line=(ni:Int))(h3:ci<3)(ae:ni<3)(ag:lv<P.Ae)
  (HG:Hid (P.kind=6->∀wa,Below w.heap.size (BM w s ci P.Ae) wa->Calls Tryz.prog 156 #[pt s,.pointer none,pv P] wa fun e w'=>e=.returned (.tuple #[])/\aa w'))
  (HA:Hid (P.kind=1\/P.kind=3->∀wa,Below w.heap.size (BM w s ci P.Ae) wa->Calls Tryz.prog 157 #[pt s,.pointer none,pv P] wa fun e w'=>e=.returned (.tuple #[])/\aa w'))
  (HN:Hid (¬(P.kind=6\/P.kind=1\/P.kind=3)->∀wa,Below w.heap.size (BM w s ci P.Ae) wa->aa wa)):
  Calls Tryz.prog 93 #[pt s,pv P] w fun e w'=>e=.returned (.tuple #[])/\aa w':=by
 have hl:=lt_of_cell h7;have ab:Hid (∀m,Boxed w (BM w s ci P.Ae) (Jj P) (BM ((w.alloc (Jj P)).drewN m) s ci P.Ae).drew):=fun m=>Sw hl
 have HW:Hid (∀V,Boxed w (BM w s ci P.Ae) (Jj P) V->KW V w.heap.size P/\V.cell? ⟨s,10+ci*3+ni,none⟩=some (.pointer none)/\∀m,Below w.heap.size (BM w s ci P.Ae) (V.drewN m)):=fun V hV=>⟨Ml hV.2,(hV.1.cell (p:=⟨s,10+ci*3+ni,none⟩) hl).trans (Tq d0 d1 d2 h3 ae),fun m=>below_drewN hV.1 m⟩
 obtain⟨kd,cl,li,ln,ai,u,pa,o,pl,body⟩:=P;dsimp only[pv,Jj,BM]at *;subst af ah;have q1:(0:Int)<=(ci:Int):=by omega
 have q2:(ci:Int)<3:=by omega
 have q3:(0:Int)<=(ni:Int):=by omega
 have q4:(ni:Int)<3:=by omega
 have e1:decide (li<lv)=false:=by simp;omega
 have e2:decide (lv<li)=true:=by simpa using ag
 by_cases k6:kd=6
 ·have HQ:=Ac ((Aa HG) k6);subst k6;clear HG HA HN;go_enter Tryz.func93,Tryz.ntmps93;go_wp2_with fail
  go_quiet (fail);go_wp2_with fail
  go_quiet (fail);go_wp2_with fail
  go_region
  go_wp2_with fail
  go_region
  refine AQ _ ((Aa ab) _) ?_;intro V hV;have ac:=(Aa HW) V hV;obtain⟨⟨g0,g1,g2,g3,g4,g5,g6,g7,g8,g9⟩,f1,f2⟩:=ac;have HB:=Ac f2;clear hV f2 HW ab;go_wp2_with fail
  go_quiet (fail);go_wp2_with (first|(go_at_call 156;refine((Aa HQ) _ ((Aa HB) _)).mono ?_;rintro e w3 ⟨rfl,ad⟩))
  go_returns;exact⟨rfl,ad⟩
 ·have n6:(kd==6)=false:=by simpa using k6
  by_cases k1:kd=1
  ·have HQ:=Ac ((Aa HA) (afJ k1));subst k1;clear HG HA HN k6;go_enter Tryz.func93,Tryz.ntmps93;go_wp2_with fail
   go_quiet (fail);go_wp2_with fail
   go_quiet (fail);go_wp2_with fail
   go_region
   go_wp2_with fail
   go_region
   refine AQ _ ((Aa ab) _) ?_;intro V hV;have ac:=(Aa HW) V hV;obtain⟨⟨g0,g1,g2,g3,g4,g5,g6,g7,g8,g9⟩,f1,f2⟩:=ac;have HB:=Ac f2;clear hV f2 HW ab;go_wp2_with fail
   go_quiet (fail);go_wp2_with (first|(go_at_call 157;refine((Aa HQ) _ ((Aa HB) _)).mono ?_;rintro e w3 ⟨rfl,ad⟩))
   go_returns;exact⟨rfl,ad⟩
  ·have n1:(kd==1)=false:=by simpa using k1
   by_cases k3:kd=3
   ·have HQ:=Ac ((Aa HA) (afM k3));subst k3;clear HG HA HN k6 k1;go_enter Tryz.func93,Tryz.ntmps93;go_wp2_with fail
    go_quiet (fail);go_wp2_with fail
    go_quiet (fail);go_wp2_with fail
    go_region
    go_wp2_with fail
    go_region
    refine AQ _ ((Aa ab) _) ?_;intro V hV;have ac:=(Aa HW) V hV;obtain⟨⟨g0,g1,g2,g3,g4,g5,g6,g7,g8,g9⟩,f1,f2⟩:=ac;have HB:=Ac f2;clear hV f2 HW ab;go_wp2_with fail
    go_quiet (fail);go_wp2_with (first|(go_at_call 157;refine((Aa HQ) _ ((Aa HB) _)).mono ?_;rintro e w3 ⟨rfl,ad⟩))
    go_returns;exact⟨rfl,ad⟩
   ·have n3:(kd==3)=false:=by simpa using k3
    have HQ:=Ac ((Aa HN) (by omega));clear HG HA HN k6 k1 k3;go_enter Tryz.func93,Tryz.ntmps93;go_wp2_with fail
    go_quiet (fail);go_wp2_with fail
    go_quiet (fail);go_wp2_with fail
    go_region
    go_wp2_with fail
    go_region
    refine AQ _ ((Aa ab) _) ?_;intro V hV;have ac:=(Aa HW) V hV;obtain⟨⟨g0,g1,g2,g3,g4,g5,g6,g7,g8,g9⟩,f1,f2⟩:=ac;have HB:=Ac f2;clear hV f2 HW ab;go_wp2_with fail
    go_quiet (fail);go_wp2;go_returns;exact⟨rfl,(Aa HQ) _ ((Aa HB) _)⟩
end Go.Proofs.YtblomippkddgiabGreatDoor
namespace Go.Proofs.YtblomippkddgiabGreatDoor.R
theorem Inv.PL{M:Bk}{G:Wd}(h:Inv M G){p:Pk}{d:Cd}{i:Nat}(ha:FY M G p d i){r:Sn}(hr:G.seen[i]?=some r)(hs:¬r.seq=p.seq)(ai:¬p.seq<r.seq)(ad:DC G.Ab p.uid=true):Inv M (R.AB G i {Cs with seq:=p.seq,uid:=p.uid,state:=1}):=by
 obtain⟨_,_,_,_,am,_,ak,al,_⟩:=ha.right;have aa:=ha.key;have af:=(h.bk _ d ha.made).1;have aj:=LU af;have ae:=h.wf.sv;obtain⟨_,_,ag,_,_,ah,_⟩:=ha.right;have h2:=h.AB (r':={Cs with seq:=p.seq,uid:=p.uid,state:=1}) hr (by simp only;omega) ⟨fun e=>by simp only at e;omega,by simp only;omega,fun _=>⟨by rw[<-ha.Ae];exact ag.1,ah,by simp⟩,by simp[Cs],by simp,by simp,by simp[Cs]⟩ (fun _=>⟨d,by rw[<-aa];exact ha.made,ha.uid,fun _=>⟨by simp[Cs],by simp only[Cs];omega⟩,by simp,fun _=>?_,by simp⟩)
 ·exact h2
 ·rw[<-ha.uid];refine⟨ad,fun e he ac=>?_⟩;obtain⟨n,s,a1,a2,a3⟩:=Mf ad;rw[a1,J6 a2]at he;have hf:=h.R9 n s e a2 a3 he;rw[<-aa]at ac;simp only[Bl,D4,Key.mk.injEq]at ac;obtain⟨e1,e2,e3,e4⟩:=ac;unfold Mb Nx at hf;rw[e1,e2,e3,e4,<-ha.i,hr]at hf;have hl:=ha.Ae;obtain⟨_,p2,_,p4,_⟩:=ha.right;have ab:i / 3=p.client.toNat:=by have:=ha.i;omega
  rw[ab]at hl;simp only[af2]at hf;omega
end Go.Proofs.YtblomippkddgiabGreatDoor.R
namespace Go.Proofs.YtblomippkddgiabGreatDoor
open Go.RowKit
variable {F:Aq}{i:Nat}{p:Pl}{G:R.Wd}{w:World}
def Dv(P:Pk):R.Sn:={R.Cs with seq:=P.seq,uid:=P.uid,state:=1}
def acy(P:Pk):JH:=⟨P.client,P.Ae,P.line,P.seq,P.uid,0,[],[],0,0,0⟩
theorem LW.YA{W:World}(h:LW p F G w){M:R.Bk}{P:Pk}{d:R.Cd}{b:Nat}(hp:R.FY M G P d i)(hm:Made w p.s (Ce p.n p.nm p.t G.c G.Aj G.seen) i P b W):
  LW {p with t:=p.t.put i b} (fun k=>F k\/k=b) (R.AB G i (Dv P)) W/\Qe {p with t:=p.t.put i b} (R.AB G i (Dv P)) W i (Dv P) (acy P)/\Ap F (fun k=>F k\/k=b) w W:=by
 have ae:=hp.lt;have aa:=hp.key;simp only[R.D4,R.Key.mk.injEq]at aa;obtain⟨_,_,af,_,aj,ah,_⟩:=hp.right;have ac:(Dv P).seq≠0:=by show P.seq≠0;omega
 have ab:KZ i (G.Aj.getD (i / 3) 0) (Dv P) (acy P):=⟨aa.1,aa.2.1,aa.2.2.1,rfl,rfl,rfl,fun _=>rfl,fun e=>by simp[Dv]at e,rfl,fun e=>by simp[Dv,R.Cs]at e⟩;have ag:R.Qg (G.Aj.getD (i / 3) 0) (Dv P):=⟨fun e=>absurd e ac,by show 0<=P.seq/\P.seq<=999;omega,fun _=>⟨by rw[<-hp.Ae];exact af.1,ah,by simp[Dv]⟩,by simp[Dv,R.Cs],by simp[Dv],by simp[Dv],by simp[Dv,R.Cs]⟩;have ad:W.heap[b]?=some (.cells (acy P).cells.toArray 179 (0,0)):=hm.line;have hs:=h.BN.PL h.lt h.Db.sl ae ac hm.ge hm.keep hm.cells ad ab;have hE:Ca w (fun k=>k=p.s):=Ca.one h.BN.bs (by decide);have ai:R.Md G.c G.Aj (G.seen.set i (Dv P)) G.jobs:=Nt h.Db ag;have q:=h.Ha hs hm.keep hE (fun _ r=>afJ r) (fun k hk=>by
  rcases hk with hk|rfl
  ·exact afT (h.lt k hk) hm.keep.size
  ·exact(afR.1 hm.line).1) (Ns h.wf i (Dv P)) ai (fun i c _ u=>rfl)
 refine⟨q,⟨?_,ac,?_,ab⟩,hm.keep.mono (fun k _ e=>by rw[e];exact h.BN.BP.1),fun k hk=>?_⟩
 ·show (G.seen.set i (Dv P))[i]?=_;rw[afV,if_pos rfl,if_pos (by rw[h.Db.sl];exact ae)]
 ·show W.heap[(p.t.put i b).ql i]?=_;simp only[SP.put,if_true];exact ad
 ·rcases hk with hk|rfl
  ·exact afJ hk
  ·exact afM hm.ge
theorem Iw(t:SP)(seen:List R.Sn)(n nm:Nat)(c:R.Cf)(Aj:List Int)(hi:i<9):(Ce n nm t c Aj seen)[10+i]?=some (Bt t seen i):=by
 have h:i=0\/i=1\/i=2\/i=3\/i=4\/i=5\/i=6\/i=7\/i=8:=by omega
 rcases h with rfl|rfl|rfl|rfl|rfl|rfl|rfl|rfl|rfl<;>rfl
theorem Gv(t:SP)(seen:List R.Sn)(i:Nat):∃o,Bt t seen i=.pointer o:=by
 unfold Bt;split
 ·exact⟨_,rfl⟩
 ·exact⟨_,rfl⟩
theorem aaS(seen:List R.Sn)(hl:seen.length=9)(h0:∀r∈seen,0<=r.seq):(idx seen).length=R.cnt seen:=by
 obtain⟨a0,a1,a2,a3,a4,a5,a6,a7,a8,rfl⟩:∃a0 a1 a2 a3 a4 a5 a6 a7 a8,seen=[a0,a1,a2,a3,a4,a5,a6,a7,a8]:=by
  match seen,hl with
  |[a0,a1,a2,a3,a4,a5,a6,a7,a8],_=>exact⟨a0,a1,a2,a3,a4,a5,a6,a7,a8,rfl⟩
 have q:∀x:R.Sn,0<=x.seq->decide (x.seq≠0)=decide (0<x.seq):=fun x hx=>by
  by_cases h:x.seq=0
  ·simp[h]
  ·have:0<x.seq:=by omega
   simp[h,this]
 have e:(idx [a0,a1,a2,a3,a4,a5,a6,a7,a8]).map (fun i=>([a0,a1,a2,a3,a4,a5,a6,a7,a8][i]?).getD R.Cs)=[a0,a1,a2,a3,a4,a5,a6,a7,a8].filter fun x=>decide (x.seq≠0):=by
  have:[a0,a1,a2,a3,a4,a5,a6,a7,a8]=(List.range 9).map (fun i=>([a0,a1,a2,a3,a4,a5,a6,a7,a8][i]?).getD R.Cs):=rfl;conv=>rhs;rw[this]
  rw[List.filter_map];rfl
 have e2:=congrArg List.length e;rw[af0]at e2;rw[e2];unfold R.cnt;congr 1;apply List.filter_congr;intro x hx;exact q x (h0 x hx)
theorem LW.aeB(h:LW p F G w):Calls Tryz.prog 99 #[ptr p.s] w fun e w'=>∃a cap,e=.returned (.slice a (R.BZ G) cap)/\Below w.heap.size w w':=by
 refine h.BN.rem.mono ?_;rintro e w' ⟨O,rfl,aa,hb⟩;rw[Nk,af0]at aa;rw[aaS G.seen h.Db.sl (fun r hr=>by
  obtain⟨k,hk⟩:=agY.1 hr;exact(h.Db.sn k r hk).seq.1)]at aa
 obtain⟨a,c,hO⟩:=AX aa;subst hO;exact⟨a,c,rfl,hb⟩
theorem V5(w:World)(b:Nat)(s:List UInt8)(a:Int)(hs:s.length<=1000)(h7:w.cell? ⟨b,7,none⟩=some (.string (str s)))(h8:w.cell? ⟨b,8,none⟩=some (.int .i64 a)):
  Calls Tryz.prog 214 #[ptr b] w fun e w'=>e=.returned (.bool (decide (a=R.Ag s-1)))/\w'=w.drew:=by
 have HP:=Ac (fun w=>CS s w (by omega));have hn:0<=R.Ag s/\R.Ag s<=1000:=by unfold R.Ag;omega
 generalize str s=SM at *;generalize R.Ag s=N at *;have ab:IntKind.i64.wrap (N-1)=N-1:=by rw[IntKind.wrap_i64];omega
 go_enter Tryz.func214,Tryz.ntmps214;go_wp2_with fail
 go_region_held3 (fun w'=>w'.cell? ⟨b,7,none⟩=some (.string SM)/\w'.cell? ⟨b,8,none⟩=some (.int .i64 a)) (go_keep) (first
  |(go_at_call 203;refine((Aa HP) _).mono ?_;rintro e w1 ⟨rfl,aa⟩;rw[aa];clear aa))
 all_goals
  go_wp2
  go_ret
  exact⟨by
   have:(a==N-1)=decide (a=N-1):=by rw[Bool.eq_iff_iff];simp
   rw[this];rfl,rfl⟩
end Go.Proofs.YtblomippkddgiabGreatDoor
