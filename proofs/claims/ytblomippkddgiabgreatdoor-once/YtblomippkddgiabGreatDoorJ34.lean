import Derived.Test.YtblomippkddgiabGreatDoorJ33
set_option maxRecDepth 100000
set_option maxHeartbeats 1000000
namespace Go.Proofs.YtblomippkddgiabGreatDoor
open Go.RowKit
abbrev cv(P:Pk):Value:=.agg #[.int .i64 P.client,.int .i64 P.Ae,.int .i64 P.line,.int .i64 P.seq,.int .i64 P.uid]
theorem GN(P:Pk)(w:World):Calls Tryz.prog 250 #[pv P] w fun e w'=>e=.returned (cv P)/\Below w.heap.size w w':=by
 go_enter Tryz.func250,Tryz.ntmps250;go_wp2;go_returns;exact⟨rfl,((Below.refl _ _).alloc (Nat.le_refl _) _).alloc (by simp) _⟩
theorem Rs(w:World)(s:Nat)(P:Pk)(ac:Int)(aa:World->Prop)
  (HS:Hid (∀wa,Below w.heap.size w wa->Calls Tryz.prog 220 #[.pointer (some ⟨s,0,none⟩),cv P,NL 7 0 0 0 0 0 ac 2 false ⟨#[]⟩] wa fun e w'=>e=.returned (.tuple #[])/\aa w')):
  Calls Tryz.prog 249 #[.pointer (some ⟨s,0,none⟩),pv P,.int .i64 ac] w fun e w'=>e=.returned (.tuple #[])/\aa w':=by
 have HC:=Ac (fun w=>GN P w);have HB:Hid (∀o,Below w.heap.size w (w.alloc o)):=fun o=>(Below.refl _ _).alloc (Nat.le_refl _) _
 go_enter Tryz.func249,Tryz.ntmps249;go_wp2_with (first|(go_at_call 250;refine((Aa HC) _).mono ?_;rintro e w1 ⟨rfl,ab⟩;have ad:=Ac (((Aa HB) _).trans (ab.mono (by simp)));clear ab)|(go_at_call 220;refine((Aa HS) _ (Aa ad)).mono ?_;rintro e w3 ⟨rfl,ae⟩))
 go_returns;exact⟨rfl,ae⟩
abbrev pt(b:Nat):Value:=.pointer (some ⟨b,0,none⟩)
theorem TE(w:World)(s b:Nat)(st:Int)(P:Pk)(aa:World->Prop)(h5:w.cell? ⟨b,5,none⟩=some (.int .i64 st))(ac:0<=st/\st<=3)
  (H3:Hid (st=3->∀wa,Below w.heap.size w wa->Calls Tryz.prog 249 #[pt s,pv P,.int .i64 0] wa fun e w'=>e=.returned (.tuple #[])/\aa w'))
  (H2:Hid (st=2->P.please=true->∀wa,Below w.heap.size w wa->Calls Tryz.prog 166 #[pt s,pt b] wa fun e w'=>e=.returned (.tuple #[])/\aa w'))
  (H1:Hid (st=1->P.please=true->∀wa,Below w.heap.size w wa->Calls Tryz.prog 252 #[pt s,pv P] wa fun e w'=>e=.returned (.tuple #[])/\aa w'))
  (H0:Hid (st=0->P.kind=1->∀wa,Below w.heap.size w wa->Calls Tryz.prog 251 #[pt s,pt b,pv P] wa fun e w'=>e=.returned (.tuple #[])/\aa w'))
  (HN:Hid (((st=1\/st=2)/\P.please=false)\/(st=0/\¬P.kind=1)->∀wa,Below w.heap.size w wa->aa wa)):
  Calls Tryz.prog 216 #[pt s,pt b,pv P] w fun e w'=>e=.returned (.tuple #[])/\aa w':=by
 have HB:Hid (∀o,Below w.heap.size w (w.alloc o)):=fun o=>(Below.refl _ _).alloc (Nat.le_refl _) _
 have hl:=lt_of_cell h5;obtain⟨kd,cl,li,ln,ad,u,pa,o,pl,body⟩:=P;dsimp only at *;generalize str body=SB at *;have hc:st=0\/st=1\/st=2\/st=3:=by omega
 clear ac;rcases hc with rfl|rfl|rfl|rfl
 ·by_cases hk:kd=1
  ·have e1:(kd==1)=true:=by simpa using hk
   have HQ:=Ac ((Aa H0) rfl hk);clear hk;go_enter Tryz.func216,Tryz.ntmps216;go_wp2_with (first|(go_at_call 251;refine((Aa HQ) _ (by first|exact(Aa HB) _|exact below_drewN ((Aa HB) _) _|exact((Aa HB) _).drew|exact((Aa HB) _).drew.drew|exact below_drewN (below_drewN ((Aa HB) _) _) _)).mono ?_;rintro e w3 ⟨rfl,ab⟩))
   go_returns;exact⟨rfl,ab⟩
  ·have e1:(kd==1)=false:=by simpa using hk
   have HQ:=Ac ((Aa HN) (Or.inr ⟨rfl,hk⟩));clear hk;go_enter Tryz.func216,Tryz.ntmps216;go_wp2;go_returns;exact⟨rfl,(Aa HQ) _ (by first|exact(Aa HB) _|exact below_drewN ((Aa HB) _) _|exact((Aa HB) _).drew|exact((Aa HB) _).drew.drew|exact below_drewN (below_drewN ((Aa HB) _) _) _)⟩
 ·cases pl with
  |true=>
   have HQ:=Ac ((Aa H1) rfl rfl);go_enter Tryz.func216,Tryz.ntmps216;go_wp2_with (first|(go_at_call 252;refine((Aa HQ) _ (by first|exact(Aa HB) _|exact below_drewN ((Aa HB) _) _|exact((Aa HB) _).drew|exact((Aa HB) _).drew.drew|exact below_drewN (below_drewN ((Aa HB) _) _) _)).mono ?_;rintro e w3 ⟨rfl,ab⟩))
   go_returns;exact⟨rfl,ab⟩
  |false=>
   have HQ:=Ac ((Aa HN) (Or.inl ⟨Or.inl rfl,rfl⟩));go_enter Tryz.func216,Tryz.ntmps216;go_wp2;go_returns;exact⟨rfl,(Aa HQ) _ (by first|exact(Aa HB) _|exact below_drewN ((Aa HB) _) _|exact((Aa HB) _).drew|exact((Aa HB) _).drew.drew|exact below_drewN (below_drewN ((Aa HB) _) _) _)⟩
 ·cases pl with
  |true=>
   have HQ:=Ac ((Aa H2) rfl rfl);go_enter Tryz.func216,Tryz.ntmps216;go_wp2_with (first|(go_at_call 166;refine((Aa HQ) _ (by first|exact(Aa HB) _|exact below_drewN ((Aa HB) _) _|exact((Aa HB) _).drew|exact((Aa HB) _).drew.drew|exact below_drewN (below_drewN ((Aa HB) _) _) _)).mono ?_;rintro e w3 ⟨rfl,ab⟩))
   go_returns;exact⟨rfl,ab⟩
  |false=>
   have HQ:=Ac ((Aa HN) (Or.inl ⟨Or.inr rfl,rfl⟩));go_enter Tryz.func216,Tryz.ntmps216;go_wp2;go_returns;exact⟨rfl,(Aa HQ) _ (by first|exact(Aa HB) _|exact below_drewN ((Aa HB) _) _|exact((Aa HB) _).drew|exact((Aa HB) _).drew.drew|exact below_drewN (below_drewN ((Aa HB) _) _) _)⟩
 ·have HQ:=Ac ((Aa H3) rfl);go_enter Tryz.func216,Tryz.ntmps216;go_wp2_with (first|(go_at_call 249;refine((Aa HQ) _ (by first|exact(Aa HB) _|exact below_drewN ((Aa HB) _) _|exact((Aa HB) _).drew|exact((Aa HB) _).drew.drew|exact below_drewN (below_drewN ((Aa HB) _) _) _)).mono ?_;rintro e w3 ⟨rfl,ab⟩))
  go_returns;exact⟨rfl,ab⟩
theorem Sk(w:World)(s:Nat)(P:Pk)(aa:World->Prop)
  (HQ:Hid (∀wa,Below w.heap.size w wa->Calls Tryz.prog 215 #[pt s,.pointer none,pv P] wa fun e w'=>e=.returned (.tuple #[])/\aa w')):
  Calls Tryz.prog 157 #[pt s,.pointer none,pv P] w fun e w'=>e=.returned (.tuple #[])/\aa w':=by
 have HB:Hid (∀o,Below w.heap.size w (w.alloc o)):=fun o=>(Below.refl _ _).alloc (Nat.le_refl _) _
 go_enter Tryz.func157,Tryz.ntmps157;go_wp2_with fail
 go_quiet (fail);go_wp2_with (first|(go_at_call 215;refine((Aa HQ) _ (by first|exact(Aa HB) _|exact below_drewN ((Aa HB) _) _|exact((Aa HB) _).drew|exact((Aa HB) _).drew.drew|exact below_drewN (below_drewN ((Aa HB) _) _) _)).mono ?_;rintro e w3 ⟨rfl,ab⟩))
 go_returns;exact⟨rfl,ab⟩
theorem Qk(w:World)(s b:Nat)(sq:Int)(P:Pk)(aa:World->Prop)(h3:w.cell? ⟨b,3,none⟩=some (.int .i64 sq))
  (HL:Hid (sq<P.seq->∀wa,Below w.heap.size w wa->Calls Tryz.prog 215 #[pt s,pt b,pv P] wa fun e w'=>e=.returned (.tuple #[])/\aa w'))
  (HE:Hid (sq=P.seq->∀wa,Below w.heap.size w wa->Calls Tryz.prog 216 #[pt s,pt b,pv P] wa fun e w'=>e=.returned (.tuple #[])/\aa w'))
  (HN:Hid (P.seq<sq->∀wa,Below w.heap.size w wa->aa wa)):
  Calls Tryz.prog 157 #[pt s,pt b,pv P] w fun e w'=>e=.returned (.tuple #[])/\aa w':=by
 have HB:Hid (∀o,Below w.heap.size w (w.alloc o)):=fun o=>(Below.refl _ _).alloc (Nat.le_refl _) _
 have hl:=lt_of_cell h3;rcases Int.lt_trichotomy sq P.seq with hc|hc|hc
 ·have HQ:=Ac ((Aa HL) hc);have e1:decide (sq<P.seq)=true:=by simpa using hc
  go_enter Tryz.func157,Tryz.ntmps157;go_wp2_with fail
  go_quiet (fail);go_wp2_with (first|(go_at_call 215;refine((Aa HQ) _ (by first|exact(Aa HB) _|exact below_drewN ((Aa HB) _) _|exact((Aa HB) _).drew|exact((Aa HB) _).drew.drew|exact below_drewN (below_drewN ((Aa HB) _) _) _)).mono ?_;rintro e w3 ⟨rfl,ab⟩))
  go_returns;exact⟨rfl,ab⟩
 ·have HQ:=Ac ((Aa HE) hc);have e1:decide (sq<P.seq)=false:=by simp;omega
  have e2:(sq==P.seq)=true:=by simpa using hc
  clear hc;go_enter Tryz.func157,Tryz.ntmps157;go_wp2_with fail
  go_quiet (fail);go_wp2_with fail
  go_quiet (fail);go_wp2_with (first|(go_at_call 216;refine((Aa HQ) _ (by first|exact(Aa HB) _|exact below_drewN ((Aa HB) _) _|exact((Aa HB) _).drew|exact((Aa HB) _).drew.drew|exact below_drewN (below_drewN ((Aa HB) _) _) _)).mono ?_;rintro e w3 ⟨rfl,ab⟩))
  go_returns;exact⟨rfl,ab⟩
 ·have HQ:=Ac ((Aa HN) hc);have e1:decide (sq<P.seq)=false:=by simp;omega
  have e2:(sq==P.seq)=false:=by simp;omega
  clear hc;go_enter Tryz.func157,Tryz.ntmps157;go_wp2_with fail
  go_quiet (fail);go_wp2_with fail
  go_quiet (fail);go_wp2;go_returns;exact⟨rfl,(Aa HQ) _ (by first|exact(Aa HB) _|exact below_drewN ((Aa HB) _) _|exact((Aa HB) _).drew|exact((Aa HB) _).drew.drew|exact below_drewN (below_drewN ((Aa HB) _) _) _)⟩
theorem PY(a b:List UInt8):str (a++b)=str a++str b:=by
 apply ByteArray.ext;simp
theorem XC(w:World)(s b:Nat)(P:Pk)(asked:List UInt8)(aa:World->Prop)(h6:w.cell? ⟨b,6,none⟩=some (.string (str asked)))(z6:w.frozen? ⟨b,6,none⟩=false)(ha:asked.length<=1000)(hb:P.body.length<=1000)(ho:1<=P.off/\P.off<=9)(hn:¬P.part=P.off-1)
  (HP:Hid (∀wa,Below w.heap.size (w.setCell ⟨b,6,none⟩ (.string (str (asked++P.body)))) wa->aa wa)):
  Calls Tryz.prog 262 #[pt s,pt b,pv P] w fun e w'=>e=.returned (.bool true)/\aa w':=by
 have HB:Hid (∀o v,Below w.heap.size (w.setCell ⟨b,6,none⟩ v) ((w.setCell ⟨b,6,none⟩ v).alloc o)):=fun o v=>(Below.refl _ _).alloc (by simp) _
 have hl:=lt_of_cell h6;obtain⟨kd,cl,li,ln,ac,u,pa,o,pl,body⟩:=P;dsimp only[pv]at *;rw[PY asked body]at HP;have ab:¬9223372036854775807<(str asked).size+(str body).size:=by rw[Ax,Ax];omega
 generalize str body=SB at *;generalize str asked=SA at *;have ew:IntKind.i64.wrap (o-1)=o-1:=by rw[IntKind.wrap_i64];omega
 have e1:(pa==o-1)=false:=by simpa using hn
 clear hn;go_enter Tryz.func262,Tryz.ntmps262;go_wp2_with fail
 go_region
 all_goals
  go_wp2;go_returns;exact⟨rfl,(Aa HP) _ (by first|exact(Aa HB) _ _|exact((Aa HB) _ _).drew)⟩
theorem XA(w:World)(s b:Nat)(P:Pk)(c0 c1 c2 c3 c4:Int)(h0:w.cell? ⟨b,0,none⟩=some (.int .i64 c0))(h1:w.cell? ⟨b,1,none⟩=some (.int .i64 c1))(h2:w.cell? ⟨b,2,none⟩=some (.int .i64 c2))(h3:w.cell? ⟨b,3,none⟩=some (.int .i64 c3))(h4:w.cell? ⟨b,4,none⟩=some (.int .i64 c4))(ho:1<=P.off/\P.off<=9)(hn:P.part=P.off-1)
  (HJ:Hid (∀wa,Below w.heap.size w wa->Calls Tryz.prog 265 #[pt s,.agg #[.int .i64 c0,.int .i64 c1,.int .i64 c2,.int .i64 c3,.int .i64 c4]] wa fun e w'=>e=.returned (.bool false)/\Below wa.heap.size wa w')):
  Calls Tryz.prog 262 #[pt s,pt b,pv P] w fun e w'=>e=.returned (.bool false)/\Below w.heap.size w w':=by
 have HB:Hid (∀o,Below w.heap.size w (w.alloc o)):=fun o=>(Below.refl _ _).alloc (Nat.le_refl _) _
 have hl:=lt_of_cell h0;obtain⟨kd,cl,li,ln,ac,u,pa,o,pl,body⟩:=P;dsimp only[pv]at *;have ew:IntKind.i64.wrap (o-1)=o-1:=by rw[IntKind.wrap_i64];omega
 have e1:(pa==o-1)=true:=by simpa using hn
 clear hn;go_enter Tryz.func262,Tryz.ntmps262;go_wp2_with (first|(go_at_call 265;refine((Aa HJ) _ ((Aa HB) _)).mono ?_;rintro e w3 ⟨rfl,aa⟩;have ab:=Ac (((Aa HB) _).trans (aa.mono (by simp)));clear aa))
 go_returns;exact⟨rfl,Aa ab⟩
theorem XB(w:World)(s b:Nat)(P:Pk)(asked:List UInt8)(c0 c1 c2 c3 c4 st:Int)(A aa:World->Prop)(h0:w.cell? ⟨b,0,none⟩=some (.int .i64 c0))(h1:w.cell? ⟨b,1,none⟩=some (.int .i64 c1))(h2:w.cell? ⟨b,2,none⟩=some (.int .i64 c2))(h3:w.cell? ⟨b,3,none⟩=some (.int .i64 c3))(h4:w.cell? ⟨b,4,none⟩=some (.int .i64 c4))(ho:1<=P.off/\P.off<=9)(hn:P.part=P.off-1)(ha:asked.length<=1000)(hb:P.body.length<=1000)
  (HJ:Hid (∀wa,Below w.heap.size w wa->Calls Tryz.prog 265 #[pt s,.agg #[.int .i64 c0,.int .i64 c1,.int .i64 c2,.int .i64 c3,.int .i64 c4]] wa fun e w'=>e=.returned (.bool true)/\A w'/\(∀x,w.heap.size<=x->x<wa.heap.size->w'.heap[x]?=wa.heap[x]?)/\wa.heap.size<=w'.heap.size))
  (HA:Hid (∀w',A w'->w'.cell? ⟨b,6,none⟩=some (.string (str asked))/\w'.frozen? ⟨b,6,none⟩=false/\w'.cell? ⟨b,5,none⟩=some (.int .i64 st)/\w'.frozen? ⟨b,5,none⟩=false))
  (HP:Hid (∀w' wa,A w'->Below w'.heap.size ((w'.setCell ⟨b,6,none⟩ (.string (str (asked++P.body)))).setCell ⟨b,5,none⟩ (.int .i64 1)) wa->aa wa)):
  Calls Tryz.prog 262 #[pt s,pt b,pv P] w fun e w'=>e=.returned (.bool true)/\aa w':=by
 have HB:Hid (∀o,Below w.heap.size w (w.alloc o)):=fun o=>(Below.refl _ _).alloc (Nat.le_refl _) _
 have hl:=lt_of_cell h0;obtain⟨kd,cl,li,ln,ad,u,pa,o,pl,body⟩:=P;dsimp only[pv]at *;rw[PY asked body]at HP;have al:¬9223372036854775807<(str asked).size+(str body).size:=by rw[Ax,Ax];omega
 generalize str body=SB at *;generalize str asked=SA at *;have ew:IntKind.i64.wrap (o-1)=o-1:=by rw[IntKind.wrap_i64];omega
 have e1:(pa==o-1)=true:=by simpa using hn
 clear hn;have HX:Hid (∀w3:World,(∀x,w.heap.size<=x->x<(w.alloc (.cells #[.int .i64 kd,.int .i64 cl,.int .i64 li,.int .i64 ln,.int .i64 ad,.int .i64 u,.int .i64 pa,.int .i64 o,.bool pl,.string SB] 82)).heap.size->w3.heap[x]?=(w.alloc (.cells #[.int .i64 kd,.int .i64 cl,.int .i64 li,.int .i64 ln,.int .i64 ad,.int .i64 u,.int .i64 pa,.int .i64 o,.bool pl,.string SB] 82)).heap[x]?)->w3.cell? ⟨w.heap.size,9,none⟩=some (.string SB)):=fun w3 hx=>by
  have h0:=hx w.heap.size (Nat.le_refl _) (by simp);rw[heap_alloc_new w _]at h0;exact cell_of h0 9 _ rfl
 go_enter Tryz.func262,Tryz.ntmps262;go_wp2_with (first|(go_at_call 265;refine((Aa HJ) _ ((Aa HB) _)).mono ?_;rintro e w3 ⟨rfl,ab,ac,ah⟩;have ag:=(Aa HA) w3 ab;obtain⟨d6,y6,d5,y5⟩:=ag;have d9:=(Aa HX) w3 ac;have ae:=Ac (fun wa=>(Aa HP) w3 wa ab);have ai:=lt_of_cell d6;have aj:=lt_of_cell d9;have ak:¬b=w.heap.size:=(by omega);have af:¬w.heap.size=b:=(by omega);clear ab ac ah))
 go_region
 all_goals
  go_wp2;go_returns;exact⟨rfl,(Aa ae) _ (by first|exact(Below.refl _ _)|exact(Below.refl _ _).drew|exact below_drewN (Below.refl _ _) _)⟩
def Qh(B:Nat)(a b:World):Prop:=a.heap.size<=b.heap.size/\∀x,B<=x->x<a.heap.size->b.heap[x]?=a.heap[x]?
theorem Qh.box{w w':World}{o:Obj}(h:Qh w.heap.size (w.alloc o) w'):w'.heap[w.heap.size]?=some o:=by
 rw[h.2 w.heap.size (Nat.le_refl _) (by simp)];exact heap_alloc_new w o
theorem QK(w:World)(s b:Nat)(P:Pk)(asked:List UInt8)(n:Int)(A ac:World->Prop)(h6:w.cell? ⟨b,6,none⟩=some (.string (str asked)))
  (ab:Hid (∀w,Calls Tryz.prog 203 #[.string (str asked)] w fun e w'=>e=.returned (.int .i64 n)/\w'=w))
  (HF:Hid (n<P.part->∀wa,Below w.heap.size w wa->ac wa))
  (HA:Hid (P.part=n->∀wa,Below w.heap.size w wa->Calls Tryz.prog 262 #[pt s,pt b,pv P] wa fun e w'=>(e=.returned (.bool false)/\ac w')\/(e=.returned (.bool true)/\A w'/\Qh w.heap.size wa w')))
  (HL:Hid (P.part<n->∀wa,Below w.heap.size w wa->A wa))
  (HS:Hid (P.please=true->∀w',A w'->Calls Tryz.prog 252 #[pt s,pv P] w' fun e ai=>e=.returned (.tuple #[])/\ac ai))
  (HN:Hid (P.please=false->∀w',A w'->ac w')):
  Calls Tryz.prog 251 #[pt s,pt b,pv P] w fun e w'=>e=.returned (.tuple #[])/\ac w':=by
 have HB:Hid (∀o,Below w.heap.size w (w.alloc o)):=fun o=>(Below.refl _ _).alloc (Nat.le_refl _) _
 have hl:=lt_of_cell h6;obtain⟨kd,cl,li,ln,ag,u,pa,o,pl,body⟩:=P;dsimp only[pv]at *;generalize str body=SB at *;generalize str asked=SA at *;rcases Int.lt_trichotomy pa n with hc|hc|hc
 ·have e1:¬n<pa:=by omega
  have e2:(pa==n)=false:=by simp;omega
  have HQ:=Ac ((Aa HL) hc);clear hc HF HA;cases pl with
  |true=>
   have af:=Ac ((Aa HS) rfl);go_enter Tryz.func251,Tryz.ntmps251;go_wp2_with (first|(go_at_call 203;refine((Aa ab) _).mono ?_;rintro e w1 ⟨rfl,aa⟩;rw[aa];clear aa)|(go_at_call 252;refine((Aa af) _ ((Aa HQ) _ ((Aa HB) _))).mono ?_;rintro e w3 ⟨rfl,ad⟩))
   go_returns;exact⟨rfl,ad⟩
  |false=>
   have ae:=Ac ((Aa HN) rfl);go_enter Tryz.func251,Tryz.ntmps251;go_wp2_with (first|(go_at_call 203;refine((Aa ab) _).mono ?_;rintro e w1 ⟨rfl,aa⟩;rw[aa];clear aa))
   go_returns;exact⟨rfl,(Aa ae) _ ((Aa HQ) _ ((Aa HB) _))⟩
 ·have e1:¬n<pa:=by omega
  have e2:(pa==n)=true:=by simp;omega
  have HQ:=Ac ((Aa HA) hc);clear hc HF HL HA;have HX:Hid (∀w3:World,Qh w.heap.size (w.alloc (.cells #[.int .i64 kd,.int .i64 cl,.int .i64 li,.int .i64 ln,.int .i64 ag,.int .i64 u,.int .i64 pa,.int .i64 o,.bool pl,.string SB] 82)) w3->w3.heap[w.heap.size]?=some (.cells #[.int .i64 kd,.int .i64 cl,.int .i64 li,.int .i64 ln,.int .i64 ag,.int .i64 u,.int .i64 pa,.int .i64 o,.bool pl,.string SB] 82)):=fun w3 h3=>h3.box
  cases pl with
  |true=>
   have af:=Ac ((Aa HS) rfl);go_enter Tryz.func251,Tryz.ntmps251;go_wp2_with (first|(go_at_call 203;refine((Aa ab) _).mono ?_;rintro e w1 ⟨rfl,aa⟩;rw[aa];clear aa)|(go_at_call 262;refine((Aa HQ) _ ((Aa HB) _)).mono ?_))
   rintro e w3 (⟨rfl,ad⟩|⟨rfl,ad,hs3⟩)
   ·go_wp2;go_returns;exact⟨rfl,ad⟩
   ·have hb:=(Aa HX) w3 hs3;have k0:=cell_of hb 0 _ rfl;have k1:=cell_of hb 1 _ rfl;have k2:=cell_of hb 2 _ rfl;have k3:=cell_of hb 3 _ rfl;have k4:=cell_of hb 4 _ rfl;have k5:=cell_of hb 5 _ rfl;have k6:=cell_of hb 6 _ rfl;have k7:=cell_of hb 7 _ rfl;have k8:=cell_of hb 8 _ rfl;have k9:=cell_of hb 9 _ rfl;have HC:=Ac ((Aa af) w3 ad);clear ad hs3 hb;go_wp2_with (first|(go_at_call 252;refine(Aa HC).mono ?_;rintro e w4 ⟨rfl,ah⟩))
    go_returns;exact⟨rfl,ah⟩
  |false=>
   have ae:=Ac ((Aa HN) rfl);go_enter Tryz.func251,Tryz.ntmps251;go_wp2_with (first|(go_at_call 203;refine((Aa ab) _).mono ?_;rintro e w1 ⟨rfl,aa⟩;rw[aa];clear aa)|(go_at_call 262;refine((Aa HQ) _ ((Aa HB) _)).mono ?_))
   rintro e w3 (⟨rfl,ad⟩|⟨rfl,ad,hs3⟩)
   ·go_wp2;go_returns;exact⟨rfl,ad⟩
   ·have hb:=(Aa HX) w3 hs3;have k8:=cell_of hb 8 _ rfl;have HC:=Ac ((Aa ae) w3 ad);clear ad hs3 hb;go_wp2;go_returns;exact⟨rfl,Aa HC⟩
 ·have HQ:=Ac ((Aa HF) hc);clear HL HA;go_enter Tryz.func251,Tryz.ntmps251;go_wp2_with (first|(go_at_call 203;refine((Aa ab) _).mono ?_;rintro e w1 ⟨rfl,aa⟩;rw[aa];clear aa))
  go_returns;exact⟨rfl,(Aa HQ) _ ((Aa HB) _)⟩
theorem J7(w:World)(s m:Nat)(a:Option Addr)(cap:Nat)(u:Int)(h6:w.cell? ⟨s,6,none⟩=some (.slice a m cap)):Calls Tryz.prog 37 #[pt s,.int .i64 u] w fun e w'=>e=.returned (.bool (decide (1<=u/\u<=(m:Int))))/\w'=w:=by
 by_cases h1:1<=u
 ·by_cases h2:u<=(m:Int)
  ·rw[show decide (1<=u/\u<=(m:Int))=true by simp[h1,h2]];have e1:decide (u ≥ 1)=true:=by simpa using h1
   have e2:decide (u<=(m:Int))=true:=by simpa using h2
   go_enter Tryz.func37,Tryz.ntmps37;go_wp2;go_returns;exact⟨rfl,rfl⟩
  ·rw[show decide (1<=u/\u<=(m:Int))=false by simp[h2]];have e1:decide (u ≥ 1)=true:=by simpa using h1
   have e2:decide (u<=(m:Int))=false:=by simpa using h2
   go_enter Tryz.func37,Tryz.ntmps37;go_wp2;go_returns;exact⟨rfl,rfl⟩
 ·rw[show decide (1<=u/\u<=(m:Int))=false by simp[h1]];have e1:decide (u ≥ 1)=false:=by simp;omega
  go_enter Tryz.func37,Tryz.ntmps37;go_wp2;go_returns;exact⟨rfl,rfl⟩
theorem XD(w:World)(s m:Nat)(a:Option Addr)(cap:Nat)(u:Int)(h6:w.cell? ⟨s,6,none⟩=some (.slice a m cap))(hu:¬(1<=u/\u<=(m:Int))):Calls Tryz.prog 248 #[pt s,.int .i64 u] w fun e w'=>e=.returned (.bool false)/\w'=w:=by
 have H:=Ac (J7 w s m a cap u h6);rw[show decide (1<=u/\u<=(m:Int))=false by simpa using hu]at H;go_enter Tryz.func248,Tryz.ntmps248;go_wp2_with (first|(go_at_call 37;refine(Aa H).mono ?_;rintro e w1 ⟨rfl,aa⟩;rw[aa];clear aa))
 go_returns;exact⟨rfl,rfl⟩
theorem Vo(w:World)(s g u m cap:Nat)(T:TypeId)(b:Nat)(h6:w.cell? ⟨s,6,none⟩=some (.slice (some ⟨g,0,none⟩) m cap))(hu:u<m)(hm:m<=255)(hw:w.cell? ⟨g,u*3+1,none⟩=some (.iface T (ptr b))):Calls Tryz.prog 248 #[pt s,.int .i64 ((u:Int)+1)] w fun e w'=>e=.returned (.bool true)/\w'=w:=by
 have H:=Ac (J7 w s m _ cap ((u:Int)+1) h6);rw[show decide (1<=(u:Int)+1/\(u:Int)+1<=(m:Int))=true by simp;omega]at H;have HV:=Ac (Ey w s g u m cap h6 hu hm);go_enter Tryz.func248,Tryz.ntmps248;go_wp2_with (first|(go_at_call 37;refine(Aa H).mono ?_;rintro e w1 ⟨rfl,aa⟩;rw[aa];clear aa)|(go_at_call 38;refine(Aa HV).mono ?_;rintro e w1 ⟨rfl,aa⟩;rw[aa];clear aa))
 go_returns;exact⟨rfl,rfl⟩
theorem Sj(w:World)(s g u m cap:Nat)(h6:w.cell? ⟨s,6,none⟩=some (.slice (some ⟨g,0,none⟩) m cap))(hu:u<m)(hm:m<=255)(hw:w.cell? ⟨g,u*3+1,none⟩=some .nilIface):Calls Tryz.prog 248 #[pt s,.int .i64 ((u:Int)+1)] w fun e w'=>e=.returned (.bool false)/\w'=w:=by
 have H:=Ac (J7 w s m _ cap ((u:Int)+1) h6);rw[show decide (1<=(u:Int)+1/\(u:Int)+1<=(m:Int))=true by simp;omega]at H;have HV:=Ac (Ey w s g u m cap h6 hu hm);go_enter Tryz.func248,Tryz.ntmps248;go_wp2_with (first|(go_at_call 37;refine(Aa H).mono ?_;rintro e w1 ⟨rfl,aa⟩;rw[aa];clear aa)|(go_at_call 38;refine(Aa HV).mono ?_;rintro e w1 ⟨rfl,aa⟩;rw[aa];clear aa))
 go_returns;exact⟨rfl,rfl⟩
theorem abL:∀args w,(callFunc 250 args).run Tryz.prog w=.ok (.enter 250 args) w:=fun _ _=>rfl
theorem XR:∀args w,(callFunc 220 args).run Tryz.prog w=.ok (.enter 220 args) w:=fun _ _=>rfl
theorem Lx{f:World->Prop}{W:World}(P:World->Prop)(hP:P W)(h:∀W',P W'->f W'):f W:=h W hP
def Two(w:World)(o o':Obj)(W:World):Prop:=Below w.heap.size w W/\W.heap[w.heap.size]?=some o/\W.heap[w.heap.size+1]?=some o'
theorem aer(w:World)(o o':Obj):Two w o o' ((w.alloc o).alloc o'):=by
 refine⟨((Below.refl _ _).alloc (Nat.le_refl _) _).alloc (by simp) _,(Below.heap_alloc _ _ _ (by simp)).trans (heap_alloc_new w _),?_⟩;have:=heap_alloc_new (w.alloc o) o';simpa using this
theorem OI(w:World)(s:Nat)(P:Pk)(ab aa o':Int)(ad:World->Prop)(hk:(P.kind=3/\ab=4/\aa=0/\o'=1)\/(¬P.kind=3/\ab=2/\aa=P.part/\o'=P.off))
  (HS:Hid (∀wa,Below w.heap.size w wa->Calls Tryz.prog 220 #[.pointer (some ⟨s,0,none⟩),cv P,NL ab 0 0 0 0 0 aa o' false ⟨#[]⟩] wa fun e w'=>e=.returned (.tuple #[])/\ad w')):
  Calls Tryz.prog 252 #[.pointer (some ⟨s,0,none⟩),pv P] w fun e w'=>e=.returned (.tuple #[])/\ad w':=by
 have HC:=Ac (fun w=>GN P w);obtain⟨kd,cl,li,ln,ac,u,pa,o,pl,body⟩:=P;dsimp only[pv,cv]at *;generalize str body=SB at *;have HX:Hid (∀W,Two w (.cells #[.int .i64 kd,.int .i64 cl,.int .i64 li,.int .i64 ln,.int .i64 ac,.int .i64 u,.int .i64 pa,.int .i64 o,.bool pl,.string SB] 82) (.cells #[.int .i64 ab,.int .i64 0,.int .i64 0,.int .i64 0,.int .i64 0,.int .i64 0,.int .i64 aa,.int .i64 o',.bool false,.string ⟨#[]⟩] 82) W->∀w1,Below W.drew.heap.size W.drew w1->(w1.cell? ⟨w.heap.size+1,0,none⟩=some (.int .i64 ab)/\w1.cell? ⟨w.heap.size+1,1,none⟩=some (.int .i64 0)/\w1.cell? ⟨w.heap.size+1,2,none⟩=some (.int .i64 0)/\w1.cell? ⟨w.heap.size+1,3,none⟩=some (.int .i64 0)/\w1.cell? ⟨w.heap.size+1,4,none⟩=some (.int .i64 0))/\w1.cell? ⟨w.heap.size+1,5,none⟩=some (.int .i64 0)/\w1.cell? ⟨w.heap.size+1,6,none⟩=some (.int .i64 aa)/\w1.cell? ⟨w.heap.size+1,7,none⟩=some (.int .i64 o')/\w1.cell? ⟨w.heap.size+1,8,none⟩=some (.bool false)/\w1.cell? ⟨w.heap.size+1,9,none⟩=some (.string ⟨#[]⟩)/\Below w.heap.size w w1):=fun W hW w1 hb=>by
  have hl:=(Array.getElem?_eq_some_iff.1 hW.2.2).1;have h1:w1.heap[w.heap.size+1]?=some (.cells #[.int .i64 ab,.int .i64 0,.int .i64 0,.int .i64 0,.int .i64 0,.int .i64 0,.int .i64 aa,.int .i64 o',.bool false,.string ⟨#[]⟩] 82):=(hb.block _ hl).trans hW.2.2;exact⟨⟨cell_of h1 0 _ rfl,cell_of h1 1 _ rfl,cell_of h1 2 _ rfl,cell_of h1 3 _ rfl,cell_of h1 4 _ rfl⟩,cell_of h1 5 _ rfl,cell_of h1 6 _ rfl,cell_of h1 7 _ rfl,cell_of h1 8 _ rfl,cell_of h1 9 _ rfl,hW.1.drew.trans (hb.mono hW.1.size)⟩
 have HY:Hid (∀W,Two w (.cells #[.int .i64 kd,.int .i64 cl,.int .i64 li,.int .i64 ln,.int .i64 ac,.int .i64 u,.int .i64 pa,.int .i64 o,.bool pl,.string SB] 82) (.cells #[.int .i64 ab,.int .i64 0,.int .i64 0,.int .i64 0,.int .i64 0,.int .i64 0,.int .i64 aa,.int .i64 o',.bool false,.string ⟨#[]⟩] 82) W->(W.cell? ⟨w.heap.size,0,none⟩=some (.int .i64 kd)/\W.cell? ⟨w.heap.size,1,none⟩=some (.int .i64 cl)/\W.cell? ⟨w.heap.size,2,none⟩=some (.int .i64 li)/\W.cell? ⟨w.heap.size,3,none⟩=some (.int .i64 ln)/\W.cell? ⟨w.heap.size,4,none⟩=some (.int .i64 ac))/\W.cell? ⟨w.heap.size,5,none⟩=some (.int .i64 u)/\W.cell? ⟨w.heap.size,6,none⟩=some (.int .i64 pa)/\W.cell? ⟨w.heap.size,7,none⟩=some (.int .i64 o)/\W.cell? ⟨w.heap.size,8,none⟩=some (.bool pl)/\W.cell? ⟨w.heap.size,9,none⟩=some (.string SB)):=fun W hW=>⟨⟨cell_of hW.2.1 0 _ rfl,cell_of hW.2.1 1 _ rfl,cell_of hW.2.1 2 _ rfl,cell_of hW.2.1 3 _ rfl,cell_of hW.2.1 4 _ rfl⟩,cell_of hW.2.1 5 _ rfl,cell_of hW.2.1 6 _ rfl,cell_of hW.2.1 7 _ rfl,cell_of hW.2.1 8 _ rfl,cell_of hW.2.1 9 _ rfl⟩
 have HZ:=Ac (aer w);rcases hk with ⟨h1,rfl,rfl,rfl⟩|⟨h1,rfl,rfl,rfl⟩
 ·have e1:(kd==3)=true:=by simpa using h1
  clear h1;go_enter Tryz.func252,Tryz.ntmps252;go_wp2_with fail
  refine Lx _ ((Aa HZ) _ _) ?_;intro W hW;obtain⟨⟨g0,g1,g2,g3,g4⟩,g5,g6,g7,g8,g9⟩:=(Aa HY) W hW;have aj:=((Aa HX) W hW W.drew (Below.refl _ _));obtain⟨⟨y0,y1,y2,y3,y4⟩,y5,y6,y7,y8,y9,_⟩:=aj;simp only[World.cell?_drew]at y0 y1 y2 y3 y4 y5 y6 y7 y8 y9;have ah:=Ac ((Aa HX) W hW);clear hW HX HY HZ;go_region_law (first
   |(refine Av rfl 250 #[.tmp 15] #[82] rfl abL #[.agg #[.int .i64 kd,.int .i64 cl,.int .i64 li,.int .i64 ln,.int .i64 ac,.int .i64 u,.int .i64 pa,.int .i64 o,.bool pl,.string SB]] rfl _ ((Aa HC) _) ?_;rintro e w1 ⟨rfl,ae⟩;have ak:=(Aa ah) w1 ae;obtain⟨⟨f0,f1,f2,f3,f4⟩,f5,f6,f7,f8,f9,af⟩:=ak;have ag:=Ac ((Aa HS) w1 af);clear ae af;refine⟨_,rfl,?_⟩)
   |(refine Av rfl 220 #[.tmp 14,.tmp 16,.tmp 17] #[68,170,82] rfl XR #[.pointer (some ⟨s,0,none⟩),.agg #[.int .i64 cl,.int .i64 li,.int .i64 ln,.int .i64 ac,.int .i64 u],NL 4 0 0 0 0 0 0 1 false ⟨#[]⟩] rfl _ (Aa ag) ?_;rintro e w2 ⟨rfl,ai⟩;refine⟨_,rfl,?_⟩))
  all_goals
   go_wp2;go_returns;exact⟨rfl,ai⟩
 ·have e1:(kd==3)=false:=by simpa using h1
  clear h1;go_enter Tryz.func252,Tryz.ntmps252;go_wp2_with fail
  refine Lx _ ((Aa HZ) _ _) ?_;intro W hW;obtain⟨⟨g0,g1,g2,g3,g4⟩,g5,g6,g7,g8,g9⟩:=(Aa HY) W hW;have aj:=((Aa HX) W hW W.drew (Below.refl _ _));obtain⟨⟨y0,y1,y2,y3,y4⟩,y5,y6,y7,y8,y9,_⟩:=aj;simp only[World.cell?_drew]at y0 y1 y2 y3 y4 y5 y6 y7 y8 y9;have ah:=Ac ((Aa HX) W hW);clear hW HX HY HZ;go_region_law (first
   |(refine Av rfl 250 #[.tmp 15] #[82] rfl abL #[.agg #[.int .i64 kd,.int .i64 cl,.int .i64 li,.int .i64 ln,.int .i64 ac,.int .i64 u,.int .i64 aa,.int .i64 o',.bool pl,.string SB]] rfl _ ((Aa HC) _) ?_;rintro e w1 ⟨rfl,ae⟩;have ak:=(Aa ah) w1 ae;obtain⟨⟨f0,f1,f2,f3,f4⟩,f5,f6,f7,f8,f9,af⟩:=ak;have ag:=Ac ((Aa HS) w1 af);clear ae af;refine⟨_,rfl,?_⟩)
   |(refine Av rfl 220 #[.tmp 14,.tmp 16,.tmp 17] #[68,170,82] rfl XR #[.pointer (some ⟨s,0,none⟩),.agg #[.int .i64 cl,.int .i64 li,.int .i64 ln,.int .i64 ac,.int .i64 u],NL 2 0 0 0 0 0 aa o' false ⟨#[]⟩] rfl _ (Aa ag) ?_;rintro e w2 ⟨rfl,ai⟩;refine⟨_,rfl,?_⟩))
  all_goals
   go_wp2;go_returns;exact⟨rfl,ai⟩
end Go.Proofs.YtblomippkddgiabGreatDoor
