import Derived.Test.YtblomippkddgiaaGreatDoorJ16
import Derived.Test.YtblomippkddgiaaGreatDoorJ36
import Derived.Handy
import Derived.Deep.RegionLaw
import Derived.Deep.RegionWith
import Derived.WalkMore
import Derived.ScopeJumps
import Derived.Test.YtblomippkddgiaaGreatDoorJ17
import Derived.Test.YtblomippkddgiaaGreatDoorJ27
set_option maxRecDepth 100000
set_option maxHeartbeats 1000000
namespace Go.Proofs.YtblomippkddgiaaGreatDoor
open Go.RowKit
abbrev cv(P:Pk):Value:=.agg #[.int .i64 P.client,.int .i64 P.life,.int .i64 P.line,.int .i64 P.seq,.int .i64 P.uid]
theorem aco(P:Pk)(w:World):Calls Tryz.prog 235 #[pv P] w fun e w'=>e=.returned (cv P)∧Below w.heap.size w w':=by
 go_enter Tryz.func235,Tryz.ntmps235
 go_wp2
 go_returns
 exact⟨rfl,((Below.refl _ _).alloc (Nat.le_refl _) _).alloc (by simp) _⟩
theorem agV(w:World)(s:Nat)(P:Pk)(why:Int)(Post:World→Prop)
  (HS:Hid (∀wa,Below w.heap.size w wa→Calls Tryz.prog 192 #[.pointer (some ⟨s,0,none⟩),cv P,pvs 7 0 0 0 0 0 why 2 false ⟨#[]⟩] wa fun e w'=>e=.returned (.tuple #[])∧Post w')) :
  Calls Tryz.prog 234 #[.pointer (some ⟨s,0,none⟩),pv P,.int .i64 why] w fun e w'=>e=.returned (.tuple #[])∧Post w':=by
 have HC:=aab (fun w=>aco P w)
 have HB:Hid (∀o,Below w.heap.size w (w.alloc o)):=fun o=>(Below.refl _ _).alloc (Nat.le_refl _) _
 go_enter Tryz.func234,Tryz.ntmps234
 go_wp2_with (first|(go_at_call 235;refine((unhide HC) _).mono ?_;rintro e w1 ⟨rfl,hb1⟩;have HB1:=aab (((unhide HB) _).trans (hb1.mono (by simp)));clear hb1)|(go_at_call 192;refine((unhide HS) _ (unhide HB1)).mono ?_;rintro e w3 ⟨rfl,hw3⟩))
 go_returns
 exact⟨rfl,hw3⟩
abbrev pt(b:Nat):Value:=.pointer (some ⟨b,0,none⟩)
theorem ai9(w:World)(s b:Nat)(st:Int)(P:Pk)(Post:World→Prop)(h5:w.cell? ⟨b,5,none⟩=some (.int .i64 st))(hst:0≤st∧st≤3)
  (H3:Hid (st=3→∀wa,Below w.heap.size w wa→Calls Tryz.prog 234 #[pt s,pv P,.int .i64 0] wa fun e w'=>e=.returned (.tuple #[])∧Post w'))
  (H2:Hid (st=2→P.please=true→∀wa,Below w.heap.size w wa→Calls Tryz.prog 137 #[pt s,pt b] wa fun e w'=>e=.returned (.tuple #[])∧Post w'))
  (H1:Hid (st=1→P.please=true→∀wa,Below w.heap.size w wa→Calls Tryz.prog 237 #[pt s,pv P] wa fun e w'=>e=.returned (.tuple #[])∧Post w'))
  (H0:Hid (st=0→P.kind=1→∀wa,Below w.heap.size w wa→Calls Tryz.prog 236 #[pt s,pt b,pv P] wa fun e w'=>e=.returned (.tuple #[])∧Post w'))
  (HN:Hid (((st=1∨st=2)∧P.please=false)∨(st=0∧¬P.kind=1)→∀wa,Below w.heap.size w wa→Post wa)) :
  Calls Tryz.prog 200 #[pt s,pt b,pv P] w fun e w'=>e=.returned (.tuple #[])∧Post w':=by
 have HB:Hid (∀o,Below w.heap.size w (w.alloc o)):=fun o=>(Below.refl _ _).alloc (Nat.le_refl _) _
 have hl:=lt_of_cell h5
 obtain⟨kd,cl,li,ln,sq',u,pa,o,pl,body⟩:=P
 dsimp only at *
 generalize str body=SB at *
 have hc:st=0∨st=1∨st=2∨st=3:=by omega
 clear hst
 rcases hc with rfl|rfl|rfl|rfl
 ·by_cases hk:kd=1
  ·have e1:(kd==1)=true:=by simpa using hk
   have HQ:=aab ((unhide H0) rfl hk)
   clear hk
   go_enter Tryz.func200,Tryz.ntmps200
   go_wp2_with (first|(go_at_call 236;refine((unhide HQ) _ (by first|exact(unhide HB) _|exact below_drewN ((unhide HB) _) _|exact((unhide HB) _).drew|exact((unhide HB) _).drew.drew|exact below_drewN (below_drewN ((unhide HB) _) _) _)).mono ?_;rintro e w3 ⟨rfl,hw3⟩))
   go_returns
   exact⟨rfl,hw3⟩
  ·have e1:(kd==1)=false:=by simpa using hk
   have HQ:=aab ((unhide HN) (Or.inr ⟨rfl,hk⟩))
   clear hk
   go_enter Tryz.func200,Tryz.ntmps200
   go_wp2
   go_returns
   exact⟨rfl,(unhide HQ) _ (by first|exact(unhide HB) _|exact below_drewN ((unhide HB) _) _|exact((unhide HB) _).drew|exact((unhide HB) _).drew.drew|exact below_drewN (below_drewN ((unhide HB) _) _) _)⟩
 ·cases pl with
  |true=>
   have HQ:=aab ((unhide H1) rfl rfl)
   go_enter Tryz.func200,Tryz.ntmps200
   go_wp2_with (first|(go_at_call 237;refine((unhide HQ) _ (by first|exact(unhide HB) _|exact below_drewN ((unhide HB) _) _|exact((unhide HB) _).drew|exact((unhide HB) _).drew.drew|exact below_drewN (below_drewN ((unhide HB) _) _) _)).mono ?_;rintro e w3 ⟨rfl,hw3⟩))
   go_returns
   exact⟨rfl,hw3⟩
  |false=>
   have HQ:=aab ((unhide HN) (Or.inl ⟨Or.inl rfl,rfl⟩))
   go_enter Tryz.func200,Tryz.ntmps200
   go_wp2
   go_returns
   exact⟨rfl,(unhide HQ) _ (by first|exact(unhide HB) _|exact below_drewN ((unhide HB) _) _|exact((unhide HB) _).drew|exact((unhide HB) _).drew.drew|exact below_drewN (below_drewN ((unhide HB) _) _) _)⟩
 ·cases pl with
  |true=>
   have HQ:=aab ((unhide H2) rfl rfl)
   go_enter Tryz.func200,Tryz.ntmps200
   go_wp2_with (first|(go_at_call 137;refine((unhide HQ) _ (by first|exact(unhide HB) _|exact below_drewN ((unhide HB) _) _|exact((unhide HB) _).drew|exact((unhide HB) _).drew.drew|exact below_drewN (below_drewN ((unhide HB) _) _) _)).mono ?_;rintro e w3 ⟨rfl,hw3⟩))
   go_returns
   exact⟨rfl,hw3⟩
  |false=>
   have HQ:=aab ((unhide HN) (Or.inl ⟨Or.inr rfl,rfl⟩))
   go_enter Tryz.func200,Tryz.ntmps200
   go_wp2
   go_returns
   exact⟨rfl,(unhide HQ) _ (by first|exact(unhide HB) _|exact below_drewN ((unhide HB) _) _|exact((unhide HB) _).drew|exact((unhide HB) _).drew.drew|exact below_drewN (below_drewN ((unhide HB) _) _) _)⟩
 ·have HQ:=aab ((unhide H3) rfl)
  go_enter Tryz.func200,Tryz.ntmps200
  go_wp2_with (first|(go_at_call 234;refine((unhide HQ) _ (by first|exact(unhide HB) _|exact below_drewN ((unhide HB) _) _|exact((unhide HB) _).drew|exact((unhide HB) _).drew.drew|exact below_drewN (below_drewN ((unhide HB) _) _) _)).mono ?_;rintro e w3 ⟨rfl,hw3⟩))
  go_returns
  exact⟨rfl,hw3⟩
theorem ajH(w:World)(s:Nat)(P:Pk)(Post:World→Prop)
  (HQ:Hid (∀wa,Below w.heap.size w wa→Calls Tryz.prog 199 #[pt s,.pointer none,pv P] wa fun e w'=>e=.returned (.tuple #[])∧Post w')) :
  Calls Tryz.prog 139 #[pt s,.pointer none,pv P] w fun e w'=>e=.returned (.tuple #[])∧Post w':=by
 have HB:Hid (∀o,Below w.heap.size w (w.alloc o)):=fun o=>(Below.refl _ _).alloc (Nat.le_refl _) _
 go_enter Tryz.func139,Tryz.ntmps139
 go_wp2_with fail
 go_quiet (fail)
 go_wp2_with (first|(go_at_call 199;refine((unhide HQ) _ (by first|exact(unhide HB) _|exact below_drewN ((unhide HB) _) _|exact((unhide HB) _).drew|exact((unhide HB) _).drew.drew|exact below_drewN (below_drewN ((unhide HB) _) _) _)).mono ?_;rintro e w3 ⟨rfl,hw3⟩))
 go_returns
 exact⟨rfl,hw3⟩
theorem ahB(w:World)(s b:Nat)(sq:Int)(P:Pk)(Post:World→Prop)(h3:w.cell? ⟨b,3,none⟩=some (.int .i64 sq))
  (HL:Hid (sq<P.seq→∀wa,Below w.heap.size w wa→Calls Tryz.prog 199 #[pt s,pt b,pv P] wa fun e w'=>e=.returned (.tuple #[])∧Post w'))
  (HE:Hid (sq=P.seq→∀wa,Below w.heap.size w wa→Calls Tryz.prog 200 #[pt s,pt b,pv P] wa fun e w'=>e=.returned (.tuple #[])∧Post w'))
  (HN:Hid (P.seq<sq→∀wa,Below w.heap.size w wa→Post wa)) :
  Calls Tryz.prog 139 #[pt s,pt b,pv P] w fun e w'=>e=.returned (.tuple #[])∧Post w':=by
 have HB:Hid (∀o,Below w.heap.size w (w.alloc o)):=fun o=>(Below.refl _ _).alloc (Nat.le_refl _) _
 have hl:=lt_of_cell h3
 rcases Int.lt_trichotomy sq P.seq with hc|hc|hc
 ·have HQ:=aab ((unhide HL) hc)
  have e1:decide (sq<P.seq)=true:=by simpa using hc
  go_enter Tryz.func139,Tryz.ntmps139
  go_wp2_with fail
  go_quiet (fail)
  go_wp2_with (first|(go_at_call 199;refine((unhide HQ) _ (by first|exact(unhide HB) _|exact below_drewN ((unhide HB) _) _|exact((unhide HB) _).drew|exact((unhide HB) _).drew.drew|exact below_drewN (below_drewN ((unhide HB) _) _) _)).mono ?_;rintro e w3 ⟨rfl,hw3⟩))
  go_returns
  exact⟨rfl,hw3⟩
 ·have HQ:=aab ((unhide HE) hc)
  have e1:decide (sq<P.seq)=false:=by simp;omega
  have e2:(sq==P.seq)=true:=by simpa using hc
  clear hc
  go_enter Tryz.func139,Tryz.ntmps139
  go_wp2_with fail
  go_quiet (fail)
  go_wp2_with fail
  go_quiet (fail)
  go_wp2_with (first|(go_at_call 200;refine((unhide HQ) _ (by first|exact(unhide HB) _|exact below_drewN ((unhide HB) _) _|exact((unhide HB) _).drew|exact((unhide HB) _).drew.drew|exact below_drewN (below_drewN ((unhide HB) _) _) _)).mono ?_;rintro e w3 ⟨rfl,hw3⟩))
  go_returns
  exact⟨rfl,hw3⟩
 ·have HQ:=aab ((unhide HN) hc)
  have e1:decide (sq<P.seq)=false:=by simp;omega
  have e2:(sq==P.seq)=false:=by simp;omega
  clear hc
  go_enter Tryz.func139,Tryz.ntmps139
  go_wp2_with fail
  go_quiet (fail)
  go_wp2_with fail
  go_quiet (fail)
  go_wp2
  go_returns
  exact⟨rfl,(unhide HQ) _ (by first|exact(unhide HB) _|exact below_drewN ((unhide HB) _) _|exact((unhide HB) _).drew|exact((unhide HB) _).drew.drew|exact below_drewN (below_drewN ((unhide HB) _) _) _)⟩
theorem agM(a b:List UInt8):str (a++b)=str a++str b:=by
 apply ByteArray.ext
 simp
theorem anL(w:World)(s b:Nat)(P:Pk)(asked:List UInt8)(Post:World→Prop)(h6:w.cell? ⟨b,6,none⟩=some (.string (str asked)))(z6:w.frozen? ⟨b,6,none⟩=false)(ha:asked.length≤1000)(hb:P.body.length≤1000)(ho:1≤P.off∧P.off≤9)(hn:¬P.part=P.off-1)
  (HP:Hid (∀wa,Below w.heap.size (w.setCell ⟨b,6,none⟩ (.string (str (asked++P.body)))) wa→Post wa)) :
  Calls Tryz.prog 258 #[pt s,pt b,pv P] w fun e w'=>e=.returned (.bool true)∧Post w':=by
 have HB:Hid (∀o v,Below w.heap.size (w.setCell ⟨b,6,none⟩ v) ((w.setCell ⟨b,6,none⟩ v).alloc o)):=fun o v=>(Below.refl _ _).alloc (by simp) _
 have hl:=lt_of_cell h6
 obtain⟨kd,cl,li,ln,sq',u,pa,o,pl,body⟩:=P
 dsimp only[pv]at *
 rw[agM asked body]at HP
 have hsz:¬9223372036854775807<(str asked).size+(str body).size:=by rw[str_size,str_size];omega
 generalize str body=SB at *
 generalize str asked=SA at *
 have ew:IntKind.i64.wrap (o-1)=o-1:=by rw[IntKind.wrap_i64];omega
 have e1:(pa==o-1)=false:=by simpa using hn
 clear hn
 go_enter Tryz.func258,Tryz.ntmps258
 go_wp2_with fail
 go_region
 all_goals
  go_wp2
  go_returns
  exact⟨rfl,(unhide HP) _ (by first|exact(unhide HB) _ _|exact((unhide HB) _ _).drew)⟩
theorem anN(w:World)(s b:Nat)(P:Pk)(c0 c1 c2 c3 c4:Int)(h0:w.cell? ⟨b,0,none⟩=some (.int .i64 c0))(h1:w.cell? ⟨b,1,none⟩=some (.int .i64 c1))(h2:w.cell? ⟨b,2,none⟩=some (.int .i64 c2))(h3:w.cell? ⟨b,3,none⟩=some (.int .i64 c3))(h4:w.cell? ⟨b,4,none⟩=some (.int .i64 c4))(ho:1≤P.off∧P.off≤9)(hn:P.part=P.off-1)
  (HJ:Hid (∀wa,Below w.heap.size w wa→Calls Tryz.prog 264 #[pt s,.agg #[.int .i64 c0,.int .i64 c1,.int .i64 c2,.int .i64 c3,.int .i64 c4]] wa fun e w'=>e=.returned (.bool false)∧Below wa.heap.size wa w')) :
  Calls Tryz.prog 258 #[pt s,pt b,pv P] w fun e w'=>e=.returned (.bool false)∧Below w.heap.size w w':=by
 have HB:Hid (∀o,Below w.heap.size w (w.alloc o)):=fun o=>(Below.refl _ _).alloc (Nat.le_refl _) _
 have hl:=lt_of_cell h0
 obtain⟨kd,cl,li,ln,sq',u,pa,o,pl,body⟩:=P
 dsimp only[pv]at *
 have ew:IntKind.i64.wrap (o-1)=o-1:=by rw[IntKind.wrap_i64];omega
 have e1:(pa==o-1)=true:=by simpa using hn
 clear hn
 go_enter Tryz.func258,Tryz.ntmps258
 go_wp2_with (first|(go_at_call 264;refine((unhide HJ) _ ((unhide HB) _)).mono ?_;rintro e w3 ⟨rfl,hw3⟩;have HB3:=aab (((unhide HB) _).trans (hw3.mono (by simp)));clear hw3))
 go_returns
 exact⟨rfl,unhide HB3⟩
theorem anM(w:World)(s b:Nat)(P:Pk)(asked:List UInt8)(c0 c1 c2 c3 c4 st:Int)(A Post:World→Prop)(h0:w.cell? ⟨b,0,none⟩=some (.int .i64 c0))(h1:w.cell? ⟨b,1,none⟩=some (.int .i64 c1))(h2:w.cell? ⟨b,2,none⟩=some (.int .i64 c2))(h3:w.cell? ⟨b,3,none⟩=some (.int .i64 c3))(h4:w.cell? ⟨b,4,none⟩=some (.int .i64 c4))(ho:1≤P.off∧P.off≤9)(hn:P.part=P.off-1)(ha:asked.length≤1000)(hb:P.body.length≤1000)
  (HJ:Hid (∀wa,Below w.heap.size w wa→Calls Tryz.prog 264 #[pt s,.agg #[.int .i64 c0,.int .i64 c1,.int .i64 c2,.int .i64 c3,.int .i64 c4]] wa fun e w'=>e=.returned (.bool true)∧A w'∧(∀x,w.heap.size≤x→x<wa.heap.size→w'.heap[x]?=wa.heap[x]?)∧wa.heap.size≤w'.heap.size))
  (HA:Hid (∀w',A w'→w'.cell? ⟨b,6,none⟩=some (.string (str asked))∧w'.frozen? ⟨b,6,none⟩=false∧w'.cell? ⟨b,5,none⟩=some (.int .i64 st)∧w'.frozen? ⟨b,5,none⟩=false))
  (HP:Hid (∀w' wa,A w'→Below w'.heap.size ((w'.setCell ⟨b,6,none⟩ (.string (str (asked++P.body)))).setCell ⟨b,5,none⟩ (.int .i64 1)) wa→Post wa)) :
  Calls Tryz.prog 258 #[pt s,pt b,pv P] w fun e w'=>e=.returned (.bool true)∧Post w':=by
 have HB:Hid (∀o,Below w.heap.size w (w.alloc o)):=fun o=>(Below.refl _ _).alloc (Nat.le_refl _) _
 have hl:=lt_of_cell h0
 obtain⟨kd,cl,li,ln,sq',u,pa,o,pl,body⟩:=P
 dsimp only[pv]at *
 rw[agM asked body]at HP
 have hsz:¬9223372036854775807<(str asked).size+(str body).size:=by rw[str_size,str_size];omega
 generalize str body=SB at *
 generalize str asked=SA at *
 have ew:IntKind.i64.wrap (o-1)=o-1:=by rw[IntKind.wrap_i64];omega
 have e1:(pa==o-1)=true:=by simpa using hn
 clear hn
 have HX:Hid (∀w3:World,(∀x,w.heap.size≤x→x<(w.alloc (.cells #[.int .i64 kd,.int .i64 cl,.int .i64 li,.int .i64 ln,.int .i64 sq',.int .i64 u,.int .i64 pa,.int .i64 o,.bool pl,.string SB] 41)).heap.size→w3.heap[x]?=(w.alloc (.cells #[.int .i64 kd,.int .i64 cl,.int .i64 li,.int .i64 ln,.int .i64 sq',.int .i64 u,.int .i64 pa,.int .i64 o,.bool pl,.string SB] 41)).heap[x]?)→w3.cell? ⟨w.heap.size,9,none⟩=some (.string SB)):=fun w3 hx=>by
  have h0:=hx w.heap.size (Nat.le_refl _) (by simp)
  rw[heap_alloc_new w _]at h0
  exact aaa h0 9 _ rfl
 go_enter Tryz.func258,Tryz.ntmps258
 go_wp2_with (first|(go_at_call 264;refine((unhide HJ) _ ((unhide HB) _)).mono ?_;rintro e w3 ⟨rfl,hw3,hx3,hs3⟩;have hqa:=(unhide HA) w3 hw3;obtain⟨d6,y6,d5,y5⟩:=hqa;have d9:=(unhide HX) w3 hx3;have HP3:=aab (fun wa=>(unhide HP) w3 wa hw3);have hl3:=lt_of_cell d6;have hl4:=lt_of_cell d9;have hnb:¬b=w.heap.size:=(by omega);have hnb':¬w.heap.size=b:=(by omega);clear hw3 hx3 hs3))
 go_region
 all_goals
  go_wp2
  go_returns
  exact⟨rfl,(unhide HP3) _ (by first|exact(Below.refl _ _)|exact(Below.refl _ _).drew|exact below_drewN (Below.refl _ _) _)⟩
def alN(B:Nat)(a b:World):Prop:=a.heap.size≤b.heap.size∧∀x,B≤x→x<a.heap.size→b.heap[x]?=a.heap[x]?
theorem alN.box{w w':World}{o:Obj}(h:alN w.heap.size (w.alloc o) w'):w'.heap[w.heap.size]?=some o:=by
 rw[h.2 w.heap.size (Nat.le_refl _) (by simp)]
 exact heap_alloc_new w o
theorem ahk(w:World)(s b:Nat)(P:Pk)(asked:List UInt8)(n:Int)(A Post:World→Prop)(h6:w.cell? ⟨b,6,none⟩=some (.string (str asked)))
  (H187:Hid (∀w,Calls Tryz.prog 187 #[.string (str asked)] w fun e w'=>e=.returned (.int .i64 n)∧w'=w))
  (HF:Hid (n<P.part→∀wa,Below w.heap.size w wa→Post wa))
  (HA:Hid (P.part=n→∀wa,Below w.heap.size w wa→Calls Tryz.prog 258 #[pt s,pt b,pv P] wa fun e w'=>(e=.returned (.bool false)∧Post w')∨(e=.returned (.bool true)∧A w'∧alN w.heap.size wa w')))
  (HL:Hid (P.part<n→∀wa,Below w.heap.size w wa→A wa))
  (HS:Hid (P.please=true→∀w',A w'→Calls Tryz.prog 237 #[pt s,pv P] w' fun e w''=>e=.returned (.tuple #[])∧Post w''))
  (HN:Hid (P.please=false→∀w',A w'→Post w')) :
  Calls Tryz.prog 236 #[pt s,pt b,pv P] w fun e w'=>e=.returned (.tuple #[])∧Post w':=by
 have HB:Hid (∀o,Below w.heap.size w (w.alloc o)):=fun o=>(Below.refl _ _).alloc (Nat.le_refl _) _
 have hl:=lt_of_cell h6
 obtain⟨kd,cl,li,ln,sq',u,pa,o,pl,body⟩:=P
 dsimp only[pv]at *
 generalize str body=SB at *
 generalize str asked=SA at *
 rcases Int.lt_trichotomy pa n with hc|hc|hc
 ·have e1:¬n<pa:=by omega
  have e2:(pa==n)=false:=by simp;omega
  have HQ:=aab ((unhide HL) hc)
  clear hc HF HA
  cases pl with
  |true=>
   have HS1:=aab ((unhide HS) rfl)
   go_enter Tryz.func236,Tryz.ntmps236
   go_wp2_with (first|(go_at_call 187;refine((unhide H187) _).mono ?_;rintro e w1 ⟨rfl,hw1⟩;rw[hw1];clear hw1)|(go_at_call 237;refine((unhide HS1) _ ((unhide HQ) _ ((unhide HB) _))).mono ?_;rintro e w3 ⟨rfl,hw3⟩))
   go_returns
   exact⟨rfl,hw3⟩
  |false=>
   have HN1:=aab ((unhide HN) rfl)
   go_enter Tryz.func236,Tryz.ntmps236
   go_wp2_with (first|(go_at_call 187;refine((unhide H187) _).mono ?_;rintro e w1 ⟨rfl,hw1⟩;rw[hw1];clear hw1))
   go_returns
   exact⟨rfl,(unhide HN1) _ ((unhide HQ) _ ((unhide HB) _))⟩
 ·have e1:¬n<pa:=by omega
  have e2:(pa==n)=true:=by simp;omega
  have HQ:=aab ((unhide HA) hc)
  clear hc HF HL HA
  have HX:Hid (∀w3:World,alN w.heap.size (w.alloc (.cells #[.int .i64 kd,.int .i64 cl,.int .i64 li,.int .i64 ln,.int .i64 sq',.int .i64 u,.int .i64 pa,.int .i64 o,.bool pl,.string SB] 41)) w3→w3.heap[w.heap.size]?=some (.cells #[.int .i64 kd,.int .i64 cl,.int .i64 li,.int .i64 ln,.int .i64 sq',.int .i64 u,.int .i64 pa,.int .i64 o,.bool pl,.string SB] 41)):=fun w3 h3=>h3.box
  cases pl with
  |true=>
   have HS1:=aab ((unhide HS) rfl)
   go_enter Tryz.func236,Tryz.ntmps236
   go_wp2_with (first|(go_at_call 187;refine((unhide H187) _).mono ?_;rintro e w1 ⟨rfl,hw1⟩;rw[hw1];clear hw1)|(go_at_call 258;refine((unhide HQ) _ ((unhide HB) _)).mono ?_))
   rintro e w3 (⟨rfl,hw3⟩|⟨rfl,hw3,hs3⟩)
   ·go_wp2
    go_returns
    exact⟨rfl,hw3⟩
   ·have hb:=(unhide HX) w3 hs3
    have k0:=aaa hb 0 _ rfl
    have k1:=aaa hb 1 _ rfl
    have k2:=aaa hb 2 _ rfl
    have k3:=aaa hb 3 _ rfl
    have k4:=aaa hb 4 _ rfl
    have k5:=aaa hb 5 _ rfl
    have k6:=aaa hb 6 _ rfl
    have k7:=aaa hb 7 _ rfl
    have k8:=aaa hb 8 _ rfl
    have k9:=aaa hb 9 _ rfl
    have HC:=aab ((unhide HS1) w3 hw3)
    clear hw3 hs3 hb
    go_wp2_with (first|(go_at_call 237;refine(unhide HC).mono ?_;rintro e w4 ⟨rfl,hw4⟩))
    go_returns
    exact⟨rfl,hw4⟩
  |false=>
   have HN1:=aab ((unhide HN) rfl)
   go_enter Tryz.func236,Tryz.ntmps236
   go_wp2_with (first|(go_at_call 187;refine((unhide H187) _).mono ?_;rintro e w1 ⟨rfl,hw1⟩;rw[hw1];clear hw1)|(go_at_call 258;refine((unhide HQ) _ ((unhide HB) _)).mono ?_))
   rintro e w3 (⟨rfl,hw3⟩|⟨rfl,hw3,hs3⟩)
   ·go_wp2
    go_returns
    exact⟨rfl,hw3⟩
   ·have hb:=(unhide HX) w3 hs3
    have k8:=aaa hb 8 _ rfl
    have HC:=aab ((unhide HN1) w3 hw3)
    clear hw3 hs3 hb
    go_wp2
    go_returns
    exact⟨rfl,unhide HC⟩
 ·have HQ:=aab ((unhide HF) hc)
  clear HL HA
  go_enter Tryz.func236,Tryz.ntmps236
  go_wp2_with (first|(go_at_call 187;refine((unhide H187) _).mono ?_;rintro e w1 ⟨rfl,hw1⟩;rw[hw1];clear hw1))
  go_returns
  exact⟨rfl,(unhide HQ) _ ((unhide HB) _)⟩
theorem adH(w:World)(s m:Nat)(a:Option Addr)(cap:Nat)(u:Int)(h6:w.cell? ⟨s,6,none⟩=some (.slice a m cap)):Calls Tryz.prog 131 #[pt s,.int .i64 u] w fun e w'=>e=.returned (.bool (decide (1≤u∧u≤(m:Int))))∧w'=w:=by
 by_cases h1:1≤u
 ·by_cases h2:u≤(m:Int)
  ·rw[show decide (1≤u∧u≤(m:Int))=true by simp[h1,h2]]
   have e1:decide (u ≥ 1)=true:=by simpa using h1
   have e2:decide (u≤(m:Int))=true:=by simpa using h2
   go_enter Tryz.func131,Tryz.ntmps131
   go_wp2
   go_returns
   exact⟨rfl,rfl⟩
  ·rw[show decide (1≤u∧u≤(m:Int))=false by simp[h2]]
   have e1:decide (u ≥ 1)=true:=by simpa using h1
   have e2:decide (u≤(m:Int))=false:=by simpa using h2
   go_enter Tryz.func131,Tryz.ntmps131
   go_wp2
   go_returns
   exact⟨rfl,rfl⟩
 ·rw[show decide (1≤u∧u≤(m:Int))=false by simp[h1]]
  have e1:decide (u ≥ 1)=false:=by simp;omega
  go_enter Tryz.func131,Tryz.ntmps131
  go_wp2
  go_returns
  exact⟨rfl,rfl⟩
theorem anK(w:World)(s m:Nat)(a:Option Addr)(cap:Nat)(u:Int)(h6:w.cell? ⟨s,6,none⟩=some (.slice a m cap))(hu:¬(1≤u∧u≤(m:Int))):Calls Tryz.prog 233 #[pt s,.int .i64 u] w fun e w'=>e=.returned (.bool false)∧w'=w:=by
 have H:=aab (adH w s m a cap u h6)
 rw[show decide (1≤u∧u≤(m:Int))=false by simpa using hu]at H
 go_enter Tryz.func233,Tryz.ntmps233
 go_wp2_with (first|(go_at_call 131;refine(unhide H).mono ?_;rintro e w1 ⟨rfl,hw1⟩;rw[hw1];clear hw1))
 go_returns
 exact⟨rfl,rfl⟩
theorem alM(w:World)(s g u m cap:Nat)(T:TypeId)(b:Nat)(h6:w.cell? ⟨s,6,none⟩=some (.slice (some ⟨g,0,none⟩) m cap))(hu:u<m)(hm:m≤255)(hw:w.cell? ⟨g,u*3+1,none⟩=some (.iface T (ptr b))):Calls Tryz.prog 233 #[pt s,.int .i64 ((u:Int)+1)] w fun e w'=>e=.returned (.bool true)∧w'=w:=by
 have H:=aab (adH w s m _ cap ((u:Int)+1) h6)
 rw[show decide (1≤(u:Int)+1∧(u:Int)+1≤(m:Int))=true by simp;omega]at H
 have HV:=aab (abz w s g u m cap h6 hu hm)
 go_enter Tryz.func233,Tryz.ntmps233
 go_wp2_with (first|(go_at_call 131;refine(unhide H).mono ?_;rintro e w1 ⟨rfl,hw1⟩;rw[hw1];clear hw1)|(go_at_call 132;refine(unhide HV).mono ?_;rintro e w1 ⟨rfl,hw1⟩;rw[hw1];clear hw1))
 go_returns
 exact⟨rfl,rfl⟩
theorem ajI(w:World)(s g u m cap:Nat)(h6:w.cell? ⟨s,6,none⟩=some (.slice (some ⟨g,0,none⟩) m cap))(hu:u<m)(hm:m≤255)(hw:w.cell? ⟨g,u*3+1,none⟩=some .nilIface):Calls Tryz.prog 233 #[pt s,.int .i64 ((u:Int)+1)] w fun e w'=>e=.returned (.bool false)∧w'=w:=by
 have H:=aab (adH w s m _ cap ((u:Int)+1) h6)
 rw[show decide (1≤(u:Int)+1∧(u:Int)+1≤(m:Int))=true by simp;omega]at H
 have HV:=aab (abz w s g u m cap h6 hu hm)
 go_enter Tryz.func233,Tryz.ntmps233
 go_wp2_with (first|(go_at_call 131;refine(unhide H).mono ?_;rintro e w1 ⟨rfl,hw1⟩;rw[hw1];clear hw1)|(go_at_call 132;refine(unhide HV).mono ?_;rintro e w1 ⟨rfl,hw1⟩;rw[hw1];clear hw1))
 go_returns
 exact⟨rfl,rfl⟩
theorem aqc:∀args w,(callFunc 235 args).run Tryz.prog w=.ok (.enter 235 args) w:=fun _ _=>rfl
theorem anX:∀args w,(callFunc 192 args).run Tryz.prog w=.ok (.enter 192 args) w:=fun _ _=>rfl
theorem adK{f:World→Prop}{W:World}(P:World→Prop)(hP:P W)(h:∀W',P W'→f W'):f W:=h W hP
def Two(w:World)(o o':Obj)(W:World):Prop:=Below w.heap.size w W∧W.heap[w.heap.size]?=some o∧W.heap[w.heap.size+1]?=some o'
theorem arq(w:World)(o o':Obj):Two w o o' ((w.alloc o).alloc o'):=by
 refine⟨((Below.refl _ _).alloc (Nat.le_refl _) _).alloc (by simp) _,(Below.heap_alloc _ _ _ (by simp)).trans (heap_alloc_new w _),?_⟩
 have:=heap_alloc_new (w.alloc o) o'
 simpa using this
theorem afR(w:World)(s:Nat)(P:Pk)(kd' pa' o':Int)(Post:World→Prop)(hk:(P.kind=3∧kd'=4∧pa'=0∧o'=1)∨(¬P.kind=3∧kd'=2∧pa'=P.part∧o'=P.off))
  (HS:Hid (∀wa,Below w.heap.size w wa→Calls Tryz.prog 192 #[.pointer (some ⟨s,0,none⟩),cv P,pvs kd' 0 0 0 0 0 pa' o' false ⟨#[]⟩] wa fun e w'=>e=.returned (.tuple #[])∧Post w')) :
  Calls Tryz.prog 237 #[.pointer (some ⟨s,0,none⟩),pv P] w fun e w'=>e=.returned (.tuple #[])∧Post w':=by
 have HC:=aab (fun w=>aco P w)
 obtain⟨kd,cl,li,ln,sq',u,pa,o,pl,body⟩:=P
 dsimp only[pv,cv]at *
 generalize str body=SB at *
 have HX:Hid (∀W,Two w (.cells #[.int .i64 kd,.int .i64 cl,.int .i64 li,.int .i64 ln,.int .i64 sq',.int .i64 u,.int .i64 pa,.int .i64 o,.bool pl,.string SB] 41) (.cells #[.int .i64 kd',.int .i64 0,.int .i64 0,.int .i64 0,.int .i64 0,.int .i64 0,.int .i64 pa',.int .i64 o',.bool false,.string ⟨#[]⟩] 41) W→∀w1,Below W.drew.heap.size W.drew w1→(w1.cell? ⟨w.heap.size+1,0,none⟩=some (.int .i64 kd')∧w1.cell? ⟨w.heap.size+1,1,none⟩=some (.int .i64 0)∧w1.cell? ⟨w.heap.size+1,2,none⟩=some (.int .i64 0)∧w1.cell? ⟨w.heap.size+1,3,none⟩=some (.int .i64 0)∧w1.cell? ⟨w.heap.size+1,4,none⟩=some (.int .i64 0))∧w1.cell? ⟨w.heap.size+1,5,none⟩=some (.int .i64 0)∧w1.cell? ⟨w.heap.size+1,6,none⟩=some (.int .i64 pa')∧w1.cell? ⟨w.heap.size+1,7,none⟩=some (.int .i64 o')∧w1.cell? ⟨w.heap.size+1,8,none⟩=some (.bool false)∧w1.cell? ⟨w.heap.size+1,9,none⟩=some (.string ⟨#[]⟩)∧Below w.heap.size w w1):=fun W hW w1 hb=>by
  have hl:=(Array.getElem?_eq_some_iff.1 hW.2.2).1
  have h1:w1.heap[w.heap.size+1]?=some (.cells #[.int .i64 kd',.int .i64 0,.int .i64 0,.int .i64 0,.int .i64 0,.int .i64 0,.int .i64 pa',.int .i64 o',.bool false,.string ⟨#[]⟩] 41):=(hb.block _ hl).trans hW.2.2
  exact⟨⟨aaa h1 0 _ rfl,aaa h1 1 _ rfl,aaa h1 2 _ rfl,aaa h1 3 _ rfl,aaa h1 4 _ rfl⟩,aaa h1 5 _ rfl,aaa h1 6 _ rfl,aaa h1 7 _ rfl,aaa h1 8 _ rfl,aaa h1 9 _ rfl,hW.1.drew.trans (hb.mono hW.1.size)⟩
 have HY:Hid (∀W,Two w (.cells #[.int .i64 kd,.int .i64 cl,.int .i64 li,.int .i64 ln,.int .i64 sq',.int .i64 u,.int .i64 pa,.int .i64 o,.bool pl,.string SB] 41) (.cells #[.int .i64 kd',.int .i64 0,.int .i64 0,.int .i64 0,.int .i64 0,.int .i64 0,.int .i64 pa',.int .i64 o',.bool false,.string ⟨#[]⟩] 41) W→(W.cell? ⟨w.heap.size,0,none⟩=some (.int .i64 kd)∧W.cell? ⟨w.heap.size,1,none⟩=some (.int .i64 cl)∧W.cell? ⟨w.heap.size,2,none⟩=some (.int .i64 li)∧W.cell? ⟨w.heap.size,3,none⟩=some (.int .i64 ln)∧W.cell? ⟨w.heap.size,4,none⟩=some (.int .i64 sq'))∧W.cell? ⟨w.heap.size,5,none⟩=some (.int .i64 u)∧W.cell? ⟨w.heap.size,6,none⟩=some (.int .i64 pa)∧W.cell? ⟨w.heap.size,7,none⟩=some (.int .i64 o)∧W.cell? ⟨w.heap.size,8,none⟩=some (.bool pl)∧W.cell? ⟨w.heap.size,9,none⟩=some (.string SB)):=fun W hW=>⟨⟨aaa hW.2.1 0 _ rfl,aaa hW.2.1 1 _ rfl,aaa hW.2.1 2 _ rfl,aaa hW.2.1 3 _ rfl,aaa hW.2.1 4 _ rfl⟩,aaa hW.2.1 5 _ rfl,aaa hW.2.1 6 _ rfl,aaa hW.2.1 7 _ rfl,aaa hW.2.1 8 _ rfl,aaa hW.2.1 9 _ rfl⟩
 have HZ:=aab (arq w)
 rcases hk with ⟨h1,rfl,rfl,rfl⟩|⟨h1,rfl,rfl,rfl⟩
 ·have e1:(kd==3)=true:=by simpa using h1
  clear h1
  go_enter Tryz.func237,Tryz.ntmps237
  go_wp2_with fail
  refine adK _ ((unhide HZ) _ _) ?_
  intro W hW
  obtain⟨⟨g0,g1,g2,g3,g4⟩,g5,g6,g7,g8,g9⟩:=(unhide HY) W hW
  have hx0:=((unhide HX) W hW W.drew (Below.refl _ _))
  obtain⟨⟨y0,y1,y2,y3,y4⟩,y5,y6,y7,y8,y9,_⟩:=hx0
  simp only[World.cell?_drew]at y0 y1 y2 y3 y4 y5 y6 y7 y8 y9
  have HX1:=aab ((unhide HX) W hW)
  clear hW HX HY HZ
  go_region_law (first
   |(refine aak rfl 235 #[.tmp 15] #[41] rfl aqc #[.agg #[.int .i64 kd,.int .i64 cl,.int .i64 li,.int .i64 ln,.int .i64 sq',.int .i64 u,.int .i64 pa,.int .i64 o,.bool pl,.string SB]] rfl _ ((unhide HC) _) ?_;rintro e w1 ⟨rfl,hb1⟩;have hx1:=(unhide HX1) w1 hb1;obtain⟨⟨f0,f1,f2,f3,f4⟩,f5,f6,f7,f8,f9,hbb⟩:=hx1;have HS1:=aab ((unhide HS) w1 hbb);clear hb1 hbb;refine⟨_,rfl,?_⟩)
   |(refine aak rfl 192 #[.tmp 14,.tmp 16,.tmp 17] #[81,145,41] rfl anX #[.pointer (some ⟨s,0,none⟩),.agg #[.int .i64 cl,.int .i64 li,.int .i64 ln,.int .i64 sq',.int .i64 u],pvs 4 0 0 0 0 0 0 1 false ⟨#[]⟩] rfl _ (unhide HS1) ?_;rintro e w2 ⟨rfl,hw2⟩;refine⟨_,rfl,?_⟩))
  all_goals
   go_wp2
   go_returns
   exact⟨rfl,hw2⟩
 ·have e1:(kd==3)=false:=by simpa using h1
  clear h1
  go_enter Tryz.func237,Tryz.ntmps237
  go_wp2_with fail
  refine adK _ ((unhide HZ) _ _) ?_
  intro W hW
  obtain⟨⟨g0,g1,g2,g3,g4⟩,g5,g6,g7,g8,g9⟩:=(unhide HY) W hW
  have hx0:=((unhide HX) W hW W.drew (Below.refl _ _))
  obtain⟨⟨y0,y1,y2,y3,y4⟩,y5,y6,y7,y8,y9,_⟩:=hx0
  simp only[World.cell?_drew]at y0 y1 y2 y3 y4 y5 y6 y7 y8 y9
  have HX1:=aab ((unhide HX) W hW)
  clear hW HX HY HZ
  go_region_law (first
   |(refine aak rfl 235 #[.tmp 15] #[41] rfl aqc #[.agg #[.int .i64 kd,.int .i64 cl,.int .i64 li,.int .i64 ln,.int .i64 sq',.int .i64 u,.int .i64 pa',.int .i64 o',.bool pl,.string SB]] rfl _ ((unhide HC) _) ?_;rintro e w1 ⟨rfl,hb1⟩;have hx1:=(unhide HX1) w1 hb1;obtain⟨⟨f0,f1,f2,f3,f4⟩,f5,f6,f7,f8,f9,hbb⟩:=hx1;have HS1:=aab ((unhide HS) w1 hbb);clear hb1 hbb;refine⟨_,rfl,?_⟩)
   |(refine aak rfl 192 #[.tmp 14,.tmp 16,.tmp 17] #[81,145,41] rfl anX #[.pointer (some ⟨s,0,none⟩),.agg #[.int .i64 cl,.int .i64 li,.int .i64 ln,.int .i64 sq',.int .i64 u],pvs 2 0 0 0 0 0 pa' o' false ⟨#[]⟩] rfl _ (unhide HS1) ?_;rintro e w2 ⟨rfl,hw2⟩;refine⟨_,rfl,?_⟩))
  all_goals
   go_wp2
   go_returns
   exact⟨rfl,hw2⟩
end Go.Proofs.YtblomippkddgiaaGreatDoor
