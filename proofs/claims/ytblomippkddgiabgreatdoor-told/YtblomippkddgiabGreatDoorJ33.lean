import Derived.Test.YtblomippkddgiabGreatDoorJ32
set_option maxRecDepth 100000
set_option maxHeartbeats 1000000
namespace Go.Proofs.YtblomippkddgiabGreatDoor
open Go.RowKit
variable {buf:Array Value}{cl tm:Bool}{F:Aq}{jobs:List R.Jb}{a b b' cap i n nm r s:Nat}{P:Pk}{p:Pl}{c:R.Cf}{G:R.Wd}{t:SP}{w w':World}
theorem PY(a b:List UInt8):str (a++b)=str a++str b:=by
 apply ByteArray.ext;simp
theorem XC(w:World)(s b:Nat)(P:Pk)(asked:List UInt8)(aa:World->Prop)(h6:w.cell? ⟨b,6,none⟩=some (.string (str asked)))(z6:w.frozen? ⟨b,6,none⟩=false)(ha:asked.length<=1000)(hb:P.body.length<=1000)(ho:1<=P.off/\P.off<=9)(hn:¬P.part=P.off-1)
  (HP:Hid (∀wa,Below w.heap.size (w.setCell ⟨b,6,none⟩ (.string (str (asked++P.body)))) wa->aa wa)):
  Calls Tryz.prog 262 #[pt s,pt b,pv P] w fun e w'=>e=.returned (.bool true)/\aa w':=by
 have HB:Hid (∀o v,Below w.heap.size (w.setCell ⟨b,6,none⟩ v) ((w.setCell ⟨b,6,none⟩ v).alloc o)):=fun o v=>(Below.refl _ _).alloc (by simp) _
 have hl:=lt_of_cell h6;obtain⟨kd,cl,li,ln,ac,u,pa,o,pl,body⟩:=P;dsimp only[pv]at *;rw[PY asked body]at HP;have ab:¬9223372036854775807<(str asked).size+(str body).size:=by rw[Ax,Ax];omega
 generalize str body=SB at *;generalize str asked=SA at *;have ew:IntKind.i64.wrap (o-1)=o-1:=by rw[IntKind.wrap_i64];omega
 have e1:(pa==o-1)=false:=by simpa using hn
 clear hn;go_enter Tryz.func262,Tryz.ntmps262;go_wp2_with fail
 go_region
 all_goals
  go_wp2;go_returns;exact⟨rfl,(Aa HP) _ (by first|exact(Aa HB) _ _|exact((Aa HB) _ _).drew)⟩
theorem XA(w:World)(s b:Nat)(P:Pk)(c0 c1 c2 c3 c4:Int)(h0:w.cell? ⟨b,0,none⟩=some (.int .i64 c0))(h1:w.cell? ⟨b,1,none⟩=some (.int .i64 c1))(h2:w.cell? ⟨b,2,none⟩=some (.int .i64 c2))(h3:w.cell? ⟨b,3,none⟩=some (.int .i64 c3))(h4:w.cell? ⟨b,4,none⟩=some (.int .i64 c4))(ho:1<=P.off/\P.off<=9)(hn:P.part=P.off-1)
  (HJ:Hid (∀wa,Below w.heap.size w wa->Calls Tryz.prog 265 #[pt s,.agg #[.int .i64 c0,.int .i64 c1,.int .i64 c2,.int .i64 c3,.int .i64 c4]] wa fun e w'=>e=.returned (.bool false)/\Below wa.heap.size wa w')):
  Calls Tryz.prog 262 #[pt s,pt b,pv P] w fun e w'=>e=.returned (.bool false)/\Below w.heap.size w w':=by
 have HB:Hid (∀o,Below w.heap.size w (w.alloc o)):=fun o=>(Below.refl _ _).alloc (afI _) _
 have hl:=lt_of_cell h0;obtain⟨kd,cl,li,ln,ac,u,pa,o,pl,body⟩:=P;dsimp only[pv]at *;have ew:IntKind.i64.wrap (o-1)=o-1:=by rw[IntKind.wrap_i64];omega
 have e1:(pa==o-1)=true:=by simpa using hn
 clear hn;go_enter Tryz.func262,Tryz.ntmps262;go_wp2_with (first|(go_at_call 265;refine((Aa HJ) _ ((Aa HB) _)).mono ?_;rintro e w3 ⟨rfl,aa⟩;have ab:=Ac (((Aa HB) _).trans (aa.mono (by simp)));clear aa))
 go_returns;exact⟨rfl,Aa ab⟩
theorem XB(w:World)(s b:Nat)(P:Pk)(asked:List UInt8)(c0 c1 c2 c3 c4 st:Int)(A aa:World->Prop)(h0:w.cell? ⟨b,0,none⟩=some (.int .i64 c0))(h1:w.cell? ⟨b,1,none⟩=some (.int .i64 c1))(h2:w.cell? ⟨b,2,none⟩=some (.int .i64 c2))(h3:w.cell? ⟨b,3,none⟩=some (.int .i64 c3))(h4:w.cell? ⟨b,4,none⟩=some (.int .i64 c4))(ho:1<=P.off/\P.off<=9)(hn:P.part=P.off-1)(ha:asked.length<=1000)(hb:P.body.length<=1000)
  (HJ:Hid (∀wa,Below w.heap.size w wa->Calls Tryz.prog 265 #[pt s,.agg #[.int .i64 c0,.int .i64 c1,.int .i64 c2,.int .i64 c3,.int .i64 c4]] wa fun e w'=>e=.returned (.bool true)/\A w'/\(∀x,w.heap.size<=x->x<wa.heap.size->w'.heap[x]?=wa.heap[x]?)/\wa.heap.size<=w'.heap.size))
  (HA:Hid (∀w',A w'->w'.cell? ⟨b,6,none⟩=some (.string (str asked))/\w'.frozen? ⟨b,6,none⟩=false/\w'.cell? ⟨b,5,none⟩=some (.int .i64 st)/\w'.frozen? ⟨b,5,none⟩=false))
  (HP:Hid (∀w' wa,A w'->Below w'.heap.size ((w'.setCell ⟨b,6,none⟩ (.string (str (asked++P.body)))).setCell ⟨b,5,none⟩ (.int .i64 1)) wa->aa wa)):
  Calls Tryz.prog 262 #[pt s,pt b,pv P] w fun e w'=>e=.returned (.bool true)/\aa w':=by
 have HB:Hid (∀o,Below w.heap.size w (w.alloc o)):=fun o=>(Below.refl _ _).alloc (afI _) _
 have hl:=lt_of_cell h0;obtain⟨kd,cl,li,ln,ad,u,pa,o,pl,body⟩:=P;dsimp only[pv]at *;rw[PY asked body]at HP;have al:¬9223372036854775807<(str asked).size+(str body).size:=by rw[Ax,Ax];omega
 generalize str body=SB at *;generalize str asked=SA at *;have ew:IntKind.i64.wrap (o-1)=o-1:=by rw[IntKind.wrap_i64];omega
 have e1:(pa==o-1)=true:=by simpa using hn
 clear hn;have HX:Hid (∀w3:World,(∀x,w.heap.size<=x->x<(w.alloc (.cells #[.int .i64 kd,.int .i64 cl,.int .i64 li,.int .i64 ln,.int .i64 ad,.int .i64 u,.int .i64 pa,.int .i64 o,.bool pl,.string SB] 82)).heap.size->w3.heap[x]?=(w.alloc (.cells #[.int .i64 kd,.int .i64 cl,.int .i64 li,.int .i64 ln,.int .i64 ad,.int .i64 u,.int .i64 pa,.int .i64 o,.bool pl,.string SB] 82)).heap[x]?)->w3.cell? ⟨w.heap.size,9,none⟩=some (.string SB)):=fun w3 hx=>by
  have h0:=hx w.heap.size (afI _) (by simp);rw[heap_alloc_new w _]at h0;exact cell_of h0 9 _ rfl
 go_enter Tryz.func262,Tryz.ntmps262;go_wp2_with (first|(go_at_call 265;refine((Aa HJ) _ ((Aa HB) _)).mono ?_;rintro e w3 ⟨rfl,ab,ac,ah⟩;have ag:=(Aa HA) w3 ab;obtain⟨d6,y6,d5,y5⟩:=ag;have d9:=(Aa HX) w3 ac;have ae:=Ac (fun wa=>(Aa HP) w3 wa ab);have ai:=lt_of_cell d6;have aj:=lt_of_cell d9;have ak:¬b=w.heap.size:=(by omega);have af:¬w.heap.size=b:=(by omega);clear ab ac ah))
 go_region
 all_goals
  go_wp2;go_returns;exact⟨rfl,(Aa ae) _ (by first|exact(Below.refl _ _)|exact(Below.refl _ _).drew|exact below_drewN (Below.refl _ _) _)⟩
def Qh(B:Nat)(a b:World):Prop:=a.heap.size<=b.heap.size/\∀x,B<=x->x<a.heap.size->b.heap[x]?=a.heap[x]?
theorem Qh.box{o:Obj}(h:Qh w.heap.size (w.alloc o) w'):w'.heap[w.heap.size]?=some o:=by
 rw[h.2 w.heap.size (afI _) (by simp)];exact heap_alloc_new w o
theorem QK(w:World)(s b:Nat)(P:Pk)(asked:List UInt8)(n:Int)(A ac:World->Prop)(h6:w.cell? ⟨b,6,none⟩=some (.string (str asked)))
  (ab:Hid (∀w,Calls Tryz.prog 203 #[.string (str asked)] w fun e w'=>e=.returned (.int .i64 n)/\w'=w))
  (HF:Hid (n<P.part->∀wa,Below w.heap.size w wa->ac wa))
  (HA:Hid (P.part=n->∀wa,Below w.heap.size w wa->Calls Tryz.prog 262 #[pt s,pt b,pv P] wa fun e w'=>(e=.returned (.bool false)/\ac w')\/(e=.returned (.bool true)/\A w'/\Qh w.heap.size wa w')))
  (HL:Hid (P.part<n->∀wa,Below w.heap.size w wa->A wa))
  (HS:Hid (P.please=true->∀w',A w'->Calls Tryz.prog 252 #[pt s,pv P] w' fun e ai=>e=.returned (.tuple #[])/\ac ai))
  (HN:Hid (P.please=false->∀w',A w'->ac w')):
  Calls Tryz.prog 251 #[pt s,pt b,pv P] w fun e w'=>e=.returned (.tuple #[])/\ac w':=by
 have HB:Hid (∀o,Below w.heap.size w (w.alloc o)):=fun o=>(Below.refl _ _).alloc (afI _) _
 have hl:=lt_of_cell h6;obtain⟨kd,cl,li,ln,ag,u,pa,o,pl,body⟩:=P;dsimp only[pv]at *;generalize str body=SB at *;generalize str asked=SA at *;rcases Int.lt_trichotomy pa n with hc|hc|hc
 ·have e1:¬n<pa:=by omega
  have e2:(pa==n)=false:=by simp;omega
  have HQ:=Ac ((Aa HL) hc);clear hc HF HA;cases pl with
  |true=>
   have af:=Ac ((Aa HS) rfl);go_enter Tryz.func251,Tryz.ntmps251;go_wp2_with (first|(go_at_call 203;refine((Aa ab) _).mono ?_;rintro e w1 ⟨rfl,aa⟩;rw[aa];clear aa)|(go_at_call 252;refine((Aa af) _ ((Aa HQ) _ ((Aa HB) _))).mono ?_;rintro e w3 ⟨rfl,ad⟩))
   go_returns;exact⟨rfl,ad⟩
  |false=>
   have ae:=Ac ((Aa HN) rfl);go_enter Tryz.func251,Tryz.ntmps251;go_wp2_with (first|(go_at_call 203;refine((Aa ab) _).mono ?_;rintro e w1 ⟨rfl,aa⟩;rw[aa];clear aa))
   go_returns;exact⟨rfl,(Aa ae) _ ((Aa HQ) _ ((Aa HB) _))⟩
 ·have e1:¬n<pa:=by omega
  have e2:(pa==n)=true:=by simp;omega
  have HQ:=Ac ((Aa HA) hc);clear hc HF HL HA;have HX:Hid (∀w3:World,Qh w.heap.size (w.alloc (.cells #[.int .i64 kd,.int .i64 cl,.int .i64 li,.int .i64 ln,.int .i64 ag,.int .i64 u,.int .i64 pa,.int .i64 o,.bool pl,.string SB] 82)) w3->w3.heap[w.heap.size]?=some (.cells #[.int .i64 kd,.int .i64 cl,.int .i64 li,.int .i64 ln,.int .i64 ag,.int .i64 u,.int .i64 pa,.int .i64 o,.bool pl,.string SB] 82)):=fun w3 h3=>h3.box
  cases pl with
  |true=>
   have af:=Ac ((Aa HS) rfl);go_enter Tryz.func251,Tryz.ntmps251;go_wp2_with (first|(go_at_call 203;refine((Aa ab) _).mono ?_;rintro e w1 ⟨rfl,aa⟩;rw[aa];clear aa)|(go_at_call 262;refine((Aa HQ) _ ((Aa HB) _)).mono ?_))
   rintro e w3 (⟨rfl,ad⟩|⟨rfl,ad,hs3⟩)
   ·go_wp2;go_returns;exact⟨rfl,ad⟩
   ·have hb:=(Aa HX) w3 hs3;have k0:=cell_of hb 0 _ rfl;have k1:=cell_of hb 1 _ rfl;have k2:=cell_of hb 2 _ rfl;have k3:=cell_of hb 3 _ rfl;have k4:=cell_of hb 4 _ rfl;have k5:=cell_of hb 5 _ rfl;have k6:=cell_of hb 6 _ rfl;have k7:=cell_of hb 7 _ rfl;have k8:=cell_of hb 8 _ rfl;have k9:=cell_of hb 9 _ rfl;have HC:=Ac ((Aa af) w3 ad);clear ad hs3 hb;go_wp2_with (first|(go_at_call 252;refine(Aa HC).mono ?_;rintro e w4 ⟨rfl,ah⟩))
    go_returns;exact⟨rfl,ah⟩
  |false=>
   have ae:=Ac ((Aa HN) rfl);go_enter Tryz.func251,Tryz.ntmps251;go_wp2_with (first|(go_at_call 203;refine((Aa ab) _).mono ?_;rintro e w1 ⟨rfl,aa⟩;rw[aa];clear aa)|(go_at_call 262;refine((Aa HQ) _ ((Aa HB) _)).mono ?_))
   rintro e w3 (⟨rfl,ad⟩|⟨rfl,ad,hs3⟩)
   ·go_wp2;go_returns;exact⟨rfl,ad⟩
   ·have hb:=(Aa HX) w3 hs3;have k8:=cell_of hb 8 _ rfl;have HC:=Ac ((Aa ae) w3 ad);clear ad hs3 hb;go_wp2;go_returns;exact⟨rfl,Aa HC⟩
 ·have HQ:=Ac ((Aa HF) hc);clear HL HA;go_enter Tryz.func251,Tryz.ntmps251;go_wp2_with (first|(go_at_call 203;refine((Aa ab) _).mono ?_;rintro e w1 ⟨rfl,aa⟩;rw[aa];clear aa))
  go_returns;exact⟨rfl,(Aa HQ) _ ((Aa HB) _)⟩
theorem J7(w:World)(s m:Nat)(a:Option Addr)(cap:Nat)(u:Int)(h6:w.cell? ⟨s,6,none⟩=some (.slice a m cap)):Calls Tryz.prog 37 #[pt s,.int .i64 u] w fun e w'=>e=.returned (.bool (decide (1<=u/\u<=(m:Int))))/\w'=w:=by
 by_cases h1:1<=u
 ·by_cases h2:u<=(m:Int)
  ·rw[show decide (1<=u/\u<=(m:Int))=true by simp[h1,h2]];have e1:decide (u ≥ 1)=true:=by simpa using h1
   have e2:decide (u<=(m:Int))=true:=by simpa using h2
   go_enter Tryz.func37,Tryz.ntmps37;go_wp2;go_returns;exact⟨rfl,rfl⟩
  ·rw[show decide (1<=u/\u<=(m:Int))=false by simp[h2]];have e1:decide (u ≥ 1)=true:=by simpa using h1
   have e2:decide (u<=(m:Int))=false:=by simpa using h2
   go_enter Tryz.func37,Tryz.ntmps37;go_wp2;go_returns;exact⟨rfl,rfl⟩
 ·rw[show decide (1<=u/\u<=(m:Int))=false by simp[h1]];have e1:decide (u ≥ 1)=false:=by simp;omega
  go_enter Tryz.func37,Tryz.ntmps37;go_wp2;go_returns;exact⟨rfl,rfl⟩
theorem XD(w:World)(s m:Nat)(a:Option Addr)(cap:Nat)(u:Int)(h6:w.cell? ⟨s,6,none⟩=some (.slice a m cap))(hu:¬(1<=u/\u<=(m:Int))):Calls Tryz.prog 248 #[pt s,.int .i64 u] w fun e w'=>e=.returned (.bool false)/\w'=w:=by
 have H:=Ac (J7 w s m a cap u h6);rw[show decide (1<=u/\u<=(m:Int))=false by simpa using hu]at H;go_enter Tryz.func248,Tryz.ntmps248;go_wp2_with (first|(go_at_call 37;refine(Aa H).mono ?_;rintro e w1 ⟨rfl,aa⟩;rw[aa];clear aa))
 go_returns;exact⟨rfl,rfl⟩
theorem Vo(w:World)(s g u m cap:Nat)(T:TypeId)(b:Nat)(h6:w.cell? ⟨s,6,none⟩=some (.slice (some ⟨g,0,none⟩) m cap))(hu:u<m)(hm:m<=255)(hw:w.cell? ⟨g,u*3+1,none⟩=some (.iface T (ptr b))):Calls Tryz.prog 248 #[pt s,.int .i64 ((u:Int)+1)] w fun e w'=>e=.returned (.bool true)/\w'=w:=by
 have H:=Ac (J7 w s m _ cap ((u:Int)+1) h6);rw[show decide (1<=(u:Int)+1/\(u:Int)+1<=(m:Int))=true by simp;omega]at H;have HV:=Ac (Ey w s g u m cap h6 hu hm);go_enter Tryz.func248,Tryz.ntmps248;go_wp2_with (first|(go_at_call 37;refine(Aa H).mono ?_;rintro e w1 ⟨rfl,aa⟩;rw[aa];clear aa)|(go_at_call 38;refine(Aa HV).mono ?_;rintro e w1 ⟨rfl,aa⟩;rw[aa];clear aa))
 go_returns;exact⟨rfl,rfl⟩
theorem Sj(w:World)(s g u m cap:Nat)(h6:w.cell? ⟨s,6,none⟩=some (.slice (some ⟨g,0,none⟩) m cap))(hu:u<m)(hm:m<=255)(hw:w.cell? ⟨g,u*3+1,none⟩=some .nilIface):Calls Tryz.prog 248 #[pt s,.int .i64 ((u:Int)+1)] w fun e w'=>e=.returned (.bool false)/\w'=w:=by
 have H:=Ac (J7 w s m _ cap ((u:Int)+1) h6);rw[show decide (1<=(u:Int)+1/\(u:Int)+1<=(m:Int))=true by simp;omega]at H;have HV:=Ac (Ey w s g u m cap h6 hu hm);go_enter Tryz.func248,Tryz.ntmps248;go_wp2_with (first|(go_at_call 37;refine(Aa H).mono ?_;rintro e w1 ⟨rfl,aa⟩;rw[aa];clear aa)|(go_at_call 38;refine(Aa HV).mono ?_;rintro e w1 ⟨rfl,aa⟩;rw[aa];clear aa))
 go_returns;exact⟨rfl,rfl⟩
theorem abL:∀args w,(callFunc 250 args).run Tryz.prog w=.ok (.enter 250 args) w:=fun _ _=>rfl
theorem XR:∀args w,(callFunc 220 args).run Tryz.prog w=.ok (.enter 220 args) w:=fun _ _=>rfl
theorem Lx{f:World->Prop}{W:World}(P:World->Prop)(hP:P W)(h:∀W',P W'->f W'):f W:=h W hP
def Two(w:World)(o o':Obj)(W:World):Prop:=Below w.heap.size w W/\W.heap[w.heap.size]?=some o/\W.heap[w.heap.size+1]?=some o'
theorem aer(w:World)(o o':Obj):Two w o o' ((w.alloc o).alloc o'):=by
 refine⟨((Below.refl _ _).alloc (afI _) _).alloc (by simp) _,(Below.heap_alloc _ _ _ (by simp)).trans (heap_alloc_new w _),?_⟩;have:=heap_alloc_new (w.alloc o) o';simpa using this
theorem OI(w:World)(s:Nat)(P:Pk)(ab aa o':Int)(ad:World->Prop)(hk:(P.kind=3/\ab=4/\aa=0/\o'=1)\/(¬P.kind=3/\ab=2/\aa=P.part/\o'=P.off))
  (HS:Hid (∀wa,Below w.heap.size w wa->Calls Tryz.prog 220 #[.pointer (some ⟨s,0,none⟩),cv P,NL ab 0 0 0 0 0 aa o' false ⟨#[]⟩] wa fun e w'=>e=.returned (.tuple #[])/\ad w')):
  Calls Tryz.prog 252 #[.pointer (some ⟨s,0,none⟩),pv P] w fun e w'=>e=.returned (.tuple #[])/\ad w':=by
 have HC:=Ac (fun w=>GN P w);obtain⟨kd,cl,li,ln,ac,u,pa,o,pl,body⟩:=P;dsimp only[pv,cv]at *;generalize str body=SB at *;have HX:Hid (∀W,Two w (.cells #[.int .i64 kd,.int .i64 cl,.int .i64 li,.int .i64 ln,.int .i64 ac,.int .i64 u,.int .i64 pa,.int .i64 o,.bool pl,.string SB] 82) (.cells #[.int .i64 ab,.int .i64 0,.int .i64 0,.int .i64 0,.int .i64 0,.int .i64 0,.int .i64 aa,.int .i64 o',.bool false,.string ⟨#[]⟩] 82) W->∀w1,Below W.drew.heap.size W.drew w1->(w1.cell? ⟨w.heap.size+1,0,none⟩=some (.int .i64 ab)/\w1.cell? ⟨w.heap.size+1,1,none⟩=some (.int .i64 0)/\w1.cell? ⟨w.heap.size+1,2,none⟩=some (.int .i64 0)/\w1.cell? ⟨w.heap.size+1,3,none⟩=some (.int .i64 0)/\w1.cell? ⟨w.heap.size+1,4,none⟩=some (.int .i64 0))/\w1.cell? ⟨w.heap.size+1,5,none⟩=some (.int .i64 0)/\w1.cell? ⟨w.heap.size+1,6,none⟩=some (.int .i64 aa)/\w1.cell? ⟨w.heap.size+1,7,none⟩=some (.int .i64 o')/\w1.cell? ⟨w.heap.size+1,8,none⟩=some (.bool false)/\w1.cell? ⟨w.heap.size+1,9,none⟩=some (.string ⟨#[]⟩)/\Below w.heap.size w w1):=fun W hW w1 hb=>by
  have hl:=(afR.1 hW.2.2).1;have h1:w1.heap[w.heap.size+1]?=some (.cells #[.int .i64 ab,.int .i64 0,.int .i64 0,.int .i64 0,.int .i64 0,.int .i64 0,.int .i64 aa,.int .i64 o',.bool false,.string ⟨#[]⟩] 82):=(hb.block _ hl).trans hW.2.2;exact⟨⟨cell_of h1 0 _ rfl,cell_of h1 1 _ rfl,cell_of h1 2 _ rfl,cell_of h1 3 _ rfl,cell_of h1 4 _ rfl⟩,cell_of h1 5 _ rfl,cell_of h1 6 _ rfl,cell_of h1 7 _ rfl,cell_of h1 8 _ rfl,cell_of h1 9 _ rfl,hW.1.drew.trans (hb.mono hW.1.size)⟩
 have HY:Hid (∀W,Two w (.cells #[.int .i64 kd,.int .i64 cl,.int .i64 li,.int .i64 ln,.int .i64 ac,.int .i64 u,.int .i64 pa,.int .i64 o,.bool pl,.string SB] 82) (.cells #[.int .i64 ab,.int .i64 0,.int .i64 0,.int .i64 0,.int .i64 0,.int .i64 0,.int .i64 aa,.int .i64 o',.bool false,.string ⟨#[]⟩] 82) W->(W.cell? ⟨w.heap.size,0,none⟩=some (.int .i64 kd)/\W.cell? ⟨w.heap.size,1,none⟩=some (.int .i64 cl)/\W.cell? ⟨w.heap.size,2,none⟩=some (.int .i64 li)/\W.cell? ⟨w.heap.size,3,none⟩=some (.int .i64 ln)/\W.cell? ⟨w.heap.size,4,none⟩=some (.int .i64 ac))/\W.cell? ⟨w.heap.size,5,none⟩=some (.int .i64 u)/\W.cell? ⟨w.heap.size,6,none⟩=some (.int .i64 pa)/\W.cell? ⟨w.heap.size,7,none⟩=some (.int .i64 o)/\W.cell? ⟨w.heap.size,8,none⟩=some (.bool pl)/\W.cell? ⟨w.heap.size,9,none⟩=some (.string SB)):=fun W hW=>⟨⟨cell_of hW.2.1 0 _ rfl,cell_of hW.2.1 1 _ rfl,cell_of hW.2.1 2 _ rfl,cell_of hW.2.1 3 _ rfl,cell_of hW.2.1 4 _ rfl⟩,cell_of hW.2.1 5 _ rfl,cell_of hW.2.1 6 _ rfl,cell_of hW.2.1 7 _ rfl,cell_of hW.2.1 8 _ rfl,cell_of hW.2.1 9 _ rfl⟩
 have HZ:=Ac (aer w);rcases hk with ⟨h1,rfl,rfl,rfl⟩|⟨h1,rfl,rfl,rfl⟩
 ·have e1:(kd==3)=true:=by simpa using h1
  clear h1;go_enter Tryz.func252,Tryz.ntmps252;go_wp2_with fail
  refine Lx _ ((Aa HZ) _ _) ?_;intro W hW;obtain⟨⟨g0,g1,g2,g3,g4⟩,g5,g6,g7,g8,g9⟩:=(Aa HY) W hW;have aj:=((Aa HX) W hW W.drew (Below.refl _ _));obtain⟨⟨y0,y1,y2,y3,y4⟩,y5,y6,y7,y8,y9,_⟩:=aj;simp only[World.cell?_drew]at y0 y1 y2 y3 y4 y5 y6 y7 y8 y9;have ah:=Ac ((Aa HX) W hW);clear hW HX HY HZ;go_region_law (first
   |(refine Av rfl 250 #[.tmp 15] #[82] rfl abL #[.agg #[.int .i64 kd,.int .i64 cl,.int .i64 li,.int .i64 ln,.int .i64 ac,.int .i64 u,.int .i64 pa,.int .i64 o,.bool pl,.string SB]] rfl _ ((Aa HC) _) ?_;rintro e w1 ⟨rfl,ae⟩;have ak:=(Aa ah) w1 ae;obtain⟨⟨f0,f1,f2,f3,f4⟩,f5,f6,f7,f8,f9,af⟩:=ak;have ag:=Ac ((Aa HS) w1 af);clear ae af;refine⟨_,rfl,?_⟩)
   |(refine Av rfl 220 #[.tmp 14,.tmp 16,.tmp 17] #[68,170,82] rfl XR #[.pointer (some ⟨s,0,none⟩),.agg #[.int .i64 cl,.int .i64 li,.int .i64 ln,.int .i64 ac,.int .i64 u],NL 4 0 0 0 0 0 0 1 false ⟨#[]⟩] rfl _ (Aa ag) ?_;rintro e w2 ⟨rfl,ai⟩;refine⟨_,rfl,?_⟩))
  all_goals
   go_wp2;go_returns;exact⟨rfl,ai⟩
 ·have e1:(kd==3)=false:=by simpa using h1
  clear h1;go_enter Tryz.func252,Tryz.ntmps252;go_wp2_with fail
  refine Lx _ ((Aa HZ) _ _) ?_;intro W hW;obtain⟨⟨g0,g1,g2,g3,g4⟩,g5,g6,g7,g8,g9⟩:=(Aa HY) W hW;have aj:=((Aa HX) W hW W.drew (Below.refl _ _));obtain⟨⟨y0,y1,y2,y3,y4⟩,y5,y6,y7,y8,y9,_⟩:=aj;simp only[World.cell?_drew]at y0 y1 y2 y3 y4 y5 y6 y7 y8 y9;have ah:=Ac ((Aa HX) W hW);clear hW HX HY HZ;go_region_law (first
   |(refine Av rfl 250 #[.tmp 15] #[82] rfl abL #[.agg #[.int .i64 kd,.int .i64 cl,.int .i64 li,.int .i64 ln,.int .i64 ac,.int .i64 u,.int .i64 aa,.int .i64 o',.bool pl,.string SB]] rfl _ ((Aa HC) _) ?_;rintro e w1 ⟨rfl,ae⟩;have ak:=(Aa ah) w1 ae;obtain⟨⟨f0,f1,f2,f3,f4⟩,f5,f6,f7,f8,f9,af⟩:=ak;have ag:=Ac ((Aa HS) w1 af);clear ae af;refine⟨_,rfl,?_⟩)
   |(refine Av rfl 220 #[.tmp 14,.tmp 16,.tmp 17] #[68,170,82] rfl XR #[.pointer (some ⟨s,0,none⟩),.agg #[.int .i64 cl,.int .i64 li,.int .i64 ln,.int .i64 ac,.int .i64 u],NL 2 0 0 0 0 0 aa o' false ⟨#[]⟩] rfl _ (Aa ag) ?_;rintro e w2 ⟨rfl,ai⟩;refine⟨_,rfl,?_⟩))
  all_goals
   go_wp2;go_returns;exact⟨rfl,ai⟩
theorem J8{aa:Array Value}{t:TypeId}{z:Nat×Nat}(h:w.heap[b]?=some (.cells aa t z))(h':w.heap[b']?=some (.chan cap buf cl a r tm)):b≠b':=fun e=>by
 rw[e,h']at h;cases h
theorem ZC{B size:Nat}{e:TypeId}{v:Value}{xs:List Value}(hr:w.ownsRow B e size v n xs)(h':w.heap[b']?=some (.chan cap buf cl a r tm))(j:Nat)(hj:v.ownBlock=some j):j≠b':=by
 rcases hr.2 with ⟨rfl,_⟩|⟨g,cap,aa,rfl,_,hg,_⟩
 ·cases hj
 ·cases hj;exact J8 hg h'
theorem Nu{α:Type}{l:List α}{u:Nat}{x y:α}(h:(l.set u x)[i]?=some y):(i=u/\y=x)\/(i≠u/\l[i]?=some y):=by
 rw[afV]at h;by_cases e:u=i
 ·rw[if_pos e]at h;split at h
  ·exact afJ ⟨e.symm,(Option.some.inj h).symm⟩
  ·cases h
 ·rw[if_neg e]at h;exact afM ⟨fun q=>e q.symm,h⟩
def SP.put(t:SP)(i b:Nat):SP:={t with ql:=fun j=>if j=i then b else t.ql j}
theorem Wq(t:SP)(seen:List R.Sn)(i b:Nat)(r':R.Sn)(hi:i<seen.length)(aa:r'.seq≠0)(j:Nat):Bt (t.put i b) (seen.set i r') j=if j=i then ptr b else Bt t seen j:=by
 unfold Bt SP.put;rw[afV];by_cases e:i=j
 ·subst e;rw[if_pos rfl,if_pos hi,if_pos rfl];simp[aa]
 ·have e':¬j=i:=fun q=>e q.symm
  simp[e,e']
theorem T8(n nm:Nat)(t:SP)(c:R.Cf)(Aj:List Int)(seen:List R.Sn)(i b:Nat)(r':R.Sn)(hl:seen.length=9)(hi:i<9)(aa:r'.seq≠0):Ce n nm (t.put i b) c Aj (seen.set i r')=(Ce n nm t c Aj seen).set (10+i) (ptr b):=by
 have q:=Wq t seen i b r' (by omega) aa;unfold Ce;simp only[q];have h:i=0\/i=1\/i=2\/i=3\/i=4\/i=5\/i=6\/i=7\/i=8:=by omega
 rcases h with rfl|rfl|rfl|rfl|rfl|rfl|rfl|rfl|rfl<;>rfl
theorem Cg.PL{sv:List R.Sv}{Aj:List Int}{seen:List R.Sn}(h:Cg s n nm t F c sv Aj seen jobs w)(af:∀k,F k->k<w.heap.size){r':R.Sn}{y:JH}(hl:seen.length=9)(hi:i<9)(aj:r'.seq≠0)(hb:w.heap.size<=b)(hk:Af (fun k=>k=s) w w')(hs:w'.heap[s]?=some (.cells ((Ce n nm t c Aj seen).set (10+i) (ptr b)).toArray 144 (0,0)))(hy:w'.heap[b]?=some (.cells y.cells.toArray 179 (0,0)))(ac:KZ i (Aj.getD (i / 3) 0) r' y):
  Cg s n nm (t.put i b) (fun k=>F k\/k=b) c sv Aj (seen.set i r') jobs w':=by
 obtain⟨f1,f2,f3⟩:=h.BP;have ai:JD w F (fun k=>k=s):=JD.one h.bs (by decide);obtain⟨ja,jb,hj⟩:=h.jobs;have hq:∀(j:Nat) (x:R.Sn),(seen.set i r')[j]?=some x->(j=i/\x=r')\/(j≠i/\seen[j]?=some x):=fun j x hx=>by
  rw[afV]at hx;by_cases e:i=j
  ·rw[if_pos e]at hx;split at hx
   ·exact afJ ⟨e.symm,(Option.some.inj hx).symm⟩
   ·cases hx
  ·rw[if_neg e]at hx;exact afM ⟨fun q=>e q.symm,hx⟩
 refine⟨by rw[T8 n nm t c Aj seen i b r' hl hi aj];exact hs,h.zs,hk.row h.made (fun j hj e=>AV h.made h.bs (by decide) (by rw[<-e];exact hj)),fun z hz=>(h.each z hz).keep hk ai (fun _ q=>afJ q),h.dns,h.Z8,fun j x hx ab=>?_,fun j j' x x' hx ag ab aa ae=>?_,⟨ja,jb,hk.at hj (J8 h.bs hj).symm⟩,afJ f1,afJ f2,fun j hj=>afJ (f3 j hj)⟩
 ·rcases hq j x hx with ⟨rfl,rfl⟩|⟨e,hx⟩
  ·refine⟨y,?_,ac,afM ?_⟩
   ·simp only[SP.put,if_true];exact hy
   ·simp[SP.put]
  ·obtain⟨y',h1,h2,h3⟩:=h.ln j x hx ab;refine⟨y',?_,h2,afJ ?_⟩
   ·simp only[SP.put,if_neg e];exact hk.at h1 (AZ h1 h.bs (by decide))
   ·simp only[SP.put,if_neg e];exact h3
 ·rcases hq j x hx with ⟨e,_⟩|⟨e,ah⟩
  ·rcases hq j' x' ag with ⟨e',_⟩|⟨e',ad⟩
   ·exact absurd (e.trans e'.symm) ae
   ·obtain⟨y',_,_,h3⟩:=h.ln j' x' ad aa;have:=af _ h3;simp only[SP.put,if_pos e,if_neg e'];omega
  ·rcases hq j' x' ag with ⟨e',_⟩|⟨e',ad⟩
   ·obtain⟨y',_,_,h3⟩:=h.ln j x ah ab;have:=af _ h3;simp only[SP.put,if_pos e',if_neg e];omega
   ·simp only[SP.put,if_neg e,if_neg e'];exact h.inj j j' x x' ah ad ab aa ae
theorem Cg.J5{sv:List R.Sv}{Aj:List Int}{seen:List R.Sn}{aa:List R.Jb}(h:Cg s n nm t F c sv Aj seen jobs w)(hk:Af (fun k=>k=t.jc) w w')(ac:∃a b:Nat,w'.heap[t.jc]?=some (.chan c.table.toNat (aa.map PE).toArray false a b false)):
  Cg s n nm t F c sv Aj seen aa w':=by
 obtain⟨ja,jb,hj⟩:=h.jobs;have ab:JD w F (fun k=>k=t.jc):=JD.tags (fun b hb=>afM (afM ⟨_,_,_,_,_,_,by subst hb;exact hj⟩));refine⟨hk.at h.bs (J8 h.bs hj),h.zs,hk.row h.made (ZC h.made hj),fun z hz=>(h.each z hz).keep hk ab (fun _ q=>q),h.dns,h.Z8,fun j x hx ad=>?_,h.inj,ac,h.BP⟩;obtain⟨y',h1,h2,h3⟩:=h.ln j x hx ad;exact⟨y',hk.at h1 (J8 h1 hj),h2,h3⟩
def F9(seen:List R.Sn)(k:Nat):List R.Sn:=((seen.set (3*k) R.Cs).set (3*k+1) R.Cs).set (3*k+2) R.Cs
theorem Fp(seen:List R.Sn)(k j:Nat)(x:R.Sn)(h:(F9 seen k)[j]?=some x):(j / 3=k/\x=R.Cs)\/(j / 3≠k/\seen[j]?=some x):=by
 unfold F9 at h;rcases Nu h with ⟨e1,e2⟩|⟨n1,h⟩
 ·exact afJ ⟨by omega,e2⟩
 ·rcases Nu h with ⟨e1,e2⟩|⟨n2,h⟩
  ·exact afJ ⟨by omega,e2⟩
  ·rcases Nu h with ⟨e1,e2⟩|⟨n3,h⟩
   ·exact afJ ⟨by omega,e2⟩
   ·by_cases e:j / 3=k
    ·omega
    ·exact afM ⟨e,h⟩
theorem N0(n nm:Nat)(t:SP)(c:R.Cf)(Aj:List Int)(seen:List R.Sn)(k:Nat)(Ae:Int)(aa:Aj.length=3)(hk:k<3):Ce n nm t c (Aj.set k Ae) (F9 seen k)=((((Ce n nm t c Aj seen).set (7+k) (.int .i64 Ae)).set (10+3*k) (.pointer none)).set (10+3*k+1) (.pointer none)).set (10+3*k+2) (.pointer none):=by
 have hh:k=0\/k=1\/k=2:=by omega
 have q:∀j,Bt t (F9 seen k) j=if j / 3=k then .pointer none else Bt t seen j:=fun j=>by
  unfold Bt;by_cases e:j / 3=k
  ·rw[if_pos e];cases hx:(F9 seen k)[j]? with
   |none=>simp[R.Cs]
   |some x=>
    rcases Fp seen k j x hx with ⟨_,rfl⟩|⟨e',_⟩
    ·simp[R.Cs]
    ·exact absurd e e'
  ·rw[if_neg e];have:(F9 seen k)[j]?=seen[j]?:=by
    unfold F9;rw[afV,if_neg (by omega),afV,if_neg (by omega),afV,if_neg (by omega)]
   rw[this]
 obtain⟨a,b,d,rfl⟩:∃a b d,Aj=[a,b,d]:=by
  match Aj,aa with
  |[a,b,d],_=>exact⟨a,b,d,rfl⟩
 unfold Ce;simp only[q];rcases hh with rfl|rfl|rfl<;>rfl
theorem Cg.forget{sv:List R.Sv}{Aj:List Int}{seen:List R.Sn}(h:Cg s n nm t F c sv Aj seen jobs w){k:Nat}{Ae:Int}(ag:Aj.length=3)(af:k<3)(hk:Af (fun k=>k=s) w w')(hs:w'.heap[s]?=some (.cells (((((Ce n nm t c Aj seen).set (7+k) (.int .i64 Ae)).set (10+3*k) (.pointer none)).set (10+3*k+1) (.pointer none)).set (10+3*k+2) (.pointer none)).toArray 144 (0,0))):
  Cg s n nm t F c sv (Aj.set k Ae) (F9 seen k) jobs w':=by
 have ad:JD w F (fun k=>k=s):=JD.one h.bs (by decide);obtain⟨ja,jb,hj⟩:=h.jobs;refine⟨by rw[N0 n nm t c Aj seen k Ae ag af];exact hs,h.zs,hk.row h.made (fun j hj e=>AV h.made h.bs (by decide) (by rw[<-e];exact hj)),fun z hz=>(h.each z hz).keep hk ad (fun _ q=>q),h.dns,h.Z8,fun j x hx aa=>?_,fun j j' x x' hx ac aa ab ae=>?_,⟨ja,jb,hk.at hj (J8 h.bs hj).symm⟩,h.BP⟩
 ·rcases Fp seen k j x hx with ⟨_,rfl⟩|⟨e,hx⟩
  ·exact absurd rfl aa
  ·obtain⟨y',h1,h2,h3⟩:=h.ln j x hx aa;refine⟨y',hk.at h1 (AZ h1 h.bs (by decide)),?_,h3⟩;have:(Aj.set k Ae).getD (j / 3) 0=Aj.getD (j / 3) 0:=by
    rw[afX,afX,afV,if_neg (fun q=>e q.symm)]
   rw[this];exact h2
 ·rcases Fp seen k j x hx with ⟨_,rfl⟩|⟨e,hx⟩
  ·exact absurd rfl aa
  ·rcases Fp seen k j' x' ac with ⟨_,rfl⟩|⟨e',ac⟩
   ·exact absurd rfl ab
   ·exact h.inj j j' x x' hx ac aa ab ae
theorem LW.Dx(h:LW p F G w)(hP:AR P){kd pa o:Int}(hk:1<=kd/\kd<=7)(hn:kd≠1/\kd≠5)(ho:1<=o/\o<=9)(aa:0<=pa/\pa<=o-1):
  Calls Tryz.prog 220 #[ptr p.s,cv P,NL kd 0 0 0 0 0 pa o false ⟨#[]⟩] w fun e w'=>e=.returned (.tuple #[])/\∃F',LW p F' (R.C3 G P kd pa o) w'/\Ap F F' w w':=by
 obtain⟨_,h2,h3,h4,h5,h6,_⟩:=hP;refine(h.abQ P.client P.Ae P.line P.seq P.uid kd pa o false [] ⟨hk,h2,h3,h4,h5,h6,ho,aa,?_⟩).mono (fun e w' q=>q);unfold Dm;rw[if_neg (by simp only;omega)];rfl
theorem LW.PU(h:LW p F G w)(hP:AR P){aa:Int}(hw:aa=0\/aa=1):
  Calls Tryz.prog 249 #[ptr p.s,pv P,.int .i64 aa] w fun e w'=>e=.returned (.tuple #[])/\∃F',LW p F' (R.C3 G P 7 aa 2) w'/\Ap F F' w w':=by
 refine Rs w p.s P aa _ (fun wa hb=>?_);refine((h.below hb).Dx hP (by omega) (by omega) (by omega) (by omega)).mono ?_;rintro e w' ⟨rfl,F',q1,q2⟩;exact⟨rfl,F',q1,(Ap.Al F hb).trans q2⟩
def Nw(G:R.Wd)(P:Pk):R.Wd:=if P.kind=3 then R.C3 G P 4 0 1 else R.C3 G P 2 P.part P.off
theorem LW.abR(h:LW p F G w)(hP:AR P):
  Calls Tryz.prog 252 #[ptr p.s,pv P] w fun e w'=>e=.returned (.tuple #[])/\∃F',LW p F' (Nw G P) w'/\Ap F F' w w':=by
 have ho:=hP.2.2.2.2.2.2.1;have aa:=hP.2.2.2.2.2.2.2.1;unfold Nw;by_cases hk:P.kind=3
 ·rw[if_pos hk];refine OI w p.s P 4 0 1 _ (afJ ⟨hk,rfl,rfl,rfl⟩) (fun wa hb=>?_);refine((h.below hb).Dx hP (by omega) (by omega) (by omega) (by omega)).mono ?_;rintro e w' ⟨rfl,F',q1,q2⟩;exact⟨rfl,F',q1,(Ap.Al F hb).trans q2⟩
 ·rw[if_neg hk];refine OI w p.s P 2 P.part P.off _ (afM ⟨hk,rfl,rfl,rfl⟩) (fun wa hb=>?_);refine((h.below hb).Dx hP (by omega) (by omega) ho aa).mono ?_;rintro e w' ⟨rfl,F',q1,q2⟩;exact⟨rfl,F',q1,(Ap.Al F hb).trans q2⟩
theorem LW.alive(h:LW p F G w)(u:Int):
  Calls Tryz.prog 248 #[ptr p.s,.int .i64 u] w fun e w'=>e=.returned (.bool (R.Ff G u))/\w'=w:=by
 obtain⟨a,c,hK⟩:=AX h.BN.made;have ah:p.t.zs.length=G.Ab.length:=by rw[<-h.BN.zs,af0]
 have c6:w.cell? ⟨p.s,6,none⟩=some (.slice a p.t.zs.length c):=cell_of h.BN.bs 6 _ (by rw[<-hK];rfl);have ad:=h.wf.sv;by_cases hu:1<=u/\u<=(G.Ab.length:Int)
 ·obtain⟨n,rfl⟩:∃n:Nat,u=(n:Int)+1:=⟨(u-1).toNat,by omega⟩;have hn:n<G.Ab.length:=by omega
  obtain⟨z,hz,af⟩:=KV h.BN.zs (afH hn);obtain⟨g,cap,ag,ae,_,_,_,k1,_⟩:=h.BN.Jt hz;have ac:w.cell? ⟨p.s,6,none⟩=some (.slice (some ⟨g,0,none⟩) p.t.zs.length cap):=cell_of h.BN.bs 6 _ (by rw[<-ae];rfl);have ab:R.Ff G ((n:Int)+1)=z.1.alive:=by
   unfold R.Ff;have e:((n:Int)+1-1).toNat=n:=by omega
   rw[e,afH hn,<-af];simp;omega
  rw[ab];have aa:=(h.BN.each z (afU hz)).wk;cases hb:z.1.alive with
  |true=>
   rw[if_pos hb]at aa;have:∃T b,z.2.wk=.iface T (ptr b):=by
    generalize z.1.kind=kd at aa;generalize z.2.wk=W at aa;cases aa with
    |counter=>exact⟨_,_,rfl⟩
    |FJ=>exact⟨_,_,rfl⟩
    |Jo=>exact⟨_,_,rfl⟩
   obtain⟨T,b,hT⟩:=this;rw[hT]at k1;exact Vo w p.s g n p.t.zs.length cap T b ac (by omega) (by omega) k1
  |false=>
   rw[if_neg (by rw[hb];simp)]at aa;rw[aa]at k1;exact Sj w p.s g n p.t.zs.length cap ac (by omega) (by omega) k1
 ·have ab:R.Ff G u=false:=by
   unfold R.Ff;by_cases h1:1<=u
   ·rw[af5 (by omega)];simp
   ·simp[h1]
  rw[ab];exact XD w p.s p.t.zs.length a c u c6 (by omega)
end Go.Proofs.YtblomippkddgiabGreatDoor
