import Derived.Test.YtblomippkddgiaaGreatDoorK31
import Derived.Test.YtblomippkddgiaaGreatDoorK24
set_option maxRecDepth 100000
set_option maxHeartbeats 1000000
namespace Go.Proofs.YtblomippkddgiaaGreatDoor
open Go.RowKit
def Oz(B:Nat)(a b:World):Prop:=a.heap.size<=b.heap.size/\∀x,B<=x->x<a.heap.size->b.heap[x]?=a.heap[x]?
theorem Oz.box{w w':World}{o:Obj}(h:Oz w.heap.size (w.alloc o) w'):w'.heap[w.heap.size]?=some o:=by
 rw[h.2 w.heap.size (Nat.le_refl _) (by simp)];exact heap_alloc_new w o
theorem Pg(w:World)(s b:Nat)(P:Pk)(asked:List UInt8)(n:Int)(A Post:World->Prop)(h6:w.cell? ⟨b,6,none⟩=some (.string (str asked)))
  (H187:Hid (∀w,Calls Tryz.prog 187 #[.string (str asked)] w fun e w'=>e=.returned (.int .i64 n)/\w'=w))
  (HF:Hid (n<P.part->∀wa,Below w.heap.size w wa->Post wa))
  (HA:Hid (P.part=n->∀wa,Below w.heap.size w wa->Calls Tryz.prog 258 #[pt s,pt b,pv P] wa fun e w'=>(e=.returned (.bool false)/\Post w')\/(e=.returned (.bool true)/\A w'/\Oz w.heap.size wa w')))
  (HL:Hid (P.part<n->∀wa,Below w.heap.size w wa->A wa))
  (HS:Hid (P.please=true->∀w',A w'->Calls Tryz.prog 237 #[pt s,pv P] w' fun e w''=>e=.returned (.tuple #[])/\Post w''))
  (HN:Hid (P.please=false->∀w',A w'->Post w')):
  Calls Tryz.prog 236 #[pt s,pt b,pv P] w fun e w'=>e=.returned (.tuple #[])/\Post w':=by
 have HB:Hid (∀o,Below w.heap.size w (w.alloc o)):=fun o=>(Below.refl _ _).alloc (Nat.le_refl _) _
 have hl:=lt_of_cell h6;obtain⟨kd,cl,li,ln,sq',u,pa,o,pl,body⟩:=P;dsimp only[pv]at *;generalize str body=SB at *;generalize str asked=SA at *;rcases Int.lt_trichotomy pa n with hc|hc|hc
 ·have e1:¬n<pa:=by omega
  have e2:(pa==n)=false:=by simp;omega
  have HQ:=Ab ((Aa HL) hc);clear hc HF HA;cases pl with
  |true=>
   have HS1:=Ab ((Aa HS) rfl);go_enter Tryz.func236,Tryz.ntmps236;go_wp2_with (first|(go_at_call 187;refine((Aa H187) _).mono ?_;rintro e w1 ⟨rfl,hw1⟩;rw[hw1];clear hw1)|(go_at_call 237;refine((Aa HS1) _ ((Aa HQ) _ ((Aa HB) _))).mono ?_;rintro e w3 ⟨rfl,hw3⟩))
   go_returns;exact⟨rfl,hw3⟩
  |false=>
   have HN1:=Ab ((Aa HN) rfl);go_enter Tryz.func236,Tryz.ntmps236;go_wp2_with (first|(go_at_call 187;refine((Aa H187) _).mono ?_;rintro e w1 ⟨rfl,hw1⟩;rw[hw1];clear hw1))
   go_returns;exact⟨rfl,(Aa HN1) _ ((Aa HQ) _ ((Aa HB) _))⟩
 ·have e1:¬n<pa:=by omega
  have e2:(pa==n)=true:=by simp;omega
  have HQ:=Ab ((Aa HA) hc);clear hc HF HL HA;have HX:Hid (∀w3:World,Oz w.heap.size (w.alloc (.cells #[.int .i64 kd,.int .i64 cl,.int .i64 li,.int .i64 ln,.int .i64 sq',.int .i64 u,.int .i64 pa,.int .i64 o,.bool pl,.string SB] 41)) w3->w3.heap[w.heap.size]?=some (.cells #[.int .i64 kd,.int .i64 cl,.int .i64 li,.int .i64 ln,.int .i64 sq',.int .i64 u,.int .i64 pa,.int .i64 o,.bool pl,.string SB] 41)):=fun w3 h3=>h3.box
  cases pl with
  |true=>
   have HS1:=Ab ((Aa HS) rfl);go_enter Tryz.func236,Tryz.ntmps236;go_wp2_with (first|(go_at_call 187;refine((Aa H187) _).mono ?_;rintro e w1 ⟨rfl,hw1⟩;rw[hw1];clear hw1)|(go_at_call 258;refine((Aa HQ) _ ((Aa HB) _)).mono ?_))
   rintro e w3 (⟨rfl,hw3⟩|⟨rfl,hw3,hs3⟩)
   ·go_wp2;go_returns;exact⟨rfl,hw3⟩
   ·have hb:=(Aa HX) w3 hs3;have k0:=cell_of hb 0 _ rfl;have k1:=cell_of hb 1 _ rfl;have k2:=cell_of hb 2 _ rfl;have k3:=cell_of hb 3 _ rfl;have k4:=cell_of hb 4 _ rfl;have k5:=cell_of hb 5 _ rfl;have k6:=cell_of hb 6 _ rfl;have k7:=cell_of hb 7 _ rfl;have k8:=cell_of hb 8 _ rfl;have k9:=cell_of hb 9 _ rfl;have HC:=Ab ((Aa HS1) w3 hw3);clear hw3 hs3 hb;go_wp2_with (first|(go_at_call 237;refine(Aa HC).mono ?_;rintro e w4 ⟨rfl,hw4⟩))
    go_returns;exact⟨rfl,hw4⟩
  |false=>
   have HN1:=Ab ((Aa HN) rfl);go_enter Tryz.func236,Tryz.ntmps236;go_wp2_with (first|(go_at_call 187;refine((Aa H187) _).mono ?_;rintro e w1 ⟨rfl,hw1⟩;rw[hw1];clear hw1)|(go_at_call 258;refine((Aa HQ) _ ((Aa HB) _)).mono ?_))
   rintro e w3 (⟨rfl,hw3⟩|⟨rfl,hw3,hs3⟩)
   ·go_wp2;go_returns;exact⟨rfl,hw3⟩
   ·have hb:=(Aa HX) w3 hs3;have k8:=cell_of hb 8 _ rfl;have HC:=Ab ((Aa HN1) w3 hw3);clear hw3 hs3 hb;go_wp2;go_returns;exact⟨rfl,Aa HC⟩
 ·have HQ:=Ab ((Aa HF) hc);clear HL HA;go_enter Tryz.func236,Tryz.ntmps236;go_wp2_with (first|(go_at_call 187;refine((Aa H187) _).mono ?_;rintro e w1 ⟨rfl,hw1⟩;rw[hw1];clear hw1))
  go_returns;exact⟨rfl,(Aa HQ) _ ((Aa HB) _)⟩
theorem Jv(w:World)(s m:Nat)(a:Option Addr)(cap:Nat)(u:Int)(h6:w.cell? ⟨s,6,none⟩=some (.slice a m cap)):Calls Tryz.prog 131 #[pt s,.int .i64 u] w fun e w'=>e=.returned (.bool (decide (1<=u/\u<=(m:Int))))/\w'=w:=by
 by_cases h1:1<=u
 ·by_cases h2:u<=(m:Int)
  ·rw[show decide (1<=u/\u<=(m:Int))=true by simp[h1,h2]];have e1:decide (u ≥ 1)=true:=by simpa using h1
   have e2:decide (u<=(m:Int))=true:=by simpa using h2
   go_enter Tryz.func131,Tryz.ntmps131;go_wp2;go_returns;exact⟨rfl,rfl⟩
  ·rw[show decide (1<=u/\u<=(m:Int))=false by simp[h2]];have e1:decide (u ≥ 1)=true:=by simpa using h1
   have e2:decide (u<=(m:Int))=false:=by simpa using h2
   go_enter Tryz.func131,Tryz.ntmps131;go_wp2;go_returns;exact⟨rfl,rfl⟩
 ·rw[show decide (1<=u/\u<=(m:Int))=false by simp[h1]];have e1:decide (u ≥ 1)=false:=by simp;omega
  go_enter Tryz.func131,Tryz.ntmps131;go_wp2;go_returns;exact⟨rfl,rfl⟩
theorem VL(w:World)(s m:Nat)(a:Option Addr)(cap:Nat)(u:Int)(h6:w.cell? ⟨s,6,none⟩=some (.slice a m cap))(hu:¬(1<=u/\u<=(m:Int))):Calls Tryz.prog 233 #[pt s,.int .i64 u] w fun e w'=>e=.returned (.bool false)/\w'=w:=by
 have H:=Ab (Jv w s m a cap u h6);rw[show decide (1<=u/\u<=(m:Int))=false by simpa using hu]at H;go_enter Tryz.func233,Tryz.ntmps233;go_wp2_with (first|(go_at_call 131;refine(Aa H).mono ?_;rintro e w1 ⟨rfl,hw1⟩;rw[hw1];clear hw1))
 go_returns;exact⟨rfl,rfl⟩
theorem TQ(w:World)(s g u m cap:Nat)(T:TypeId)(b:Nat)(h6:w.cell? ⟨s,6,none⟩=some (.slice (some ⟨g,0,none⟩) m cap))(hu:u<m)(hm:m<=255)(hw:w.cell? ⟨g,u*3+1,none⟩=some (.iface T (ptr b))):Calls Tryz.prog 233 #[pt s,.int .i64 ((u:Int)+1)] w fun e w'=>e=.returned (.bool true)/\w'=w:=by
 have H:=Ab (Jv w s m _ cap ((u:Int)+1) h6);rw[show decide (1<=(u:Int)+1/\(u:Int)+1<=(m:Int))=true by simp;omega]at H;have HV:=Ab (EG w s g u m cap h6 hu hm);go_enter Tryz.func233,Tryz.ntmps233;go_wp2_with (first|(go_at_call 131;refine(Aa H).mono ?_;rintro e w1 ⟨rfl,hw1⟩;rw[hw1];clear hw1)|(go_at_call 132;refine(Aa HV).mono ?_;rintro e w1 ⟨rfl,hw1⟩;rw[hw1];clear hw1))
 go_returns;exact⟨rfl,rfl⟩
theorem QN(w:World)(s g u m cap:Nat)(h6:w.cell? ⟨s,6,none⟩=some (.slice (some ⟨g,0,none⟩) m cap))(hu:u<m)(hm:m<=255)(hw:w.cell? ⟨g,u*3+1,none⟩=some .nilIface):Calls Tryz.prog 233 #[pt s,.int .i64 ((u:Int)+1)] w fun e w'=>e=.returned (.bool false)/\w'=w:=by
 have H:=Ab (Jv w s m _ cap ((u:Int)+1) h6);rw[show decide (1<=(u:Int)+1/\(u:Int)+1<=(m:Int))=true by simp;omega]at H;have HV:=Ab (EG w s g u m cap h6 hu hm);go_enter Tryz.func233,Tryz.ntmps233;go_wp2_with (first|(go_at_call 131;refine(Aa H).mono ?_;rintro e w1 ⟨rfl,hw1⟩;rw[hw1];clear hw1)|(go_at_call 132;refine(Aa HV).mono ?_;rintro e w1 ⟨rfl,hw1⟩;rw[hw1];clear hw1))
 go_returns;exact⟨rfl,rfl⟩
theorem Z8:∀args w,(callFunc 235 args).run Tryz.prog w=.ok (.enter 235 args) w:=fun _ _=>rfl
theorem V4:∀args w,(callFunc 192 args).run Tryz.prog w=.ok (.enter 192 args) w:=fun _ _=>rfl
theorem Ks{f:World->Prop}{W:World}(P:World->Prop)(hP:P W)(h:∀W',P W'->f W'):f W:=h W hP
def Two(w:World)(o o':Obj)(W:World):Prop:=Below w.heap.size w W/\W.heap[w.heap.size]?=some o/\W.heap[w.heap.size+1]?=some o'
theorem acC(w:World)(o o':Obj):Two w o o' ((w.alloc o).alloc o'):=by
 refine⟨((Below.refl _ _).alloc (Nat.le_refl _) _).alloc (by simp) _,(Below.heap_alloc _ _ _ (by simp)).trans (heap_alloc_new w _),?_⟩;have:=heap_alloc_new (w.alloc o) o';simpa using this
theorem Ng(w:World)(s:Nat)(P:Pk)(kd' pa' o':Int)(Post:World->Prop)(hk:(P.kind=3/\kd'=4/\pa'=0/\o'=1)\/(¬P.kind=3/\kd'=2/\pa'=P.part/\o'=P.off))
  (HS:Hid (∀wa,Below w.heap.size w wa->Calls Tryz.prog 192 #[.pointer (some ⟨s,0,none⟩),cv P,Ms kd' 0 0 0 0 0 pa' o' false ⟨#[]⟩] wa fun e w'=>e=.returned (.tuple #[])/\Post w')):
  Calls Tryz.prog 237 #[.pointer (some ⟨s,0,none⟩),pv P] w fun e w'=>e=.returned (.tuple #[])/\Post w':=by
 have HC:=Ab (fun w=>Gl P w);obtain⟨kd,cl,li,ln,sq',u,pa,o,pl,body⟩:=P;dsimp only[pv,cv]at *;generalize str body=SB at *;have HX:Hid (∀W,Two w (.cells #[.int .i64 kd,.int .i64 cl,.int .i64 li,.int .i64 ln,.int .i64 sq',.int .i64 u,.int .i64 pa,.int .i64 o,.bool pl,.string SB] 41) (.cells #[.int .i64 kd',.int .i64 0,.int .i64 0,.int .i64 0,.int .i64 0,.int .i64 0,.int .i64 pa',.int .i64 o',.bool false,.string ⟨#[]⟩] 41) W->∀w1,Below W.drew.heap.size W.drew w1->(w1.cell? ⟨w.heap.size+1,0,none⟩=some (.int .i64 kd')/\w1.cell? ⟨w.heap.size+1,1,none⟩=some (.int .i64 0)/\w1.cell? ⟨w.heap.size+1,2,none⟩=some (.int .i64 0)/\w1.cell? ⟨w.heap.size+1,3,none⟩=some (.int .i64 0)/\w1.cell? ⟨w.heap.size+1,4,none⟩=some (.int .i64 0))/\w1.cell? ⟨w.heap.size+1,5,none⟩=some (.int .i64 0)/\w1.cell? ⟨w.heap.size+1,6,none⟩=some (.int .i64 pa')/\w1.cell? ⟨w.heap.size+1,7,none⟩=some (.int .i64 o')/\w1.cell? ⟨w.heap.size+1,8,none⟩=some (.bool false)/\w1.cell? ⟨w.heap.size+1,9,none⟩=some (.string ⟨#[]⟩)/\Below w.heap.size w w1):=fun W hW w1 hb=>by
  have hl:=(Array.getElem?_eq_some_iff.1 hW.2.2).1;have h1:w1.heap[w.heap.size+1]?=some (.cells #[.int .i64 kd',.int .i64 0,.int .i64 0,.int .i64 0,.int .i64 0,.int .i64 0,.int .i64 pa',.int .i64 o',.bool false,.string ⟨#[]⟩] 41):=(hb.block _ hl).trans hW.2.2;exact⟨⟨cell_of h1 0 _ rfl,cell_of h1 1 _ rfl,cell_of h1 2 _ rfl,cell_of h1 3 _ rfl,cell_of h1 4 _ rfl⟩,cell_of h1 5 _ rfl,cell_of h1 6 _ rfl,cell_of h1 7 _ rfl,cell_of h1 8 _ rfl,cell_of h1 9 _ rfl,hW.1.drew.trans (hb.mono hW.1.size)⟩
 have HY:Hid (∀W,Two w (.cells #[.int .i64 kd,.int .i64 cl,.int .i64 li,.int .i64 ln,.int .i64 sq',.int .i64 u,.int .i64 pa,.int .i64 o,.bool pl,.string SB] 41) (.cells #[.int .i64 kd',.int .i64 0,.int .i64 0,.int .i64 0,.int .i64 0,.int .i64 0,.int .i64 pa',.int .i64 o',.bool false,.string ⟨#[]⟩] 41) W->(W.cell? ⟨w.heap.size,0,none⟩=some (.int .i64 kd)/\W.cell? ⟨w.heap.size,1,none⟩=some (.int .i64 cl)/\W.cell? ⟨w.heap.size,2,none⟩=some (.int .i64 li)/\W.cell? ⟨w.heap.size,3,none⟩=some (.int .i64 ln)/\W.cell? ⟨w.heap.size,4,none⟩=some (.int .i64 sq'))/\W.cell? ⟨w.heap.size,5,none⟩=some (.int .i64 u)/\W.cell? ⟨w.heap.size,6,none⟩=some (.int .i64 pa)/\W.cell? ⟨w.heap.size,7,none⟩=some (.int .i64 o)/\W.cell? ⟨w.heap.size,8,none⟩=some (.bool pl)/\W.cell? ⟨w.heap.size,9,none⟩=some (.string SB)):=fun W hW=>⟨⟨cell_of hW.2.1 0 _ rfl,cell_of hW.2.1 1 _ rfl,cell_of hW.2.1 2 _ rfl,cell_of hW.2.1 3 _ rfl,cell_of hW.2.1 4 _ rfl⟩,cell_of hW.2.1 5 _ rfl,cell_of hW.2.1 6 _ rfl,cell_of hW.2.1 7 _ rfl,cell_of hW.2.1 8 _ rfl,cell_of hW.2.1 9 _ rfl⟩
 have HZ:=Ab (acC w);rcases hk with ⟨h1,rfl,rfl,rfl⟩|⟨h1,rfl,rfl,rfl⟩
 ·have e1:(kd==3)=true:=by simpa using h1
  clear h1;go_enter Tryz.func237,Tryz.ntmps237;go_wp2_with fail
  refine Ks _ ((Aa HZ) _ _) ?_;intro W hW;obtain⟨⟨g0,g1,g2,g3,g4⟩,g5,g6,g7,g8,g9⟩:=(Aa HY) W hW;have hx0:=((Aa HX) W hW W.drew (Below.refl _ _));obtain⟨⟨y0,y1,y2,y3,y4⟩,y5,y6,y7,y8,y9,_⟩:=hx0;simp only[World.cell?_drew]at y0 y1 y2 y3 y4 y5 y6 y7 y8 y9;have HX1:=Ab ((Aa HX) W hW);clear hW HX HY HZ;go_region_law (first
   |(refine AR rfl 235 #[.tmp 15] #[41] rfl Z8 #[.agg #[.int .i64 kd,.int .i64 cl,.int .i64 li,.int .i64 ln,.int .i64 sq',.int .i64 u,.int .i64 pa,.int .i64 o,.bool pl,.string SB]] rfl _ ((Aa HC) _) ?_;rintro e w1 ⟨rfl,hb1⟩;have hx1:=(Aa HX1) w1 hb1;obtain⟨⟨f0,f1,f2,f3,f4⟩,f5,f6,f7,f8,f9,hbb⟩:=hx1;have HS1:=Ab ((Aa HS) w1 hbb);clear hb1 hbb;refine⟨_,rfl,?_⟩)
   |(refine AR rfl 192 #[.tmp 14,.tmp 16,.tmp 17] #[81,145,41] rfl V4 #[.pointer (some ⟨s,0,none⟩),.agg #[.int .i64 cl,.int .i64 li,.int .i64 ln,.int .i64 sq',.int .i64 u],Ms 4 0 0 0 0 0 0 1 false ⟨#[]⟩] rfl _ (Aa HS1) ?_;rintro e w2 ⟨rfl,hw2⟩;refine⟨_,rfl,?_⟩))
  all_goals
   go_wp2;go_returns;exact⟨rfl,hw2⟩
 ·have e1:(kd==3)=false:=by simpa using h1
  clear h1;go_enter Tryz.func237,Tryz.ntmps237;go_wp2_with fail
  refine Ks _ ((Aa HZ) _ _) ?_;intro W hW;obtain⟨⟨g0,g1,g2,g3,g4⟩,g5,g6,g7,g8,g9⟩:=(Aa HY) W hW;have hx0:=((Aa HX) W hW W.drew (Below.refl _ _));obtain⟨⟨y0,y1,y2,y3,y4⟩,y5,y6,y7,y8,y9,_⟩:=hx0;simp only[World.cell?_drew]at y0 y1 y2 y3 y4 y5 y6 y7 y8 y9;have HX1:=Ab ((Aa HX) W hW);clear hW HX HY HZ;go_region_law (first
   |(refine AR rfl 235 #[.tmp 15] #[41] rfl Z8 #[.agg #[.int .i64 kd,.int .i64 cl,.int .i64 li,.int .i64 ln,.int .i64 sq',.int .i64 u,.int .i64 pa',.int .i64 o',.bool pl,.string SB]] rfl _ ((Aa HC) _) ?_;rintro e w1 ⟨rfl,hb1⟩;have hx1:=(Aa HX1) w1 hb1;obtain⟨⟨f0,f1,f2,f3,f4⟩,f5,f6,f7,f8,f9,hbb⟩:=hx1;have HS1:=Ab ((Aa HS) w1 hbb);clear hb1 hbb;refine⟨_,rfl,?_⟩)
   |(refine AR rfl 192 #[.tmp 14,.tmp 16,.tmp 17] #[81,145,41] rfl V4 #[.pointer (some ⟨s,0,none⟩),.agg #[.int .i64 cl,.int .i64 li,.int .i64 ln,.int .i64 sq',.int .i64 u],Ms 2 0 0 0 0 0 pa' o' false ⟨#[]⟩] rfl _ (Aa HS1) ?_;rintro e w2 ⟨rfl,hw2⟩;refine⟨_,rfl,?_⟩))
  all_goals
   go_wp2;go_returns;exact⟨rfl,hw2⟩
theorem Jw{w:World}{b b':Nat}{cur:Array Value}{t:TypeId}{z:Nat×Nat}{cap:Nat}{buf:Array Value}{cl:Bool}{a r:Nat}{tm:Bool}(h:w.heap[b]?=some (.cells cur t z))(h':w.heap[b']?=some (.chan cap buf cl a r tm)):b≠b':=fun e=>by
 rw[e,h']at h;cases h
theorem XX{w:World}{B n size:Nat}{e:TypeId}{v:Value}{xs:List Value}(hr:w.ownsRow B e size v n xs){b' cap:Nat}{buf:Array Value}{cl:Bool}{a r:Nat}{tm:Bool}(h':w.heap[b']?=some (.chan cap buf cl a r tm))(j:Nat)(hj:v.ownBlock=some j):j≠b':=by
 rcases hr.2 with ⟨rfl,_⟩|⟨g,cap,cur,rfl,_,hg,_⟩
 ·cases hj
 ·cases hj;exact Jw hg h'
theorem LQ{α:Type}{l:List α}{u i:Nat}{x y:α}(h:(l.set u x)[i]?=some y):(i=u/\y=x)\/(i≠u/\l[i]?=some y):=by
 rw[List.getElem?_set]at h;by_cases e:u=i
 ·rw[if_pos e]at h;split at h
  ·exact Or.inl ⟨e.symm,(Option.some.inj h).symm⟩
  ·cases h
 ·rw[if_neg e]at h;exact Or.inr ⟨fun q=>e q.symm,h⟩
def SP.put(t:SP)(i b:Nat):SP:={t with ql:=fun j=>if j=i then b else t.ql j}
theorem UN(t:SP)(seen:List R.Sn)(i b:Nat)(r':R.Sn)(hi:i<seen.length)(hne:r'.seq≠0)(j:Nat):Bm (t.put i b) (seen.set i r') j=if j=i then ptr b else Bm t seen j:=by
 unfold Bm SP.put;rw[List.getElem?_set];by_cases e:i=j
 ·subst e;rw[if_pos rfl,if_pos hi,if_pos rfl];simp[hne]
 ·have e':¬j=i:=fun q=>e q.symm
  simp[e,e']
theorem Sd(n nm:Nat)(t:SP)(c:R.Cf)(Ai:List Int)(seen:List R.Sn)(i b:Nat)(r':R.Sn)(hl:seen.length=9)(hi:i<9)(hne:r'.seq≠0):Cv n nm (t.put i b) c Ai (seen.set i r')=(Cv n nm t c Ai seen).set (10+i) (ptr b):=by
 have q:=UN t seen i b r' (by omega) hne;unfold Cv;simp only[q];have h:i=0\/i=1\/i=2\/i=3\/i=4\/i=5\/i=6\/i=7\/i=8:=by omega
 rcases h with rfl|rfl|rfl|rfl|rfl|rfl|rfl|rfl|rfl<;>rfl
theorem Cp.N4{s n nm:Nat}{t:SP}{F:Aq}{c:R.Cf}{sv:List R.Sv}{Ai:List Int}{seen:List R.Sn}{jobs:List R.Jb}{w w':World}(h:Cp s n nm t F c sv Ai seen jobs w)(hlt:∀k,F k->k<w.heap.size){i b:Nat}{r':R.Sn}{y:Ku}(hl:seen.length=9)(hi:i<9)(hne:r'.seq≠0)(hb:w.heap.size<=b)(hk:Af (fun k=>k=s) w w')(hs:w'.heap[s]?=some (.cells ((Cv n nm t c Ai seen).set (10+i) (ptr b)).toArray 167 (0,0)))(hy:w'.heap[b]?=some (.cells y.cells.toArray 147 (0,0)))(hrel:J7 i (Ai.getD (i / 3) 0) r' y):
  Cp s n nm (t.put i b) (fun k=>F k\/k=b) c sv Ai (seen.set i r') jobs w':=by
 obtain⟨f1,f2,f3⟩:=h.BM;have hav:Kt w F (fun k=>k=s):=Kt.one h.bs (by decide);obtain⟨ja,jb,hj⟩:=h.jobs;have hq:∀(j:Nat) (x:R.Sn),(seen.set i r')[j]?=some x->(j=i/\x=r')\/(j≠i/\seen[j]?=some x):=fun j x hx=>by
  rw[List.getElem?_set]at hx;by_cases e:i=j
  ·rw[if_pos e]at hx;split at hx
   ·exact Or.inl ⟨e.symm,(Option.some.inj hx).symm⟩
   ·cases hx
  ·rw[if_neg e]at hx;exact Or.inr ⟨fun q=>e q.symm,hx⟩
 refine⟨by rw[Sd n nm t c Ai seen i b r' hl hi hne];exact hs,h.zs,hk.row h.made (fun j hj e=>A6 h.made h.bs (by decide) (by rw[<-e];exact hj)),fun z hz=>(h.each z hz).keep hk hav (fun _ q=>Or.inl q),h.dns,h.ZW,fun j x hx hxe=>?_,fun j j' x x' hx hx' hxe hxe' hjj=>?_,⟨ja,jb,hk.at hj (Jw h.bs hj).symm⟩,Or.inl f1,Or.inl f2,fun j hj=>Or.inl (f3 j hj)⟩
 ·rcases hq j x hx with ⟨rfl,rfl⟩|⟨e,hx⟩
  ·refine⟨y,?_,hrel,Or.inr ?_⟩
   ·simp only[SP.put,if_true];exact hy
   ·simp[SP.put]
  ·obtain⟨y',h1,h2,h3⟩:=h.ln j x hx hxe;refine⟨y',?_,h2,Or.inl ?_⟩
   ·simp only[SP.put,if_neg e];exact hk.at h1 (Bi h1 h.bs (by decide))
   ·simp only[SP.put,if_neg e];exact h3
 ·rcases hq j x hx with ⟨e,_⟩|⟨e,hx0⟩
  ·rcases hq j' x' hx' with ⟨e',_⟩|⟨e',hx1⟩
   ·exact absurd (e.trans e'.symm) hjj
   ·obtain⟨y',_,_,h3⟩:=h.ln j' x' hx1 hxe';have:=hlt _ h3;simp only[SP.put,if_pos e,if_neg e'];omega
  ·rcases hq j' x' hx' with ⟨e',_⟩|⟨e',hx1⟩
   ·obtain⟨y',_,_,h3⟩:=h.ln j x hx0 hxe;have:=hlt _ h3;simp only[SP.put,if_pos e',if_neg e];omega
   ·simp only[SP.put,if_neg e,if_neg e'];exact h.inj j j' x x' hx0 hx1 hxe hxe' hjj
theorem Cp.Jr{s n nm:Nat}{t:SP}{F:Aq}{c:R.Cf}{sv:List R.Sv}{Ai:List Int}{seen:List R.Sn}{jobs jobs':List R.Jb}{w w':World}(h:Cp s n nm t F c sv Ai seen jobs w)(hk:Af (fun k=>k=t.jc) w w')(hj':∃a b:Nat,w'.heap[t.jc]?=some (.chan c.table.toNat (jobs'.map NY).toArray false a b false)):
  Cp s n nm t F c sv Ai seen jobs' w':=by
 obtain⟨ja,jb,hj⟩:=h.jobs;have hav:Kt w F (fun k=>k=t.jc):=Kt.tags (fun b hb=>Or.inr (Or.inr ⟨_,_,_,_,_,_,by subst hb;exact hj⟩));refine⟨hk.at h.bs (Jw h.bs hj),h.zs,hk.row h.made (XX h.made hj),fun z hz=>(h.each z hz).keep hk hav (fun _ q=>q),h.dns,h.ZW,fun j x hx hxe=>?_,h.inj,hj',h.BM⟩;obtain⟨y',h1,h2,h3⟩:=h.ln j x hx hxe;exact⟨y',hk.at h1 (Jw h1 hj),h2,h3⟩
def FE(seen:List R.Sn)(k:Nat):List R.Sn:=((seen.set (3*k) R.De).set (3*k+1) R.De).set (3*k+2) R.De
theorem E1(seen:List R.Sn)(k j:Nat)(x:R.Sn)(h:(FE seen k)[j]?=some x):(j / 3=k/\x=R.De)\/(j / 3≠k/\seen[j]?=some x):=by
 unfold FE at h;rcases LQ h with ⟨e1,e2⟩|⟨n1,h⟩
 ·exact Or.inl ⟨by omega,e2⟩
 ·rcases LQ h with ⟨e1,e2⟩|⟨n2,h⟩
  ·exact Or.inl ⟨by omega,e2⟩
  ·rcases LQ h with ⟨e1,e2⟩|⟨n3,h⟩
   ·exact Or.inl ⟨by omega,e2⟩
   ·by_cases e:j / 3=k
    ·omega
    ·exact Or.inr ⟨e,h⟩
theorem Mx(n nm:Nat)(t:SP)(c:R.Cf)(Ai:List Int)(seen:List R.Sn)(k:Nat)(Ag:Int)(hll:Ai.length=3)(hk:k<3):Cv n nm t c (Ai.set k Ag) (FE seen k)=((((Cv n nm t c Ai seen).set (7+k) (.int .i64 Ag)).set (10+3*k) (.pointer none)).set (10+3*k+1) (.pointer none)).set (10+3*k+2) (.pointer none):=by
 have hh:k=0\/k=1\/k=2:=by omega
 have q:∀j,Bm t (FE seen k) j=if j / 3=k then .pointer none else Bm t seen j:=fun j=>by
  unfold Bm;by_cases e:j / 3=k
  ·rw[if_pos e];cases hx:(FE seen k)[j]? with
   |none=>simp[R.De]
   |some x=>
    rcases E1 seen k j x hx with ⟨_,rfl⟩|⟨e',_⟩
    ·simp[R.De]
    ·exact absurd e e'
  ·rw[if_neg e];have:(FE seen k)[j]?=seen[j]?:=by
    unfold FE;rw[List.getElem?_set,if_neg (by omega),List.getElem?_set,if_neg (by omega),List.getElem?_set,if_neg (by omega)]
   rw[this]
 obtain⟨a,b,d,rfl⟩:∃a b d,Ai=[a,b,d]:=by
  match Ai,hll with
  |[a,b,d],_=>exact⟨a,b,d,rfl⟩
 unfold Cv;simp only[q];rcases hh with rfl|rfl|rfl<;>rfl
theorem Cp.forget{s n nm:Nat}{t:SP}{F:Aq}{c:R.Cf}{sv:List R.Sv}{Ai:List Int}{seen:List R.Sn}{jobs:List R.Jb}{w w':World}(h:Cp s n nm t F c sv Ai seen jobs w){k:Nat}{Ag:Int}(hll:Ai.length=3)(hk3:k<3)(hk:Af (fun k=>k=s) w w')(hs:w'.heap[s]?=some (.cells (((((Cv n nm t c Ai seen).set (7+k) (.int .i64 Ag)).set (10+3*k) (.pointer none)).set (10+3*k+1) (.pointer none)).set (10+3*k+2) (.pointer none)).toArray 167 (0,0))):
  Cp s n nm t F c sv (Ai.set k Ag) (FE seen k) jobs w':=by
 have hav:Kt w F (fun k=>k=s):=Kt.one h.bs (by decide);obtain⟨ja,jb,hj⟩:=h.jobs;refine⟨by rw[Mx n nm t c Ai seen k Ag hll hk3];exact hs,h.zs,hk.row h.made (fun j hj e=>A6 h.made h.bs (by decide) (by rw[<-e];exact hj)),fun z hz=>(h.each z hz).keep hk hav (fun _ q=>q),h.dns,h.ZW,fun j x hx hxe=>?_,fun j j' x x' hx hx' hxe hxe' hjj=>?_,⟨ja,jb,hk.at hj (Jw h.bs hj).symm⟩,h.BM⟩
 ·rcases E1 seen k j x hx with ⟨_,rfl⟩|⟨e,hx⟩
  ·exact absurd rfl hxe
  ·obtain⟨y',h1,h2,h3⟩:=h.ln j x hx hxe;refine⟨y',hk.at h1 (Bi h1 h.bs (by decide)),?_,h3⟩;have:(Ai.set k Ag).getD (j / 3) 0=Ai.getD (j / 3) 0:=by
    rw[List.getD_eq_getElem?_getD,List.getD_eq_getElem?_getD,List.getElem?_set,if_neg (fun q=>e q.symm)]
   rw[this];exact h2
 ·rcases E1 seen k j x hx with ⟨_,rfl⟩|⟨e,hx⟩
  ·exact absurd rfl hxe
  ·rcases E1 seen k j' x' hx' with ⟨_,rfl⟩|⟨e',hx'⟩
   ·exact absurd rfl hxe'
   ·exact h.inj j j' x x' hx hx' hxe hxe' hjj
theorem LW.EE{p:Pl}{F:Aq}{G:R.Wd}{w:World}(h:LW p F G w){P:Pk}(hP:AJ P){kd pa o:Int}(hk:1<=kd/\kd<=7)(hn:kd≠1/\kd≠5)(ho:1<=o/\o<=9)(hpa:0<=pa/\pa<=o-1):
  Calls Tryz.prog 192 #[ptr p.s,cv P,Ms kd 0 0 0 0 0 pa o false ⟨#[]⟩] w fun e w'=>e=.returned (.tuple #[])/\∃F',LW p F' (R.CU G P kd pa o) w'/\Ay F F' w w':=by
 obtain⟨_,h2,h3,h4,h5,h6,_⟩:=hP;refine(h.aac P.client P.Ag P.line P.seq P.uid kd pa o false [] ⟨hk,h2,h3,h4,h5,h6,ho,hpa,?_⟩).mono (fun e w' q=>q);unfold C5;rw[if_neg (by simp only;omega)];rfl
theorem LW.Oa{p:Pl}{F:Aq}{G:R.Wd}{w:World}(h:LW p F G w){P:Pk}(hP:AJ P){why:Int}(hw:why=0\/why=1):
  Calls Tryz.prog 234 #[ptr p.s,pv P,.int .i64 why] w fun e w'=>e=.returned (.tuple #[])/\∃F',LW p F' (R.CU G P 7 why 2) w'/\Ay F F' w w':=by
 refine Qb w p.s P why _ (fun wa hb=>?_);refine((h.below hb).EE hP (by omega) (by omega) (by omega) (by omega)).mono ?_;rintro e w' ⟨rfl,F',q1,q2⟩;exact⟨rfl,F',q1,(Ay.Aj F hb).trans q2⟩
def LY(G:R.Wd)(P:Pk):R.Wd:=if P.kind=3 then R.CU G P 4 0 1 else R.CU G P 2 P.part P.off
theorem LW.aad{p:Pl}{F:Aq}{G:R.Wd}{w:World}(h:LW p F G w){P:Pk}(hP:AJ P):
  Calls Tryz.prog 237 #[ptr p.s,pv P] w fun e w'=>e=.returned (.tuple #[])/\∃F',LW p F' (LY G P) w'/\Ay F F' w w':=by
 have ho:=hP.2.2.2.2.2.2.1;have hpa:=hP.2.2.2.2.2.2.2.1;unfold LY;by_cases hk:P.kind=3
 ·rw[if_pos hk];refine Ng w p.s P 4 0 1 _ (Or.inl ⟨hk,rfl,rfl,rfl⟩) (fun wa hb=>?_);refine((h.below hb).EE hP (by omega) (by omega) (by omega) (by omega)).mono ?_;rintro e w' ⟨rfl,F',q1,q2⟩;exact⟨rfl,F',q1,(Ay.Aj F hb).trans q2⟩
 ·rw[if_neg hk];refine Ng w p.s P 2 P.part P.off _ (Or.inr ⟨hk,rfl,rfl,rfl⟩) (fun wa hb=>?_);refine((h.below hb).EE hP (by omega) (by omega) ho hpa).mono ?_;rintro e w' ⟨rfl,F',q1,q2⟩;exact⟨rfl,F',q1,(Ay.Aj F hb).trans q2⟩
theorem LW.alive{p:Pl}{F:Aq}{G:R.Wd}{w:World}(h:LW p F G w)(u:Int):
  Calls Tryz.prog 233 #[ptr p.s,.int .i64 u] w fun e w'=>e=.returned (.bool (R.AO G u))/\w'=w:=by
 obtain⟨a,c,hK⟩:=Bg h.Co.made;have hzl:p.t.zs.length=G.Ac.length:=by rw[<-h.Co.zs,List.length_map]
 have c6:w.cell? ⟨p.s,6,none⟩=some (.slice a p.t.zs.length c):=cell_of h.Co.bs 6 _ (by rw[<-hK];rfl);have h255:=h.wf.sv;by_cases hu:1<=u/\u<=(G.Ac.length:Int)
 ·obtain⟨n,rfl⟩:∃n:Nat,u=(n:Int)+1:=⟨(u-1).toNat,by omega⟩;have hn:n<G.Ac.length:=by omega
  obtain⟨z,hz,hz1⟩:=Mh h.Co.zs (List.getElem?_eq_getElem hn);obtain⟨g,cap,cur,hK',_,_,_,k1,_⟩:=h.Co.JR hz;have c6':w.cell? ⟨p.s,6,none⟩=some (.slice (some ⟨g,0,none⟩) p.t.zs.length cap):=cell_of h.Co.bs 6 _ (by rw[<-hK'];rfl);have hal:R.AO G ((n:Int)+1)=z.1.alive:=by
   unfold R.AO;have e:((n:Int)+1-1).toNat=n:=by omega
   rw[e,List.getElem?_eq_getElem hn,<-hz1];simp;omega
  rw[hal];have hsv:=(h.Co.each z (List.mem_of_getElem? hz)).wk;cases hb:z.1.alive with
  |true=>
   rw[if_pos hb]at hsv;have:∃T b,z.2.wk=.iface T (ptr b):=by
    generalize z.1.kind=kd at hsv;generalize z.2.wk=W at hsv;cases hsv with
    |counter=>exact⟨_,_,rfl⟩
    |Fh=>exact⟨_,_,rfl⟩
    |IP=>exact⟨_,_,rfl⟩
   obtain⟨T,b,hT⟩:=this;rw[hT]at k1;exact TQ w p.s g n p.t.zs.length cap T b c6' (by omega) (by omega) k1
  |false=>
   rw[if_neg (by rw[hb];simp)]at hsv;rw[hsv]at k1;exact QN w p.s g n p.t.zs.length cap c6' (by omega) (by omega) k1
 ·have hal:R.AO G u=false:=by
   unfold R.AO;by_cases h1:1<=u
   ·rw[List.getElem?_eq_none (by omega)];simp
   ·simp[h1]
  rw[hal];exact VL w p.s p.t.zs.length a c u c6 (by omega)
end Go.Proofs.YtblomippkddgiaaGreatDoor
