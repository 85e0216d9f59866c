import Derived.Test.YtblomippkddgiabGreatDoorJ39
set_option maxRecDepth 100000
set_option maxHeartbeats 4000000
namespace Go.Proofs.YtblomippkddgiabGreatDoor
open Go.RowKit
variable {F:Aq}{k:Int}{l:List R.En}{b:Nat}{K W X:Value}{w:World}
theorem ZO(w:World)(b:Nat)(most:Int)(hm:0<=most)(c0:w.cell? ⟨b,0,none⟩=some (.slice none 0 0)):
  Calls Tryz.prog 292 #[ptr b,.int .i64 most] w fun e w'=>∃O,e=.returned O/\V.Row w' w.heap.size O (Cj 0 [] 0)/\Below w.heap.size w w':=by
 have hl:=lt_of_cell c0;have HB:Hid (Below w.heap.size w (w.alloc (.cells #[.int .i64 0,.string ⟨#[]⟩] 73))):=(Below.refl _ _).alloc (afI _) _;have HI:Hid (V.Row (w.alloc (.cells #[.int .i64 0,.string ⟨#[]⟩] 73)) w.heap.size (.slice (some ⟨w.heap.size,0,none⟩) 1 1) (Cj 0 [] 0)):=row_in w w (afI _) 0 ⟨#[]⟩;by_cases h0:most=0
 ·subst h0;go_enter Tryz.func292,Tryz.ntmps292;go_wp2;go_loopw [6,26] (fun lv iv wr=>lv=.slice (some ⟨w.heap.size,0,none⟩) 1 1/\iv=.int .i64 0/\wr=w.alloc (.cells #[.int .i64 0,.string ⟨#[]⟩] 73)) (fun _ _ _=>0)
  case atStart=>exact⟨rfl,rfl,rfl⟩
  case round=>
   obtain⟨rfl,rfl,rfl⟩:=hrel;go_wp2;go_returns;exact⟨_,rfl,Aa HI,Aa HB⟩
 ·have h1:(0:Int)<most:=by omega
  go_enter Tryz.func292,Tryz.ntmps292;go_wp2;go_loopw [6,26] (fun lv iv wr=>lv=.slice (some ⟨w.heap.size,0,none⟩) 1 1/\iv=.int .i64 0/\wr=w.alloc (.cells #[.int .i64 0,.string ⟨#[]⟩] 73)) (fun _ _ _=>0)
  case atStart=>exact⟨rfl,rfl,rfl⟩
  case round=>
   obtain⟨rfl,rfl,rfl⟩:=hrel;go_wp2;go_returns;exact⟨_,rfl,Aa HI,Aa HB⟩
theorem ZP(w:World)(b:Nat)(most:Int)(K:Value)(ps:List ByteArray)(hm:0<=most)(h4:ps.length<=4)(h:w.heap[b]?=some (.cells #[K] 326 (0,0)))(ab:w.ownsRow 0 9 1 K ps.length (strs ps)):
  Calls Tryz.prog 292 #[ptr b,.int .i64 most] w fun e w'=>∃O,e=.returned O/\V.Row w' w.heap.size O (Cj (ps.take most.toNat).length ps most.toNat)/\Below w.heap.size w w':=by
 have c0:w.cell? ⟨b,0,none⟩=some K:=cell_of h 0 _ rfl;rcases ab.2 with ⟨rfl,h0⟩|⟨g,cap,ae,rfl,_,hc,ac,ah,af,ad⟩
 ·obtain rfl:=agl h0;have:=ZO w b most hm c0;unfold Cj at this ⊢;simpa using this
 ·have aa:∀i s,ps[i]?=some s->w.cell? ⟨g,i,none⟩=some (.string s):=fun i s hs=>by
   have ag:=(afG.1 hs).1;have e1:(strs ps)[i]?=some (.string s):=by simp[strs,hs]
   rw[<-ad,af7,if_pos (by omega)]at e1;simp[World.cell?,hc];simpa using e1
  by_cases hq:(ps.length:Int)<most
  ·have:=ZN w b g cap ps.length ps.length most ps rfl h4 ac hq rfl c0 (lt_of_block hc) aa;have e2:ps.take most.toNat=ps:=af6 (by omega);have e3:Cj (ps.take most.toNat).length ps most.toNat=Cj ps.length ps ps.length:=by
    unfold Cj;rw[e2,agW]
   rw[e3];exact this
  ·obtain⟨n,rfl⟩:∃n:Nat,most=(n:Int):=⟨most.toNat,by omega⟩;have:=WY w b g cap ps.length n ps rfl h4 ac (by omega) c0 (lt_of_block hc) aa;have e3:(ps.take n).length=n:=by rw[aga];omega
   simp only[afY,e3];exact this
theorem Ql(w:World)(F:Aq)(log:List R.En)(en:R.En)(b:Nat)(K W:Value)(h:Works w F log b K 1 W)(hX:V.Items w X en.arg)(ha:∃x,en.arg=[x]/\(en.proc=1->0<=x.1))(hp:en.proc=0\/en.proc=1):
  Calls Tryz.prog 290 #[ptr b,.int .i64 en.proc,X] w fun e w'=>∃O,e=.returned O/\Did w F log en b K 1 W O (R.Cu 1 log en.proc en.arg) w':=by
 obtain⟨x,hx,af⟩:=ha;rw[hx]at hX;obtain⟨a,cap,rfl,ai,hc⟩:=hX;rcases hc with h0|⟨bb,off,rfl,ak,hc⟩
 ·simp at h0
 obtain⟨c0,c1⟩:=hc 0 x rfl;simp only[Nat.zero_mul,aha]at c0 c1;have q1:(0:Int)<((1:Nat):Int):=by omega
 generalize hk0:(1:Int)=kd at h;cases h with
 |counter=>cases hk0
 |Jo=>cases hk0
 |FJ hF hb hK hKF=>
  have h4:=R.Jv log;have aa:=Rn log en;have ac:R.Vp en.arg 0=x.2:=by rw[hx];rfl
  have ab:R.IY en.arg 0=x.1:=by rw[hx];rfl
  rw[ac]at aa;rcases hp with hp|hp
  ·have e1:(en.proc==0)=true:=by simpa using hp
   rw[if_pos hp]at aa;have HC:Hid (Calls Tryz.prog 291 #[ptr b,.string x.2] w fun e w'=>∃O,e=.returned O/\Ko w b K (R.BG (log++[en])) O w'):=by
    obtain⟨a,c,rfl⟩:=AX hK;by_cases hq:(R.BG log).length<4
    ·rw[aa,if_pos hq];exact Zj w b c a _ x.2 hq hb hK
    ·rw[aa,if_neg hq];have e4:(R.BG log).length=4:=by omega
     rw[e4]at hb hK ⊢;exact Wo w b c a _ x.2 e4 hb hK
   have HF:Hid (∀O w',Ko w b K (R.BG (log++[en])) O w'->Did w F log en b K 1 (.iface 324 (ptr b)) O (R.Cu 1 log en.proc en.arg) w'):=fun O w' hP=>by
    have hd:R.Cu 1 log en.proc en.arg=[(((R.BG (log++[en])).length:Int),⟨#[]⟩)]:=by
     unfold R.Cu;rw[if_neg (by decide),if_pos rfl,if_pos hp,aa];unfold R.num;congr 2;by_cases hq:(R.BG log).length<4
     ·rw[if_pos hq];simp;omega
     ·rw[if_neg hq];simp;omega
    rw[hd];obtain⟨K',k1,k2,k3⟩:=hP.cell;refine⟨hP.row,hP.keep,K',.FJ (afJ hF) k1 k2 (fun j hj=>?_),?_⟩
    ·rcases k3 with k3|⟨j',ae,q1,q2⟩
     ·exact afJ (hKF j (k3 ▸ hj))
     ·rw[ae]at hj;cases hj;exact afM ⟨q1,q2⟩
    ·rcases k3 with k3|⟨j',ae,q1,q2⟩
     ·exact afJ k3
     ·exact afM ⟨j',ae,q1⟩
   clear hb aa hp hK af;go_enter Tryz.func290,Tryz.ntmps290;go_wp2_with (first|(go_at_call 291;refine(Aa HC).mono ?_;rintro e w1 ⟨O,rfl,ad⟩;have HW:=Ac ad;clear ad))
   go_returns;exact⟨_,rfl,(Aa HF) _ _ (Aa HW)⟩
  ·have e1:(en.proc==0)=false:=by simp[hp]
   rw[if_neg (by omega)]at aa;have aj:=lt_of_block hb;have HC:=Ac (ZP w b x.1 K (R.BG log) (af hp) h4 hb hK);have HF:Hid (∀O w',V.Row w' w.heap.size O (Cj ((R.BG log).take x.1.toNat).length (R.BG log) x.1.toNat)->Below w.heap.size w w'->Did w F log en b K 1 (.iface 324 (ptr b)) O (R.Cu 1 log en.proc en.arg) w'):=fun O w' hR hB=>by
    have hd:R.Cu 1 log en.proc en.arg=Cj ((R.BG log).take x.1.toNat).length (R.BG log) x.1.toNat:=by
     unfold R.Cu;rw[if_neg (by decide),if_pos rfl,if_neg (by omega),ab];rfl
    rw[hd];refine⟨hR,Af.Al hB _,K,.FJ (afJ hF) ?_ ?_ (fun j hj=>afJ (hKF j hj)),afJ rfl⟩
    ·rw[hB.block b aj];exact hb
    ·rw[aa];exact Bu hK hB
   clear hb aa hp hK af;go_enter Tryz.func290,Tryz.ntmps290;go_wp2_with (first|(go_at_call 292;refine(Aa HC).mono ?_;rintro e w1 ⟨O,rfl,ad,ag⟩;have HW:=Ac ad;have ah:=Ac ag;clear ad ag))
   go_returns;exact⟨_,rfl,(Aa HF) _ _ (Aa HW) (Aa ah)⟩
theorem Ih(w:World)(c0 c1 c2 c3 c4 pr:Int)(a1 a2:Option Addr)(n1 k1 n2 k2:Nat):
  Calls Tryz.prog 163 #[.agg #[.int .i64 c0,.int .i64 c1,.int .i64 c2,.int .i64 c3,.int .i64 c4],.int .i64 pr,.slice a1 n1 k1,.slice a2 n2 k2] w fun e w'=>e=.returned (.agg #[.int .i64 c0,.int .i64 c1,.int .i64 c2,.int .i64 c3,.int .i64 pr,.slice a1 n1 k1,.slice a2 n2 k2])/\Below w.heap.size w w':=by
 have HB:Hid (∀o1 o2,Below w.heap.size w ((w.alloc o1).alloc o2)):=fun o1 o2=>((Below.refl _ _).alloc (afI _) _).alloc (by simp) _
 go_enter Tryz.func163,Tryz.ntmps163;go_wp2;go_returns;exact⟨rfl,(Aa HB) _ _⟩
def aah(y:JH)(r:List UInt8):JH:={y with state:=2,asked:=[],answer:=r,at':=0,wait:=0,tries:=0}
theorem Tj(w:World)(b:Nat)(y:JH)(r:List UInt8)(h:w.heap[b]?=some (.cells y.cells.toArray 179 (0,0))):
  Calls Tryz.prog 164 #[ptr b,.string (str r)] w fun e w'=>e=.returned (.tuple #[])/\w'.heap[b]?=some (.cells (aah y r).cells.toArray 179 (0,0))/\Af (fun k=>k=b) w w':=by
 obtain⟨a0,a1,a2,a3,a4,a5,a6,a7,a8,a9,JB⟩:=Qb h;have z:∀j,w.frozen? ⟨b,j,none⟩=false:=fun j=>open_list h
 have hl:=lt_of_block h;have HE:Hid (∀W,W=((((((((((w.setCell ⟨b,0,none⟩ (.int .i64 y.client)).setCell ⟨b,1,none⟩ (.int .i64 y.Ae)).setCell ⟨b,2,none⟩ (.int .i64 y.line)).setCell ⟨b,3,none⟩ (.int .i64 y.seq)).setCell ⟨b,4,none⟩ (.int .i64 y.uid)).setCell ⟨b,5,none⟩ (.int .i64 2)).setCell ⟨b,6,none⟩ (.string ⟨#[]⟩)).setCell ⟨b,7,none⟩ (.string (str r))).setCell ⟨b,8,none⟩ (.int .i64 0)).setCell ⟨b,9,none⟩ (.int .i64 0)).setCell ⟨b,10,none⟩ (.int .i64 0)->W.heap[b]?=some (.cells (aah y r).cells.toArray 179 (0,0))/\Af (fun k=>k=b) w W):=fun W hW=>by
  subst hW;refine⟨?_,((((((((((Ah _).trans (Ah _)).trans (Ah _)).trans (Ah _)).trans (Ah _)).trans (Ah _)).trans (Ah _)).trans (Ah _)).trans (Ah _)).trans (Ah _)).trans (Ah _)⟩;have e0:=Ai (off:=0) h (.int .i64 y.client);have e1:=Ai (off:=1) e0 (.int .i64 y.Ae);have e2:=Ai (off:=2) e1 (.int .i64 y.line);have e3:=Ai (off:=3) e2 (.int .i64 y.seq);have e4:=Ai (off:=4) e3 (.int .i64 y.uid);have e5:=Ai (off:=5) e4 (.int .i64 2);have e6:=Ai (off:=6) e5 (.string ⟨#[]⟩);have e7:=Ai (off:=7) e6 (.string (str r));have e8:=Ai (off:=8) e7 (.int .i64 0);have e9:=Ai (off:=9) e8 (.int .i64 0);exact Ai (off:=10) e9 (.int .i64 0)
 clear h;go_enter Tryz.func164,Tryz.ntmps164;go_wp2;go_returns;exact⟨rfl,(Aa HE) _ rfl⟩
theorem Ty:(Tryz.prog.info? 45).map (fun i=>(i.zero,i.size,i.bytes))=some (some (.agg #[.int .i64 0,.int .i64 0,.int .i64 0,.int .i64 0,.int .i64 0,.slice none 0 0,.slice none 0 0]),7,88):=by kernel_rfl
theorem XP:∀args w,(callFunc 162 args).run Tryz.prog w=.ok (.enter 162 args) w:=fun _ _=>rfl
theorem XQ:∀args w,(callFunc 163 args).run Tryz.prog w=.ok (.enter 163 args) w:=fun _ _=>rfl
theorem KD(w:World)(c:List Value)(j:Nat)(u:Value)(h:c[j]?=some u):(w.alloc (.cells c.toArray 45)).cell? ((⟨w.heap.size,0,none⟩:Addr).add j)=some u:=by
 rw[Addr.add_lit,agn,World.cell?_alloc_new w _ _ j];simpa using h
theorem X3(w:World)(s q g u m cap b:Nat)(pr c0 c1 c2 c3 kd:Int)(msg rb:List UInt8)(da:Option Addr)(dl dc:Nat)(es:List Value)(B1:Value->World->Prop)(B2:Value->Value->World->Prop)(B3:Value->World->Prop)(B4 B5 ae:World->Prop)
  (h6:w.cell? ⟨s,6,none⟩=some (.slice (some ⟨g,0,none⟩) m cap)) (hu:u<m) (hm:m<=255) (g0:w.cell? ⟨g,u*3,none⟩=some (.int .i64 kd)) (q4:w.cell? ⟨q,4,none⟩=some (.int .i64 ((u:Int)+1))) (q6:w.cell? ⟨q,6,none⟩=some (.string (str msg)))
  (ad:Hid (∀wa,Below w.heap.size w wa->Calls Tryz.prog 162 #[.int .i64 kd,.string (str msg)] wa fun e w'=>∃oa on oc,e=.returned (.tuple #[.int .i64 pr,.slice oa on oc])/\B1 (.slice oa on oc) w'))
  (F1:Hid (∀O w',B1 O w'->w'.cell? ⟨g,u*3+1,none⟩=some (.iface 320 (ptr b))/\Calls Tryz.prog 287 #[ptr b,.int .i64 pr,O] w' fun e w2=>∃ra rn rc,e=.returned (.slice ra rn rc)/\B2 O (.slice ra rn rc) w2))
  (F2:Hid (∀O R w',B2 O R w'->w'.cell? ⟨g,u*3+2,none⟩=some (.slice da dl dc)/\w'.ownsRow 0 45 7 (.slice da dl dc) dl es/\dl<=100000000000/\w'.cell? ⟨q,0,none⟩=some (.int .i64 c0)/\w'.cell? ⟨q,1,none⟩=some (.int .i64 c1)/\w'.cell? ⟨q,2,none⟩=some (.int .i64 c2)/\w'.cell? ⟨q,3,none⟩=some (.int .i64 c3)/\w'.cell? ⟨q,4,none⟩=some (.int .i64 ((u:Int)+1))/\w'.frozen? ⟨g,u*3+2,none⟩=false))
  (F3:Hid (∀O R w1 w2 wa wz K' va0,B1 O w1->B2 O R w2->Below w2.heap.size w2 wa->(wa.alloc (.cells #[.int .i64 c0,.int .i64 c1,.int .i64 c2,.int .i64 c3,.int .i64 pr,O,R] 45)).grownBy wz (Value.slice da dl dc).ownBlock->wz.ownsRow 0 45 7 K' (dl+1) (es++[.int .i64 c0,.int .i64 c1,.int .i64 c2,.int .i64 c3,.int .i64 pr,O,R])->(K'.ownBlock=(Value.slice da dl dc).ownBlock\/K'.ownBlock=some va0)->w2.heap.size<=va0->wz.cell? ⟨g,u*3+2,none⟩=some (.slice da dl dc)/\wz.frozen? ⟨g,u*3+2,none⟩=false/\g<wz.heap.size/\B3 R (wz.setCell ⟨g,u*3+2,none⟩ K')))
  (F4:Hid (∀R w',B3 R w'->w'.cell? ⟨g,u*3,none⟩=some (.int .i64 kd)/\Calls Tryz.prog 165 #[.int .i64 kd,.int .i64 pr,R] w' fun e w2=>e=.returned (.string (str rb))/\B4 w2))
  (F5:Hid (∀w',B4 w'->Calls Tryz.prog 164 #[ptr q,.string (str rb)] w' fun e w2=>e=.returned (.tuple #[])/\B5 w2))
  (F6:Hid (∀w',B5 w'->Calls Tryz.prog 166 #[ptr s,ptr q] w' fun e w2=>e=.returned (.tuple #[])/\ae w2)):
  Calls Tryz.prog 97 #[ptr s,ptr q] w fun e w'=>e=.returned (.tuple #[])/\ae w':=by
 obtain⟨i0,hi,aB,aC,aD⟩:=info_parts Ty;have HV:=Ac (Ey w s g u m cap h6 hu hm);have aG:=lt_of_cell g0;have aI:=lt_of_cell q4;have HB:Hid (∀n,Below w.heap.size w (w.drewN n)):=fun n=>below_drewN (Below.refl _ _) n
 generalize str msg=SM at *;generalize str rb=SR at *;go_enter Tryz.func97,Tryz.ntmps97;go_wp2_with (first|(go_at_call 38;refine(Aa HV).mono ?_;rintro e w1 ⟨rfl,az⟩;rw[az];clear az))
 go_region_law (refine Av rfl 162 #[.tmp 19,.tmp 23] #[3,125] rfl XP #[.int .i64 kd,.string SM] rfl _ ((Aa ad) _ (by first|exact Below.refl _ _|exact(Aa HB) 1)) ?_;rintro e w1 ⟨oa,on,oc,rfl,ag⟩;obtain⟨g1,ay⟩:=(Aa F1) _ _ ag;have ak:=Ac ag;have an:=Ac ay;have ai:=lt_of_cell g1;clear ag ay;refine⟨_,rfl,?_⟩)
 all_goals
  clear h6 g0 q4 q6 ad HV HB aG aI;go_wp2_with (go_at_call 287;refine(Aa an).mono ?_;rintro e w2 ⟨ra,rn,rc,rfl,ah⟩;obtain⟨d2,af,aL,k0,k1,k2,k3,k4,z2⟩:=(Aa F2) _ _ _ ah;have al:=Ac ah;have aq:=Ac af;have aj:=lt_of_cell d2;have aJ:=lt_of_cell k0;clear ah af an g1 ai)
  go_region_law (first
   |(refine Av rfl 163 #[.tmp 42,.tmp 43,.tmp 44,.tmp 45] #[170,3,37,37] rfl XQ #[.agg #[.int .i64 c0,.int .i64 c1,.int .i64 c2,.int .i64 c3,.int .i64 ((u:Int)+1)],.int .i64 pr,.slice oa on oc,.slice ra rn rc] rfl _ (Ih _ c0 c1 c2 c3 ((u:Int)+1) pr oa ra on oc rn rc) ?_;rintro e wa ⟨rfl,ax⟩;have aa:Below w2.heap.size w2 wa:=D7 ax;have d3:wa.cell? ⟨g,u*3+2,none⟩=some (.slice da dl dc):=(aa.cell (p:=⟨g,u*3+2,none⟩) aj).trans d2;have am:=Ac aa;have ap:=Ac (Bu (Aa aq) aa);have aM:=aa.size;have aH:g<wa.heap.size:=(by omega);clear ax aa;refine⟨_,rfl,?_⟩)
   |(refine Bp rfl (.tmp 38) (.tmp 47) 97 rfl 0 45 i0 (.agg #[.int .i64 0,.int .i64 0,.int .i64 0,.int .i64 0,.int .i64 0,.slice none 0 0,.slice none 0 0]) 7 88 Tryz.underlying97 hi aB aC aD rfl (by decide) (.slice da dl dc) dl es rfl (by exact(Aa ap).alloc _) ⟨wa.heap.size,0,none⟩ 1 1 [.int .i64 c0,.int .i64 c1,.int .i64 c2,.int .i64 c3,.int .i64 pr,.slice oa on oc,.slice ra rn rc] rfl rfl (by exact KD wa [.int .i64 c0,.int .i64 c1,.int .i64 c2,.int .i64 c3,.int .i64 pr,.slice oa on oc,.slice ra rn rc]) (by simp[Value.oneCell']) (by unfold maxLen;omega) (by omega) (by omega) ?_;intro v' wz ac ab aw;obtain⟨va,vn,vc,aK⟩:=Ar ac;subst aK;obtain⟨p1,p2,p3,p4⟩:=(Aa F3) _ _ _ _ _ _ _ _ (Aa ak) (Aa al) (Aa am) ab ac aw (by simp;omega);have ao:=Ac p4;clear p4 ac ab aw))
  all_goals
   obtain⟨t0,aA⟩:=(Aa F4) _ _ (Aa ao);have aF:=Ac aA;clear aA ao ak al am ap aq F1 F2 F3 F4 d2 d3 k0 k1 k2 k3 k4 z2 hi aB aC aD p1 p2 p3;go_wp2_with (first
    |(go_at_call 165;refine(Aa aF).mono ?_;rintro e w5 ⟨rfl,ar⟩;have H5:=Ac ((Aa F5) _ ar);clear ar)
    |(go_at_call 164;refine(Aa H5).mono ?_;rintro e w6 ⟨rfl,au⟩;have H6:=Ac ((Aa F6) _ au);clear au)
    |(go_at_call 166;refine(Aa H6).mono ?_;rintro e w7 ⟨rfl,av⟩;have aE:=Ac av;clear av))
   go_returns;exact⟨rfl,Aa aE⟩
theorem X4(w:World)(s q g u m cap b:Nat)(pr c0 c1 c2 c3 kd:Int)(msg rb:List UInt8)(da:Option Addr)(dl dc:Nat)(es:List Value)(B1:Value->World->Prop)(B2:Value->Value->World->Prop)(B3:Value->World->Prop)(B4 B5 ae:World->Prop)
  (h6:w.cell? ⟨s,6,none⟩=some (.slice (some ⟨g,0,none⟩) m cap)) (hu:u<m) (hm:m<=255) (g0:w.cell? ⟨g,u*3,none⟩=some (.int .i64 kd)) (q4:w.cell? ⟨q,4,none⟩=some (.int .i64 ((u:Int)+1))) (q6:w.cell? ⟨q,6,none⟩=some (.string (str msg)))
  (ad:Hid (∀wa,Below w.heap.size w wa->Calls Tryz.prog 162 #[.int .i64 kd,.string (str msg)] wa fun e w'=>∃oa on oc,e=.returned (.tuple #[.int .i64 pr,.slice oa on oc])/\B1 (.slice oa on oc) w'))
  (F1:Hid (∀O w',B1 O w'->w'.cell? ⟨g,u*3+1,none⟩=some (.iface 324 (ptr b))/\Calls Tryz.prog 290 #[ptr b,.int .i64 pr,O] w' fun e w2=>∃ra rn rc,e=.returned (.slice ra rn rc)/\B2 O (.slice ra rn rc) w2))
  (F2:Hid (∀O R w',B2 O R w'->w'.cell? ⟨g,u*3+2,none⟩=some (.slice da dl dc)/\w'.ownsRow 0 45 7 (.slice da dl dc) dl es/\dl<=100000000000/\w'.cell? ⟨q,0,none⟩=some (.int .i64 c0)/\w'.cell? ⟨q,1,none⟩=some (.int .i64 c1)/\w'.cell? ⟨q,2,none⟩=some (.int .i64 c2)/\w'.cell? ⟨q,3,none⟩=some (.int .i64 c3)/\w'.cell? ⟨q,4,none⟩=some (.int .i64 ((u:Int)+1))/\w'.frozen? ⟨g,u*3+2,none⟩=false))
  (F3:Hid (∀O R w1 w2 wa wz K' va0,B1 O w1->B2 O R w2->Below w2.heap.size w2 wa->(wa.alloc (.cells #[.int .i64 c0,.int .i64 c1,.int .i64 c2,.int .i64 c3,.int .i64 pr,O,R] 45)).grownBy wz (Value.slice da dl dc).ownBlock->wz.ownsRow 0 45 7 K' (dl+1) (es++[.int .i64 c0,.int .i64 c1,.int .i64 c2,.int .i64 c3,.int .i64 pr,O,R])->(K'.ownBlock=(Value.slice da dl dc).ownBlock\/K'.ownBlock=some va0)->w2.heap.size<=va0->wz.cell? ⟨g,u*3+2,none⟩=some (.slice da dl dc)/\wz.frozen? ⟨g,u*3+2,none⟩=false/\g<wz.heap.size/\B3 R (wz.setCell ⟨g,u*3+2,none⟩ K')))
  (F4:Hid (∀R w',B3 R w'->w'.cell? ⟨g,u*3,none⟩=some (.int .i64 kd)/\Calls Tryz.prog 165 #[.int .i64 kd,.int .i64 pr,R] w' fun e w2=>e=.returned (.string (str rb))/\B4 w2))
  (F5:Hid (∀w',B4 w'->Calls Tryz.prog 164 #[ptr q,.string (str rb)] w' fun e w2=>e=.returned (.tuple #[])/\B5 w2))
  (F6:Hid (∀w',B5 w'->Calls Tryz.prog 166 #[ptr s,ptr q] w' fun e w2=>e=.returned (.tuple #[])/\ae w2)):
  Calls Tryz.prog 97 #[ptr s,ptr q] w fun e w'=>e=.returned (.tuple #[])/\ae w':=by
 obtain⟨i0,hi,aB,aC,aD⟩:=info_parts Ty;have HV:=Ac (Ey w s g u m cap h6 hu hm);have aG:=lt_of_cell g0;have aI:=lt_of_cell q4;have HB:Hid (∀n,Below w.heap.size w (w.drewN n)):=fun n=>below_drewN (Below.refl _ _) n
 generalize str msg=SM at *;generalize str rb=SR at *;go_enter Tryz.func97,Tryz.ntmps97;go_wp2_with (first|(go_at_call 38;refine(Aa HV).mono ?_;rintro e w1 ⟨rfl,az⟩;rw[az];clear az))
 go_region_law (refine Av rfl 162 #[.tmp 19,.tmp 23] #[3,125] rfl XP #[.int .i64 kd,.string SM] rfl _ ((Aa ad) _ (by first|exact Below.refl _ _|exact(Aa HB) 1)) ?_;rintro e w1 ⟨oa,on,oc,rfl,ag⟩;obtain⟨g1,ay⟩:=(Aa F1) _ _ ag;have ak:=Ac ag;have an:=Ac ay;have ai:=lt_of_cell g1;clear ag ay;refine⟨_,rfl,?_⟩)
 all_goals
  clear h6 g0 q4 q6 ad HV HB aG aI;go_wp2_with (go_at_call 290;refine(Aa an).mono ?_;rintro e w2 ⟨ra,rn,rc,rfl,ah⟩;obtain⟨d2,af,aL,k0,k1,k2,k3,k4,z2⟩:=(Aa F2) _ _ _ ah;have al:=Ac ah;have aq:=Ac af;have aj:=lt_of_cell d2;have aJ:=lt_of_cell k0;clear ah af an g1 ai)
  go_region_law (first
   |(refine Av rfl 163 #[.tmp 42,.tmp 43,.tmp 44,.tmp 45] #[170,3,37,37] rfl XQ #[.agg #[.int .i64 c0,.int .i64 c1,.int .i64 c2,.int .i64 c3,.int .i64 ((u:Int)+1)],.int .i64 pr,.slice oa on oc,.slice ra rn rc] rfl _ (Ih _ c0 c1 c2 c3 ((u:Int)+1) pr oa ra on oc rn rc) ?_;rintro e wa ⟨rfl,ax⟩;have aa:Below w2.heap.size w2 wa:=D7 ax;have d3:wa.cell? ⟨g,u*3+2,none⟩=some (.slice da dl dc):=(aa.cell (p:=⟨g,u*3+2,none⟩) aj).trans d2;have am:=Ac aa;have ap:=Ac (Bu (Aa aq) aa);have aM:=aa.size;have aH:g<wa.heap.size:=(by omega);clear ax aa;refine⟨_,rfl,?_⟩)
   |(refine Bp rfl (.tmp 38) (.tmp 47) 97 rfl 0 45 i0 (.agg #[.int .i64 0,.int .i64 0,.int .i64 0,.int .i64 0,.int .i64 0,.slice none 0 0,.slice none 0 0]) 7 88 Tryz.underlying97 hi aB aC aD rfl (by decide) (.slice da dl dc) dl es rfl (by exact(Aa ap).alloc _) ⟨wa.heap.size,0,none⟩ 1 1 [.int .i64 c0,.int .i64 c1,.int .i64 c2,.int .i64 c3,.int .i64 pr,.slice oa on oc,.slice ra rn rc] rfl rfl (by exact KD wa [.int .i64 c0,.int .i64 c1,.int .i64 c2,.int .i64 c3,.int .i64 pr,.slice oa on oc,.slice ra rn rc]) (by simp[Value.oneCell']) (by unfold maxLen;omega) (by omega) (by omega) ?_;intro v' wz ac ab aw;obtain⟨va,vn,vc,aK⟩:=Ar ac;subst aK;obtain⟨p1,p2,p3,p4⟩:=(Aa F3) _ _ _ _ _ _ _ _ (Aa ak) (Aa al) (Aa am) ab ac aw (by simp;omega);have ao:=Ac p4;clear p4 ac ab aw))
  all_goals
   obtain⟨t0,aA⟩:=(Aa F4) _ _ (Aa ao);have aF:=Ac aA;clear aA ao ak al am ap aq F1 F2 F3 F4 d2 d3 k0 k1 k2 k3 k4 z2 hi aB aC aD p1 p2 p3;go_wp2_with (first
    |(go_at_call 165;refine(Aa aF).mono ?_;rintro e w5 ⟨rfl,ar⟩;have H5:=Ac ((Aa F5) _ ar);clear ar)
    |(go_at_call 164;refine(Aa H5).mono ?_;rintro e w6 ⟨rfl,au⟩;have H6:=Ac ((Aa F6) _ au);clear au)
    |(go_at_call 166;refine(Aa H6).mono ?_;rintro e w7 ⟨rfl,av⟩;have aE:=Ac av;clear av))
   go_returns;exact⟨rfl,Aa aE⟩
theorem X5(w:World)(s q g u m cap b:Nat)(pr c0 c1 c2 c3 kd:Int)(msg rb:List UInt8)(da:Option Addr)(dl dc:Nat)(es:List Value)(B1:Value->World->Prop)(B2:Value->Value->World->Prop)(B3:Value->World->Prop)(B4 B5 ae:World->Prop)
  (h6:w.cell? ⟨s,6,none⟩=some (.slice (some ⟨g,0,none⟩) m cap)) (hu:u<m) (hm:m<=255) (g0:w.cell? ⟨g,u*3,none⟩=some (.int .i64 kd)) (q4:w.cell? ⟨q,4,none⟩=some (.int .i64 ((u:Int)+1))) (q6:w.cell? ⟨q,6,none⟩=some (.string (str msg)))
  (ad:Hid (∀wa,Below w.heap.size w wa->Calls Tryz.prog 162 #[.int .i64 kd,.string (str msg)] wa fun e w'=>∃oa on oc,e=.returned (.tuple #[.int .i64 pr,.slice oa on oc])/\B1 (.slice oa on oc) w'))
  (F1:Hid (∀O w',B1 O w'->w'.cell? ⟨g,u*3+1,none⟩=some (.iface 327 (ptr b))/\Calls Tryz.prog 294 #[ptr b,.int .i64 pr,O] w' fun e w2=>∃ra rn rc,e=.returned (.slice ra rn rc)/\B2 O (.slice ra rn rc) w2))
  (F2:Hid (∀O R w',B2 O R w'->w'.cell? ⟨g,u*3+2,none⟩=some (.slice da dl dc)/\w'.ownsRow 0 45 7 (.slice da dl dc) dl es/\dl<=100000000000/\w'.cell? ⟨q,0,none⟩=some (.int .i64 c0)/\w'.cell? ⟨q,1,none⟩=some (.int .i64 c1)/\w'.cell? ⟨q,2,none⟩=some (.int .i64 c2)/\w'.cell? ⟨q,3,none⟩=some (.int .i64 c3)/\w'.cell? ⟨q,4,none⟩=some (.int .i64 ((u:Int)+1))/\w'.frozen? ⟨g,u*3+2,none⟩=false))
  (F3:Hid (∀O R w1 w2 wa wz K' va0,B1 O w1->B2 O R w2->Below w2.heap.size w2 wa->(wa.alloc (.cells #[.int .i64 c0,.int .i64 c1,.int .i64 c2,.int .i64 c3,.int .i64 pr,O,R] 45)).grownBy wz (Value.slice da dl dc).ownBlock->wz.ownsRow 0 45 7 K' (dl+1) (es++[.int .i64 c0,.int .i64 c1,.int .i64 c2,.int .i64 c3,.int .i64 pr,O,R])->(K'.ownBlock=(Value.slice da dl dc).ownBlock\/K'.ownBlock=some va0)->w2.heap.size<=va0->wz.cell? ⟨g,u*3+2,none⟩=some (.slice da dl dc)/\wz.frozen? ⟨g,u*3+2,none⟩=false/\g<wz.heap.size/\B3 R (wz.setCell ⟨g,u*3+2,none⟩ K')))
  (F4:Hid (∀R w',B3 R w'->w'.cell? ⟨g,u*3,none⟩=some (.int .i64 kd)/\Calls Tryz.prog 165 #[.int .i64 kd,.int .i64 pr,R] w' fun e w2=>e=.returned (.string (str rb))/\B4 w2))
  (F5:Hid (∀w',B4 w'->Calls Tryz.prog 164 #[ptr q,.string (str rb)] w' fun e w2=>e=.returned (.tuple #[])/\B5 w2))
  (F6:Hid (∀w',B5 w'->Calls Tryz.prog 166 #[ptr s,ptr q] w' fun e w2=>e=.returned (.tuple #[])/\ae w2)):
  Calls Tryz.prog 97 #[ptr s,ptr q] w fun e w'=>e=.returned (.tuple #[])/\ae w':=by
 obtain⟨i0,hi,aB,aC,aD⟩:=info_parts Ty;have HV:=Ac (Ey w s g u m cap h6 hu hm);have aG:=lt_of_cell g0;have aI:=lt_of_cell q4;have HB:Hid (∀n,Below w.heap.size w (w.drewN n)):=fun n=>below_drewN (Below.refl _ _) n
 generalize str msg=SM at *;generalize str rb=SR at *;go_enter Tryz.func97,Tryz.ntmps97;go_wp2_with (first|(go_at_call 38;refine(Aa HV).mono ?_;rintro e w1 ⟨rfl,az⟩;rw[az];clear az))
 go_region_law (refine Av rfl 162 #[.tmp 19,.tmp 23] #[3,125] rfl XP #[.int .i64 kd,.string SM] rfl _ ((Aa ad) _ (by first|exact Below.refl _ _|exact(Aa HB) 1)) ?_;rintro e w1 ⟨oa,on,oc,rfl,ag⟩;obtain⟨g1,ay⟩:=(Aa F1) _ _ ag;have ak:=Ac ag;have an:=Ac ay;have ai:=lt_of_cell g1;clear ag ay;refine⟨_,rfl,?_⟩)
 all_goals
  clear h6 g0 q4 q6 ad HV HB aG aI;go_wp2_with (go_at_call 294;refine(Aa an).mono ?_;rintro e w2 ⟨ra,rn,rc,rfl,ah⟩;obtain⟨d2,af,aL,k0,k1,k2,k3,k4,z2⟩:=(Aa F2) _ _ _ ah;have al:=Ac ah;have aq:=Ac af;have aj:=lt_of_cell d2;have aJ:=lt_of_cell k0;clear ah af an g1 ai)
  go_region_law (first
   |(refine Av rfl 163 #[.tmp 42,.tmp 43,.tmp 44,.tmp 45] #[170,3,37,37] rfl XQ #[.agg #[.int .i64 c0,.int .i64 c1,.int .i64 c2,.int .i64 c3,.int .i64 ((u:Int)+1)],.int .i64 pr,.slice oa on oc,.slice ra rn rc] rfl _ (Ih _ c0 c1 c2 c3 ((u:Int)+1) pr oa ra on oc rn rc) ?_;rintro e wa ⟨rfl,ax⟩;have aa:Below w2.heap.size w2 wa:=D7 ax;have d3:wa.cell? ⟨g,u*3+2,none⟩=some (.slice da dl dc):=(aa.cell (p:=⟨g,u*3+2,none⟩) aj).trans d2;have am:=Ac aa;have ap:=Ac (Bu (Aa aq) aa);have aM:=aa.size;have aH:g<wa.heap.size:=(by omega);clear ax aa;refine⟨_,rfl,?_⟩)
   |(refine Bp rfl (.tmp 38) (.tmp 47) 97 rfl 0 45 i0 (.agg #[.int .i64 0,.int .i64 0,.int .i64 0,.int .i64 0,.int .i64 0,.slice none 0 0,.slice none 0 0]) 7 88 Tryz.underlying97 hi aB aC aD rfl (by decide) (.slice da dl dc) dl es rfl (by exact(Aa ap).alloc _) ⟨wa.heap.size,0,none⟩ 1 1 [.int .i64 c0,.int .i64 c1,.int .i64 c2,.int .i64 c3,.int .i64 pr,.slice oa on oc,.slice ra rn rc] rfl rfl (by exact KD wa [.int .i64 c0,.int .i64 c1,.int .i64 c2,.int .i64 c3,.int .i64 pr,.slice oa on oc,.slice ra rn rc]) (by simp[Value.oneCell']) (by unfold maxLen;omega) (by omega) (by omega) ?_;intro v' wz ac ab aw;obtain⟨va,vn,vc,aK⟩:=Ar ac;subst aK;obtain⟨p1,p2,p3,p4⟩:=(Aa F3) _ _ _ _ _ _ _ _ (Aa ak) (Aa al) (Aa am) ab ac aw (by simp;omega);have ao:=Ac p4;clear p4 ac ab aw))
  all_goals
   obtain⟨t0,aA⟩:=(Aa F4) _ _ (Aa ao);have aF:=Ac aA;clear aA ao ak al am ap aq F1 F2 F3 F4 d2 d3 k0 k1 k2 k3 k4 z2 hi aB aC aD p1 p2 p3;go_wp2_with (first
    |(go_at_call 165;refine(Aa aF).mono ?_;rintro e w5 ⟨rfl,ar⟩;have H5:=Ac ((Aa F5) _ ar);clear ar)
    |(go_at_call 164;refine(Aa H5).mono ?_;rintro e w6 ⟨rfl,au⟩;have H6:=Ac ((Aa F6) _ au);clear au)
    |(go_at_call 166;refine(Aa H6).mono ?_;rintro e w7 ⟨rfl,av⟩;have aE:=Ac av;clear av))
   go_returns;exact⟨rfl,Aa aE⟩
theorem ace(w:World)(T:TypeId)(N:Nat)(ac:(T=320/\N=287)\/(T=324/\N=290)\/(T=327/\N=294))(s q g u m cap b:Nat)(pr c0 c1 c2 c3 kd:Int)(msg rb:List UInt8)(da:Option Addr)(dl dc:Nat)(es:List Value)(B1:Value->World->Prop)(B2:Value->Value->World->Prop)(B3:Value->World->Prop)(B4 B5 aa:World->Prop)
  (h6:w.cell? ⟨s,6,none⟩=some (.slice (some ⟨g,0,none⟩) m cap)) (hu:u<m) (hm:m<=255) (g0:w.cell? ⟨g,u*3,none⟩=some (.int .i64 kd)) (q4:w.cell? ⟨q,4,none⟩=some (.int .i64 ((u:Int)+1))) (q6:w.cell? ⟨q,6,none⟩=some (.string (str msg)))
  (ab:Hid (∀wa,Below w.heap.size w wa->Calls Tryz.prog 162 #[.int .i64 kd,.string (str msg)] wa fun e w'=>∃oa on oc,e=.returned (.tuple #[.int .i64 pr,.slice oa on oc])/\B1 (.slice oa on oc) w'))
  (F1:Hid (∀O w',B1 O w'->w'.cell? ⟨g,u*3+1,none⟩=some (.iface T (ptr b))/\Calls Tryz.prog N #[ptr b,.int .i64 pr,O] w' fun e w2=>∃ra rn rc,e=.returned (.slice ra rn rc)/\B2 O (.slice ra rn rc) w2))
  (F2:Hid (∀O R w',B2 O R w'->w'.cell? ⟨g,u*3+2,none⟩=some (.slice da dl dc)/\w'.ownsRow 0 45 7 (.slice da dl dc) dl es/\dl<=100000000000/\w'.cell? ⟨q,0,none⟩=some (.int .i64 c0)/\w'.cell? ⟨q,1,none⟩=some (.int .i64 c1)/\w'.cell? ⟨q,2,none⟩=some (.int .i64 c2)/\w'.cell? ⟨q,3,none⟩=some (.int .i64 c3)/\w'.cell? ⟨q,4,none⟩=some (.int .i64 ((u:Int)+1))/\w'.frozen? ⟨g,u*3+2,none⟩=false))
  (F3:Hid (∀O R w1 w2 wa wz K' va0,B1 O w1->B2 O R w2->Below w2.heap.size w2 wa->(wa.alloc (.cells #[.int .i64 c0,.int .i64 c1,.int .i64 c2,.int .i64 c3,.int .i64 pr,O,R] 45)).grownBy wz (Value.slice da dl dc).ownBlock->wz.ownsRow 0 45 7 K' (dl+1) (es++[.int .i64 c0,.int .i64 c1,.int .i64 c2,.int .i64 c3,.int .i64 pr,O,R])->(K'.ownBlock=(Value.slice da dl dc).ownBlock\/K'.ownBlock=some va0)->w2.heap.size<=va0->wz.cell? ⟨g,u*3+2,none⟩=some (.slice da dl dc)/\wz.frozen? ⟨g,u*3+2,none⟩=false/\g<wz.heap.size/\B3 R (wz.setCell ⟨g,u*3+2,none⟩ K')))
  (F4:Hid (∀R w',B3 R w'->w'.cell? ⟨g,u*3,none⟩=some (.int .i64 kd)/\Calls Tryz.prog 165 #[.int .i64 kd,.int .i64 pr,R] w' fun e w2=>e=.returned (.string (str rb))/\B4 w2))
  (F5:Hid (∀w',B4 w'->Calls Tryz.prog 164 #[ptr q,.string (str rb)] w' fun e w2=>e=.returned (.tuple #[])/\B5 w2))
  (F6:Hid (∀w',B5 w'->Calls Tryz.prog 166 #[ptr s,ptr q] w' fun e w2=>e=.returned (.tuple #[])/\aa w2)):
  Calls Tryz.prog 97 #[ptr s,ptr q] w fun e w'=>e=.returned (.tuple #[])/\aa w':=by
 rcases ac with ⟨rfl,rfl⟩|⟨rfl,rfl⟩|⟨rfl,rfl⟩
 ·exact X3 w s q g u m cap b pr c0 c1 c2 c3 kd msg rb da dl dc es B1 B2 B3 B4 B5 aa h6 hu hm g0 q4 q6 ab F1 F2 F3 F4 F5 F6
 ·exact X4 w s q g u m cap b pr c0 c1 c2 c3 kd msg rb da dl dc es B1 B2 B3 B4 B5 aa h6 hu hm g0 q4 q6 ab F1 F2 F3 F4 F5 F6
 ·exact X5 w s q g u m cap b pr c0 c1 c2 c3 kd msg rb da dl dc es B1 B2 B3 B4 B5 aa h6 hu hm g0 q4 q6 ab F1 F2 F3 F4 F5 F6
theorem Works.adh(h:Works w F l b K k W):F b:=by
 cases h<;>assumption
theorem Works.Pz(h:Works w F l b K k W):(k=0->W=.iface 320 (ptr b))/\(k=1->W=.iface 324 (ptr b))/\(k=2->W=.iface 327 (ptr b)):=by
 cases h<;>simp
theorem Works.Yi(h:Works w F l b K 0 W):W=.iface 320 (ptr b):=h.Pz.1 rfl
theorem Works.Yj(h:Works w F l b K 1 W):W=.iface 324 (ptr b):=h.Pz.2.1 rfl
theorem Works.acn(h:Works w F l b K 2 W):W=.iface 327 (ptr b):=h.Pz.2.2 rfl
theorem Z9{log:List R.En}{en:R.En}{kind:Int}(h:Works w F log b K kind W)(aa:∀k,F k->k<w.heap.size)(hX:V.Items w X en.arg){f t:ByteArray}{bs:List UInt8}(hs:R.C6 kind en.proc=some (f,t))(hb:R.Ba f en.arg=some bs)(hl:R.JF kind log):
  ∃T N,W=.iface T (ptr b)/\((T=320/\N=287)\/(T=324/\N=290)\/(T=327/\N=294))/\Calls Tryz.prog N #[ptr b,.int .i64 en.proc,X] w fun e w'=>∃O,e=.returned O/\Did w F log en b K kind W O (R.Cu kind log en.proc en.arg) w':=by
 have hc:=R.F7 log 0 (by decide);unfold R.C6 at hs;split at hs
 ·rename_i h0;cases hs;obtain⟨rfl,hp⟩:=h0;obtain⟨x,hx,_⟩:=R.abK hb;have hw:=h.Yi;exact⟨320,287,hw,afJ ⟨rfl,rfl⟩,MC w F log en b K W h (aa b h.adh) hX ⟨x,hx⟩ (afJ hp) hc⟩
 ·split at hs
  ·rename_i h0;cases hs;obtain⟨rfl,hp⟩:=h0;obtain⟨x,hx,_⟩:=R.abI hb;exact⟨320,287,h.Yi,afJ ⟨rfl,rfl⟩,MC w F log en b K W h (aa b h.adh) hX ⟨x,hx⟩ (afM hp) hc⟩
  ·split at hs
   ·rename_i h0;cases hs;obtain⟨rfl,hp⟩:=h0;obtain⟨x,hx,_⟩:=R.XF hb;exact⟨324,290,h.Yj,afM (afJ ⟨rfl,rfl⟩),Ql w F log en b K W h hX ⟨x,hx,fun q=>by omega⟩ (afJ hp)⟩
   ·split at hs
    ·rename_i h0;cases hs;obtain⟨rfl,hp⟩:=h0;obtain⟨x,hx,ab⟩:=R.abJ hb;exact⟨324,290,h.Yj,afM (afJ ⟨rfl,rfl⟩),Ql w F log en b K W h hX ⟨x,hx,fun _=>ab.2.1⟩ (afM hp)⟩
    ·split at hs
     ·rename_i h0;cases hs;obtain⟨rfl,hp⟩:=h0;obtain⟨d,k,a,g1,g2,g3,g4,_⟩:=R.XE hb;have:=g3.2.2;exact⟨327,294,h.acn,afM (afM ⟨rfl,rfl⟩),aax w F log en b K W h aa hX ⟨d,k,a,g1,g2.2,by omega⟩ (fun d=>(R.GV log hl d [] (by simp)).1)⟩
     ·cases hs
end Go.Proofs.YtblomippkddgiabGreatDoor
