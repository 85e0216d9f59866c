import Derived.Test.YtblomippkddgiabGreatDoorJ41
set_option maxRecDepth 100000
set_option maxHeartbeats 4000000
namespace Go.Proofs.YtblomippkddgiabGreatDoor
open Go.RowKit
variable {cur:Array Value}{f t:ByteArray}{E F F':Aq}{k:Int}{l:List R.En}{jobs:List R.Jb}{bs:List UInt8}{B b cap g j n nm u:Nat}{c:R.Cf}{en:R.En}{s:R.Sv}{G:R.Wd}{K K' O W:Value}{w w':World}
theorem X5(w:World)(s q g u m cap b:Nat)(pr c0 c1 c2 c3 kd:Int)(msg rb:List UInt8)(da:Option Addr)(dl dc:Nat)(es:List Value)(B1:Value->World->Prop)(B2:Value->Value->World->Prop)(B3:Value->World->Prop)(B4 B5 ae:World->Prop)
  (h6:w.cell? ⟨s,6,none⟩=some (.slice (some ⟨g,0,none⟩) m cap)) (hu:u<m) (hm:m<=255) (g0:w.cell? ⟨g,u*3,none⟩=some (.int .i64 kd)) (q4:w.cell? ⟨q,4,none⟩=some (.int .i64 ((u:Int)+1))) (q6:w.cell? ⟨q,6,none⟩=some (.string (str msg)))
  (ad:Hid (∀wa,Below w.heap.size w wa->Calls Tryz.prog 162 #[.int .i64 kd,.string (str msg)] wa fun e w'=>∃oa on oc,e=.returned (.tuple #[.int .i64 pr,.slice oa on oc])/\B1 (.slice oa on oc) w'))
  (F1:Hid (∀O w',B1 O w'->w'.cell? ⟨g,u*3+1,none⟩=some (.iface 327 (ptr b))/\Calls Tryz.prog 294 #[ptr b,.int .i64 pr,O] w' fun e w2=>∃ra rn rc,e=.returned (.slice ra rn rc)/\B2 O (.slice ra rn rc) w2))
  (F2:Hid (∀O R w',B2 O R w'->w'.cell? ⟨g,u*3+2,none⟩=some (.slice da dl dc)/\w'.ownsRow 0 45 7 (.slice da dl dc) dl es/\dl<=100000000000/\w'.cell? ⟨q,0,none⟩=some (.int .i64 c0)/\w'.cell? ⟨q,1,none⟩=some (.int .i64 c1)/\w'.cell? ⟨q,2,none⟩=some (.int .i64 c2)/\w'.cell? ⟨q,3,none⟩=some (.int .i64 c3)/\w'.cell? ⟨q,4,none⟩=some (.int .i64 ((u:Int)+1))/\w'.frozen? ⟨g,u*3+2,none⟩=false))
  (F3:Hid (∀O R w1 w2 wa wz K' va0,B1 O w1->B2 O R w2->Below w2.heap.size w2 wa->(wa.alloc (.cells #[.int .i64 c0,.int .i64 c1,.int .i64 c2,.int .i64 c3,.int .i64 pr,O,R] 45)).grownBy wz (Value.slice da dl dc).ownBlock->wz.ownsRow 0 45 7 K' (dl+1) (es++[.int .i64 c0,.int .i64 c1,.int .i64 c2,.int .i64 c3,.int .i64 pr,O,R])->(K'.ownBlock=(Value.slice da dl dc).ownBlock\/K'.ownBlock=some va0)->w2.heap.size<=va0->wz.cell? ⟨g,u*3+2,none⟩=some (.slice da dl dc)/\wz.frozen? ⟨g,u*3+2,none⟩=false/\g<wz.heap.size/\B3 R (wz.setCell ⟨g,u*3+2,none⟩ K')))
  (F4:Hid (∀R w',B3 R w'->w'.cell? ⟨g,u*3,none⟩=some (.int .i64 kd)/\Calls Tryz.prog 165 #[.int .i64 kd,.int .i64 pr,R] w' fun e w2=>e=.returned (.string (str rb))/\B4 w2))
  (F5:Hid (∀w',B4 w'->Calls Tryz.prog 164 #[ptr q,.string (str rb)] w' fun e w2=>e=.returned (.tuple #[])/\B5 w2))
  (F6:Hid (∀w',B5 w'->Calls Tryz.prog 166 #[ptr s,ptr q] w' fun e w2=>e=.returned (.tuple #[])/\ae w2)):
  Calls Tryz.prog 97 #[ptr s,ptr q] w fun e w'=>e=.returned (.tuple #[])/\ae w':=by
 obtain⟨i0,hi,aB,aC,aD⟩:=info_parts Ty;have HV:=Ac (Ey w s g u m cap h6 hu hm);have aG:=lt_of_cell g0;have aI:=lt_of_cell q4;have HB:Hid (∀n,Below w.heap.size w (w.drewN n)):=fun n=>below_drewN (Below.refl _ _) n
 generalize str msg=SM at *;generalize str rb=SR at *;go_enter Tryz.func97,Tryz.ntmps97;go_wp2_with (first|(go_at_call 38;refine(Aa HV).mono ?_;rintro e w1 ⟨rfl,az⟩;rw[az];clear az))
 go_region_law (refine Av rfl 162 #[.tmp 19,.tmp 23] #[3,125] rfl XP #[.int .i64 kd,.string SM] rfl _ ((Aa ad) _ (by first|exact Below.refl _ _|exact(Aa HB) 1)) ?_;rintro e w1 ⟨oa,on,oc,rfl,ag⟩;obtain⟨g1,ay⟩:=(Aa F1) _ _ ag;have ak:=Ac ag;have an:=Ac ay;have ai:=lt_of_cell g1;clear ag ay;refine⟨_,rfl,?_⟩)
 all_goals
  clear h6 g0 q4 q6 ad HV HB aG aI;go_wp2_with (go_at_call 294;refine(Aa an).mono ?_;rintro e w2 ⟨ra,rn,rc,rfl,ah⟩;obtain⟨d2,af,aL,k0,k1,k2,k3,k4,z2⟩:=(Aa F2) _ _ _ ah;have al:=Ac ah;have aq:=Ac af;have aj:=lt_of_cell d2;have aJ:=lt_of_cell k0;clear ah af an g1 ai)
  go_region_law (first
   |(refine Av rfl 163 #[.tmp 42,.tmp 43,.tmp 44,.tmp 45] #[170,3,37,37] rfl XQ #[.agg #[.int .i64 c0,.int .i64 c1,.int .i64 c2,.int .i64 c3,.int .i64 ((u:Int)+1)],.int .i64 pr,.slice oa on oc,.slice ra rn rc] rfl _ (Ih _ c0 c1 c2 c3 ((u:Int)+1) pr oa ra on oc rn rc) ?_;rintro e wa ⟨rfl,ax⟩;have aa:Below w2.heap.size w2 wa:=D7 ax;have d3:wa.cell? ⟨g,u*3+2,none⟩=some (.slice da dl dc):=(aa.cell (p:=⟨g,u*3+2,none⟩) aj).trans d2;have am:=Ac aa;have ap:=Ac (Bu (Aa aq) aa);have aM:=aa.size;have aH:g<wa.heap.size:=(by omega);clear ax aa;refine⟨_,rfl,?_⟩)
   |(refine Bp rfl (.tmp 38) (.tmp 47) 97 rfl 0 45 i0 (.agg #[.int .i64 0,.int .i64 0,.int .i64 0,.int .i64 0,.int .i64 0,.slice none 0 0,.slice none 0 0]) 7 88 Tryz.underlying97 hi aB aC aD rfl (by decide) (.slice da dl dc) dl es rfl (by exact(Aa ap).alloc _) ⟨wa.heap.size,0,none⟩ 1 1 [.int .i64 c0,.int .i64 c1,.int .i64 c2,.int .i64 c3,.int .i64 pr,.slice oa on oc,.slice ra rn rc] rfl rfl (by exact KD wa [.int .i64 c0,.int .i64 c1,.int .i64 c2,.int .i64 c3,.int .i64 pr,.slice oa on oc,.slice ra rn rc]) (by simp[Value.oneCell']) (by unfold maxLen;omega) (by omega) (by omega) ?_;intro v' wz ac ab aw;obtain⟨va,vn,vc,aK⟩:=Ar ac;subst aK;obtain⟨p1,p2,p3,p4⟩:=(Aa F3) _ _ _ _ _ _ _ _ (Aa ak) (Aa al) (Aa am) ab ac aw (by simp;omega);have ao:=Ac p4;clear p4 ac ab aw))
  all_goals
   obtain⟨t0,aA⟩:=(Aa F4) _ _ (Aa ao);have aF:=Ac aA;clear aA ao ak al am ap aq F1 F2 F3 F4 d2 d3 k0 k1 k2 k3 k4 z2 hi aB aC aD p1 p2 p3;go_wp2_with (first
    |(go_at_call 165;refine(Aa aF).mono ?_;rintro e w5 ⟨rfl,ar⟩;have H5:=Ac ((Aa F5) _ ar);clear ar)
    |(go_at_call 164;refine(Aa H5).mono ?_;rintro e w6 ⟨rfl,au⟩;have H6:=Ac ((Aa F6) _ au);clear au)
    |(go_at_call 166;refine(Aa H6).mono ?_;rintro e w7 ⟨rfl,av⟩;have aE:=Ac av;clear av))
   go_returns;exact⟨rfl,Aa aE⟩
theorem ace(w:World)(T:TypeId)(N:Nat)(ac:(T=320/\N=287)\/(T=324/\N=290)\/(T=327/\N=294))(s q g u m cap b:Nat)(pr c0 c1 c2 c3 kd:Int)(msg rb:List UInt8)(da:Option Addr)(dl dc:Nat)(es:List Value)(B1:Value->World->Prop)(B2:Value->Value->World->Prop)(B3:Value->World->Prop)(B4 B5 aa:World->Prop)
  (h6:w.cell? ⟨s,6,none⟩=some (.slice (some ⟨g,0,none⟩) m cap)) (hu:u<m) (hm:m<=255) (g0:w.cell? ⟨g,u*3,none⟩=some (.int .i64 kd)) (q4:w.cell? ⟨q,4,none⟩=some (.int .i64 ((u:Int)+1))) (q6:w.cell? ⟨q,6,none⟩=some (.string (str msg)))
  (ab:Hid (∀wa,Below w.heap.size w wa->Calls Tryz.prog 162 #[.int .i64 kd,.string (str msg)] wa fun e w'=>∃oa on oc,e=.returned (.tuple #[.int .i64 pr,.slice oa on oc])/\B1 (.slice oa on oc) w'))
  (F1:Hid (∀O w',B1 O w'->w'.cell? ⟨g,u*3+1,none⟩=some (.iface T (ptr b))/\Calls Tryz.prog N #[ptr b,.int .i64 pr,O] w' fun e w2=>∃ra rn rc,e=.returned (.slice ra rn rc)/\B2 O (.slice ra rn rc) w2))
  (F2:Hid (∀O R w',B2 O R w'->w'.cell? ⟨g,u*3+2,none⟩=some (.slice da dl dc)/\w'.ownsRow 0 45 7 (.slice da dl dc) dl es/\dl<=100000000000/\w'.cell? ⟨q,0,none⟩=some (.int .i64 c0)/\w'.cell? ⟨q,1,none⟩=some (.int .i64 c1)/\w'.cell? ⟨q,2,none⟩=some (.int .i64 c2)/\w'.cell? ⟨q,3,none⟩=some (.int .i64 c3)/\w'.cell? ⟨q,4,none⟩=some (.int .i64 ((u:Int)+1))/\w'.frozen? ⟨g,u*3+2,none⟩=false))
  (F3:Hid (∀O R w1 w2 wa wz K' va0,B1 O w1->B2 O R w2->Below w2.heap.size w2 wa->(wa.alloc (.cells #[.int .i64 c0,.int .i64 c1,.int .i64 c2,.int .i64 c3,.int .i64 pr,O,R] 45)).grownBy wz (Value.slice da dl dc).ownBlock->wz.ownsRow 0 45 7 K' (dl+1) (es++[.int .i64 c0,.int .i64 c1,.int .i64 c2,.int .i64 c3,.int .i64 pr,O,R])->(K'.ownBlock=(Value.slice da dl dc).ownBlock\/K'.ownBlock=some va0)->w2.heap.size<=va0->wz.cell? ⟨g,u*3+2,none⟩=some (.slice da dl dc)/\wz.frozen? ⟨g,u*3+2,none⟩=false/\g<wz.heap.size/\B3 R (wz.setCell ⟨g,u*3+2,none⟩ K')))
  (F4:Hid (∀R w',B3 R w'->w'.cell? ⟨g,u*3,none⟩=some (.int .i64 kd)/\Calls Tryz.prog 165 #[.int .i64 kd,.int .i64 pr,R] w' fun e w2=>e=.returned (.string (str rb))/\B4 w2))
  (F5:Hid (∀w',B4 w'->Calls Tryz.prog 164 #[ptr q,.string (str rb)] w' fun e w2=>e=.returned (.tuple #[])/\B5 w2))
  (F6:Hid (∀w',B5 w'->Calls Tryz.prog 166 #[ptr s,ptr q] w' fun e w2=>e=.returned (.tuple #[])/\aa w2)):
  Calls Tryz.prog 97 #[ptr s,ptr q] w fun e w'=>e=.returned (.tuple #[])/\aa w':=by
 rcases ac with ⟨rfl,rfl⟩|⟨rfl,rfl⟩|⟨rfl,rfl⟩
 ·exact X3 w s q g u m cap b pr c0 c1 c2 c3 kd msg rb da dl dc es B1 B2 B3 B4 B5 aa h6 hu hm g0 q4 q6 ab F1 F2 F3 F4 F5 F6
 ·exact X4 w s q g u m cap b pr c0 c1 c2 c3 kd msg rb da dl dc es B1 B2 B3 B4 B5 aa h6 hu hm g0 q4 q6 ab F1 F2 F3 F4 F5 F6
 ·exact X5 w s q g u m cap b pr c0 c1 c2 c3 kd msg rb da dl dc es B1 B2 B3 B4 B5 aa h6 hu hm g0 q4 q6 ab F1 F2 F3 F4 F5 F6
theorem Works.adh(h:Works w F l b K k W):F b:=by
 cases h<;>assumption
theorem Works.Pz(h:Works w F l b K k W):(k=0->W=.iface 320 (ptr b))/\(k=1->W=.iface 324 (ptr b))/\(k=2->W=.iface 327 (ptr b)):=by
 cases h<;>simp
theorem Works.Yi(h:Works w F l b K 0 W):W=.iface 320 (ptr b):=h.Pz.1 rfl
theorem Works.Yj(h:Works w F l b K 1 W):W=.iface 324 (ptr b):=h.Pz.2.1 rfl
theorem Works.acn(h:Works w F l b K 2 W):W=.iface 327 (ptr b):=h.Pz.2.2 rfl
theorem Z9{log:List R.En}{kind:Int}(h:Works w F log b K kind W)(aa:∀k,F k->k<w.heap.size){X:Value}(hX:V.Items w X en.arg)(hs:R.C6 kind en.proc=some (f,t))(hb:R.Ba f en.arg=some bs)(hl:R.JF kind log):
  ∃T N,W=.iface T (ptr b)/\((T=320/\N=287)\/(T=324/\N=290)\/(T=327/\N=294))/\Calls Tryz.prog N #[ptr b,.int .i64 en.proc,X] w fun e w'=>∃O,e=.returned O/\Did w F log en b K kind W O (R.Cu kind log en.proc en.arg) w':=by
 have hc:=R.F7 log 0 (by decide);unfold R.C6 at hs;split at hs
 ·rename_i h0;cases hs;obtain⟨rfl,hp⟩:=h0;obtain⟨x,hx,_⟩:=R.abK hb;have hw:=h.Yi;exact⟨320,287,hw,Or.inl ⟨rfl,rfl⟩,MC w F log en b K W h (aa b h.adh) hX ⟨x,hx⟩ (Or.inl hp) hc⟩
 ·split at hs
  ·rename_i h0;cases hs;obtain⟨rfl,hp⟩:=h0;obtain⟨x,hx,_⟩:=R.abI hb;exact⟨320,287,h.Yi,Or.inl ⟨rfl,rfl⟩,MC w F log en b K W h (aa b h.adh) hX ⟨x,hx⟩ (Or.inr hp) hc⟩
  ·split at hs
   ·rename_i h0;cases hs;obtain⟨rfl,hp⟩:=h0;obtain⟨x,hx,_⟩:=R.XF hb;exact⟨324,290,h.Yj,Or.inr (Or.inl ⟨rfl,rfl⟩),Ql w F log en b K W h hX ⟨x,hx,fun q=>by omega⟩ (Or.inl hp)⟩
   ·split at hs
    ·rename_i h0;cases hs;obtain⟨rfl,hp⟩:=h0;obtain⟨x,hx,ab⟩:=R.abJ hb;exact⟨324,290,h.Yj,Or.inr (Or.inl ⟨rfl,rfl⟩),Ql w F log en b K W h hX ⟨x,hx,fun _=>ab.2.1⟩ (Or.inr hp)⟩
    ·split at hs
     ·rename_i h0;cases hs;obtain⟨rfl,hp⟩:=h0;obtain⟨d,k,a,g1,g2,g3,g4,_⟩:=R.XE hb;have:=g3.2.2;exact⟨327,294,h.acn,Or.inr (Or.inr ⟨rfl,rfl⟩),aax w F log en b K W h aa hX ⟨d,k,a,g1,g2.2,by omega⟩ (fun d=>(R.GV log hl d [] (by simp)).1)⟩
     ·cases hs
theorem Works.UZ(h:Works w F l b K k W)(hk:Af E w w')(hb:¬E b)(aa:∀j,K.ownBlock=some j->¬E j)(hi:∀b cur,F b->w.heap[b]?=some (.cells cur 73 (0,0))->¬E b)(hF:∀k,F k->F' k):Works w' F' l b K k W:=by
 cases h with
 |counter h1 h2 h3=>exact .counter (hF _ h1) (hk.at h2 hb) h3
 |FJ h1 h2 h3 h4=>exact .FJ (hF _ h1) (hk.at h2 hb) (hk.row h3 aa) (fun j hj=>hF _ (h4 j hj))
 |Jo d0 d1 d2 h1 h2 h3 g0 g1 g2=>exact .Jo d0 d1 d2 (hF _ h1) (hk.at h2 hb) h3 (g0.keep hk hi hF) (g1.keep hk hi hF) (g2.keep hk hi hF)
theorem Sg.UZ{z:R.Sv×MV}(h:Sg w F z)(hk:Af E w w')(h1:z.1.alive=true->¬E z.2.sb)(h2:z.1.alive=true->∀j,z.2.bk.ownBlock=some j->¬E j)(h3:∀j,z.2.dn.ownBlock=some j->¬E j)(hi:∀b cur,F b->w.heap[b]?=some (.cells cur 73 (0,0))->¬E b)(hF:∀k,F k->F' k):Sg w' F' z:=by
 refine⟨?_,?_,fun j hj=>hF _ (h.own j hj)⟩
 ·have hw:=h.wk;by_cases ha:z.1.alive=true
  ·rw[if_pos ha]at hw ⊢;exact hw.UZ hk (h1 ha) (h2 ha) hi hF
  ·rw[if_neg ha]at hw ⊢;exact hw
 ·obtain⟨es,e1,e2,e3⟩:=h.log;exact⟨es,e1,hk.row e2 h3,fun y hy=>⟨(e3 y hy).1.keep hk hi hF,(e3 y hy).2.keep hk hi hF⟩⟩
def Vk(T:TypeId):Bool:=T==323 || T==326 || T==329
theorem Works.blk(h:Works w F l b K k W):F b/\∃cur T,w.heap[b]?=some (.cells cur T (0,0))/\Vk T=true:=by
 cases h with
 |counter h1 h2 h3=>exact⟨h1,_,_,h2,rfl⟩
 |FJ h1 h2 h3 h4=>exact⟨h1,_,_,h2,rfl⟩
 |Jo d0 d1 d2 h1 h2 h3 g0 g1 g2=>exact⟨h1,_,_,h2,rfl⟩
theorem G7{size:Nat}{e:TypeId}{v:Value}{xs:List Value}(h:w.ownsRow B e size v n xs)(hj:v.ownBlock=some j):∃cur,w.heap[j]?=some (.cells cur e (0,0)):=by
 rcases h.2 with ⟨rfl,_⟩|⟨g,cap,cur,rfl,_,hg,_⟩
 ·cases hj
 ·cases hj;exact⟨cur,hg⟩
theorem Works.bkt(h:Works w F l b K k W)(hj:K.ownBlock=some j):F j/\∃cur,w.heap[j]?=some (.cells cur 9 (0,0)):=by
 cases h with
 |counter h1 h2 h3=>rw[h3]at hj;cases hj
 |FJ h1 h2 h3 h4=>exact⟨h4 j hj,G7 h3 hj⟩
 |Jo d0 d1 d2 h1 h2 h3 g0 g1 g2=>rw[h3]at hj;cases hj
def NV(z:R.Sv×MV)(en:R.En)(K' bk':Value):R.Sv×MV:=({z.1 with log:=z.1.log++[en]},{z.2 with dn:=K',bk:=bk'})
def Te(z:R.Sv×MV)(g:Nat):Aq:=fun k=>(k=z.2.sb\/z.2.bk.ownBlock=some k)\/(z.2.dn.ownBlock=some k\/k=g)
def MH(T:TypeId):Bool:=Vk T || T==9 || T==45 || T==99
theorem Cg.UQ{s:Nat}{t:SP}{sv:List R.Sv}{Aj:List Int}{seen:List R.Sn}(h:Cg s n nm t F c sv Aj seen jobs w){z:R.Sv×MV}(hz:t.zs[u]?=some z)(ha:z.1.alive=true)(hg:w.heap[g]?=some (.cells cur 99 (0,0)))(k:Nat)(hk:Te z g k):∃cur T,w.heap[k]?=some (.cells cur T (0,0))/\MH T=true:=by
 have hs:=h.each z (List.mem_of_getElem? hz);have hw:=hs.wk;rw[if_pos ha]at hw;rcases hk with (rfl|hk)|(hk|rfl)
 ·obtain⟨_,cur,T,q1,q2⟩:=hw.blk;exact⟨cur,T,q1,by simp[MH,q2]⟩
 ·obtain⟨_,cur,q⟩:=hw.bkt hk;exact⟨cur,9,q,rfl⟩
 ·obtain⟨es,_,e2,_⟩:=hs.log;obtain⟨cur,q⟩:=G7 e2 hk;exact⟨cur,45,q,rfl⟩
 ·exact⟨cur,99,hg,rfl⟩
theorem Cg.did{s:Nat}{t:SP}{sv:List R.Sv}{Aj:List Int}{seen:List R.Sn}{w3:World}(h:Cg s n nm t F c sv Aj seen jobs w)(ak:∀k,F k->k<w.heap.size){z:R.Sv×MV}(hz:t.zs[u]?=some z)(ha:z.1.alive=true)(hK:t.K=.slice (some ⟨g,0,none⟩) t.zs.length cap)(hg:w.heap[g]?=some (.cells cur 99 (0,0)))(ar:t.zs.length<=cap)(av:cap<=maxLen)(aF:cur.size=cap*3)(aG:cur.toList.take (t.zs.length*3)=tab GX t.zs)
 {V aa:Value} {es:List (R.En×Value×Value)} (hk:Af (Te z g) w w3) (aD:w3.heap[g]?=some (.cells (cur.toList.set (u*3+2) K').toArray 99 (0,0))) (hF:∀k,F k->F' k) (hw:Works w3 F' (z.1.log++[en]) z.2.sb aa z.1.kind z.2.wk) (aC:aa.ownBlock=z.2.bk.ownBlock\/∃j,aa.ownBlock=some j/\w.heap.size<=j)
  (he:es.map (·.1)=z.1.log) (az:∀y∈es,BF w F y.2.1 y.1.arg/\BF w F y.2.2 y.1.result) (aE:w3.ownsRow 0 45 7 K' (es.length+1) (tab EX (es++[(en,O,V)]))) (hO:BF w3 F' O en.arg) (hV:BF w3 F' V en.result) (ay:K'.ownBlock=z.2.dn.ownBlock\/∃j,K'.ownBlock=some j/\w.heap.size<=j/\F' j):
  Cg s n nm {t with zs:=t.zs.set u (NV z en K' aa)} F' c (sv.set u {z.1 with log:=z.1.log++[en]}) Aj seen jobs w3:=by
 obtain⟨f1,f2,f3⟩:=h.BP;have aA:=h.UQ hz ha hg;have hs:=h.each z (List.mem_of_getElem? hz);have ah:=hs.wk;rw[if_pos ha]at ah;have ao:∀{b:Nat} {cu:Array Value} {T:TypeId} {zz:Nat×Nat},w.heap[b]?=some (.cells cu T zz)->MH T=false->¬Te z g b:=fun {b cu T zz} hb hT hE=>by
  obtain⟨ac,T',q1,q2⟩:=aA b hE;rw[hb]at q1;cases q1;rw[hT]at q2;cases q2
 have hi:∀b cur,F b->w.heap[b]?=some (.cells cur 73 (0,0))->¬Te z g b:=fun b cur _ hb=>ao hb (by decide)
 obtain⟨ez,_,aw,_⟩:=hs.log;refine⟨hk.at h.bs (ao h.bs (by decide)),?_,?_,fun y hy=>?_,fun i j a b am ap ad k ab=>?_,fun i j a b am ap ad an aq=>?_,fun i r hr af=>?_,h.inj,?_,hF _ f1,hF _ f2,fun j hj=>hF _ (f3 j hj)⟩
 ·simp only[map_set];rw[h.zs];rfl
 ·simp only;rw[List.length_set];refine⟨by rw[Dh Fu,List.length_set,Nat.mul_comm],Or.inr ⟨g,cap,_,hK,Nat.zero_le _,aD,ar,av,by simpa using aF,?_⟩⟩;rw[OL,aG];exact IU Fu t.zs u 2 z (NV z en K' aa) _ hz (by omega) rfl
 ·obtain⟨j,hj⟩:=List.getElem?_of_mem hy;rcases Kf hj with ⟨rfl,rfl⟩|⟨au,aj⟩
  ·refine⟨?_,⟨es++[(en,O,V)],by simp[NV,he],?_,fun y hy=>?_⟩,fun j hj=>?_⟩
   ·rw[if_pos (show (NV z en K' aa).1.alive=true from ha)];exact hw
   ·rw[List.length_append];exact aE
   ·rcases List.mem_append.1 hy with q|q
    ·exact⟨(az y q).1.keep hk hi hF,(az y q).2.keep hk hi hF⟩
    ·simp only[List.mem_singleton]at q;subst q;exact⟨hO,hV⟩
   ·rcases ay with q|⟨j',q1,q2,q3⟩
    ·exact hF _ (hs.own j (by rw[<-q];exact hj))
    ·rw[show (NV z en K' aa).2.dn=K' from rfl,q1]at hj;cases hj;exact q3
  ·have al:=h.each y (List.mem_of_getElem? aj);refine al.UZ hk (fun ai hE=>?_) (fun ai k ab hE=>?_) (fun k ab hE=>?_) hi hF
   ·have ag:=al.wk;rw[if_pos ai]at ag;obtain⟨_,cu,T,q1,q2⟩:=ag.blk;have af:=(h.Z8 u j z y hz aj (fun e=>au e.symm) ha ai).1;rcases hE with (e|e)|(e|e)
    ·exact af e.symm
    ·obtain⟨_,ac,q3⟩:=ah.bkt e;rw[q1]at q3;cases q3;cases q2
    ·obtain⟨ac,q3⟩:=G7 aw e;rw[q1]at q3;cases q3;cases q2
    ·rw[e,hg]at q1;cases q1;cases q2
   ·have ag:=al.wk;rw[if_pos ai]at ag;obtain⟨_,cu,q1⟩:=ag.bkt ab;have af:=(h.Z8 u j z y hz aj (fun e=>au e.symm) ha ai).2;rcases hE with (e|e)|(e|e)
    ·obtain⟨_,ac,T,q3,q4⟩:=ah.blk;rw[<-e,q1]at q3;cases q3;cases q4
    ·exact af k e ab
    ·obtain⟨ac,q3⟩:=G7 aw e;rw[q1]at q3;cases q3
    ·rw[e,hg]at q1;cases q1
   ·obtain⟨ey,_,aB,_⟩:=al.log;obtain⟨cu,q1⟩:=G7 aB ab;rcases hE with (e|e)|(e|e)
    ·obtain⟨_,ac,T,q3,q4⟩:=ah.blk;rw[<-e,q1]at q3;cases q3;cases q4
    ·obtain⟨_,ac,q3⟩:=ah.bkt e;rw[q1]at q3;cases q3
    ·exact h.dns u j z y hz aj (fun e=>au e.symm) k e ab
    ·rw[e,hg]at q1;cases q1
 ·have get:∀{i:Nat} {a:R.Sv×MV},(t.zs.set u (NV z en K' aa))[i]?=some a->∃a0,t.zs[i]?=some a0/\(∀k,a.2.dn.ownBlock=some k->a0.2.dn.ownBlock=some k\/(i=u/\w.heap.size<=k))/\(i≠u->a=a0):=fun {i a} ha=>by
   rcases Kf ha with ⟨rfl,rfl⟩|⟨_,q⟩
   ·refine⟨z,hz,fun k hk=>?_,fun q=>absurd rfl q⟩;rcases ay with q|⟨j',q1,q2,q3⟩
    ·exact Or.inl (by rw[<-q];exact hk)
    ·rw[show (NV z en K' aa).2.dn=K' from rfl,q1]at hk;cases hk;exact Or.inr ⟨rfl,q2⟩
   ·exact⟨_,q,fun k hk=>Or.inl hk,fun _=>rfl⟩
  intro ae;obtain⟨a0,p1,p2,p3⟩:=get am;obtain⟨b0,p4,p5,p6⟩:=get ap;have ra:=(h.each a0 (List.mem_of_getElem? p1)).own;have rb:=(h.each b0 (List.mem_of_getElem? p4)).own;rcases p2 k ab with q|⟨rfl,q⟩
  ·rcases p5 k ae with q'|⟨rfl,q'⟩
   ·exact h.dns i j a0 b0 p1 p4 ad k q q'
   ·have:=ak k (ra k q);omega
  ·rcases p5 k ae with q'|⟨rfl,q'⟩
   ·have:=ak k (rb k q');omega
   ·exact ad rfl
 ·have get:∀{i:Nat} {a:R.Sv×MV},(t.zs.set u (NV z en K' aa))[i]?=some a->∃a0,t.zs[i]?=some a0/\a0.1.alive=a.1.alive/\a0.2.sb=a.2.sb/\(∀k,a.2.bk.ownBlock=some k->a0.2.bk.ownBlock=some k\/(i=u/\w.heap.size<=k)):=fun {i a} ha=>by
   rcases Kf ha with ⟨rfl,rfl⟩|⟨_,q⟩
   ·refine⟨z,hz,rfl,rfl,fun k hk=>?_⟩;rcases aC with q|⟨j',q1,q2⟩
    ·exact Or.inl (by rw[<-q];exact hk)
    ·rw[show (NV z en K' aa).2.bk=aa from rfl,q1]at hk;cases hk;exact Or.inr ⟨rfl,q2⟩
   ·exact⟨_,q,rfl,rfl,fun k hk=>Or.inl hk⟩
  obtain⟨a0,p1,pa,ps,p2⟩:=get am;obtain⟨b0,p4,pb,pt,p5⟩:=get ap;rw[<-pa]at an;rw[<-pb]at aq;have ax:=h.Z8 i j a0 b0 p1 p4 ad an aq;refine⟨by rw[<-ps,<-pt];exact ax.1,fun k ab ae=>?_⟩;have ra:=(h.each a0 (List.mem_of_getElem? p1)).wk;have rb:=(h.each b0 (List.mem_of_getElem? p4)).wk;rw[if_pos an]at ra;rw[if_pos aq]at rb;rcases p2 k ab with q|⟨rfl,q⟩
  ·rcases p5 k ae with q'|⟨rfl,q'⟩
   ·exact ax.2 k q q'
   ·have:=ak k (ra.bkt q).1;omega
  ·rcases p5 k ae with q'|⟨rfl,q'⟩
   ·have:=ak k (rb.bkt q').1;omega
   ·exact ad rfl
 ·obtain⟨y,h1,h2,h3⟩:=h.ln i r hr af;exact⟨y,hk.at h1 (ao h1 (by decide)),h2,hF _ h3⟩
 ·obtain⟨a,b,hj⟩:=h.jobs;refine⟨a,b,hk.at hj (fun e=>?_)⟩;obtain⟨cu,T,q,_⟩:=aA _ e;rw[hj]at q;cases q
theorem Yv{S:List R.Sv}(hs:S[u]?=some s)(l:List R.En)(k:Nat):((S.set u {s with log:=l})[k]?).map (·.kind)=(S[k]?).map (·.kind):=by
 rw[List.getElem?_set];by_cases e:u=k
 ·subst e;rw[if_pos rfl,if_pos (List.getElem?_eq_some_iff.1 hs).1,hs];rfl
 ·rw[if_neg e]
theorem V8(hs:G.Ab[u]?=some s)(l:List R.En)(c:R.Cl)(x:Int):BL (Bs G (G.Ab.set u {s with log:=l}) G.Aj G.seen G.jobs) c x=BL G c x:=by
 unfold BL kindOf;show (if x∈c.bound then some ((((G.Ab.set u {s with log:=l})[(x-1).toNat]?).map (·.kind)).getD 0) else none)=_;rw[Yv hs]
theorem acu(h:R.Wf G)(hs:G.Ab[u]?=some s)(l:List R.En):R.Wf (Bs G (G.Ab.set u {s with log:=l}) G.Aj G.seen G.jobs):=by
 refine⟨h.cf,h.Gt,fun i c hc=>⟨(h.cl i c hc).lines,(h.cl i c hc).Ae,fun x hx=>?_,(h.cl i c hc).line⟩,h.E3,h.Eo,by simpa using h.sv,fun y hy=>?_,h.nm,h.st,h.nd,fun x hx=>?_⟩
 ·have:=(h.cl i c hc).bound x hx;simpa using this
 ·rcases List.mem_or_eq_of_mem_set hy with q|q
  ·exact h.Kh y q
  ·rw[q];exact h.Kh s (List.mem_of_getElem? hs)
 ·have:=h.I5 x hx;simpa using this
theorem aaA(kind:Int)(l:List R.En)(proc:Int)(arg:List R.It):R.Cu kind l proc arg≠[]:=by
 unfold R.Cu;split
 ·simp
 ·split
  ·split<;>simp
  ·simp only;split<;>simp
theorem ab8{kind proc:Int}{arg:List R.It}(hs:R.C6 kind proc=some (f,t))(hb:R.Ba f arg=some bs):arg≠[]:=by
 unfold R.C6 at hs;split at hs
 ·cases hs;obtain⟨x,hx,_⟩:=R.abK hb;simp[hx]
 ·split at hs
  ·cases hs;obtain⟨x,hx,_⟩:=R.abI hb;simp[hx]
  ·split at hs
   ·cases hs;obtain⟨x,hx,_⟩:=R.XF hb;simp[hx]
   ·split at hs
    ·cases hs;obtain⟨x,hx,_⟩:=R.abJ hb;simp[hx]
    ·split at hs
     ·cases hs;obtain⟨d,k,a,g1,_⟩:=R.XE hb;simp[g1]
     ·cases hs
theorem aaz{T:TypeId}(h:MH T=true):My T=false:=by
 simp only[MH,Vk,Bool.or_eq_true,beq_iff_eq]at h;rcases h with (((((h|h)|h)|h)|h)|h)<;>rw[h]<;>rfl
theorem LW.aex{p:Pl}{w1:World}(h:LW p F G w1)(hs:G.Ab[n]?=some s)(ha:s.alive=true){z:R.Sv×MV}(hz:p.t.zs[n]?=some z)(aL:z.1=s)(hK:p.t.K=.slice (some ⟨g,0,none⟩) p.t.zs.length cap)(hg:w1.heap[g]?=some (.cells cur 99 (0,0)))(k2:w1.cell? ⟨g,n*3+2,none⟩=some z.2.dn)(ag:p.t.zs.length<=cap)(ai:cap<=maxLen)(aI:cur.size=cap*3)(aJ:cur.toList.take (p.t.zs.length*3)=tab GX p.t.zs)
  {es:List (R.En×Value×Value)} (he:es.map (·.1)=s.log) (ak:w1.ownsRow 0 45 7 z.2.dn es.length (tab EX es)) (aD:∀y∈es,BF w1 F y.2.1 y.1.arg/\BF w1 F y.2.2 y.1.result)
 (hB:B<=w1.heap.size) {Z:Value} {w2 wa wz:World} {o:Obj} {va0:Nat} (hO:V.Row w1 B O en.arg) (aE:en.arg≠[]) (aj:en.result≠[]) (hD:Did w1 F s.log en z.2.sb z.2.bk s.kind z.2.wk Z en.result w2) (au:Below w2.heap.size w2 wa) (ax:(wa.alloc o).grownBy wz z.2.dn.ownBlock) (ac:wz.ownsRow 0 45 7 K' (es.length+1) (tab EX es++EX (en,O,Z))) (ar:K'.ownBlock=z.2.dn.ownBlock\/K'.ownBlock=some va0) (aR:w2.heap.size<=va0):
  wz.cell? ⟨g,n*3+2,none⟩=some z.2.dn/\wz.frozen? ⟨g,n*3+2,none⟩=false/\g<wz.heap.size/\∃t,t.ql=p.t.ql/\t.K=p.t.K/\t.zs.length=p.t.zs.length/\LW {p with t:=t} (fun k=>F k\/(B<=k/\k<wz.heap.size)) (Bs G (G.Ab.set n {s with log:=s.log++[en]}) G.Aj G.seen G.jobs) (wz.setCell ⟨g,n*3+2,none⟩ K')/\Af (Te z g) w1 (wz.setCell ⟨g,n*3+2,none⟩ K')/\V.Items (wz.setCell ⟨g,n*3+2,none⟩ K') Z en.result/\(wz.setCell ⟨g,n*3+2,none⟩ K').cell? ⟨g,n*3,none⟩=some (.int .i64 s.kind):=by
 subst aL;have az:=h.BN.UQ hz ha hg;have aO:=lt_of_block hg;have aQ:=hD.keep.size;have aP:=au.size;have aH:=ax.size;simp only[World.size_alloc]at aH;have aG:(wz.setCell ⟨g,n*3+2,none⟩ K').heap.size=wz.heap.size:=by simp
 obtain⟨ab,_,_⟩:=(⟨(h.BN.each z (List.mem_of_getElem? hz)).wk,trivial,trivial⟩:_/\True/\True);rw[if_pos ha]at ab;have aC:¬(g=z.2.sb\/z.2.bk.ownBlock=some g):=by
  rintro (e|e)
  ·obtain⟨_,cu,T,q1,q2⟩:=ab.blk;rw[<-e,hg]at q1;cases q1;cases q2
  ·obtain⟨_,cu,q1⟩:=ab.bkt e;rw[hg]at q1;cases q1
 have av:w2.heap[g]?=some (.cells cur 99 (0,0)):=hD.keep.at hg aC;have aa:∀k,z.2.dn.ownBlock=some k->∃cu,w1.heap[k]?=some (.cells cu 45 (0,0))/\w2.heap[k]?=some (.cells cu 45 (0,0)):=fun k hk=>by
  obtain⟨cu,q⟩:=G7 ak hk;refine⟨cu,q,hD.keep.at q ?_⟩;rintro (e|e)
  ·obtain⟨_,ao,T,q1,q2⟩:=ab.blk;rw[<-e,q]at q1;cases q1;cases q2
  ·obtain⟨_,ao,q1⟩:=ab.bkt e;rw[q]at q1;cases q1
 have kA:Af (fun k=>z.2.dn.ownBlock=some k) w2 wz:=((Af.Al au _).alloc _).grown ax (fun k hk=>Or.inl hk);have ae:wz.heap[g]?=some (.cells cur 99 (0,0)):=kA.at av (fun e=>by
  obtain⟨cu,q,_⟩:=aa g e;rw[hg]at q;cases q)
 have kB:Af (fun k=>z.2.dn.ownBlock=some k\/k=g) w2 (wz.setCell ⟨g,n*3+2,none⟩ K'):=Af.setCell (F:=fun k=>z.2.dn.ownBlock=some k\/k=g) (p:=⟨g,n*3+2,none⟩) (kA.mono (fun k _ e=>Or.inl e)) (Or.inl (Or.inr rfl)) K';have k3:Af (Te z g) w1 (wz.setCell ⟨g,n*3+2,none⟩ K'):=(hD.keep.mono (fun k _ e=>Or.inl e)).trans (kB.mono (fun k _ e=>Or.inr e));have ay:∀k,F k->k<w1.heap.size:=h.lt;have hF:∀k,F k->(fun k=>F k\/(B<=k/\k<wz.heap.size)) k:=fun k hk=>Or.inl hk
 have ad:∀{b:Nat} {cu:Array Value} {T:TypeId},w2.heap[b]?=some (.cells cu T (0,0))->T≠45->T≠99->¬(z.2.dn.ownBlock=some b\/b=g):=fun {b cu T} hb h1 h2 hE=>by
  rcases hE with e|e
  ·obtain⟨_,_,q⟩:=aa b e;rw[hb]at q;cases q;exact h1 rfl
  ·rw[e,av]at hb;cases hb;exact h2 rfl
 obtain⟨an,am,af⟩:=hD.works;have aK:Works (wz.setCell ⟨g,n*3+2,none⟩ K') (fun k=>F k\/(B<=k/\k<wz.heap.size)) (z.1.log++[en]) z.2.sb an z.1.kind z.2.wk:=by
  refine am.UZ kB ?_ (fun j hj=>?_) (fun b cu _ hb=>ad hb (by decide) (by decide)) (fun k hk=>?_)
  ·obtain⟨_,cu,T,q1,q2⟩:=am.blk;refine ad q1 (fun e=>?_) (fun e=>?_)
   ·rw[e]at q2;cases q2
   ·rw[e]at q2;cases q2
  ·obtain⟨_,cu,q1⟩:=am.bkt hj;exact ad q1 (by decide) (by decide)
  ·rcases hk with hk|hk
   ·exact Or.inl hk
   ·exact Or.inr ⟨by omega,by omega⟩
 obtain⟨o1,o2⟩:=Nn hO aE;obtain⟨r1,r2⟩:=Nn hD.row aj;have aB:BF (wz.setCell ⟨g,n*3+2,none⟩ K') (fun k=>F k\/(B<=k/\k<wz.heap.size)) O en.arg:=o1.keep k3 (fun b cu _ hb hE=>by
  obtain⟨ao,T,q1,q2⟩:=az b hE;rw[hb]at q1;cases q1;cases q2) (fun k hk=>by
   have:=o2 k hk;exact Or.inr ⟨by omega,by omega⟩)
 have aq:BF (wz.setCell ⟨g,n*3+2,none⟩ K') (fun k=>F k\/(B<=k/\k<wz.heap.size)) Z en.result:=r1.keep kB (fun b cu _ hb=>ad hb (by decide) (by decide)) (fun k hk=>by
   have:=r2 k hk;exact Or.inr ⟨by omega,by omega⟩)
 have aA:K'.ownBlock≠some g:=fun e=>by
  rcases ar with q|q
  ·rw[e]at q;obtain⟨cu,q1,_⟩:=aa g q.symm;rw[hg]at q1;cases q1
  ·rw[e]at q;cases q;omega
 have aF:(wz.setCell ⟨g,n*3+2,none⟩ K').ownsRow 0 45 7 K' (es.length+1) (tab EX (es++[(en,O,Z)])):=by
  rw[EV];exact Fy ac (fun j hj=>Below.heap_setCell _ _ _ _ (fun e=>aA (by rw[hj];exact congrArg some e)))
 have aw:(wz.setCell ⟨g,n*3+2,none⟩ K').heap[g]?=some (.cells (cur.toList.set (n*3+2) K').toArray 99 (0,0)):=Ai (cs:=cur.toList) (off:=n*3+2) ae K';have ah:K'.ownBlock=z.2.dn.ownBlock\/∃j,K'.ownBlock=some j/\w1.heap.size<=j/\(fun k=>F k\/(B<=k/\k<wz.heap.size)) j:=by
  rcases ar with q|q
  ·exact Or.inl q
  ·have:=(World.ownsRow.lt ac va0 q).2;exact Or.inr ⟨va0,q,by omega,Or.inr ⟨by omega,this⟩⟩
 have al:=h.BN.did ay hz ha hK hg ag ai aI aJ k3 aw hF aK af he aD aF aB aq ah;have hL:=h.Ha al k3 (fun b hE=>by
  obtain⟨cu,T,q1,q2⟩:=az b hE;exact Or.inl ⟨cu,T,_,q1,aaz q2⟩) hF (fun k hk=>by
   rw[aG];rcases hk with hk|hk
   ·have:=ay k hk;omega
   ·exact hk.2) (acu h.wf hs _) h.Db (fun i c _ x=>V8 hs _ c x)
 have e2:wz.cell? ⟨g,n*3+2,none⟩=some z.2.dn:=by
  rw[<-k2];simp[World.cell?,ae,hg]
 obtain⟨gg,cc,cu,ap,aN,_,aM,_⟩:=h.BN.Jt hz;rw[hK]at ap;cases ap;refine⟨e2,open_list ae,lt_of_block ae,{p.t with zs:=p.t.zs.set n (NV z en K' an)},rfl,rfl,by simp,hL,k3,aq.items,?_⟩;have e3:(wz.setCell ⟨g,n*3+2,none⟩ K').cell? ⟨g,n*3,none⟩=w1.cell? ⟨g,n*3,none⟩:=by
  simp[World.cell?,aw,hg]
 rw[e3];exact aM
end Go.Proofs.YtblomippkddgiabGreatDoor
