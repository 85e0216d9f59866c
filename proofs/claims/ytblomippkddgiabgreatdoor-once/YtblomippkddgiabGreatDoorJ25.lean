import Derived.Test.YtblomippkddgiabGreatDoorJ24
set_option maxRecDepth 100000
set_option maxHeartbeats 2000000
namespace Go.Proofs.YtblomippkddgiabGreatDoor
open Go.RowKit
variable {F:Aq}{k:Int}{l:List R.En}{jobs:List R.Jb}{name:List UInt8}{b i n nm s u:Nat}{p:Pl}{c:R.Cf}{G:R.Wd}{t:SP}{K K' W:Value}{w w':World}
theorem Kf{α:Type}{l:List α}{x y:α}(h:(l.set u x)[i]?=some y):(i=u/\y=x)\/(i≠u/\l[i]?=some y):=by
 rw[List.getElem?_set]at h;by_cases e:u=i
 ·rw[if_pos e]at h;split at h
  ·exact Or.inl ⟨e.symm,(Option.some.inj h).symm⟩
  ·cases h
 ·rw[if_neg e]at h;exact Or.inr ⟨fun q=>e q.symm,h⟩
theorem OL(l:List Value)(n i:Nat)(v:Value):(l.set i v).take n=(l.take n).set i v:=by
 apply List.ext_getElem?;intro j;simp only[List.getElem?_take,List.getElem?_set,List.length_take];by_cases hj:j<n
 ·by_cases e:i=j
  ·subst e;have:i<min n l.length↔i<l.length:=by omega
   simp[hj,this]
  ·simp[hj,e]
 ·by_cases e:i=j
  ·subst e;simp[hj];omega
  ·simp[hj,e]
def Oh(z:R.Sv×MV):R.Sv×MV:=({z.1 with alive:=false},{z.2 with wk:=.nilIface})
theorem Cg.dead{sv:List R.Sv}{Aj:List Int}{seen:List R.Sn}(h:Cg s n nm t F c sv Aj seen jobs w){g cap:Nat}{z:R.Sv×MV}{aa:Array Value}(hz:t.zs[u]?=some z)(hK:t.K=.slice (some ⟨g,0,none⟩) t.zs.length cap)(hg:w.heap[g]?=some (.cells aa 99 (0,0)))(ab:t.zs.length<=cap)(ad:cap<=maxLen)(aj:aa.size=cap*3)(ak:aa.toList.take (t.zs.length*3)=tab GX t.zs):Cg s n nm {t with zs:=t.zs.set u (Oh z)} F c (sv.set u {z.1 with alive:=false}) Aj seen jobs (w.setCell ⟨g,u*3+1,none⟩ .nilIface):=by
 obtain⟨f1,f2,f3⟩:=h.BP;have hk:Af (fun k=>k=g) w (w.setCell ⟨g,u*3+1,none⟩ .nilIface):=Ah _;have af:JD w F (fun k=>k=g):=JD.one hg (by decide);refine⟨hk.at h.bs (AZ h.bs hg (by decide)),?_,?_,fun y hy=>?_,fun i j a b ha hb ac k ah=>?_,fun i j a b ha hb ac ae ag=>?_,fun i r hr ai=>?_,h.inj,?_,f1,f2,f3⟩
 ·simp only[map_set];rw[h.zs];rfl
 ·simp only;rw[List.length_set];refine⟨by rw[Dh Fu,List.length_set,Nat.mul_comm],Or.inr ⟨g,cap,_,hK,Nat.zero_le _,Ai (cs:=aa.toList) (off:=u*3+1) hg .nilIface,ab,ad,by simpa using aj,?_⟩⟩;rw[OL,ak];exact IU Fu t.zs u 1 z (Oh z) _ hz (by omega) rfl
 ·rcases List.mem_or_eq_of_mem_set hy with q|q
  ·exact(h.each y q).keep hk af (fun _ r=>r)
  ·have h0:=(h.each z (List.mem_of_getElem? hz)).keep hk af (fun _ r=>r);rw[q];exact⟨by simp[Oh],h0.log,h0.own⟩
 ·have get:∀{i:Nat} {a:R.Sv×MV},(t.zs.set u (Oh z))[i]?=some a->∃a0,t.zs[i]?=some a0/\a.2.dn=a0.2.dn:=fun ha=>by
   rcases Kf ha with ⟨rfl,rfl⟩|⟨_,q⟩
   ·exact⟨z,hz,rfl⟩
   ·exact⟨_,q,rfl⟩
  obtain⟨a0,p1,p2⟩:=get ha;obtain⟨b0,p3,p4⟩:=get hb;rw[p2]at ah;rw[p4];exact h.dns i j a0 b0 p1 p3 ac k ah
 ·have get:∀{i:Nat} {a:R.Sv×MV},(t.zs.set u (Oh z))[i]?=some a->a.1.alive=true->t.zs[i]?=some a:=fun ha hl=>by
   rcases Kf ha with ⟨rfl,rfl⟩|⟨_,q⟩
   ·cases hl
   ·exact q
  exact h.Z8 i j a b (get ha ae) (get hb ag) ac ae ag
 ·obtain⟨y,h1,h2,h3⟩:=h.ln i r hr ai;exact⟨y,hk.at h1 (AZ h1 hg (by decide)),h2,h3⟩
 ·obtain⟨a,b,hj⟩:=h.jobs;refine⟨a,b,hk.at hj (fun e=>?_)⟩;rw[e,hg]at hj;cases hj
theorem Ey(w:World)(s g u m cap:Nat)(h6:w.cell? ⟨s,6,none⟩=some (.slice (some ⟨g,0,none⟩) m cap))(hu:u<m)(hm:m<=255):
  Calls Tryz.prog 38 #[ptr s,.int .i64 ((u:Int)+1)] w fun e w'=>e=.returned (.pointer (some ⟨g,u*3,none⟩))/\w'=w:=by
 have e1:IntKind.i64.wrap ((u:Int)+1-1)=(u:Int):=by rw[IntKind.wrap_i64];omega
 have q1:(0:Int)<=(u:Int):=by omega
 have q2:(u:Int)<(m:Int):=by omega
 go_enter Tryz.func38,Tryz.ntmps38;go_wp2
 go_ret
 exact⟨rfl,rfl⟩
def Z5(y:JH):JH:={y with state:=3,asked:=[],answer:=[],at':=0,wait:=0,tries:=0}
theorem Z6(w:World)(b:Nat)(y:JH)(h:w.heap[b]?=some (.cells y.cells.toArray 179 (0,0))):
  Calls Tryz.prog 198 #[ptr b] w fun e w'=>e=.returned (.tuple #[])/\w'.heap[b]?=some (.cells (Z5 y).cells.toArray 179 (0,0))/\Af (fun k=>k=b) w w':=by
 obtain⟨a0,a1,a2,a3,a4,a5,a6,a7,a8,a9,JB⟩:=Qb h;have z:∀j,w.frozen? ⟨b,j,none⟩=false:=fun j=>open_list h
 have hl:=lt_of_block h;have HE:Hid (∀W,W=((((((((((w.setCell ⟨b,0,none⟩ (.int .i64 y.client)).setCell ⟨b,1,none⟩ (.int .i64 y.Ae)).setCell ⟨b,2,none⟩ (.int .i64 y.line)).setCell ⟨b,3,none⟩ (.int .i64 y.seq)).setCell ⟨b,4,none⟩ (.int .i64 y.uid)).setCell ⟨b,5,none⟩ (.int .i64 3)).setCell ⟨b,6,none⟩ (.string ⟨#[]⟩)).setCell ⟨b,7,none⟩ (.string ⟨#[]⟩)).setCell ⟨b,8,none⟩ (.int .i64 0)).setCell ⟨b,9,none⟩ (.int .i64 0)).setCell ⟨b,10,none⟩ (.int .i64 0)->W.heap[b]?=some (.cells (Z5 y).cells.toArray 179 (0,0))/\Af (fun k=>k=b) w W):=fun W hW=>by
  subst hW;refine⟨?_,((((((((((Ah _).trans (Ah _)).trans (Ah _)).trans (Ah _)).trans (Ah _)).trans (Ah _)).trans (Ah _)).trans (Ah _)).trans (Ah _)).trans (Ah _)).trans (Ah _)⟩;have e0:=Ai (off:=0) h (.int .i64 y.client);have e1:=Ai (off:=1) e0 (.int .i64 y.Ae);have e2:=Ai (off:=2) e1 (.int .i64 y.line);have e3:=Ai (off:=3) e2 (.int .i64 y.seq);have e4:=Ai (off:=4) e3 (.int .i64 y.uid);have e5:=Ai (off:=5) e4 (.int .i64 3);have e6:=Ai (off:=6) e5 (.string ⟨#[]⟩);have e7:=Ai (off:=7) e6 (.string ⟨#[]⟩);have e8:=Ai (off:=8) e7 (.int .i64 0);have e9:=Ai (off:=9) e8 (.int .i64 0);exact Ai (off:=10) e9 (.int .i64 0)
 clear h;go_enter Tryz.func198,Tryz.ntmps198;go_wp2;go_returns;exact⟨rfl,(Aa HE) _ rfl⟩
theorem X9(w:World)(s g u m cap n:Nat)(bs:Nat->Nat)(wk:Value)(J:Value->Nat->World->Prop)(hn:n<=9)(hm:m<=255)(hu:u<m)(h6:w.cell? ⟨s,6,none⟩=some (.slice (some ⟨g,0,none⟩) m cap))(ac:w.cell? ⟨g,u*3+1,none⟩=some wk)(hz:w.frozen? ⟨g,u*3+1,none⟩=false)
  (af:Hid (Calls Tryz.prog 99 #[ptr s] (w.setCell ⟨g,u*3+1,none⟩ .nilIface) fun e w'=>∃O,e=.returned O/\J O 0 w'))
  (HS:Hid (∀O k wr,J O k wr->∃a c,O=.slice a n c))
  (HR:Hid (∀O k wr,k<n->J O k wr->∃g c,O=.slice (some ⟨g,0,none⟩) n c/\wr.cell? ⟨g,k,none⟩=some (ptr (bs k))/\∃x st,wr.cell? ⟨bs k,4,none⟩=some (.int .i64 x)/\wr.cell? ⟨bs k,5,none⟩=some (.int .i64 st)/\(x=(u:Int)+1/\¬st=2->Calls Tryz.prog 198 #[ptr (bs k)] wr fun e w'=>e=.returned (.tuple #[])/\J O (k+1) w')/\(¬(x=(u:Int)+1/\¬st=2)->J O (k+1) wr))):
  Calls Tryz.prog 144 #[ptr s,.int .i64 ((u:Int)+1)] w fun e w'=>e=.returned (.tuple #[])/\∃O,J O n w':=by
 have HV:=Ac (Ey w s g u m cap h6 hu hm);have ai:=lt_of_cell ac;go_enter Tryz.func144,Tryz.ntmps144;go_wp2_with (first|(go_at_call 38;refine(Aa HV).mono ?_;rintro e w1 ⟨rfl,ae⟩;rw[ae];clear ae))
 refine(Aa af).mono ?_;rintro e w1 ⟨O,rfl,hJ⟩;obtain⟨a,c,hO⟩:=(Aa HS) O 0 w1 hJ;subst hO;have H0:=Ac hJ;clear hJ ac hz h6;go_wp2;go_loopw [14] (fun iv wr=>∃k:Nat,k<=n/\iv=.int .i64 k/\J (.slice a n c) k wr) (fun iv _=>n-(intOf iv).toNat)
 case atStart=>exact⟨0,Nat.zero_le _,rfl,Aa H0⟩
 case round=>
  obtain⟨k,hk,rfl,hJ⟩:=hrel;by_cases ag:k<n
  ·obtain⟨g',c',hO,ab,x,st,hx,aj,aa,ad⟩:=(Aa HR) _ k wr ag hJ;cases hO;have HY:=Ac aa;have HN:=Ac ad;clear aa ad hJ;by_cases h1:x=(u:Int)+1
   ·have e1:(x==(u:Int)+1)=true:=by simpa using h1
    by_cases h2:st=2
    ·have e2:(st != 2)=false:=by simpa using h2
     have HI:=Ac ((Aa HN) (by omega));clear h1 h2;go_wp2;go_roundw
     case rel=>exact⟨k+1,by omega,by go_num,Aa HI⟩
     case measure=>simp[intOf];omega
    ·have e2:(st != 2)=true:=by simpa using h2
     have HC:=Ac ((Aa HY) ⟨h1,h2⟩);clear h1 h2;go_wp2_with (first|(go_at_call 198;refine(Aa HC).mono ?_;rintro e w3 ⟨rfl,ah⟩))
     go_roundw
     case rel=>exact⟨k+1,by omega,by go_num,ah⟩
     case measure=>simp[intOf];omega
   ·have e1:(x==(u:Int)+1)=false:=by simpa using h1
    have HI:=Ac ((Aa HN) (by omega));clear h1;go_wp2;go_roundw
    case rel=>exact⟨k+1,by omega,by go_num,Aa HI⟩
    case measure=>simp[intOf];omega
  ·obtain rfl:k=n:=by omega
   have HI:=Ac hJ;clear hJ;go_wp2;go_returns;exact⟨rfl,_,Aa HI⟩
theorem aaV:(Tryz.prog.info? 99).map (fun i=>(i.zero,i.size,i.bytes))=some (some (.agg #[.int .i64 0,.nilIface,.slice none 0 0]),3,48):=by kernel_rfl
def EF(kind:Int):TypeId:=if kind=0 then 320 else if kind=1 then 324 else 327
theorem VY(w:World)(kind:Int)(hk:0<=kind/\kind<=2):Calls Tryz.prog 199 #[.int .i64 kind] w fun e w'=>e=.returned (.iface (EF kind) (ptr w.heap.size))/\Works w' (fun k=>k=w.heap.size) [] w.heap.size (.slice none 0 0) kind (.iface (EF kind) (ptr w.heap.size))/\Below w.heap.size w w'/\w.heap.size<w'.heap.size:=by
 have hc:kind=0\/kind=1\/kind=2:=by omega
 rcases hc with rfl|rfl|rfl
 ·have H:Hid (∀W,W=w.alloc (.cells #[.int .u16 0] 323)->Works W (fun k=>k=w.heap.size) [] w.heap.size (.slice none 0 0) 0 (.iface (EF 0) (ptr w.heap.size))/\Below w.heap.size w W/\w.heap.size<W.heap.size):=fun W hW=>by
   subst hW;exact⟨.counter rfl (heap_alloc_new w _) rfl,(Below.refl _ _).alloc (Nat.le_refl _) _,by simp⟩
  go_enter Tryz.func199,Tryz.ntmps199;go_wp2;go_returns;exact⟨rfl,(Aa H) _ rfl⟩
 ·have H:Hid (∀W,W=w.alloc (.cells #[.slice none 0 0] 326)->Works W (fun k=>k=w.heap.size) [] w.heap.size (.slice none 0 0) 1 (.iface (EF 1) (ptr w.heap.size))/\Below w.heap.size w W/\w.heap.size<W.heap.size):=fun W hW=>by
   subst hW;refine⟨.FJ rfl (heap_alloc_new w _) ⟨rfl,Or.inl ⟨rfl,rfl⟩⟩ (fun j hj=>by cases hj),(Below.refl _ _).alloc (Nat.le_refl _) _,by simp⟩
  go_enter Tryz.func199,Tryz.ntmps199;go_wp2;go_returns;exact⟨rfl,(Aa H) _ rfl⟩
 ·have H:Hid (∀W,W=w.alloc (.cells #[.slice none 0 0,.slice none 0 0,.slice none 0 0] 329)->Works W (fun k=>k=w.heap.size) [] w.heap.size (.slice none 0 0) 2 (.iface (EF 2) (ptr w.heap.size))/\Below w.heap.size w W/\w.heap.size<W.heap.size):=fun W hW=>by
   subst hW;exact⟨.Jo _ _ _ rfl (heap_alloc_new w _) rfl (Or.inl ⟨rfl,none,rfl⟩) (Or.inl ⟨rfl,none,rfl⟩) (Or.inl ⟨rfl,none,rfl⟩),(Below.refl _ _).alloc (Nat.le_refl _) _,by simp⟩
  go_enter Tryz.func199,Tryz.ntmps199;go_wp2;go_returns;exact⟨rfl,(Aa H) _ rfl⟩
structure L8(w:World)(s:Nat)(cs:List Value)(K:Value)(m:Nat)(TF:List Value)(kind:Int)(K':Value)(w':World):Prop where
 cell:w'.heap[s]?=some (.cells (cs.set 6 K').toArray 144 (0,0))
 row:w'.ownsRow 0 99 3 K' (m+1) (TF++[.int .i64 kind,.iface (EF kind) (ptr w.heap.size),.slice none 0 0])
 wk:Works w' (fun k=>k=w.heap.size) [] w.heap.size (.slice none 0 0) kind (.iface (EF kind) (ptr w.heap.size))
 at':K'.ownBlock=K.ownBlock\/∃j,K'.ownBlock=some j/\w.heap.size<j
 keeps:Af (fun k=>k=s\/K.ownBlock=some k) w w'
theorem Vr{W V wz:World}{m:Nat}{cs TF:List Value}{kind:Int}{j0:Nat}(h:w.heap[s]?=some (.cells cs.toArray 144 (0,0)))(aa:w.ownsRow 0 99 3 K m TF)(hb:Below w.heap.size w W)(al:Works W (fun k=>k=w.heap.size) [] w.heap.size (.slice none 0 0) kind (.iface (EF kind) (ptr w.heap.size)))(ao:w.heap.size<W.heap.size)(hV:Below W.heap.size W V)
  (hg:V.grownBy wz K.ownBlock) (ac:wz.ownsRow 0 99 3 K' (m+1) (TF++[.int .i64 kind,.iface (EF kind) (ptr w.heap.size),.slice none 0 0])) (ad:K'.ownBlock=K.ownBlock\/K'.ownBlock=some j0) (hj:W.heap.size<=j0):wz.heap[s]?=some (.cells cs.toArray 144 (0,0))/\L8 w s cs K m TF kind K' (wz.setCell ⟨s,6,none⟩ K'):=by
 have af:K.ownBlock≠some s:=AV aa h (by decide);have ak:=(Array.getElem?_eq_some_iff.1 h).1;have aj:s<V.heap.size:=Nat.lt_of_lt_of_le (by omega) hV.size;have ag:wz.heap[s]?=some (.cells cs.toArray 144 (0,0)):=by
  rw[hg.block s aj (fun e=>af e.symm),hV.block s (by omega),hb.block s ak];exact h
 have ab:K'.ownBlock≠some s:=by
  rcases ad with e|e
  ·rw[e];exact af
  ·rw[e];intro q;cases q;omega
 have ai:Af (fun k=>k=s\/K.ownBlock=some k) W V:=Af.Al hV _;have ae:Af (fun k=>k=s\/K.ownBlock=some k) W (wz.setCell ⟨s,6,none⟩ K'):=(ai.grown hg (fun k hk=>Or.inl (Or.inr hk))).setCell (p:=⟨s,6,none⟩) (Or.inl (Or.inl rfl)) _;refine⟨ag,⟨Ai (cs:=cs) (off:=6) ag K',Fy ac (fun g hg=>Below.heap_setCell _ _ _ _ (fun e=>ab (by rw[hg];exact congrArg some e))),?_,?_,(Af.Al hb _).trans ae⟩⟩
 ·refine al.keep ae (fun b am t z ah ht an hE=>?_) (fun _ q=>q);subst ah;rcases hE with e|e
  ·omega
  ·have:=(World.ownsRow.lt aa _ e).2;omega
 ·rcases ad with e|e
  ·exact Or.inl e
  ·exact Or.inr ⟨j0,e,by omega⟩
theorem Y8(w:World)(kind:Int)(T:TypeId)(b:Nat)(j:Nat)(u:Value)(h:([.int .i64 kind,.iface T (ptr b),.slice none 0 0]:List Value)[j]?=some u):(w.alloc (.cells #[.int .i64 kind,.iface T (ptr b),.slice none 0 0] 99)).cell? ((⟨w.heap.size,0,none⟩:Addr).add j)=some u:=by
 rw[Addr.add_lit,Nat.zero_add,World.cell?_alloc_new w _ _ j,<-List.getElem?_toArray]at *;exact h
theorem ads:∀args w,(callFunc 199 args).run Tryz.prog w=.ok (.enter 199 args) w:=fun _ _=>rfl
theorem Vq(w:World)(s m c:Nat)(cs TF:List Value)(a:Option Addr)(kind:Int)(hk:0<=kind/\kind<=2)(h:w.heap[s]?=some (.cells cs.toArray 144 (0,0)))(h6:cs[6]?=some (.slice a m c))(af:w.ownsRow 0 99 3 (.slice a m c) m TF)(hm:m<=300):
  Calls Tryz.prog 145 #[ptr s,.int .i64 kind] w fun e w'=>e=.returned (.int .i64 ((m:Int)+1))/\∃K',L8 w s cs (.slice a m c) m TF kind K' w':=by
 have HF:=Ac (fun w=>VY w kind hk);have HP:Hid (∀{W V wz:World} {K':Value} {j0:Nat},Below w.heap.size w W->Works W (fun k=>k=w.heap.size) [] w.heap.size (.slice none 0 0) kind (.iface (EF kind) (ptr w.heap.size))->w.heap.size<W.heap.size->Below W.heap.size W V->V.grownBy wz (Value.slice a m c).ownBlock->wz.ownsRow 0 99 3 K' (m+1) (TF++[.int .i64 kind,.iface (EF kind) (ptr w.heap.size),.slice none 0 0])->(K'.ownBlock=(Value.slice a m c).ownBlock\/K'.ownBlock=some j0)->W.heap.size<=j0->wz.heap[s]?=some (.cells cs.toArray 144 (0,0))/\L8 w s cs (.slice a m c) m TF kind K' (wz.setCell ⟨s,6,none⟩ K')):=fun a1 a2 a3 a4 a5 a6 a7 a8=>Vr h af a1 a2 a3 a4 a5 a6 a7 a8
 have c6:w.cell? ⟨s,6,none⟩=some (.slice a m c):=cell_of h 6 _ (by simpa using h6);have z6:w.frozen? ⟨s,6,none⟩=false:=open_list h;have hl:=lt_of_block h;have HZ:Hid (∀wz:World,wz.heap[s]?=some (.cells cs.toArray 144 (0,0))->wz.cell? ⟨s,6,none⟩=some (.slice a m c)/\wz.frozen? ⟨s,6,none⟩=false):=fun wz hw=>⟨cell_of hw 6 _ (by simpa using h6),open_list hw⟩
 have am:=Ac af;obtain⟨i0,hi,ar,au,av⟩:=info_parts aaV;obtain⟨ac,aa⟩:∃ac:Value->World->Prop,ac=fun K' w'=>L8 w s cs (.slice a m c) m TF kind K' w':=⟨_,rfl⟩
 have HQ:Hid (∀K' w',L8 w s cs (.slice a m c) m TF kind K' w'->ac K' w'):=fun K' w' q=>by rw[aa];exact q
 have HR:Hid (∀e w',e=Ending.returned (.int .i64 ((m:Int)+1))/\(∃K',ac K' w')->e=Ending.returned (.int .i64 ((m:Int)+1))/\∃K',L8 w s cs (.slice a m c) m TF kind K' w'):=fun e w' ⟨q1,K',q2⟩=>⟨q1,K',by rw[aa]at q2;exact q2⟩
 clear aa;refine Calls.mono ?_ (Aa HR);generalize EF kind=FT at *;clear h af h6 hk;go_enter Tryz.func145,Tryz.ntmps145;go_wp2_with fail
 go_region_law (first
  |(refine Av rfl 199 #[.tmp 11] #[3] rfl ads #[.int .i64 kind] rfl _ ((Aa HF) _) ?_;rintro e w1 ⟨rfl,ak,ag,ap⟩;have ax:s<w1.heap.size:=Nat.lt_of_lt_of_le hl ag.size;have ai:=Ac (D7 ag);have an:=Ac ak;have az:w1.frozen? ⟨s,6,none⟩=false:=(ag.frozen (p:=⟨s,6,none⟩) hl).trans z6;have aw:w1.cell? ⟨s,6,none⟩=some (.slice a m c):=(ag.cell (p:=⟨s,6,none⟩) hl).trans c6;clear ag ak;refine⟨_,rfl,?_⟩)
  |(refine Bp rfl (.tmp 9) (.tmp 14) 135 rfl 0 99 i0 (.agg #[.int .i64 0,.nilIface,.slice none 0 0]) 3 48 Tryz.underlying135 hi ar au av rfl (by decide) (.slice a m c) m TF rfl (by exact(Bu (Aa am) (Aa ai)).alloc _) ⟨w1.heap.size,0,none⟩ 1 1 [.int .i64 kind,.iface FT (ptr w.heap.size),.slice none 0 0] rfl rfl (by exact Y8 w1 kind FT w.heap.size) (by simp[Value.oneCell']) (by unfold maxLen;omega) (by omega) (by omega) ?_;intro v' wz ab ad aj;obtain⟨va,vc,aq⟩:=AX ab;subst aq;have ao:=(Aa HP) (Aa ai) (Aa an) ap ((Below.refl _ _).alloc (Nat.le_refl _) _) ad ab aj (by simp);obtain⟨ah,ae⟩:=ao;have al:=Ac ((Aa HQ) _ _ ae);have d1:=((Aa HZ) wz ah).1;have z1:=((Aa HZ) wz ah).2;have ay:=lt_of_block ah;clear ab ad aj ah ae))
 all_goals
  go_wp2;go_returns;exact⟨rfl,_,Aa al⟩
theorem YJ{s:List UInt8}(h:R.CZ s=true)(i:Nat)(hi:i<(str s).size):97<=(((str s)[i]'hi).toNat:Int)/\(((str s)[i]'hi).toNat:Int)<=122:=by
 unfold R.CZ at h;simp only[Bool.and_eq_true,decide_eq_true_eq,List.all_eq_true]at h;have hg:=PZ s i hi;have:=h.2 _ (List.mem_of_getElem? hg);omega
theorem Js(s:List UInt8)(h:R.CZ s=true)(w:World):Calls Tryz.prog 142 #[.string (str s)] w fun e w'=>e=.returned (.bool true)/\w'=w:=by
 have HA:=Ac (YJ h);have hz:(str s).size=s.length:=Ax s;have hl:1<=(str s).size/\(str s).size<=8:=by
  unfold R.CZ at h;simp only[Bool.and_eq_true,decide_eq_true_eq]at h;omega
 generalize str s=S at *;clear h hz;obtain⟨n,hn⟩:∃n,S.size=n:=⟨_,rfl⟩;rw[hn]at hl;go_enter Tryz.func142,Tryz.ntmps142;go_wp2;go_loopw [14] (fun iv wr=>∃i:Nat,i<=n/\iv=.int .i64 i/\wr=w) (fun iv _=>n-(intOf iv).toNat)
 case atStart=>exact⟨0,Nat.zero_le _,rfl,rfl⟩
 case round=>
  obtain⟨i,hi,rfl,rfl⟩:=hrel;by_cases aa:i<n
  ·have hq:=(Aa HA) i (by omega);obtain⟨h1,h2⟩:=hq;go_wp2;exact⟨⟨i+1,by omega,by go_num,trivial⟩,by simp[intOf];omega⟩
  ·obtain rfl:i=n:=by omega
   go_wp2;go_returns;exact⟨rfl,rfl⟩
theorem adt:∀args w,(callFunc 146 args).run Tryz.prog w=.ok (.enter 146 args) w:=fun _ _=>rfl
theorem QD(w:World)(s nm m c nn:Nat)(a:Option Addr)(name:List UInt8)(kind u:Int)(A C:World->Prop)(ac:R.CZ name=true)(hk:0<=kind/\kind<=2)(c5:w.cell? ⟨s,5,none⟩=some (.map (some nm)))(c6:w.cell? ⟨s,6,none⟩=some (.slice a m c))(hm:m<255)(an:nn<6)
  (aa:(Instr.lookup 134 (.map (some nm)) (.string (str name)) true).run Tryz.prog w=.ok (.tuple #[.int .i64 0,.bool false]) w)
  (ae:(Builtin.len_ #[134] 3 #[.map (some nm)]).run Tryz.prog w=.ok (.int .i64 (nn:Int)) w)
  (aj:Hid (Calls Tryz.prog 145 #[ptr s,.int .i64 kind] w fun e w'=>e=.returned (.int .i64 u)/\A w'))
  (HA:Hid (∀w',A w'->w'.cell? ⟨s,5,none⟩=some (.map (some nm))))
  (ad:Hid (∀w1 w2,A w1->Below w1.heap.size w1 w2->∃w3,(Instr.mapUpdate 134 (.map (some nm)) (.string (str name)) (.int .i64 u)).run Tryz.prog w2=.ok () w3/\C w3)):
  Calls Tryz.prog 83 #[ptr s,.string (str name),.int .i64 kind] w fun e w'=>e=.returned (.tuple #[.int .i64 u,.int .i64 0])/\C w':=by
 have ai:=Ac (fun w=>Js name ac w);have ag:name.length<=1000:=by
  unfold R.CZ at ac;simp only[Bool.and_eq_true,decide_eq_true_eq]at ac;omega
 have ak:=Ac (fun w=>Ei name w ag);have ah:Hid (∀w,Calls Tryz.prog 143 #[.int .i64 kind] w fun e w'=>e=.returned (.bool true)/\w'=w):=fun w=>by
  refine(Cm kind w).mono ?_;rintro e w' ⟨rfl,rfl⟩;refine⟨?_,rfl⟩;have:(kind==0 || kind==1 || kind==2)=true:=by simp;omega
  rw[this]
 have e1:((nn:Int)==6)=false:=by simp;omega
 have e2:((m:Int)==255)=false:=by simp;omega
 generalize str name=SN at *;clear ac hm an ag;go_enter Tryz.func83,Tryz.ntmps83;go_wp2_with (first|(go_at_call 142;refine((Aa ai) _).mono ?_;rintro e w' ⟨rfl,ab⟩;rw[ab];clear ab)|(go_at_call 143;refine((Aa ah) _).mono ?_;rintro e w' ⟨rfl,ab⟩;rw[ab];clear ab))
 refine(Aa aj).mono ?_;rintro e w1 ⟨rfl,hA⟩;have d0:=(Aa HA) w1 hA;have am:=lt_of_cell d0;have al:=Ac hA;clear hA aa ae c5 c6;go_wp2;go_region_law (refine Av rfl 146 #[.tmp 53] #[9] rfl adt #[.string SN] rfl _ ((Aa ak) _) ?_;rintro e w2 ⟨rfl,hb⟩;have f0:w2.cell? ⟨s,5,none⟩=some (.map (some nm)):=(hb.cell (p:=⟨s,5,none⟩) am).trans d0;have af:=(Aa ad) w1 w2 (Aa al) (D7 hb);obtain⟨w3,ao,hC⟩:=af;have HC:=Ac hC;clear hC hb;refine⟨_,rfl,?_⟩)
 all_goals
  go_wp2;go_returns;exact⟨rfl,Aa HC⟩
def BJ(G:R.Wd)(name:List UInt8)(kind:Int):R.Wd:={G with names:=G.names++[name],stands:=G.stands++[(G.Ab.length:Int)+1],Ab:=G.Ab++[⟨kind,true,[]⟩]}
theorem QE(h:R.Wf G){kind:Int}(hn:¬name∈G.names)(h6:G.names.length<6)(aa:G.Ab.length<255)(hk:0<=kind/\kind<=2):R.Wf (BJ G name kind):=by
 refine⟨h.cf,h.Gt,fun i c hc=>?_,h.E3,h.Eo,by simp[BJ];omega,fun s hs=>?_,by simp[BJ];omega,by simp[BJ,h.st],?_,fun u hu=>?_⟩
 ·have h0:=h.cl i c hc;refine⟨h0.lines,h0.Ae,fun u hu=>?_,h0.line⟩;have:=h0.bound u hu;simp[BJ];omega
 ·rcases List.mem_append.1 hs with hs|hs
  ·exact h.Kh s hs
  ·simp only[List.mem_singleton]at hs;subst hs;exact hk
 ·show (G.names++[name]).Nodup;rw[List.nodup_append];refine⟨h.nd,by simp,fun a ha b hb e=>?_⟩;simp only[List.mem_singleton]at hb;subst hb;exact hn (e ▸ ha)
 ·rcases List.mem_append.1 hu with hu|hu
  ·have:=h.I5 u hu;simp[BJ];omega
  ·simp only[List.mem_singleton]at hu;subst hu;simp[BJ];omega
theorem Ui(hn:¬name∈G.names):AF G name=none:=by
 unfold AF R.BI;rw[List.findIdx?_eq_none_iff.2 (fun x hx=>by simp;exact fun e=>hn (e ▸ hx))];rfl
theorem Nz(aa:G.stands.length=G.names.length){kind:Int}(hn:¬name∈G.names)(x:List UInt8):(x=name->AF (BJ G name kind) x=some ((G.Ab.length:Int)+1))/\(¬x=name->AF (BJ G name kind) x=AF G x):=by
 unfold AF R.BI BJ;simp only[List.findIdx?_append];constructor
 ·rintro rfl;rw[List.findIdx?_eq_none_iff.2 (fun y hy=>by simp;exact fun e=>hn (e ▸ hy))];simp[List.findIdx?_cons,aa]
 ·intro hx;cases hf:G.names.findIdx? (·==x) with
  |some k=>
   have hk:=(List.findIdx?_eq_some_iff_getElem.1 hf).1;simp[List.getElem?_append_left (show k<G.stands.length by omega)]
  |none=>
   have:(name==x)=false:=by simpa using fun e=>hx e.symm
   simp[List.findIdx?_cons,this]
theorem Works.BP(h:Works w F l b K k W):F b:=by
 cases h<;>assumption
theorem Works.wide{F':Aq}(h:Works w F l b K k W)(hF:∀k,F k->F' k):Works w F' l b K k W:=h.keep (Af.refl (fun _=>False) w) (fun _ _ _ _ _ _ _ q=>q) hF
def YO(kind:Int)(b:Nat):R.Sv×MV:=(⟨kind,true,[]⟩,⟨.iface (EF kind) (ptr b),.slice none 0 0,b,.slice none 0 0⟩)
theorem IA{α:Type}{l:List α}{x y:α}(h:(l++[x])[i]?=some y):l[i]?=some y\/(i=l.length/\y=x):=by
 rcases Nat.lt_trichotomy i l.length with q|q|q
 ·rw[List.getElem?_append_left q]at h;exact Or.inl h
 ·subst q;simp at h;exact Or.inr ⟨rfl,h.symm⟩
 ·rw[List.getElem?_append_right (by omega),List.getElem?_singleton,if_neg (by omega)]at h;cases h
theorem Cg.begun{sv:List R.Sv}{Aj:List Int}{seen:List R.Sn}{kind:Int}(h:Cg s n nm t F c sv Aj seen jobs w)(ah:∀k,F k->k<w.heap.size)(hb:L8 w s (Ce n nm t c Aj seen) t.K t.zs.length (tab GX t.zs) kind K' w'):Cg s n nm {t with K:=K',zs:=t.zs++[YO kind w.heap.size]} (fun k=>F k\/k=w.heap.size\/K'.ownBlock=some k) c (sv++[⟨kind,true,[]⟩]) Aj seen jobs w':=by
 obtain⟨f1,f2,f3⟩:=h.BP;obtain⟨b1,b2,b3,b4,hk⟩:=hb;have ag:JD w F (fun k=>k=s\/t.K.ownBlock=some k):=fun b aj t' z' _ ht aa hE=>by
  rcases hE with rfl|e
  ·rw[h.bs]at aa;cases aa;cases ht
  ·rcases id h.made.2 with ⟨q,_⟩|⟨g,cap,ab,q,_,hg,_⟩
   ·rw[q]at e;cases e
   ·rw[q]at e;cases e;rw[hg]at aa;cases aa;cases ht
 have alive:∀{i:Nat} {z:R.Sv×MV},t.zs[i]?=some z->z.1.alive=true->z.2.sb<w.heap.size:=fun hz ha=>by
  have:=(h.each _ (List.mem_of_getElem? hz)).wk;rw[if_pos ha]at this;exact ah _ this.BP
 refine⟨b1,?_,?_,fun z hz=>?_,fun i j z y hz hy ac k af=>?_,fun i j z y hz hy ac ad ae=>?_,fun i r hr ai=>?_,h.inj,?_,Or.inl f1,Or.inl f2,fun j hj=>Or.inr (Or.inr hj)⟩
 ·simp only[List.map_append,h.zs];rfl
 ·simp only[List.length_append,List.length_singleton,EV];exact b2
 ·rcases List.mem_append.1 hz with q|q
  ·exact(h.each z q).keep hk ag (fun _ r=>Or.inl r)
  ·rw[List.mem_singleton.1 q];refine⟨?_,⟨[],rfl,⟨rfl,Or.inl ⟨rfl,rfl⟩⟩,fun y hy=>by cases hy⟩,fun j hj=>by cases hj⟩;rw[if_pos (show (YO kind w.heap.size).1.alive=true from rfl)];exact b3.wide (fun k r=>Or.inr (Or.inl r))
 ·rcases IA hz with q|⟨q,rfl⟩
  ·rcases IA hy with r|⟨r,rfl⟩
   ·exact h.dns i j z y q r ac k af
   ·intro e;cases e
  ·cases af
 ·rcases IA hz with q|⟨q,rfl⟩
  ·rcases IA hy with r|⟨r,rfl⟩
   ·exact h.Z8 i j z y q r ac ad ae
   ·have:=alive q ad;refine⟨fun e=>?_,fun k _ e=>by cases e⟩;simp only[YO]at e;omega
  ·rcases IA hy with r|⟨r,rfl⟩
   ·have:=alive r ae;refine⟨fun e=>?_,fun k e=>by cases e⟩;simp only[YO]at e;omega
   ·omega
 ·obtain⟨y,h1,h2,h3⟩:=h.ln i r hr ai;refine⟨y,hk.at h1 ?_,h2,Or.inl h3⟩;rintro (e|e)
  ·exact AZ h1 h.bs (by decide) e
  ·exact AV h.made h1 (by decide) e
 ·obtain⟨a,b,hj⟩:=h.jobs;refine⟨a,b,hk.at hj ?_⟩;rintro (e|e)
  ·rw[e,h.bs]at hj;cases hj
  ·rcases id h.made.2 with ⟨q,_⟩|⟨g,cap,ab,q,_,hg,_⟩
   ·rw[q]at e;cases e
   ·rw[q]at e;cases e;rw[hg]at hj;cases hj
theorem LW.begun(h:LW p F G w){kind:Int}(hk:0<=kind/\kind<=2)(aa:G.Ab.length<255):
  Calls Tryz.prog 145 #[ptr p.s,.int .i64 kind] w fun e w'=>e=.returned (.int .i64 ((G.Ab.length:Int)+1))/\∃t F',LW {p with t:=t} F' {G with Ab:=G.Ab++[⟨kind,true,[]⟩]} w'/\Ap F F' w w':=by
 have ad:p.t.zs.length=G.Ab.length:=by rw[<-h.BN.zs,List.length_map]
 obtain⟨a,c,hK⟩:=AX h.BN.made;have hm:=h.BN.made;rw[hK]at hm;refine(Vq w p.s p.t.zs.length c (Ce p.n p.nm p.t G.c G.Aj G.seen) (tab GX p.t.zs) a kind hk h.BN.bs (by rw[<-hK];rfl) hm (by omega)).mono ?_;rintro e w' ⟨rfl,K',hb⟩;rw[<-hK]at hb;refine⟨by rw[ad],{p.t with K:=K',zs:=p.t.zs++[YO kind w.heap.size]},fun k=>F k\/k=w.heap.size\/K'.ownBlock=some k,?_,?_⟩
 ·have hs:=h.BN.begun h.lt hb;have hE:Ca w (fun k=>k=p.s\/p.t.K.ownBlock=some k):=(Ca.one h.BN.bs (by decide)).or (Ca.row h.BN.made (by decide));refine h.Ha hs hb.keeps hE (fun _ q=>Or.inl q) (fun k ab=>?_) ?_ h.Db (fun i c hc u=>?_)
  ·have ac:=hb.keeps.size;rcases ab with q|q|q
   ·exact Nat.lt_of_lt_of_le (h.lt k q) ac
   ·have:=hb.wk;subst q;cases this with
    |counter _ h2 _=>exact(Array.getElem?_eq_some_iff.1 h2).1
    |FJ _ h2 _ _=>exact(Array.getElem?_eq_some_iff.1 h2).1
    |Jo _ _ _ _ h2 _ _ _ _=>exact(Array.getElem?_eq_some_iff.1 h2).1
   ·exact(World.ownsRow.lt hb.row k q).2
  ·refine h.wf.serve hk aa h.wf.nm h.wf.st h.wf.nd (fun u hu=>?_);have:=h.wf.I5 u hu;omega
  ·unfold BL;by_cases hu:u∈c.bound
   ·rw[if_pos hu,if_pos hu];have:=(h.wf.cl i c hc).bound u hu;unfold kindOf;simp only;rw[List.getElem?_append_left (by omega)]
   ·rw[if_neg hu,if_neg hu]
 ·refine⟨hb.keeps.mono (fun k _ q=>?_),fun k q=>?_⟩
  ·rcases q with rfl|q
   ·exact h.BN.BP.1
   ·exact h.BN.BP.2.2 k q
  ·rcases q with q|q|q
   ·exact Or.inl q
   ·exact Or.inr (by omega)
   ·rcases hb.at' with e|⟨j,e,hj⟩
    ·exact Or.inl (h.BN.BP.2.2 k (e ▸ q))
    ·rw[e]at q;cases q;exact Or.inr (by omega)
theorem LW.Q0(h:LW p F G w){N:List (List UInt8)}{S:List Int}(hk:Af (fun k=>k=p.nm) w w')(hm:Mp w' 9 p.nm NU (AF {G with names:=N,stands:=S}) N.length)(ae:R.Wf {G with names:=N,stands:=S}):LW p F {G with names:=N,stands:=S} w'/\Ap F F w w':=by
 obtain⟨hx,hn,af,ad⟩:=h.BP;obtain⟨es,q,hq⟩:=h.names.block;have ab:Avoid w F (fun k=>k=p.nm):=Avoid.tags (fun b hb=>Or.inr ⟨es,q,by subst hb;exact hq⟩);have aa:=fun (i:Nat) (c:R.Cl) (hc:G.Ad[i]?=some c)=>(List.getElem?_eq_some_iff.1 hc).1
 have at':∀{b:Nat} {ys:Array Value} {t:TypeId} {f:Nat×Nat},w.heap[b]?=some (.cells ys t f)->w'.heap[b]?=some (.cells ys t f):=fun hb=>hk.at hb (Fv hb hq)
 refine⟨⟨ae,h.Db,at' h.bx,?_,?_,h.BN.keep hk ab (fun _ r=>r),hm,fun i c hc=>at' (h.cl i c hc),fun i c hc=>?_,fun i c hc=>(h.bound i c hc).keep hk (h.FG i (aa i c hc)).2.2.2,h.BP,h.FG,h.inj,fun k hf=>Nat.lt_of_lt_of_le (h.lt k hf) hk.size⟩,hk.mono (fun k _ e=>by rw[e];exact ad),fun _ r=>Or.inl r⟩
 ·obtain⟨ac,h1,h2⟩:=h.XH;exact⟨ac,at' h1,h2⟩
 ·obtain⟨K,h1,h2,h3⟩:=h.bn;exact⟨K,at' h1,hk.row h2 (fun j hj e=>FU h2 hq (e ▸ hj)),h3⟩
 ·obtain⟨xs,h1,h2,h3⟩:=h.ln i c hc;exact⟨xs,at' h1,h2,h3.Eg hk ab.sv (fun _ r=>r)⟩
theorem LW.exported(h:LW p F G w){kind:Int}(ac:R.CZ name=true)(hk:0<=kind/\kind<=2)(hn:¬name∈G.names)(h6:G.names.length<6)(ab:G.Ab.length<255):
  Calls Tryz.prog 83 #[ptr p.s,.string (str name),.int .i64 kind] w fun e w'=>e=.returned (.tuple #[.int .i64 ((G.Ab.length:Int)+1),.int .i64 0])/\∃t F',LW {p with t:=t} F' (BJ G name kind) w'/\Ap F F' w w':=by
 obtain⟨a,c,hK⟩:=AX h.BN.made;have aj:name.length<=8:=by
  unfold R.CZ at ac;simp only[Bool.and_eq_true,decide_eq_true_eq]at ac;omega
 have ak:p.t.zs.length=G.Ab.length:=by rw[<-h.BN.zs,List.length_map]
 have af:=Ui hn;have aa:=M4 h.names (s:=name) (by unfold maxLen;omega);rw[af]at aa;have ai:=QE h.wf (name:=name) (kind:=kind) hn h6 ab hk;refine QD w p.s p.nm p.t.zs.length c G.names.length a name kind _ (fun w'=>∃t F',LW {p with t:=t} F' {G with Ab:=G.Ab++[⟨kind,true,[]⟩]} w'/\Ap F F' w w') _ ac hk (cell_of h.BN.bs 5 _ rfl) (cell_of h.BN.bs 6 _ (by rw[<-hK];rfl)) (by omega) h6 aa (h.names.len Tryz.underlying134 3) (h.begun hk ab) ?_ ?_
 ·rintro w' ⟨t,F',hL,_⟩;exact cell_of hL.BN.bs 5 _ rfl
 ·rintro w1 w2 ⟨t,F',hL,hW⟩ hb;have ae:=hL.below hb;obtain⟨w3,ad,hm,ah⟩:=Vb ae.names (by simp only;omega) (s:=name) (by unfold maxLen;omega) (v:=(G.Ab.length:Int)+1) (by omega) (AF (BJ G name kind)) (Nz h.wf.st hn);refine⟨w3,ad,t,F',?_⟩;have ag:AF {G with Ab:=G.Ab++[⟨kind,true,[]⟩]} name=none:=af;rw[ag]at hm;have q:=ae.Q0 (N:=G.names++[name]) (S:=G.stands++[(G.Ab.length:Int)+1]) (Hf ah) (by simpa [BJ] using hm) ai;exact⟨q.1,(hW.trans (Ap.Al F' hb)).trans q.2⟩
end Go.Proofs.YtblomippkddgiabGreatDoor
