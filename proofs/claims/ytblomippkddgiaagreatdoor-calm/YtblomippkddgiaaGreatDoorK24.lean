import Derived.Test.YtblomippkddgiaaGreatDoorK23
import Derived.Lib.ConvBytes
set_option maxRecDepth 100000
set_option maxHeartbeats 1000000
namespace Go.Proofs.YtblomippkddgiaaGreatDoor
open Go.RowKit
theorem Ue(w:World):Calls Tryz.prog 74 #[.slice none 0 0] w fun e w'=>e=.returned (.slice none 0 0)/\w'=w:=by
 have hq:∀w,(binOp .eql 44 (.slice none 0 0) (.slice none 0 0)).run Tryz.prog w=.ok (.bool true) w:=fun w=>by kernel_rfl
 go_enter Tryz.func74,Tryz.ntmps74;go_wp2;go_returns;exact⟨rfl,rfl⟩
theorem Pd{w:World}{b off:Nat}:∀(v:List V.It),(∀j x,v[j]?=some x->w.cell? ⟨b,off+j*2,none⟩=some (.int .i64 x.1)/\w.cell? ⟨b,off+j*2+1,none⟩=some (.string x.2))->∀j u,(V.flat v)[j]?=some u->w.cell? ((⟨b,off,none⟩:Addr).add j)=some u:=fun v h j u hj=>by
 have hl:=(List.getElem?_eq_some_iff.1 hj).1;rw[V.Fq]at hl;have hx:v[j / 2]?=some v[j / 2]:=List.getElem?_eq_getElem (by omega);obtain⟨f0,f1⟩:=V.flat_get v (j / 2) _ hx;obtain⟨c0,c1⟩:=h (j / 2) _ hx;rw[Addr.add_lit];rcases Nat.mod_two_eq_zero_or_one j with q|q
 ·have e:j / 2*2=j:=by omega
  rw[e]at f0 c0;rw[hj]at f0;cases f0;exact c0
 ·have e:j / 2*2+1=j:=by omega
  rw[e]at f1;rw[hj]at f1;cases f1;rw[Nat.add_assoc,e]at c1;exact c1
theorem K5(w:World)(b off cap:Nat)(v:List V.It)(hn:v.length<=1000)(h:∀j x,v[j]?=some x->w.cell? ⟨b,off+j*2,none⟩=some (.int .i64 x.1)/\w.cell? ⟨b,off+j*2+1,none⟩=some (.string x.2))(hb:b<w.heap.size):
  Calls Tryz.prog 74 #[.slice (some ⟨b,off,none⟩) v.length cap] w fun e w'=>(∃O,e=.returned O/\V.Row w' w.heap.size O v/\¬O=.slice none 0 0)/\Below w.heap.size w w':=by
 have hq:∀w,(binOp .eql 44 (.slice (some ⟨b,off,none⟩) v.length cap) (.slice none 0 0)).run Tryz.prog w=.ok (.bool false) w:=fun w=>by rfl
 obtain⟨i0,hi,hz0,hz1,hz2⟩:=info_parts V.Lf;have hB:Below w.heap.size w (w.alloc (.cells #[] 106)):=(Below.refl _ _).alloc (Nat.le_refl _) _;have HSRC:Hid (∀j u,(V.flat v)[j]?=some u->(w.alloc (.cells #[] 106)).cell? ((⟨b,off,none⟩:Addr).add j)=some u):=Pd (w:=w.alloc (.cells #[] 106)) v (fun j x hx=>by
  obtain⟨h1,h2⟩:=h j x hx;exact⟨(hB.cell (p:=⟨b,_,none⟩) hb).trans h1,(hB.cell (p:=⟨b,_,none⟩) hb).trans h2⟩)
 have HROW:Hid ((w.alloc (.cells #[] 106)).ownsRow w.heap.size 106 2 (.slice (some ⟨w.heap.size,0,none⟩) 0 0) 0 []):=⟨rfl,Or.inr ⟨w.heap.size,0,#[],rfl,Nat.le_refl _,heap_alloc_new w _,Nat.le_refl _,Nat.zero_le _,rfl,rfl⟩⟩;have hfl:=V.Fq v;have HB:=Ab hB;clear h;go_enter Tryz.func74,Tryz.ntmps74;go_wp2_with (at_builtin;go_must (refine wpList_append_own_at _ rfl (.tmp 5) (.tmp 6) 44 rfl w.heap.size 106 i0 (.agg #[.int .i64 0,.string ⟨#[]⟩]) 2 24 Tryz.underlying44 hi hz0 hz1 hz2 rfl (by decide) (.slice (some ⟨w.heap.size,0,none⟩) 0 0) 0 [] rfl (Aa HROW) ⟨b,off,none⟩ v.length cap (V.flat v) rfl hfl (Aa HSRC) (V.Jl v) (by unfold maxLen;omega) (by omega) (by simp) ?_))
 intro v' wz hown hgrow hnil _;obtain⟨va,vn,vc,hvs⟩:=Ar hown;subst hvs;have hz:Below w.heap.size w wz:=(Aa HB).grown hgrow (by simp) (fun k hk=>by cases hk;exact Nat.le_refl _);have HO:=Ab hown;have HN:=Ab hnil;clear hown hgrow hnil;go_wp2
 go_ret
 refine⟨⟨_,rfl,?_,fun e=>?_⟩,hz⟩
 ·exact Aa HO
 ·exact(Aa HN) e
theorem OO{w:World}{F:Aq}{X:Value}{v:List R.It}(h:BD w F X v)(hn:v.length<=1000):Calls Tryz.prog 74 #[X] w fun e w'=>(∃O,e=.returned O/\V.Row w' w.heap.size O v/\(O=.slice none 0 0↔v=[]))/\Below w.heap.size w w':=by
 rcases h with ⟨rfl,rfl⟩|⟨b,off,cap,cur,hne,rfl,_,_,h4,h5⟩
 ·refine(Ue w).mono ?_;rintro e w' ⟨rfl,rfl⟩;exact⟨⟨_,rfl,V.Oc _ _,by simp⟩,Below.refl _ _⟩
 ·refine(K5 w b off cap v hn (fun j x hx=>?_) (Array.getElem?_eq_some_iff.1 h4).1).mono ?_
  ·obtain⟨r1,r2⟩:=h5 j x hx;exact⟨by simp[World.cell?,h4,r1],by simp[World.cell?,h4,r2]⟩
  ·rintro e w' ⟨⟨O,rfl,h1,h2⟩,hb⟩;exact⟨⟨O,rfl,h1,fun e=>absurd e h2,fun e=>absurd e hne⟩,hb⟩
theorem ac6:∀args w,(callFunc 74 args).run Tryz.prog w=.ok (.enter 74 args) w:=fun _ _=>rfl
def aae(r:Int×Int×List R.It×Int)(O:Value):Ending:=.returned (.tuple #[.agg #[.int .i64 r.1,.int .i64 r.2.1,O],.int .i64 r.2.2.2])
theorem Qr(w:World)(F:Aq)(cb lb nl k:Nat)(x:DK)(v:List R.It)(hv:v.length<=1000)(hit:BD w F x.rv v)(hk:k<nl)(b3:w.cell? ⟨cb,3,none⟩=some (.slice (some ⟨lb,0,none⟩) nl nl))(ha:aan w lb k x):
  Calls Tryz.prog 39 #[ptr cb,.int .i64 (k:Int)] w fun e w'=>(∃O,e=.returned (.tuple #[.agg #[.int .i64 x.state,.int .i64 x.seq,O],.int .i64 0])/\V.Row w' w.heap.size O v)/\Below w.heap.size w w':=by
 obtain⟨ra,rn,rc,hrv⟩:=FQ hit;have HCL:Hid (∀w',Below w.heap.size w w'->Calls Tryz.prog 74 #[.slice ra rn rc] w' fun e w''=>(∃a n c,e=.returned (.slice a n c)/\V.Row w'' w'.heap.size (.slice a n c) v)/\Below w'.heap.size w' w''):=fun w' hb=>by
  have hit':BD w' F (.slice ra rn rc) v:=by
   rw[<-hrv];exact hit.keep (Af.Aj hb (fun _=>False)) (fun _ _ _ _ h=>h) (fun _ q=>q)
  refine(OO hit' hv).mono ?_;rintro e w'' ⟨⟨O,rfl,h1,_⟩,h2⟩;obtain⟨a,n,c,rfl⟩:=Ar h1;exact⟨⟨a,n,c,rfl,h1⟩,h2⟩
 obtain⟨st,sq,rv,u,pc,m,ac,cm,wt,tr⟩:=x;obtain⟨a0,a1,a2,a3,a4,a5,a6,a7,a8,a9⟩:=ha;simp only at a0 a1 a2 a3 a4 a5 a6 a7 a8 a9 hrv hit;rw[hrv]at a2;generalize str m=SM at *;generalize str cm=SC at *;have q1:(0:Int)<=(k:Int):=by omega
 have q2:(k:Int)<(nl:Int):=by omega
 have hl1:=lt_of_cell b3;have hl2:=lt_of_cell a0;simp only;obtain⟨BX,hBX⟩:∃BX,(w.alloc (.cells #[.int .i64 0,.int .i64 0,.slice none 0 0] 46)).alloc (.cells #[.int .i64 st,.int .i64 sq,.slice ra rn rc,.int .i64 u,.int .i64 pc,.string SM,.int .i64 ac,.string SC,.int .i64 wt,.int .i64 tr] 139)=BX:=⟨_,rfl⟩;have HB:Hid (Below w.heap.size w BX):=by
  rw[<-hBX];exact((Below.refl _ _).alloc (Nat.le_refl _) _).alloc (by simp) _
 have hbx:BX.heap[w.heap.size+1]?=some (.cells #[.int .i64 st,.int .i64 sq,.slice ra rn rc,.int .i64 u,.int .i64 pc,.string SM,.int .i64 ac,.string SC,.int .i64 wt,.int .i64 tr] 139 (0,0)):=by
  rw[<-hBX,<-World.size_alloc w];exact heap_alloc_new _ _
 have hby:BX.heap[w.heap.size]?=some (.cells #[.int .i64 0,.int .i64 0,.slice none 0 0] 46 (0,0)):=by
  rw[<-hBX];exact(Below.heap_alloc _ _ _ (by simp)).trans (heap_alloc_new w _)
 have c0:BX.cell? ⟨w.heap.size+1,0,none⟩=some (.int .i64 st):=cell_of hbx 0 _ rfl;have c1:BX.cell? ⟨w.heap.size+1,1,none⟩=some (.int .i64 sq):=cell_of hbx 1 _ rfl;have c2:BX.cell? ⟨w.heap.size+1,2,none⟩=some (.slice ra rn rc):=cell_of hbx 2 _ rfl;have hs:BX.heap.size=w.heap.size+2:=by rw[<-hBX];simp
 have HBX:=Ab hBX;have HBY:=Ab hby;have HC:=Ab ((Aa HCL) BX.drew (Aa HB).drew);have HEND:Hid (∀(w3:World) (a:Option Addr) (n c:Nat),V.Row w3 BX.drew.heap.size (.slice a n c) v->Below BX.drew.heap.size BX.drew w3->(w3.cell? ⟨w.heap.size,0,none⟩=some (.int .i64 0)/\w3.cell? ⟨w.heap.size,1,none⟩=some (.int .i64 0)/\w3.cell? ⟨w.heap.size,2,none⟩=some (.slice none 0 0)/\(∀j,w3.frozen? ⟨w.heap.size,j,none⟩=false)/\w.heap.size<w3.heap.size/\w3.cell? ⟨w.heap.size+1,0,none⟩=some (.int .i64 st)/\w3.cell? ⟨w.heap.size+1,1,none⟩=some (.int .i64 sq)/\w3.cell? ⟨w.heap.size+1,2,none⟩=some (.slice ra rn rc))/\V.Row (((w3.setCell ⟨w.heap.size,0,none⟩ (.int .i64 st)).setCell ⟨w.heap.size,1,none⟩ (.int .i64 sq)).setCell ⟨w.heap.size,2,none⟩ (.slice a n c)) w.heap.size (.slice a n c) v/\Below w.heap.size w (((w3.setCell ⟨w.heap.size,0,none⟩ (.int .i64 st)).setCell ⟨w.heap.size,1,none⟩ (.int .i64 sq)).setCell ⟨w.heap.size,2,none⟩ (.slice a n c))):=fun w3 a n c hrow hb3=>by
  have hds:BX.drew.heap.size=w.heap.size+2:=hs;have g3:w3.heap[w.heap.size]?=some (.cells #[.int .i64 0,.int .i64 0,.slice none 0 0] 46 (0,0)):=(hb3.block _ (by omega)).trans (Aa HBY);have g4:=(hb3.block (w.heap.size+1) (by omega)).trans (show BX.drew.heap[w.heap.size+1]?=_ from hbx);have hbw:Below w.heap.size w w3:=(Aa HB).drew.trans (hb3.mono (by omega));refine⟨⟨cell_of g3 0 _ rfl,cell_of g3 1 _ rfl,cell_of g3 2 _ rfl,fun j=>open_list g3,lt_of_block g3,cell_of g4 0 _ rfl,cell_of g4 1 _ rfl,cell_of g4 2 _ rfl⟩,?_,((hbw.setCell (by simp) _).setCell (by simp) _).setCell (by simp) _⟩;have hkp:Af (fun k=>k=w.heap.size) w3 (((w3.setCell ⟨w.heap.size,0,none⟩ (.int .i64 st)).setCell ⟨w.heap.size,1,none⟩ (.int .i64 sq)).setCell ⟨w.heap.size,2,none⟩ (.slice a n c)):=((Am _).trans (Am _)).trans (Am _);refine V.EF (hkp.row hrow (fun j hj e=>?_)) (by omega);have:=((World.ownsRow.lt hrow) j hj).1;omega
 clear hBX hbx hby HCL hit hrv hs;go_enter Tryz.func39,Tryz.ntmps39;go_wp2_with (first|(go_at_call 73;go_in))
 rw[Aa HBX];go_region_held3 (fun w'=>w'.cell? ⟨w.heap.size+1,0,none⟩=some (.int .i64 st)/\w'.cell? ⟨w.heap.size+1,1,none⟩=some (.int .i64 sq)/\w'.cell? ⟨w.heap.size+1,2,none⟩=some (.slice ra rn rc)) (go_keep) ((go_at_call 74;refine(Aa HC).mono ?_;rintro e w3 ⟨⟨oa,on,oc,rfl,hrow⟩,hb3⟩;have hend:=(Aa HEND) w3 oa on oc hrow hb3;obtain⟨⟨d0,d1,d2,zz,m0,x0,x1,x2⟩,hr,hbw⟩:=hend;have HR:=Ab hr;have HBW:=Ab hbw;clear hrow hb3 hr hbw))
 all_goals
  go_wp2;exact bodyPost_ret (v:=.tuple #[.agg #[.int .i64 st,.int .i64 sq,.slice oa on oc],.int .i64 0]) (by simp[results,Tryz.results39,go_sem,d0,d1,d2]) rfl ⟨⟨_,rfl,Aa HR⟩,Aa HBW⟩
theorem L9(w:World)(cb lb nl:Nat)(ln:Int)(hk:ln<0\/(nl:Int)<=ln)(b3:w.cell? ⟨cb,3,none⟩=some (.slice (some ⟨lb,0,none⟩) nl nl)):
  Calls Tryz.prog 39 #[ptr cb,.int .i64 ln] w fun e w'=>e=.returned (.tuple #[.agg #[.int .i64 0,.int .i64 0,.slice none 0 0],.int .i64 14])/\Below w.heap.size w w':=by
 have HB:Hid (Below w.heap.size w (w.alloc (.cells #[.int .i64 0,.int .i64 0,.slice none 0 0] 46))):=(Below.refl _ _).alloc (Nat.le_refl _) _;have hl:=lt_of_cell b3;by_cases h0:ln<0
 ·have h1:¬0<=ln:=by omega
  clear hk;go_enter Tryz.func39,Tryz.ntmps39;go_wp2_with (first|(go_at_call 73;go_in))
  exact bodyPost_ret (v:=.tuple #[.agg #[.int .i64 0,.int .i64 0,.slice none 0 0],.int .i64 14]) (by simp[results,Tryz.results39,go_sem]) rfl ⟨rfl,Aa HB⟩
 ·have h1:0<=ln:=by omega
  have h2:¬ln<(nl:Int):=by omega
  clear hk;go_enter Tryz.func39,Tryz.ntmps39;go_wp2_with (first|(go_at_call 73;go_in))
  exact bodyPost_ret (v:=.tuple #[.agg #[.int .i64 0,.int .i64 0,.slice none 0 0],.int .i64 14]) (by simp[results,Tryz.results39,go_sem]) rfl ⟨rfl,Aa HB⟩
theorem L8(w:World)(x cs n cap:Nat)(cl ln:Int)(hx:w.cell? ⟨x,2,none⟩=some (.slice (some ⟨cs,0,none⟩) n cap))(hc:cl<0\/(n:Int)<=cl):
  Calls Tryz.prog 16 #[ptr x,.int .i64 cl,.int .i64 ln] w fun e w'=>e=.returned (.tuple #[.agg #[.int .i64 0,.int .i64 0,.slice none 0 0],.int .i64 13])/\Below w.heap.size w w':=by
 have HB:Hid (Below w.heap.size w (w.alloc (.cells #[.int .i64 0,.int .i64 0,.slice none 0 0] 46))):=(Below.refl _ _).alloc (Nat.le_refl _) _;have hl:=lt_of_cell hx;by_cases h0:cl<0
 ·have h1:¬0<=cl:=by omega
  clear hc;go_enter Tryz.func16,Tryz.ntmps16;go_wp2_with (first|(go_at_call 38;go_in))
  exact bodyPost_ret (v:=.tuple #[.agg #[.int .i64 0,.int .i64 0,.slice none 0 0],.int .i64 13]) (by simp[results,Tryz.results16,go_sem]) rfl ⟨rfl,Aa HB⟩
 ·have h1:0<=cl:=by omega
  have h2:¬cl<(n:Int):=by omega
  clear hc;go_enter Tryz.func16,Tryz.ntmps16;go_wp2_with (first|(go_at_call 38;go_in))
  exact bodyPost_ret (v:=.tuple #[.agg #[.int .i64 0,.int .i64 0,.slice none 0 0],.int .i64 13]) (by simp[results,Tryz.results16,go_sem]) rfl ⟨rfl,Aa HB⟩
theorem Kq(w:World)(x cs n cap cb i:Nat)(ln st sq er:Int)(v:List R.It)(hx:w.cell? ⟨x,2,none⟩=some (.slice (some ⟨cs,0,none⟩) n cap))(hi:i<n)(hcs:w.cell? ⟨cs,i,none⟩=some (ptr cb))
  (H30:Hid (∀w',Below w.heap.size w w'->Calls Tryz.prog 39 #[ptr cb,.int .i64 ln] w' fun e w''=>(∃O,e=.returned (.tuple #[.agg #[.int .i64 st,.int .i64 sq,O],.int .i64 er])/\V.Row w'' w'.heap.size O v)/\Below w'.heap.size w' w'')):
  Calls Tryz.prog 16 #[ptr x,.int .i64 (i:Int),.int .i64 ln] w fun e w'=>(∃O,e=.returned (.tuple #[.agg #[.int .i64 st,.int .i64 sq,O],.int .i64 er])/\V.Row w' w.heap.size O v)/\Below w.heap.size w w':=by
 have q1:(0:Int)<=(i:Int):=by omega
 have q2:(i:Int)<(n:Int):=by omega
 have hl1:=lt_of_cell hx;have hl2:=lt_of_cell hcs;have HB:Hid (Below w.heap.size w (w.alloc (.cells #[.int .i64 0,.int .i64 0,.slice none 0 0] 46))):=(Below.refl _ _).alloc (Nat.le_refl _) _;have HC:=Ab ((Aa H30) _ (Aa HB));clear H30;go_enter Tryz.func16,Tryz.ntmps16;go_wp2_with (first|(go_at_call 38;go_in))
 refine(Aa HC).mono ?_;rintro e w1 ⟨⟨O,rfl,hrow⟩,hb⟩;obtain⟨oa,on,oc,hO⟩:=Ar hrow;subst hO;have hs:=hb.size;simp at hs;have hby:w1.heap[w.heap.size]?=some (.cells #[.int .i64 0,.int .i64 0,.slice none 0 0] 46 (0,0)):=(hb.block _ (by simp)).trans (heap_alloc_new w _);have d0:w1.cell? ⟨w.heap.size,0,none⟩=some (.int .i64 0):=cell_of hby 0 _ rfl;have d1:w1.cell? ⟨w.heap.size,1,none⟩=some (.int .i64 0):=cell_of hby 1 _ rfl;have d2:w1.cell? ⟨w.heap.size,2,none⟩=some (.slice none 0 0):=cell_of hby 2 _ rfl;have z0:w1.frozen? ⟨w.heap.size,0,none⟩=false:=open_list hby;have z1:w1.frozen? ⟨w.heap.size,1,none⟩=false:=open_list hby;have z2:w1.frozen? ⟨w.heap.size,2,none⟩=false:=open_list hby;have HW:=Ab (((((Aa HB).trans (hb.mono (by simp))).setCell (p:=⟨w.heap.size,0,none⟩) (by simp) (.int .i64 st)).setCell (p:=⟨w.heap.size,1,none⟩) (by simp) (.int .i64 sq)).setCell (p:=⟨w.heap.size,2,none⟩) (by simp) (.slice oa on oc));have HR:Hid (V.Row (((w1.setCell ⟨w.heap.size,0,none⟩ (.int .i64 st)).setCell ⟨w.heap.size,1,none⟩ (.int .i64 sq)).setCell ⟨w.heap.size,2,none⟩ (.slice oa on oc)) w.heap.size (.slice oa on oc) v):=by
  have hkp:Af (fun k=>k=w.heap.size) w1 (((w1.setCell ⟨w.heap.size,0,none⟩ (.int .i64 st)).setCell ⟨w.heap.size,1,none⟩ (.int .i64 sq)).setCell ⟨w.heap.size,2,none⟩ (.slice oa on oc)):=((Am _).trans (Am _)).trans (Am _);refine V.EF (hkp.row hrow (fun j hj e=>?_)) (by simp);have:=((World.ownsRow.lt hrow) j hj).1;simp at this;omega
 clear hb hby hrow;have m0:w.heap.size<w1.heap.size:=by omega
 go_wp2;exact bodyPost_ret (v:=.tuple #[.agg #[.int .i64 st,.int .i64 sq,.slice oa on oc],.int .i64 er]) (by simp[results,Tryz.results16,go_sem,d0,d1,d2]) rfl ⟨⟨_,rfl,Aa HR⟩,Aa HW⟩
theorem LW.status{p:Pl}{F:Aq}{G:R.Wd}{w:World}(h:LW p F G w)(hres:∀(i:Nat) (c:R.Cl) (k:Nat) (l:R.Ln),G.Ad[i]?=some c->c.lines[k]?=some l->l.result.length<=1000)(cl ln:Int):
  Calls Tryz.prog 16 #[ptr p.x,.int .i64 cl,.int .i64 ln] w fun e w'=>(∃O,e=aae (R.GF G cl ln) O/\V.Row w' w.heap.size O (R.GF G cl ln).2.2.1)/\Below w.heap.size w w':=by
 unfold aae R.GF;by_cases h1:cl<0\/(G.Ad.length:Int)<=cl
 ·rw[if_pos h1];refine(L8 w p.x p.cs G.Ad.length p.cap cl ln (cell_of h.bx 2 _ rfl) h1).mono ?_;rintro e w' ⟨rfl,hb⟩;exact⟨⟨_,rfl,V.Oc _ _⟩,hb⟩
 ·rw[if_neg h1];obtain⟨i,rfl⟩:∃i:Nat,cl=(i:Int):=⟨cl.toNat,by omega⟩;have hi:i<G.Ad.length:=by omega
  have hc:=List.getElem?_eq_getElem hi;have hln:=(h.wf.cl i _ hc).lines;by_cases h2:ln<0\/G.c.lines<=ln
  ·rw[if_pos h2];refine(Kq w p.x p.cs G.Ad.length p.cap (p.cb i) i ln 0 0 14 [] (cell_of h.bx 2 _ rfl) hi (h.Ug hi) ?_);intro w' hb;refine(L9 w' (p.cb i) (p.lb i) _ ln (by omega) (K3 (h.below hb) hc).a3).mono ?_;rintro e w'' ⟨rfl,hb'⟩;exact⟨⟨_,rfl,V.Oc _ _⟩,hb'⟩
  ·rw[if_neg h2];obtain⟨k,rfl⟩:∃k:Nat,ln=(k:Int):=⟨ln.toNat,by omega⟩;have hk:k<G.Ad[i].lines.length:=by omega
   have hl:=List.getElem?_eq_getElem hk;rw[R.Cu hc hl];refine Kq w p.x p.cs G.Ad.length p.cap (p.cb i) i k _ _ 0 _ (cell_of h.bx 2 _ rfl) hi (h.Ug hi) ?_;intro w' hb;have h':=h.below hb;obtain⟨xs,x,hL,hR,hx,hx1,hla,_,hit⟩:=h'.line hc hl;have:=Qr w' F (p.cb i) (p.lb i) _ k x _ (hres i _ k _ hc hl) hit hk (K3 h' hc).a3 hla;rw[hx1.state,hx1.seq]at this;exact this
theorem RX(p:Pk)(hr:AJ p)(w:World):Calls Tryz.prog 14 #[.string (str (CB p))] w fun e w'=>e=.returned (.tuple #[pv p,.int .i64 0])/\Below w.heap.size w w':=by
 have hl:=Od p;have hb:=KC hr;refine(PX (CB p) w (by omega)).mono ?_;unfold Lu;rw[GA hr];rintro e w' ⟨hb,⟨hn,_⟩|⟨p',hp,rfl⟩⟩
 ·cases hn
 ·cases hp;exact⟨rfl,hb⟩
theorem UJ(l:List UInt8)(hn:Dk l=none)(hl:l.length<=1000)(w:World):Calls Tryz.prog 14 #[.string (str l)] w fun e w'=>e=.returned (.tuple #[Yz,.int .i64 7])/\Below w.heap.size w w':=by
 refine(PX l w (by omega)).mono ?_;unfold Lu;rw[hn];rintro e w' ⟨hb,⟨_,rfl⟩|⟨p',hp,_⟩⟩
 ·exact⟨rfl,hb⟩
 ·cases hp
def K4(t:TypeId):Bool:=t==84 || t==89 || t==113 || t==122 || t==134 || t==139 || t==106
def BQ(w:World)(E:Aq):Prop:=∀b,E b->(∃cur t z,w.heap[b]?=some (.cells cur t z)/\K4 t=false)\/∃cap buf cl a r tm,w.heap[b]?=some (.chan cap buf cl a r tm)
theorem BQ.cells{w:World}{E:Aq}(h:BQ w E){b:Nat}{cur:Array Value}{t:TypeId}{z:Nat×Nat}(hb:w.heap[b]?=some (.cells cur t z))(ht:K4 t=true):¬E b:=fun hE=>by
 rcases h b hE with ⟨cur',t',z',h1,h2⟩|⟨cap,buf,cl,a,r,tm,h1⟩
 ·rw[hb]at h1;cases h1;rw[ht]at h2;cases h2
 ·rw[hb]at h1;cases h1
theorem BQ.map{w:World}{E:Aq}(h:BQ w E){b:Nat}{es:Array MapEntry}{cl:Nat}(hb:w.heap[b]?=some (.map es cl)):¬E b:=fun hE=>by
 rcases h b hE with ⟨cur',t',z',h1,h2⟩|⟨cap,buf,cl,a,r,tm,h1⟩
 ·rw[hb]at h1;cases h1
 ·rw[hb]at h1;cases h1
theorem BQ.one{w:World}{b:Nat}{cur:Array Value}{t:TypeId}{z:Nat×Nat}(h:w.heap[b]?=some (.cells cur t z))(ht:K4 t=false):BQ w (fun k=>k=b):=fun k hk=>Or.inl ⟨cur,t,z,by subst hk;exact h,ht⟩
theorem BQ.or{w:World}{E E':Aq}(h:BQ w E)(h':BQ w E'):BQ w (fun k=>E k\/E' k):=fun k hk=>by
 rcases hk with hk|hk
 ·exact h k hk
 ·exact h' k hk
theorem BQ.row{w:World}{B n size:Nat}{e:TypeId}{v:Value}{xs:List Value}(hr:w.ownsRow B e size v n xs)(he:K4 e=false):BQ w (fun k=>v.ownBlock=some k):=fun k hk=>by
 rcases hr.2 with ⟨rfl,_⟩|⟨g,cap,cur,rfl,_,hg,_⟩
 ·cases hk
 ·cases hk;exact Or.inl ⟨_,_,_,hg,he⟩
abbrev Dq(G:R.Wd)(sv:List R.Sv)(Ai:List Int)(seen:List R.Sn)(jobs:List R.Jb):R.Wd:={G with Ac:=sv,Ai:=Ai,seen:=seen,jobs:=jobs}
theorem LW.JB{p:Pl}{F F' E:Aq}{G:R.Wd}{w w':World}(h:LW p F G w){t:SP}{sv:List R.Sv}{Ai:List Int}{seen:List R.Sn}{jobs:List R.Jb}(hs:Cp p.s p.n p.nm t F' G.c sv Ai seen jobs w')(hk:Af E w w')(hE:BQ w E)(hF:∀k,F k->F' k)(hlt:∀k,F' k->k<w'.heap.size)(hwf:R.Wf (Dq G sv Ai seen jobs))(hws:R.KQ G.c Ai seen jobs)(hbd:∀(i:Nat) (c:R.Cl),G.Ad[i]?=some c->∀u,BR (Dq G sv Ai seen jobs) c u=BR G c u):LW {p with t:=t} F' (Dq G sv Ai seen jobs) w':=by
 obtain⟨hx,hn,hcs,hnm⟩:=h.BM;have map':∀{α:Type} {k:TypeId} {b:Nat} {lit:α->Lit} {g:α->Option Int} {n:Nat},Mp w k b lit g n->Mp w' k b lit g n:=fun hm=>by
  obtain⟨es,q,hq⟩:=hm.block;exact hm.keep hk (hE.map hq)
 refine⟨hwf,hws,hk.at h.bx (hE.cells h.bx rfl),?_,?_,hs,map' h.names,fun i c hc=>hk.at (h.cl i c hc) (hE.cells (h.cl i c hc) rfl),fun i c hc=>?_,fun i c hc=>(map' (h.bound i c hc)).congr (hbd i c hc),⟨hF _ hx,hF _ hn,hF _ hcs,hF _ hnm⟩,fun i hi=>?_,h.inj,hlt⟩
 ·obtain⟨cur,h1,h2⟩:=h.YF;exact⟨cur,hk.at h1 (hE.cells h1 rfl),h2⟩
 ·obtain⟨K,h1,h2,h3⟩:=h.bn;refine⟨K,hk.at h1 (hE.cells h1 rfl),hk.row h2 (fun j hj=>?_),fun j hj=>hF _ (h3 j hj)⟩;rcases h2.2 with ⟨rfl,_⟩|⟨g,cap,cur,rfl,_,hg,_⟩
  ·cases hj
  ·cases hj;exact hE.cells hg rfl
 ·obtain⟨xs,h1,h2,h3⟩:=h.ln i c hc;exact⟨xs,hk.at h1 (hE.cells h1 rfl),h2,fun k l x hl hx=>(h3 k l x hl hx).keep hk (fun b cur _ hb=>hE.cells hb rfl) hF⟩
 ·obtain⟨a1,a2,a3,a4⟩:=h.Gs i hi;exact⟨hF _ a1,hF _ a2,hF _ a3,a4⟩
theorem Cp.JR{s n nm:Nat}{t:SP}{F:Aq}{c:R.Cf}{sv:List R.Sv}{Ai:List Int}{seen:List R.Sn}{jobs:List R.Jb}{w:World}(h:Cp s n nm t F c sv Ai seen jobs w){u:Nat}{z:R.Sv×MV}(hz:t.zs[u]?=some z):∃g cap cur,t.K=.slice (some ⟨g,0,none⟩) t.zs.length cap/\w.heap[g]?=some (.cells cur 213 (0,0))/\F g/\w.cell? ⟨g,u*3,none⟩=some (.int .i64 z.1.kind)/\w.cell? ⟨g,u*3+1,none⟩=some z.2.wk/\w.cell? ⟨g,u*3+2,none⟩=some z.2.dn/\t.zs.length<=cap/\cap<=maxLen/\cur.size=cap*3/\cur.toList.take (t.zs.length*3)=tab Hq t.zs:=by
 have hu:=(List.getElem?_eq_some_iff.1 hz).1;rcases id h.made.2 with ⟨_,h0⟩|⟨g,cap,cur,hK,_,hg,hcap,hmax,hsz,htk⟩
 ·omega
 have q:∀j v,j<3->(Hq z)[j]?=some v->w.cell? ⟨g,u*3+j,none⟩=some v:=fun j v hj hv=>by
  have:=GG IW t.zs u j z hz hj;rw[hv,<-htk,List.getElem?_take,if_pos (by omega)]at this;simp[World.cell?,hg];simpa using this
 refine⟨g,cap,cur,hK,hg,h.BM.2.2 g (by rw[hK];rfl),?_,q 1 _ (by omega) rfl,q 2 _ (by omega) rfl,hcap,hmax,hsz,htk⟩;exact q 0 _ (by omega) rfl
theorem Mh{t:SP}{sv:List R.Sv}(h:t.zs.map (·.1)=sv){u:Nat}{s:R.Sv}(hs:sv[u]?=some s):∃z,t.zs[u]?=some z/\z.1=s:=by
 rw[<-h,List.getElem?_map]at hs;cases hz:t.zs[u]? with
 |none=>rw[hz]at hs;cases hs
 |some z=>rw[hz]at hs;exact⟨z,rfl,Option.some.inj hs⟩
theorem map_set{α β:Type}(f:α->β)(l:List α)(i:Nat)(x:α):(l.set i x).map f=(l.map f).set i (f x):=by
 apply List.ext_getElem?;intro j;simp only[List.getElem?_map,List.getElem?_set,List.length_map];split
 ·split<;>rfl
 ·rfl
theorem Oh{α:Type}{l:List α}{u i:Nat}{x y:α}(h:(l.set u x)[i]?=some y):(i=u/\y=x)\/(i≠u/\l[i]?=some y):=by
 rw[List.getElem?_set]at h;by_cases e:u=i
 ·rw[if_pos e]at h;split at h
  ·exact Or.inl ⟨e.symm,(Option.some.inj h).symm⟩
  ·cases h
 ·rw[if_neg e]at h;exact Or.inr ⟨fun q=>e q.symm,h⟩
theorem Vn(l:List Value)(n i:Nat)(v:Value):(l.set i v).take n=(l.take n).set i v:=by
 apply List.ext_getElem?;intro j;simp only[List.getElem?_take,List.getElem?_set,List.length_take];by_cases hj:j<n
 ·by_cases e:i=j
  ·subst e;have:i<min n l.length↔i<l.length:=by omega
   simp[hj,this]
  ·simp[hj,e]
 ·by_cases e:i=j
  ·subst e;simp[hj];omega
  ·simp[hj,e]
theorem EG(w:World)(s g u m cap:Nat)(h6:w.cell? ⟨s,6,none⟩=some (.slice (some ⟨g,0,none⟩) m cap))(hu:u<m)(hm:m<=255):
  Calls Tryz.prog 132 #[ptr s,.int .i64 ((u:Int)+1)] w fun e w'=>e=.returned (.pointer (some ⟨g,u*3,none⟩))/\w'=w:=by
 have e1:IntKind.i64.wrap ((u:Int)+1-1)=(u:Int):=by rw[IntKind.wrap_i64];omega
 have q1:(0:Int)<=(u:Int):=by omega
 have q2:(u:Int)<(m:Int):=by omega
 go_enter Tryz.func132,Tryz.ntmps132;go_wp2
 go_ret
 exact⟨rfl,rfl⟩
end Go.Proofs.YtblomippkddgiaaGreatDoor
