import Derived.Test.YtblomippkddgiabGreatDoorJ23
import Derived.Lib.ConvBytes
set_option maxRecDepth 100000
set_option maxHeartbeats 1000000
namespace Go.Proofs.YtblomippkddgiabGreatDoor
open Go.RowKit
variable {cur:Array Value}{E F:Aq}{jobs:List R.Jb}{l:List UInt8}{b n u:Nat}{z:Nat×Nat}{p:Pl}{G:R.Wd}{t:SP}{W w:World}
theorem VC(w:World):Calls Tryz.prog 39 #[.slice none 0 0] w fun e w'=>e=.returned (.slice none 0 0)/\w'=w:=by
 have hq:∀w,(binOp .eql 37 (.slice none 0 0) (.slice none 0 0)).run Tryz.prog w=.ok (.bool true) w:=fun w=>by kernel_rfl
 go_enter Tryz.func39,Tryz.ntmps39;go_wp2;go_returns;exact⟨rfl,rfl⟩
theorem QJ{off:Nat}:∀(v:List V.It),(∀j x,v[j]?=some x->w.cell? ⟨b,off+j*2,none⟩=some (.int .i64 x.1)/\w.cell? ⟨b,off+j*2+1,none⟩=some (.string x.2))->∀j u,(V.flat v)[j]?=some u->w.cell? ((⟨b,off,none⟩:Addr).add j)=some u:=fun v h j u hj=>by
 have hl:=(List.getElem?_eq_some_iff.1 hj).1;rw[V.FM]at hl;have hx:v[j / 2]?=some v[j / 2]:=List.getElem?_eq_getElem (by omega);obtain⟨f0,f1⟩:=V.flat_get v (j / 2) _ hx;obtain⟨c0,c1⟩:=h (j / 2) _ hx;rw[Addr.add_lit];rcases Nat.mod_two_eq_zero_or_one j with q|q
 ·have e:j / 2*2=j:=by omega
  rw[e]at f0 c0;rw[hj]at f0;cases f0;exact c0
 ·have e:j / 2*2+1=j:=by omega
  rw[e]at f1;rw[hj]at f1;cases f1;rw[Nat.add_assoc,e]at c1;exact c1
theorem MA(w:World)(b off cap:Nat)(v:List V.It)(hn:v.length<=1000)(h:∀j x,v[j]?=some x->w.cell? ⟨b,off+j*2,none⟩=some (.int .i64 x.1)/\w.cell? ⟨b,off+j*2+1,none⟩=some (.string x.2))(hb:b<w.heap.size):
  Calls Tryz.prog 39 #[.slice (some ⟨b,off,none⟩) v.length cap] w fun e w'=>(∃O,e=.returned O/\V.Row w' w.heap.size O v/\¬O=.slice none 0 0)/\Below w.heap.size w w':=by
 have hq:∀w,(binOp .eql 37 (.slice (some ⟨b,off,none⟩) v.length cap) (.slice none 0 0)).run Tryz.prog w=.ok (.bool false) w:=fun w=>by rfl
 obtain⟨i0,hi,ah,ai,aj⟩:=info_parts V.MR;have hB:Below w.heap.size w (w.alloc (.cells #[] 73)):=(Below.refl _ _).alloc (Nat.le_refl _) _;have ae:Hid (∀j u,(V.flat v)[j]?=some u->(w.alloc (.cells #[] 73)).cell? ((⟨b,off,none⟩:Addr).add j)=some u):=QJ (w:=w.alloc (.cells #[] 73)) v (fun j x hx=>by
  obtain⟨h1,h2⟩:=h j x hx;exact⟨(hB.cell (p:=⟨b,_,none⟩) hb).trans h1,(hB.cell (p:=⟨b,_,none⟩) hb).trans h2⟩)
 have ad:Hid ((w.alloc (.cells #[] 73)).ownsRow w.heap.size 73 2 (.slice (some ⟨w.heap.size,0,none⟩) 0 0) 0 []):=⟨rfl,Or.inr ⟨w.heap.size,0,#[],rfl,Nat.le_refl _,heap_alloc_new w _,Nat.le_refl _,Nat.zero_le _,rfl,rfl⟩⟩;have af:=V.FM v;have HB:=Ac hB;clear h;go_enter Tryz.func39,Tryz.ntmps39;go_wp2_with (at_builtin;go_must (refine wpList_append_own_at _ rfl (.tmp 5) (.tmp 6) 37 rfl w.heap.size 73 i0 (.agg #[.int .i64 0,.string ⟨#[]⟩]) 2 24 Tryz.underlying37 hi ah ai aj rfl (by decide) (.slice (some ⟨w.heap.size,0,none⟩) 0 0) 0 [] rfl (Aa ad) ⟨b,off,none⟩ v.length cap (V.flat v) rfl af (Aa ae) (V.JX v) (by unfold maxLen;omega) (by omega) (by simp) ?_))
 intro v' wz ab aa ac _;obtain⟨va,vn,vc,ag⟩:=Ar ab;subst ag;have hz:Below w.heap.size w wz:=(Aa HB).grown aa (by simp) (fun k hk=>by cases hk;exact Nat.le_refl _);have HO:=Ac ab;have HN:=Ac ac;clear ab aa ac;go_wp2
 go_ret
 refine⟨⟨_,rfl,?_,fun e=>?_⟩,hz⟩
 ·exact Aa HO
 ·exact(Aa HN) e
theorem Qp{X:Value}{v:List R.It}(h:BF w F X v)(hn:v.length<=1000):Calls Tryz.prog 39 #[X] w fun e w'=>(∃O,e=.returned O/\V.Row w' w.heap.size O v/\(O=.slice none 0 0↔v=[]))/\Below w.heap.size w w':=by
 rcases h with ⟨rfl,rfl⟩|⟨b,off,cap,ab,aa,rfl,_,_,h4,h5⟩
 ·refine(VC w).mono ?_;rintro e w' ⟨rfl,rfl⟩;exact⟨⟨_,rfl,V.PW _ _,by simp⟩,Below.refl _ _⟩
 ·refine(MA w b off cap v hn (fun j x hx=>?_) (Array.getElem?_eq_some_iff.1 h4).1).mono ?_
  ·obtain⟨r1,r2⟩:=h5 j x hx;exact⟨by simp[World.cell?,h4,r1],by simp[World.cell?,h4,r2]⟩
  ·rintro e w' ⟨⟨O,rfl,h1,h2⟩,hb⟩;exact⟨⟨O,rfl,h1,fun e=>absurd e h2,fun e=>absurd e aa⟩,hb⟩
theorem aeL:∀args w,(callFunc 39 args).run Tryz.prog w=.ok (.enter 39 args) w:=fun _ _=>rfl
def abS(r:Int×Int×List R.It×Int)(O:Value):Ending:=.returned (.tuple #[.agg #[.int .i64 r.1,.int .i64 r.2.1,O],.int .i64 r.2.2.2])
theorem RN(w:World)(F:Aq)(cb lb nl k:Nat)(x:CU)(v:List R.It)(hv:v.length<=1000)(ag:BF w F x.rv v)(hk:k<nl)(b3:w.cell? ⟨cb,3,none⟩=some (.slice (some ⟨lb,0,none⟩) nl nl))(ha:ab0 w lb k x):
  Calls Tryz.prog 36 #[ptr cb,.int .i64 (k:Int)] w fun e w'=>(∃O,e=.returned (.tuple #[.agg #[.int .i64 x.state,.int .i64 x.seq,O],.int .i64 0])/\V.Row w' w.heap.size O v)/\Below w.heap.size w w':=by
 obtain⟨ra,rn,rc,ah⟩:=EO ag;have am:Hid (∀w',Below w.heap.size w w'->Calls Tryz.prog 39 #[.slice ra rn rc] w' fun e al=>(∃a n c,e=.returned (.slice a n c)/\V.Row al w'.heap.size (.slice a n c) v)/\Below w'.heap.size w' al):=fun w' hb=>by
  have ak:BF w' F (.slice ra rn rc) v:=by
   rw[<-ah];exact ag.keep (Af.Al hb (fun _=>False)) (fun _ _ _ _ h=>h) (fun _ q=>q)
  refine(Qp ak hv).mono ?_;rintro e al ⟨⟨O,rfl,h1,_⟩,h2⟩;obtain⟨a,n,c,rfl⟩:=Ar h1;exact⟨⟨a,n,c,rfl,h1⟩,h2⟩
 obtain⟨st,sq,rv,u,pc,m,ac,cm,wt,tr⟩:=x;obtain⟨a0,a1,a2,a3,a4,a5,a6,a7,a8,a9⟩:=ha;simp only at a0 a1 a2 a3 a4 a5 a6 a7 a8 a9 ah ag;rw[ah]at a2;generalize str m=SM at *;generalize str cm=SC at *;have q1:(0:Int)<=(k:Int):=by omega
 have q2:(k:Int)<(nl:Int):=by omega
 have av:=lt_of_cell b3;have aw:=lt_of_cell a0;simp only;obtain⟨BX,ab⟩:∃BX,(w.alloc (.cells #[.int .i64 0,.int .i64 0,.slice none 0 0] 64)).alloc (.cells #[.int .i64 st,.int .i64 sq,.slice ra rn rc,.int .i64 u,.int .i64 pc,.string SM,.int .i64 ac,.string SC,.int .i64 wt,.int .i64 tr] 129)=BX:=⟨_,rfl⟩;have HB:Hid (Below w.heap.size w BX):=by
  rw[<-ab];exact((Below.refl _ _).alloc (Nat.le_refl _) _).alloc (by simp) _
 have ae:BX.heap[w.heap.size+1]?=some (.cells #[.int .i64 st,.int .i64 sq,.slice ra rn rc,.int .i64 u,.int .i64 pc,.string SM,.int .i64 ac,.string SC,.int .i64 wt,.int .i64 tr] 129 (0,0)):=by
  rw[<-ab,<-World.size_alloc w];exact heap_alloc_new _ _
 have an:BX.heap[w.heap.size]?=some (.cells #[.int .i64 0,.int .i64 0,.slice none 0 0] 64 (0,0)):=by
  rw[<-ab];exact(Below.heap_alloc _ _ _ (by simp)).trans (heap_alloc_new w _)
 have c0:BX.cell? ⟨w.heap.size+1,0,none⟩=some (.int .i64 st):=cell_of ae 0 _ rfl;have c1:BX.cell? ⟨w.heap.size+1,1,none⟩=some (.int .i64 sq):=cell_of ae 1 _ rfl;have c2:BX.cell? ⟨w.heap.size+1,2,none⟩=some (.slice ra rn rc):=cell_of ae 2 _ rfl;have hs:BX.heap.size=w.heap.size+2:=by rw[<-ab];simp
 have ap:=Ac ab;have aq:=Ac an;have HC:=Ac ((Aa am) BX.drew (Aa HB).drew);have ai:Hid (∀(w3:World) (a:Option Addr) (n c:Nat),V.Row w3 BX.drew.heap.size (.slice a n c) v->Below BX.drew.heap.size BX.drew w3->(w3.cell? ⟨w.heap.size,0,none⟩=some (.int .i64 0)/\w3.cell? ⟨w.heap.size,1,none⟩=some (.int .i64 0)/\w3.cell? ⟨w.heap.size,2,none⟩=some (.slice none 0 0)/\(∀j,w3.frozen? ⟨w.heap.size,j,none⟩=false)/\w.heap.size<w3.heap.size/\w3.cell? ⟨w.heap.size+1,0,none⟩=some (.int .i64 st)/\w3.cell? ⟨w.heap.size+1,1,none⟩=some (.int .i64 sq)/\w3.cell? ⟨w.heap.size+1,2,none⟩=some (.slice ra rn rc))/\V.Row (((w3.setCell ⟨w.heap.size,0,none⟩ (.int .i64 st)).setCell ⟨w.heap.size,1,none⟩ (.int .i64 sq)).setCell ⟨w.heap.size,2,none⟩ (.slice a n c)) w.heap.size (.slice a n c) v/\Below w.heap.size w (((w3.setCell ⟨w.heap.size,0,none⟩ (.int .i64 st)).setCell ⟨w.heap.size,1,none⟩ (.int .i64 sq)).setCell ⟨w.heap.size,2,none⟩ (.slice a n c))):=fun w3 a n c aa ad=>by
  have au:BX.drew.heap.size=w.heap.size+2:=hs;have g3:w3.heap[w.heap.size]?=some (.cells #[.int .i64 0,.int .i64 0,.slice none 0 0] 64 (0,0)):=(ad.block _ (by omega)).trans (Aa aq);have g4:=(ad.block (w.heap.size+1) (by omega)).trans (show BX.drew.heap[w.heap.size+1]?=_ from ae);have af:Below w.heap.size w w3:=(Aa HB).drew.trans (ad.mono (by omega));refine⟨⟨cell_of g3 0 _ rfl,cell_of g3 1 _ rfl,cell_of g3 2 _ rfl,fun j=>open_list g3,lt_of_block g3,cell_of g4 0 _ rfl,cell_of g4 1 _ rfl,cell_of g4 2 _ rfl⟩,?_,((af.setCell (by simp) _).setCell (by simp) _).setCell (by simp) _⟩;have ar:Af (fun k=>k=w.heap.size) w3 (((w3.setCell ⟨w.heap.size,0,none⟩ (.int .i64 st)).setCell ⟨w.heap.size,1,none⟩ (.int .i64 sq)).setCell ⟨w.heap.size,2,none⟩ (.slice a n c)):=((Ah _).trans (Ah _)).trans (Ah _);refine V.EU (ar.row aa (fun j hj e=>?_)) (by omega);have:=((World.ownsRow.lt aa) j hj).1;omega
 clear ab ae an am ag ah hs;go_enter Tryz.func36,Tryz.ntmps36;go_wp2_with (first|(go_at_call 64;go_in))
 rw[Aa ap];go_region_held3 (fun w'=>w'.cell? ⟨w.heap.size+1,0,none⟩=some (.int .i64 st)/\w'.cell? ⟨w.heap.size+1,1,none⟩=some (.int .i64 sq)/\w'.cell? ⟨w.heap.size+1,2,none⟩=some (.slice ra rn rc)) (go_keep) ((go_at_call 39;refine(Aa HC).mono ?_;rintro e w3 ⟨⟨oa,on,oc,rfl,aa⟩,ad⟩;have aj:=(Aa ai) w3 oa on oc aa ad;obtain⟨⟨d0,d1,d2,zz,m0,x0,x1,x2⟩,hr,af⟩:=aj;have HR:=Ac hr;have ao:=Ac af;clear aa ad hr af))
 all_goals
  go_wp2;exact bodyPost_ret (v:=.tuple #[.agg #[.int .i64 st,.int .i64 sq,.slice oa on oc],.int .i64 0]) (by simp[results,Tryz.results36,go_sem,d0,d1,d2]) rfl ⟨⟨_,rfl,Aa HR⟩,Aa ao⟩
theorem NB(w:World)(cb lb nl:Nat)(ln:Int)(hk:ln<0\/(nl:Int)<=ln)(b3:w.cell? ⟨cb,3,none⟩=some (.slice (some ⟨lb,0,none⟩) nl nl)):
  Calls Tryz.prog 36 #[ptr cb,.int .i64 ln] w fun e w'=>e=.returned (.tuple #[.agg #[.int .i64 0,.int .i64 0,.slice none 0 0],.int .i64 14])/\Below w.heap.size w w':=by
 have HB:Hid (Below w.heap.size w (w.alloc (.cells #[.int .i64 0,.int .i64 0,.slice none 0 0] 64))):=(Below.refl _ _).alloc (Nat.le_refl _) _;have hl:=lt_of_cell b3;by_cases h0:ln<0
 ·have h1:¬0<=ln:=by omega
  clear hk;go_enter Tryz.func36,Tryz.ntmps36;go_wp2_with (first|(go_at_call 64;go_in))
  exact bodyPost_ret (v:=.tuple #[.agg #[.int .i64 0,.int .i64 0,.slice none 0 0],.int .i64 14]) (by simp[results,Tryz.results36,go_sem]) rfl ⟨rfl,Aa HB⟩
 ·have h1:0<=ln:=by omega
  have h2:¬ln<(nl:Int):=by omega
  clear hk;go_enter Tryz.func36,Tryz.ntmps36;go_wp2_with (first|(go_at_call 64;go_in))
  exact bodyPost_ret (v:=.tuple #[.agg #[.int .i64 0,.int .i64 0,.slice none 0 0],.int .i64 14]) (by simp[results,Tryz.results36,go_sem]) rfl ⟨rfl,Aa HB⟩
theorem NA(w:World)(x cs n cap:Nat)(cl ln:Int)(hx:w.cell? ⟨x,2,none⟩=some (.slice (some ⟨cs,0,none⟩) n cap))(hc:cl<0\/(n:Int)<=cl):
  Calls Tryz.prog 19 #[ptr x,.int .i64 cl,.int .i64 ln] w fun e w'=>e=.returned (.tuple #[.agg #[.int .i64 0,.int .i64 0,.slice none 0 0],.int .i64 13])/\Below w.heap.size w w':=by
 have HB:Hid (Below w.heap.size w (w.alloc (.cells #[.int .i64 0,.int .i64 0,.slice none 0 0] 64))):=(Below.refl _ _).alloc (Nat.le_refl _) _;have hl:=lt_of_cell hx;by_cases h0:cl<0
 ·have h1:¬0<=cl:=by omega
  clear hc;go_enter Tryz.func19,Tryz.ntmps19;go_wp2_with (first|(go_at_call 35;go_in))
  exact bodyPost_ret (v:=.tuple #[.agg #[.int .i64 0,.int .i64 0,.slice none 0 0],.int .i64 13]) (by simp[results,Tryz.results19,go_sem]) rfl ⟨rfl,Aa HB⟩
 ·have h1:0<=cl:=by omega
  have h2:¬cl<(n:Int):=by omega
  clear hc;go_enter Tryz.func19,Tryz.ntmps19;go_wp2_with (first|(go_at_call 35;go_in))
  exact bodyPost_ret (v:=.tuple #[.agg #[.int .i64 0,.int .i64 0,.slice none 0 0],.int .i64 13]) (by simp[results,Tryz.results19,go_sem]) rfl ⟨rfl,Aa HB⟩
theorem Lw(w:World)(x cs n cap cb i:Nat)(ln st sq er:Int)(v:List R.It)(hx:w.cell? ⟨x,2,none⟩=some (.slice (some ⟨cs,0,none⟩) n cap))(hi:i<n)(ae:w.cell? ⟨cs,i,none⟩=some (ptr cb))
  (ac:Hid (∀w',Below w.heap.size w w'->Calls Tryz.prog 36 #[ptr cb,.int .i64 ln] w' fun e ad=>(∃O,e=.returned (.tuple #[.agg #[.int .i64 st,.int .i64 sq,O],.int .i64 er])/\V.Row ad w'.heap.size O v)/\Below w'.heap.size w' ad)):
  Calls Tryz.prog 19 #[ptr x,.int .i64 (i:Int),.int .i64 ln] w fun e w'=>(∃O,e=.returned (.tuple #[.agg #[.int .i64 st,.int .i64 sq,O],.int .i64 er])/\V.Row w' w.heap.size O v)/\Below w.heap.size w w':=by
 have q1:(0:Int)<=(i:Int):=by omega
 have q2:(i:Int)<(n:Int):=by omega
 have ag:=lt_of_cell hx;have ah:=lt_of_cell ae;have HB:Hid (Below w.heap.size w (w.alloc (.cells #[.int .i64 0,.int .i64 0,.slice none 0 0] 64))):=(Below.refl _ _).alloc (Nat.le_refl _) _;have HC:=Ac ((Aa ac) _ (Aa HB));clear ac;go_enter Tryz.func19,Tryz.ntmps19;go_wp2_with (first|(go_at_call 35;go_in))
 refine(Aa HC).mono ?_;rintro e w1 ⟨⟨O,rfl,aa⟩,hb⟩;obtain⟨oa,on,oc,hO⟩:=Ar aa;subst hO;have hs:=hb.size;simp at hs;have ab:w1.heap[w.heap.size]?=some (.cells #[.int .i64 0,.int .i64 0,.slice none 0 0] 64 (0,0)):=(hb.block _ (by simp)).trans (heap_alloc_new w _);have d0:w1.cell? ⟨w.heap.size,0,none⟩=some (.int .i64 0):=cell_of ab 0 _ rfl;have d1:w1.cell? ⟨w.heap.size,1,none⟩=some (.int .i64 0):=cell_of ab 1 _ rfl;have d2:w1.cell? ⟨w.heap.size,2,none⟩=some (.slice none 0 0):=cell_of ab 2 _ rfl;have z0:w1.frozen? ⟨w.heap.size,0,none⟩=false:=open_list ab;have z1:w1.frozen? ⟨w.heap.size,1,none⟩=false:=open_list ab;have z2:w1.frozen? ⟨w.heap.size,2,none⟩=false:=open_list ab;have HW:=Ac (((((Aa HB).trans (hb.mono (by simp))).setCell (p:=⟨w.heap.size,0,none⟩) (by simp) (.int .i64 st)).setCell (p:=⟨w.heap.size,1,none⟩) (by simp) (.int .i64 sq)).setCell (p:=⟨w.heap.size,2,none⟩) (by simp) (.slice oa on oc));have HR:Hid (V.Row (((w1.setCell ⟨w.heap.size,0,none⟩ (.int .i64 st)).setCell ⟨w.heap.size,1,none⟩ (.int .i64 sq)).setCell ⟨w.heap.size,2,none⟩ (.slice oa on oc)) w.heap.size (.slice oa on oc) v):=by
  have af:Af (fun k=>k=w.heap.size) w1 (((w1.setCell ⟨w.heap.size,0,none⟩ (.int .i64 st)).setCell ⟨w.heap.size,1,none⟩ (.int .i64 sq)).setCell ⟨w.heap.size,2,none⟩ (.slice oa on oc)):=((Ah _).trans (Ah _)).trans (Ah _);refine V.EU (af.row aa (fun j hj e=>?_)) (by simp);have:=((World.ownsRow.lt aa) j hj).1;simp at this;omega
 clear hb ab aa;have m0:w.heap.size<w1.heap.size:=by omega
 go_wp2;exact bodyPost_ret (v:=.tuple #[.agg #[.int .i64 st,.int .i64 sq,.slice oa on oc],.int .i64 er]) (by simp[results,Tryz.results19,go_sem,d0,d1,d2]) rfl ⟨⟨_,rfl,Aa HR⟩,Aa HW⟩
theorem LW.status(h:LW p F G w)(aa:∀(i:Nat) (c:R.Cl) (k:Nat) (l:R.Ln),G.Ad[i]?=some c->c.lines[k]?=some l->l.result.length<=1000)(cl ln:Int):
  Calls Tryz.prog 19 #[ptr p.x,.int .i64 cl,.int .i64 ln] w fun e w'=>(∃O,e=abS (R.Kg G cl ln) O/\V.Row w' w.heap.size O (R.Kg G cl ln).2.2.1)/\Below w.heap.size w w':=by
 unfold abS R.Kg;by_cases h1:cl<0\/(G.Ad.length:Int)<=cl
 ·rw[if_pos h1];refine(NA w p.x p.cs G.Ad.length p.cap cl ln (cell_of h.bx 2 _ rfl) h1).mono ?_;rintro e w' ⟨rfl,hb⟩;exact⟨⟨_,rfl,V.PW _ _⟩,hb⟩
 ·rw[if_neg h1];obtain⟨i,rfl⟩:∃i:Nat,cl=(i:Int):=⟨cl.toNat,by omega⟩;have hi:i<G.Ad.length:=by omega
  have hc:=List.getElem?_eq_getElem hi;have af:=(h.wf.cl i _ hc).lines;by_cases h2:ln<0\/G.c.lines<=ln
  ·rw[if_pos h2];refine(Lw w p.x p.cs G.Ad.length p.cap (p.cb i) i ln 0 0 14 [] (cell_of h.bx 2 _ rfl) hi (h.SQ hi) ?_);intro w' hb;refine(NB w' (p.cb i) (p.lb i) _ ln (by omega) (Ic (h.below hb) hc).a3).mono ?_;rintro e ag ⟨rfl,ac⟩;exact⟨⟨_,rfl,V.PW _ _⟩,ac⟩
  ·rw[if_neg h2];obtain⟨k,rfl⟩:∃k:Nat,ln=(k:Int):=⟨ln.toNat,by omega⟩;have hk:k<G.Ad[i].lines.length:=by omega
   have hl:=List.getElem?_eq_getElem hk;rw[R.CR hc hl];refine Lw w p.x p.cs G.Ad.length p.cap (p.cb i) i k _ _ 0 _ (cell_of h.bx 2 _ rfl) hi (h.SQ hi) ?_;intro w' hb;have h':=h.below hb;obtain⟨xs,x,hL,hR,hx,ab,ae,_,ad⟩:=h'.line hc hl;have:=RN w' F (p.cb i) (p.lb i) _ k x _ (aa i _ k _ hc hl) ad hk (Ic h' hc).a3 ae;rw[ab.state,ab.seq]at this;exact this
def Vn(W:World)(G:Nat)(l:List UInt8):Prop:=G<W.heap.size/\∀j (c:UInt8),l[j]?=some c->W.cell? ⟨G,j,none⟩=some (.int .u8 (c.toNat:Int))/\W.frozen? ⟨G,j,none⟩=false
theorem Vn.set{G:Nat}(h:Vn W G l)(i:Nat)(x:UInt8):Vn (W.setCell ⟨G,i,none⟩ (.int .u8 (x.toNat:Int))) G (l.set i x):=by
 refine⟨by simpa using h.1,fun j c hj=>?_⟩;by_cases aa:j=i
 ·subst aa;have hl:j<l.length:=by
   have:=(List.getElem?_eq_some_iff.1 hj).1;simpa using this
  rw[List.getElem?_set_self hl]at hj;obtain rfl:=Option.some.inj hj;obtain⟨h1,h2⟩:=h.2 j _ (List.getElem?_eq_getElem hl);exact⟨by simp[go_sem,h1],by simpa [go_sem] using h2⟩
 ·rw[List.getElem?_set_ne (by omega)]at hj;obtain⟨h1,h2⟩:=h.2 j c hj;exact⟨by simp[go_sem,h1],by simpa [go_sem] using h2⟩
theorem Vn.conv{G:Nat}(h:Vn W G l)(cap:Nat):(convert 281 9 (.slice (some ⟨G,0,none⟩) l.length cap)).run Tryz.prog W=.ok (.string (str l)) W:=by
 refine run_convert_bytes_back (P:=Tryz.prog) W 281 9 5 ⟨G,0,none⟩ cap l Tryz.underlying281 (by kernel_rfl) Tryz.underlying9 fun j hj=>?_
 rw[Addr.add_lit,Nat.zero_add];exact(h.2 j _ (List.getElem?_eq_getElem hj)).1
theorem aar(W:World)(l:List UInt8):∃(cap:Nat) (W':World),(convert 9 281 (.string (str l))).run Tryz.prog W=.ok (.slice (some ⟨W.heap.size,0,none⟩) l.length cap) W'/\Vn W' W.heap.size l/\Below W.heap.size W W':=by
 have h:=Lib.run_convert_string_bytes (P:=Tryz.prog) W 9 281 5 (str l) Tryz.underlying9 Tryz.underlying281 (by kernel_rfl);rw[Ax]at h;refine⟨_,_,h,⟨by rw[Lib.bytesWorld_size];omega,fun j c hj=>⟨?_,?_⟩⟩,?_⟩
 ·have hl:j<l.length:=(List.getElem?_eq_some_iff.1 hj).1;rw[Lib.bytesWorld_cell W 5 (str l) j (by rw[Ax];exact hl)];simp[List.getD,hj]
 ·have hl:j<l.length:=(List.getElem?_eq_some_iff.1 hj).1;have hs:l.length<=(Lib.bytesCells W 5 (str l)).size:=by
   unfold Lib.bytesCells;simp
  simp only[World.frozen?,Lib.bytesWorld_at_new];simp;omega
 ·refine⟨?_,?_,?_,by rw[Lib.bytesWorld_size];omega,fun k hk=>Lib.bytesWorld_at_old W 5 (str l) k hk⟩
  ·simp[Lib.bytesWorld,World.freeze];rfl
  ·simp[Lib.bytesWorld,World.freeze]
  ·simp[Lib.bytesWorld,World.freeze];rfl
theorem TN(p:Pk)(hr:AR p)(w:World):Calls Tryz.prog 54 #[.string (str (Bm p))] w fun e w'=>e=.returned (.tuple #[pv p,.int .i64 0])/\Below w.heap.size w w':=by
 have hl:=E5 p;have hb:=LO hr;refine(Ri (Bm p) w (by omega)).mono ?_;unfold Nb;rw[Fx hr];rintro e w' ⟨hb,⟨hn,_⟩|⟨p',hp,rfl⟩⟩
 ·cases hn
 ·cases hp;exact⟨rfl,hb⟩
theorem Wm(l:List UInt8)(hn:CO l=none)(hl:l.length<=1000)(w:World):Calls Tryz.prog 54 #[.string (str l)] w fun e w'=>e=.returned (.tuple #[aae,.int .i64 7])/\Below w.heap.size w w':=by
 refine(Ri l w (by omega)).mono ?_;unfold Nb;rw[hn];rintro e w' ⟨hb,⟨_,rfl⟩|⟨p',hp,_⟩⟩
 ·exact⟨rfl,hb⟩
 ·cases hp
theorem ac8(a d:UInt8):bits .xor .u8 (a.toNat:Int) (d.toNat:Int)=((a ^^^ d).toNat:Int):=by
 have ha:=a.toNat_lt;have hd:=d.toNat_lt;have n1:(BitVec.ofInt 8 (a.toNat:Int)).toNat=a.toNat:=by
  rw[BitVec.ofInt_natCast,BitVec.toNat_ofNat];omega
 have n2:(BitVec.ofInt 8 (d.toNat:Int)).toNat=d.toNat:=by
  rw[BitVec.ofInt_natCast,BitVec.toNat_ofNat];omega
 show IntKind.u8.wrap ((BitVec.ofInt 8 (a.toNat:Int) ^^^ BitVec.ofInt 8 (d.toNat:Int)).toNat:Int)=_;rw[BitVec.toNat_xor,n1,n2,UInt8.toNat_xor];have aa:a.toNat ^^^ d.toNat<2 ^ 8:=Nat.xor_lt_two_pow (by omega) (by omega);rw[wrap_u8];omega
def My(t:TypeId):Bool:=t==71 || t==93 || t==110 || t==166 || t==133 || t==129 || t==73
def Ca(w:World)(E:Aq):Prop:=∀b,E b->(∃cur t z,w.heap[b]?=some (.cells cur t z)/\My t=false)\/∃cap buf cl a r tm,w.heap[b]?=some (.chan cap buf cl a r tm)
theorem Ca.cells(h:Ca w E){t:TypeId}(hb:w.heap[b]?=some (.cells cur t z))(ht:My t=true):¬E b:=fun hE=>by
 rcases h b hE with ⟨aa,t',z',h1,h2⟩|⟨cap,buf,cl,a,r,tm,h1⟩
 ·rw[hb]at h1;cases h1;rw[ht]at h2;cases h2
 ·rw[hb]at h1;cases h1
theorem Ca.map(h:Ca w E){es:Array MapEntry}{cl:Nat}(hb:w.heap[b]?=some (.map es cl)):¬E b:=fun hE=>by
 rcases h b hE with ⟨aa,t',z',h1,h2⟩|⟨cap,buf,cl,a,r,tm,h1⟩
 ·rw[hb]at h1;cases h1
 ·rw[hb]at h1;cases h1
theorem Ca.one{t:TypeId}(h:w.heap[b]?=some (.cells cur t z))(ht:My t=false):Ca w (fun k=>k=b):=fun k hk=>Or.inl ⟨cur,t,z,by subst hk;exact h,ht⟩
theorem Ca.or{E':Aq}(h:Ca w E)(h':Ca w E'):Ca w (fun k=>E k\/E' k):=fun k hk=>by
 rcases hk with hk|hk
 ·exact h k hk
 ·exact h' k hk
theorem Ca.row{B size:Nat}{e:TypeId}{v:Value}{xs:List Value}(hr:w.ownsRow B e size v n xs)(he:My e=false):Ca w (fun k=>v.ownBlock=some k):=fun k hk=>by
 rcases hr.2 with ⟨rfl,_⟩|⟨g,cap,aa,rfl,_,hg,_⟩
 ·cases hk
 ·cases hk;exact Or.inl ⟨_,_,_,hg,he⟩
abbrev Bs(G:R.Wd)(sv:List R.Sv)(Aj:List Int)(seen:List R.Sn)(jobs:List R.Jb):R.Wd:={G with Ab:=sv,Aj:=Aj,seen:=seen,jobs:=jobs}
theorem LW.Ha{F':Aq}{w':World}(h:LW p F G w){sv:List R.Sv}{Aj:List Int}{seen:List R.Sn}(hs:Cg p.s p.n p.nm t F' G.c sv Aj seen jobs w')(hk:Af E w w')(hE:Ca w E)(hF:∀k,F k->F' k)(ae:∀k,F' k->k<w'.heap.size)(ag:R.Wf (Bs G sv Aj seen jobs))(ah:R.Md G.c Aj seen jobs)(ac:∀(i:Nat) (c:R.Cl),G.Ad[i]?=some c->∀u,BL (Bs G sv Aj seen jobs) c u=BL G c u):LW {p with t:=t} F' (Bs G sv Aj seen jobs) w':=by
 obtain⟨hx,hn,ad,af⟩:=h.BP;have aa:∀{α:Type} {k:TypeId} {b:Nat} {lit:α->Lit} {g:α->Option Int} {n:Nat},Mp w k b lit g n->Mp w' k b lit g n:=fun hm=>by
  obtain⟨es,q,hq⟩:=hm.block;exact hm.keep hk (hE.map hq)
 refine⟨ag,ah,hk.at h.bx (hE.cells h.bx rfl),?_,?_,hs,aa h.names,fun i c hc=>hk.at (h.cl i c hc) (hE.cells (h.cl i c hc) rfl),fun i c hc=>?_,fun i c hc=>(aa (h.bound i c hc)).congr (ac i c hc),⟨hF _ hx,hF _ hn,hF _ ad,hF _ af⟩,fun i hi=>?_,h.inj,ae⟩
 ·obtain⟨ab,h1,h2⟩:=h.XH;exact⟨ab,hk.at h1 (hE.cells h1 rfl),h2⟩
 ·obtain⟨K,h1,h2,h3⟩:=h.bn;refine⟨K,hk.at h1 (hE.cells h1 rfl),hk.row h2 (fun j hj=>?_),fun j hj=>hF _ (h3 j hj)⟩;rcases h2.2 with ⟨rfl,_⟩|⟨g,cap,ab,rfl,_,hg,_⟩
  ·cases hj
  ·cases hj;exact hE.cells hg rfl
 ·obtain⟨xs,h1,h2,h3⟩:=h.ln i c hc;exact⟨xs,hk.at h1 (hE.cells h1 rfl),h2,fun k l x hl hx=>(h3 k l x hl hx).keep hk (fun b ab _ hb=>hE.cells hb rfl) hF⟩
 ·obtain⟨a1,a2,a3,a4⟩:=h.FG i hi;exact⟨hF _ a1,hF _ a2,hF _ a3,a4⟩
theorem Cg.Jt{s nm:Nat}{c:R.Cf}{sv:List R.Sv}{Aj:List Int}{seen:List R.Sn}(h:Cg s n nm t F c sv Aj seen jobs w){z:R.Sv×MV}(hz:t.zs[u]?=some z):∃g cap aa,t.K=.slice (some ⟨g,0,none⟩) t.zs.length cap/\w.heap[g]?=some (.cells aa 99 (0,0))/\F g/\w.cell? ⟨g,u*3,none⟩=some (.int .i64 z.1.kind)/\w.cell? ⟨g,u*3+1,none⟩=some z.2.wk/\w.cell? ⟨g,u*3+2,none⟩=some z.2.dn/\t.zs.length<=cap/\cap<=maxLen/\aa.size=cap*3/\aa.toList.take (t.zs.length*3)=tab GX t.zs:=by
 have hu:=(List.getElem?_eq_some_iff.1 hz).1;rcases id h.made.2 with ⟨_,h0⟩|⟨g,cap,aa,hK,_,hg,ab,ac,ae,ad⟩
 ·omega
 have q:∀j v,j<3->(GX z)[j]?=some v->w.cell? ⟨g,u*3+j,none⟩=some v:=fun j v hj hv=>by
  have:=E7 Fu t.zs u j z hz hj;rw[hv,<-ad,List.getElem?_take,if_pos (by omega)]at this;simp[World.cell?,hg];simpa using this
 refine⟨g,cap,aa,hK,hg,h.BP.2.2 g (by rw[hK];rfl),?_,q 1 _ (by omega) rfl,q 2 _ (by omega) rfl,ab,ac,ae,ad⟩;exact q 0 _ (by omega) rfl
theorem KV{sv:List R.Sv}(h:t.zs.map (·.1)=sv){s:R.Sv}(hs:sv[u]?=some s):∃z,t.zs[u]?=some z/\z.1=s:=by
 rw[<-h,List.getElem?_map]at hs;cases hz:t.zs[u]? with
 |none=>rw[hz]at hs;cases hs
 |some z=>rw[hz]at hs;exact⟨z,rfl,Option.some.inj hs⟩
theorem map_set{α β:Type}(f:α->β)(l:List α)(i:Nat)(x:α):(l.set i x).map f=(l.map f).set i (f x):=by
 apply List.ext_getElem?;intro j;simp only[List.getElem?_map,List.getElem?_set,List.length_map];split
 ·split<;>rfl
 ·rfl
end Go.Proofs.YtblomippkddgiabGreatDoor
