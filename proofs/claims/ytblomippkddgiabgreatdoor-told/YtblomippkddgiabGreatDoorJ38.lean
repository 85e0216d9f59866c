import Derived.Test.YtblomippkddgiabGreatDoorJ37
set_option maxRecDepth 100000
set_option maxHeartbeats 2000000
namespace Go.Proofs.YtblomippkddgiabGreatDoor
open Go.RowKit
variable {F:Aq}{i k n:Nat}{p:Pl}{c:R.Cl}{l:R.Ln}{G:R.Wd}{O:Value}{w:World}
theorem adp:∀args w,(callFunc 149 args).run Tryz.prog w=.ok (.enter 149 args) w:=fun _ _=>rfl
theorem Xd(w:World)(cb lb nl k:Nat)(b:Bool)(P:Pk)(ab:World->Prop)(hk:k<nl)(hP:P.line=(k:Int))(b3:w.cell? ⟨cb,3,none⟩=some (.slice (some ⟨lb,0,none⟩) nl nl))
  (HU:Hid (∀wa,Below w.heap.size w wa->Calls Tryz.prog 158 #[ptr cb,pv P] wa fun e w'=>e=.returned (.bool b)/\Below wa.heap.size wa w'))
  (HA:Hid (b=true->P.kind=2->∀wa,Below w.heap.size w wa->Calls Tryz.prog 159 #[ptr cb,pv P] wa fun e w'=>e=.returned (.tuple #[])/\ab w'))
  (HL:Hid (b=true->P.kind=4->∀wa,Below w.heap.size w wa->Calls Tryz.prog 149 #[ptr cb,.pointer (some ⟨lb,k*10,none⟩)] wa fun e w'=>e=.returned (.tuple #[])/\ab w'))
  (HR:Hid (b=true->P.kind=5->∀wa,Below w.heap.size w wa->Calls Tryz.prog 160 #[ptr cb,pv P] wa fun e w'=>e=.returned (.tuple #[])/\ab w'))
  (HJ:Hid (b=true->P.kind=7->∀wa,Below w.heap.size w wa->Calls Tryz.prog 161 #[ptr cb,pv P] wa fun e w'=>e=.returned (.tuple #[])/\ab w'))
  (HN:Hid (b=false\/¬(P.kind=2\/P.kind=4\/P.kind=5\/P.kind=7)->∀wa,Below w.heap.size w wa->ab wa)):
  Calls Tryz.prog 94 #[ptr cb,pv P] w fun e w'=>e=.returned (.tuple #[])/\ab w':=by
 obtain⟨kd,cl,li,ln,ad,u,pa,o,pl,body⟩:=P;dsimp only[pv]at *;subst hP;have af:=lt_of_cell b3;have q1:(0:Int)<=(k:Int):=by omega
 have q2:(k:Int)<(nl:Int):=by omega
 generalize str body=SB at *;have HB:Hid (∀o,Below w.heap.size w (w.alloc o)):=fun o=>(Below.refl _ _).alloc (afI _) _
 have HX:Hid (∀w1,Below (w.alloc (.cells #[.int .i64 kd,.int .i64 cl,.int .i64 li,.int .i64 (k:Int),.int .i64 ad,.int .i64 u,.int .i64 pa,.int .i64 o,.bool pl,.string SB] 82)).heap.size (w.alloc (.cells #[.int .i64 kd,.int .i64 cl,.int .i64 li,.int .i64 (k:Int),.int .i64 ad,.int .i64 u,.int .i64 pa,.int .i64 o,.bool pl,.string SB] 82)) w1->Boxed w w (.cells #[.int .i64 kd,.int .i64 cl,.int .i64 li,.int .i64 (k:Int),.int .i64 ad,.int .i64 u,.int .i64 pa,.int .i64 o,.bool pl,.string SB] 82) w1):=fun w1 h1=>⟨((Aa HB) _).trans (h1.mono (by simp)),by
  rw[h1.block _ (by simp)];exact heap_alloc_new w _⟩
 have HD:Hid (∀W,Boxed w w (.cells #[.int .i64 kd,.int .i64 cl,.int .i64 li,.int .i64 (k:Int),.int .i64 ad,.int .i64 u,.int .i64 pa,.int .i64 o,.bool pl,.string SB] 82) W->W.cell? ⟨cb,3,none⟩=some (.slice (some ⟨lb,0,none⟩) nl nl)/\(W.cell? ⟨w.heap.size,0,none⟩=some (.int .i64 kd)/\W.cell? ⟨w.heap.size,1,none⟩=some (.int .i64 cl)/\W.cell? ⟨w.heap.size,2,none⟩=some (.int .i64 li)/\W.cell? ⟨w.heap.size,3,none⟩=some (.int .i64 (k:Int))/\W.cell? ⟨w.heap.size,4,none⟩=some (.int .i64 ad))/\W.cell? ⟨w.heap.size,5,none⟩=some (.int .i64 u)/\W.cell? ⟨w.heap.size,6,none⟩=some (.int .i64 pa)/\W.cell? ⟨w.heap.size,7,none⟩=some (.int .i64 o)/\W.cell? ⟨w.heap.size,8,none⟩=some (.bool pl)/\W.cell? ⟨w.heap.size,9,none⟩=some (.string SB)):=fun W hW=>⟨(hW.1.cell (p:=⟨cb,3,none⟩) af).trans b3,⟨cell_of hW.2 0 _ rfl,cell_of hW.2 1 _ rfl,cell_of hW.2 2 _ rfl,cell_of hW.2 3 _ rfl,cell_of hW.2 4 _ rfl⟩,cell_of hW.2 5 _ rfl,cell_of hW.2 6 _ rfl,cell_of hW.2 7 _ rfl,cell_of hW.2 8 _ rfl,cell_of hW.2 9 _ rfl⟩
 cases b with
 |false=>
  have HQ:=Ac ((Aa HN) (afJ rfl));clear HA HL HR HJ HN HD;go_enter Tryz.func94,Tryz.ntmps94;go_wp2_with (first|(go_at_call 158;refine((Aa HU) _ ((Aa HB) _)).mono ?_;rintro e w1 ⟨rfl,aa⟩;have HW:=Ac ((Aa HX) w1 aa).1;clear aa))
  go_returns;exact⟨rfl,(Aa HQ) _ (Aa HW)⟩
 |true=>
  by_cases k2:kd=2
  ·have HQ:=Ac ((Aa HA) rfl k2);subst k2;clear HA HL HR HJ HN;go_enter Tryz.func94,Tryz.ntmps94;go_wp2_with (first|(go_at_call 158;refine((Aa HU) _ ((Aa HB) _)).mono ?_;rintro e w1 ⟨rfl,aa⟩;have hW:=(Aa HX) w1 aa;have HW:=Ac hW.1;have hd:=(Aa HD) w1 hW;obtain⟨f3,⟨g0,g1,g2,g3,g4⟩,g5,g6,g7,g8,g9⟩:=hd;clear aa hW)|(go_at_call 159;refine((Aa HQ) _ (Aa HW)).mono ?_;rintro e w3 ⟨rfl,ac⟩))
   go_returns;exact⟨rfl,ac⟩
  ·have n2:(kd==2)=false:=by simpa using k2
   by_cases k4:kd=4
   ·have HQ:=Ac ((Aa HL) rfl k4);subst k4;clear HA HL HR HJ HN k2;go_enter Tryz.func94,Tryz.ntmps94;go_wp2_with (first|(go_at_call 158;refine((Aa HU) _ ((Aa HB) _)).mono ?_;rintro e w1 ⟨rfl,aa⟩;have hW:=(Aa HX) w1 aa;have HW:=Ac hW.1;have hd:=(Aa HD) w1 hW;obtain⟨f3,⟨g0,g1,g2,g3,g4⟩,g5,g6,g7,g8,g9⟩:=hd;clear aa hW))
    have ae:=Ac ((Aa HQ) _ (Aa HW).drew);go_region_law (refine Av rfl 149 #[.tmp 17,.tmp 24] #[93,242] rfl adp #[ptr cb,.pointer (some ⟨lb,k*10,none⟩)] rfl _ (Aa ae) ?_;rintro e w3 ⟨rfl,ac⟩;refine⟨_,rfl,?_⟩)
    all_goals
     go_wp2;go_returns;exact⟨rfl,ac⟩
   ·have n4:(kd==4)=false:=by simpa using k4
    by_cases k5:kd=5
    ·have HQ:=Ac ((Aa HR) rfl k5);subst k5;clear HA HL HR HJ HN k2 k4;go_enter Tryz.func94,Tryz.ntmps94;go_wp2_with (first|(go_at_call 158;refine((Aa HU) _ ((Aa HB) _)).mono ?_;rintro e w1 ⟨rfl,aa⟩;have hW:=(Aa HX) w1 aa;have HW:=Ac hW.1;have hd:=(Aa HD) w1 hW;obtain⟨f3,⟨g0,g1,g2,g3,g4⟩,g5,g6,g7,g8,g9⟩:=hd;clear aa hW)|(go_at_call 160;refine((Aa HQ) _ (Aa HW)).mono ?_;rintro e w3 ⟨rfl,ac⟩))
     go_returns;exact⟨rfl,ac⟩
    ·have n5:(kd==5)=false:=by simpa using k5
     by_cases k7:kd=7
     ·have HQ:=Ac ((Aa HJ) rfl k7);subst k7;clear HA HL HR HJ HN k2 k4 k5;go_enter Tryz.func94,Tryz.ntmps94;go_wp2_with (first|(go_at_call 158;refine((Aa HU) _ ((Aa HB) _)).mono ?_;rintro e w1 ⟨rfl,aa⟩;have hW:=(Aa HX) w1 aa;have HW:=Ac hW.1;have hd:=(Aa HD) w1 hW;obtain⟨f3,⟨g0,g1,g2,g3,g4⟩,g5,g6,g7,g8,g9⟩:=hd;clear aa hW)|(go_at_call 161;refine((Aa HQ) _ (Aa HW)).mono ?_;rintro e w3 ⟨rfl,ac⟩))
      go_returns;exact⟨rfl,ac⟩
     ·have n7:(kd==7)=false:=by simpa using k7
      have HQ:=Ac ((Aa HN) (afM (by omega)));clear HA HL HR HJ HN k2 k4 k5 k7;go_enter Tryz.func94,Tryz.ntmps94;go_wp2_with (first|(go_at_call 158;refine((Aa HU) _ ((Aa HB) _)).mono ?_;rintro e w1 ⟨rfl,aa⟩;have hW:=(Aa HX) w1 aa;have HW:=Ac hW.1;have hd:=(Aa HD) w1 hW;obtain⟨f3,⟨g0,g1,g2,g3,g4⟩,g5,g6,g7,g8,g9⟩:=hd;clear aa hW))
      go_returns;exact⟨rfl,(Aa HQ) _ (Aa HW)⟩
theorem LW.wide{F':Aq}(h:LW p F G w)(hF:∀k,F k->F' k)(ac:∀k,F' k->k<w.heap.size):LW p F' G w:=by
 obtain⟨hx,hn,ab,ad⟩:=h.BP;have hk:Af (fun _=>False) w w:=Af.refl _ w;have aa:Avoid w F (fun _=>False):=Avoid.apart (fun _ _ q=>q);refine⟨h.wf,h.Db,h.bx,h.XH,?_,h.BN.keep hk aa hF,h.names,h.cl,fun i c hc=>?_,h.bound,⟨hF _ hx,hF _ hn,hF _ ab,hF _ ad⟩,fun i hi=>?_,h.inj,ac⟩
 ·obtain⟨K,h1,h2,h3⟩:=h.bn;exact⟨K,h1,h2,fun j hj=>hF _ (h3 j hj)⟩
 ·obtain⟨xs,h1,h2,h3⟩:=h.ln i c hc;exact⟨xs,h1,h2,h3.Eg hk aa.sv hF⟩
 ·obtain⟨a1,a2,a3,a4⟩:=h.FG i hi;exact⟨hF _ a1,hF _ a2,hF _ a3,a4⟩
theorem Nn{B:Nat}{v:List V.It}(h:V.Row w B O v)(ac:v≠[]):BF w (fun k=>O.ownBlock=some k) O v/\∀k,O.ownBlock=some k->B<=k/\k<w.heap.size:=by
 refine⟨?_,fun k hk=>World.ownsRow.lt h k hk⟩;rcases id h.2 with ⟨_,h0⟩|⟨g,cap,ab,rfl,_,hg,aa,_,ae,ad⟩
 ·exact absurd (agL.1 h0) ac
 ·refine afM ⟨g,0,cap,ab,ac,rfl,aa,rfl,hg,fun j x hx=>?_⟩;have hj:=(afG.1 hx).1;have q:∀i u,i<2->(V.flat v)[j*2+i]?=some u->ab[0+j*2+i]?=some u:=fun i u hi hu=>by
   rw[<-ad,af7,if_pos (by omega)]at hu;rw[agn];simpa using hu
  exact⟨q 0 _ (by omega) (V.flat_get v j x hx).1,q 1 _ (by omega) (V.flat_get v j x hx).2⟩
theorem LW.rest(h:LW p F G w)(ha:R.At G i k c l)(h1:l.state=1):
  Calls Tryz.prog 149 #[ptr (p.cb i),.pointer (some ⟨p.lb i,k*10,none⟩)] w fun e w'=>e=.returned (.tuple #[])/\LW p F (R.ET G i k) w'/\Ap F F w w':=by
 obtain⟨xs,x,hL,hR,hx,aa,ak,aj,ah⟩:=h.line ha.cl ha.ln;have ab:=Ic h ha.cl;have hi:=(afG.1 ha.cl).1;have ac:=(h.wf.cl i c ha.cl).line k l ha.ln;obtain⟨z1,z2,ai,ae,am,al⟩:=ac.one h1;have af:=h.wf.cf;unfold R.BD at af;have ag:F (p.lb i):=(h.FG i hi).2.1;have e:R.ET G i k=R.Am G i k {l with wait:=G.c.Ay,tries:=G.c.tries}:=by
  unfold R.ET;rw[ha.line]
 rw[e];refine(Rv w (p.cb i) (p.lb i) k G.c.Ay G.c.tries xs x hL hx ab.a4 ab.a5 (AZ (h.cl i c ha.cl) hL (by decide))).mono ?_;rintro e w' ⟨rfl,ad,hk⟩;refine⟨rfl,?_,hk.mono (fun q _ e=>by rw[e];exact ag),fun _ q=>afJ q⟩;exact h.turn ha.cl hL hR aj hk ad ⟨ac.seq,fun _=>⟨z1,z2,ai,ae,by simp only;omega,by simp only;omega⟩⟩ ⟨aa.state,aa.seq,aa.res,fun q=>⟨(aa.one q).1,(aa.one q).2.1,(aa.one q).2.2.1,rfl,rfl⟩,aa.two⟩ ah
theorem LW.got(h:LW p F G w)(ha:R.At G i k c l)(h1:l.state=1){P:Pk}(hr:AR P)(ac:i<3)(ad:k<3)(hP:P.line=(k:Int)):
  Calls Tryz.prog 217 #[ptr (p.cb i),pv P] w fun e w'=>e=.returned (.tuple #[])/\∃F',LW p F' (R.I1 G i P) w'/\Ap F F' w w':=by
 refine Yf w (p.cb i) P _ (fun wa hb=>?_);have aa:=(h.wf.cl i c ha.cl).line k l ha.ln;obtain⟨z1,z2,_,_,_,_⟩:=aa.one h1;have ab:=(h.wf.cl i c ha.cl).Ae;have ae:=aa.seq;obtain⟨_,_,_,_,_,_,h7,h8,_⟩:=hr;rw[hP];refine((h.below hb).ZE ha.cl ha.ln h1 6 P.part P.off false [] ⟨by simp,by simp only;omega,ab,by simp only;omega,by simp only;omega,z2,h7,h8,?_⟩).mono ?_
 ·unfold Dm;simp
 ·rintro e w' ⟨rfl,F',q1,q2⟩;refine⟨rfl,F',?_,(Ap.Al F hb).trans q2⟩;have e:R.I1 G i P=R.Bg G (-1) ⟨6,i,c.Ae,k,l.seq,l.uid,P.part,P.off,false,[]⟩:=by
   unfold R.I1;rw[hP,ha.line,R.Co ha.cl]
  rw[e];exact q1
theorem SG(w:World)(b off cap:Nat):
  Calls Tryz.prog 39 #[.slice (some ⟨b,off,none⟩) 0 cap] w fun e w'=>(∃a,e=.returned (.slice a 0 0))/\Below w.heap.size w w':=by
 have hq:∀w,(binOp .eql 37 (.slice (some ⟨b,off,none⟩) 0 cap) (.slice none 0 0)).run Tryz.prog w=.ok (.bool false) w:=fun w=>by rfl
 go_enter Tryz.func39,Tryz.ntmps39;go_wp2
 go_ret
 exact⟨⟨_,rfl⟩,(Below.refl _ _).alloc (afI _) _⟩
theorem KA(l:List R.En)(e:R.En)(d:Int):∀aa,R.Fq (l++[e]) d aa=if R.IY e.arg 0=d then e.arg.drop 2 else R.Fq l d aa:=by
 induction l with
 |nil=>intro aa;rfl
 |cons a l ih=>intro aa;exact ih _
theorem Td(w:World)(b dn bb off n cap dc:Nat)(da:Option Addr)(proc:Int)(ak:dn<3)(hn:2<=n)(ah:n<=cap)(c0:w.cell? ⟨bb,off,none⟩=some (.int .i64 (dn:Int)))(db:w.cell? ⟨b,dn,none⟩=some (.slice da 0 dc))(z:w.frozen? ⟨b,dn,none⟩=false)
  (C:Value->World->World->Prop) (ab:Value->World->Prop)
  (ae:Hid (∀wa,Below w.heap.size w wa->Calls Tryz.prog 39 #[.slice (some ⟨bb,if cap=2 then off else off+4,none⟩) (n-2) (cap-2)] wa fun e w'=>(∃ra rn rc,e=.returned (.slice ra rn rc)/\C (.slice ra rn rc) wa w')/\Below wa.heap.size wa w'))
  (HP:Hid (∀O wa w1,Below w.heap.size w wa->Below w.heap.size w w1->C O wa w1->ab (.slice (some ⟨w1.heap.size,0,none⟩) 2 2) ((w1.setCell ⟨b,dn,none⟩ O).alloc (.cells #[.int .i64 0,.string ⟨#[]⟩,.int .i64 0,.string ⟨#[]⟩] 73)))):
  Calls Tryz.prog 294 #[ptr b,.int .i64 proc,.slice (some ⟨bb,off,none⟩) n cap] w fun e w'=>∃O,e=.returned O/\ab O w':=by
 have q1:(0:Int)<=(dn:Int):=by omega
 have q2:(dn:Int)<3:=by omega
 have q3:(0:Int)<(n:Int):=by omega
 have hl:=lt_of_cell db;have HB:Hid (∀m,Below w.heap.size w (w.drewN m)):=fun m=>below_drewN (Below.refl _ _) m
 by_cases ag:cap=2
 ·rw[if_pos ag]at ae;subst ag;have aj:n=2:=by omega
  subst aj;go_enter Tryz.func294,Tryz.ntmps294;go_wp2_with fail
  go_quiet (fail);go_wp2_with (first|(go_at_call 39;refine((Aa ae) _ ((Aa HB) _)).mono ?_;rintro e w1 ⟨⟨ra,rn,rc,rfl,ad⟩,ac⟩;have aa:=((Aa HB) _).trans (ac.mono (by simp));have af:w1.cell? ⟨b,dn,none⟩=some (.slice da 0 dc):=(aa.cell (p:=⟨b,dn,none⟩) hl).trans db;have z1:w1.frozen? ⟨b,dn,none⟩=false:=(aa.frozen (p:=⟨b,dn,none⟩) hl).trans z;have ai:=lt_of_cell af;have HQ:=Ac ((Aa HP) _ _ w1 ((Aa HB) _) aa ad);clear ad ac aa))
  go_returns;exact⟨_,rfl,Aa HQ⟩
 ·rw[if_neg ag]at ae;have h2:¬cap-2=0:=by omega
  have h3:2<cap:=by omega
  go_enter Tryz.func294,Tryz.ntmps294;go_wp2_with fail
  go_quiet (fail);go_wp2_with (first|(go_at_call 39;refine((Aa ae) _ ((Aa HB) _)).mono ?_;rintro e w1 ⟨⟨ra,rn,rc,rfl,ad⟩,ac⟩;have aa:=((Aa HB) _).trans (ac.mono (by simp));have af:w1.cell? ⟨b,dn,none⟩=some (.slice da 0 dc):=(aa.cell (p:=⟨b,dn,none⟩) hl).trans db;have z1:w1.frozen? ⟨b,dn,none⟩=false:=(aa.frozen (p:=⟨b,dn,none⟩) hl).trans z;have ai:=lt_of_cell af;have HQ:=Ac ((Aa HP) _ _ w1 ((Aa HB) _) aa ad);clear ad ac aa))
  go_returns;exact⟨_,rfl,Aa HQ⟩
theorem VJ(w:World)(b dn bb off n cap lb lo dc:Nat)(l:List V.It)(proc:Int)(aE:dn<3)(hn:2<=n)(az:n<=cap)(au:l≠[])(aF:l.length<=100)(c0:w.cell? ⟨bb,off,none⟩=some (.int .i64 (dn:Int)))(db:w.cell? ⟨b,dn,none⟩=some (.slice (some ⟨lb,lo,none⟩) l.length dc))(z:w.frozen? ⟨b,dn,none⟩=false)(ar:lb<w.heap.size)(ay:¬lb=b)(af:∀j x,l[j]?=some x->w.cell? ⟨lb,lo+j*2,none⟩=some (.int .i64 x.1)/\w.cell? ⟨lb,lo+j*2+1,none⟩=some (.string x.2))
  (C:Value->World->World->Prop) (ai:Value->World->Prop)
  (ak:Hid (∀wa,Below w.heap.size w wa->Calls Tryz.prog 39 #[.slice (some ⟨bb,if cap=2 then off else off+4,none⟩) (n-2) (cap-2)] wa fun e w'=>(∃ra rn rc,e=.returned (.slice ra rn rc)/\C (.slice ra rn rc) wa w')/\Below wa.heap.size wa w'))
  (HP:Hid (∀O wa w1 R w2,Below w.heap.size w wa->Below w.heap.size w w1->C O wa w1->V.Row w2 w1.heap.size R ((1,⟨#[]⟩) :: ((l.length:Int),⟨#[]⟩) :: l)->Below w1.heap.size (w1.setCell ⟨b,dn,none⟩ O) w2->ai R w2)):
  Calls Tryz.prog 294 #[ptr b,.int .i64 proc,.slice (some ⟨bb,off,none⟩) n cap] w fun e w'=>∃O,e=.returned O/\ai O w':=by
 have q1:(0:Int)<=(dn:Int):=by omega
 have q2:(dn:Int)<3:=by omega
 have q3:(0:Int)<(n:Int):=by omega
 have hl:=lt_of_cell db;have aD:0<l.length:=agN.2 au;have e1:((l.length:Int)==0)=false:=by simp[au]
 have HB:Hid (∀m,Below w.heap.size w (w.drewN m)):=fun m=>below_drewN (Below.refl _ _) m
 obtain⟨i0,hi,av,aw,ax⟩:=info_parts V.MR;have aq:=V.FM l;have ah:Hid (∀(w1:World) (O:Value),Below w.heap.size w w1->∀j u,(V.flat l)[j]?=some u->((w1.setCell ⟨b,dn,none⟩ O).alloc (.cells #[.int .i64 1,.string ⟨#[]⟩,.int .i64 (l.length:Int),.string ⟨#[]⟩] 73)).cell? ((⟨lb,lo,none⟩:Addr).add j)=some u):=fun w1 O ad=>by
  refine QJ (w:=(w1.setCell ⟨b,dn,none⟩ O).alloc (.cells #[.int .i64 1,.string ⟨#[]⟩,.int .i64 (l.length:Int),.string ⟨#[]⟩] 73)) l (fun j x hx=>?_);have aB:lb<w1.heap.size:=afT ar ad.size;have h3:∀q v,w.cell? ⟨lb,q,none⟩=some v->((w1.setCell ⟨b,dn,none⟩ O).alloc (.cells #[.int .i64 1,.string ⟨#[]⟩,.int .i64 (l.length:Int),.string ⟨#[]⟩] 73)).cell? ⟨lb,q,none⟩=some v:=fun q v hv=>by
   have hA:Below (w1.setCell ⟨b,dn,none⟩ O).heap.size (w1.setCell ⟨b,dn,none⟩ O) ((w1.setCell ⟨b,dn,none⟩ O).alloc (.cells #[.int .i64 1,.string ⟨#[]⟩,.int .i64 (l.length:Int),.string ⟨#[]⟩] 73)):=(Below.refl _ _).alloc (afI _) _;rw[hA.cell (p:=⟨lb,q,none⟩) (by simpa using aB),World.cell?_setCell_far _ _ _ _ (fun e=>ay e.symm)];exact(ad.cell (p:=⟨lb,q,none⟩) ar).trans hv
  exact⟨h3 _ _ (af j x hx).1,h3 _ _ (af j x hx).2⟩
 have ag:Hid (∀(w1:World) (O:Value),((w1.setCell ⟨b,dn,none⟩ O).alloc (.cells #[.int .i64 1,.string ⟨#[]⟩,.int .i64 (l.length:Int),.string ⟨#[]⟩] 73)).ownsRow w1.heap.size 73 2 (.slice (some ⟨w1.heap.size,0,none⟩) 2 2) 2 [.int .i64 1,.string ⟨#[]⟩,.int .i64 (l.length:Int),.string ⟨#[]⟩]):=fun w1 O=>by
  refine⟨rfl,afM ⟨w1.heap.size,2,#[.int .i64 1,.string ⟨#[]⟩,.int .i64 (l.length:Int),.string ⟨#[]⟩],rfl,afI _,?_,afI _,by decide,rfl,rfl⟩⟩;have:=heap_alloc_new (w1.setCell ⟨b,dn,none⟩ O) (.cells #[.int .i64 1,.string ⟨#[]⟩,.int .i64 (l.length:Int),.string ⟨#[]⟩] 73);simpa using this
 clear af;by_cases ao:cap=2
 ·rw[if_pos ao]at ak;subst ao;have aC:n=2:=by omega
  subst aC;go_enter Tryz.func294,Tryz.ntmps294;go_wp2_with fail
  go_quiet (fail);go_wp2_with (first|(go_at_call 39;refine((Aa ak) _ ((Aa HB) _)).mono ?_;rintro e w1 ⟨⟨ra,rn,rc,rfl,aj⟩,ad⟩;have ac:=((Aa HB) _).trans (ad.mono (by simp));have an:w1.cell? ⟨b,dn,none⟩=some (.slice (some ⟨lb,lo,none⟩) l.length dc):=(ac.cell (p:=⟨b,dn,none⟩) hl).trans db;have z1:w1.frozen? ⟨b,dn,none⟩=false:=(ac.frozen (p:=⟨b,dn,none⟩) hl).trans z;have aA:=lt_of_cell an;have HQ:=Ac (fun R w2=>(Aa HP) _ _ w1 R w2 ((Aa HB) _) ac aj);have am:=Ac ((Aa ah) w1 (.slice ra rn rc) ac);have al:=Ac ((Aa ag) w1 (.slice ra rn rc));clear aj ad ac)|(at_builtin;go_must (refine wpList_append_own_at _ rfl (.tmp 35) (.tmp 36) 37 rfl w1.heap.size 73 i0 (.agg #[.int .i64 0,.string ⟨#[]⟩]) 2 24 Tryz.underlying37 hi av aw ax rfl (by decide) (.slice (some ⟨w1.heap.size,0,none⟩) 2 2) 2 [.int .i64 1,.string ⟨#[]⟩,.int .i64 (l.length:Int),.string ⟨#[]⟩] rfl (Aa al) ⟨lb,lo,none⟩ l.length dc (V.flat l) rfl aq (Aa am) (V.JX l) (by unfold maxLen;omega) (by omega) (by simp) ?_)))
  intro v' wz ab aa ae _;obtain⟨va,vn,vc,ap⟩:=Ar ab;subst ap;have hz:Below w1.heap.size (w1.setCell ⟨b,dn,none⟩ (.slice ra rn rc)) wz:=((Below.refl _ _).alloc (by simp) _).grown aa (by simp) (fun k hk=>by cases hk;exact afI _);have HF:=Ac ((Aa HQ) (.slice va vn vc) wz (by
   have e:V.flat ((1,⟨#[]⟩) :: ((l.length:Int),⟨#[]⟩) :: l)=[.int .i64 1,.string ⟨#[]⟩,.int .i64 (l.length:Int),.string ⟨#[]⟩]++V.flat l:=rfl;have e2:((1,⟨#[]⟩) :: ((l.length:Int),⟨#[]⟩) :: l:List V.It).length=2+l.length:=by simp;omega
   unfold V.Row;rw[e,e2];exact ab) hz)
  clear ab aa ae hz;go_wp2;go_returns;exact⟨_,rfl,Aa HF⟩
 ·rw[if_neg ao]at ak;have h2:¬cap-2=0:=by omega
  have h3:2<cap:=by omega
  go_enter Tryz.func294,Tryz.ntmps294;go_wp2_with fail
  go_quiet (fail);go_wp2_with (first|(go_at_call 39;refine((Aa ak) _ ((Aa HB) _)).mono ?_;rintro e w1 ⟨⟨ra,rn,rc,rfl,aj⟩,ad⟩;have ac:=((Aa HB) _).trans (ad.mono (by simp));have an:w1.cell? ⟨b,dn,none⟩=some (.slice (some ⟨lb,lo,none⟩) l.length dc):=(ac.cell (p:=⟨b,dn,none⟩) hl).trans db;have z1:w1.frozen? ⟨b,dn,none⟩=false:=(ac.frozen (p:=⟨b,dn,none⟩) hl).trans z;have aA:=lt_of_cell an;have HQ:=Ac (fun R w2=>(Aa HP) _ _ w1 R w2 ((Aa HB) _) ac aj);have am:=Ac ((Aa ah) w1 (.slice ra rn rc) ac);have al:=Ac ((Aa ag) w1 (.slice ra rn rc));clear aj ad ac)|(at_builtin;go_must (refine wpList_append_own_at _ rfl (.tmp 35) (.tmp 36) 37 rfl w1.heap.size 73 i0 (.agg #[.int .i64 0,.string ⟨#[]⟩]) 2 24 Tryz.underlying37 hi av aw ax rfl (by decide) (.slice (some ⟨w1.heap.size,0,none⟩) 2 2) 2 [.int .i64 1,.string ⟨#[]⟩,.int .i64 (l.length:Int),.string ⟨#[]⟩] rfl (Aa al) ⟨lb,lo,none⟩ l.length dc (V.flat l) rfl aq (Aa am) (V.JX l) (by unfold maxLen;omega) (by omega) (by simp) ?_)))
  intro v' wz ab aa ae _;obtain⟨va,vn,vc,ap⟩:=Ar ab;subst ap;have hz:Below w1.heap.size (w1.setCell ⟨b,dn,none⟩ (.slice ra rn rc)) wz:=((Below.refl _ _).alloc (by simp) _).grown aa (by simp) (fun k hk=>by cases hk;exact afI _);have HF:=Ac ((Aa HQ) (.slice va vn vc) wz (by
   have e:V.flat ((1,⟨#[]⟩) :: ((l.length:Int),⟨#[]⟩) :: l)=[.int .i64 1,.string ⟨#[]⟩,.int .i64 (l.length:Int),.string ⟨#[]⟩]++V.flat l:=rfl;have e2:((1,⟨#[]⟩) :: ((l.length:Int),⟨#[]⟩) :: l:List V.It).length=2+l.length:=by simp;omega
   unfold V.Row;rw[e,e2];exact ab) hz)
  clear ab aa ae hz;go_wp2;go_returns;exact⟨_,rfl,Aa HF⟩
theorem Qy{w1 w2:World}{log:List R.En}{en:R.En}{b dn:Nat}{K Z:Value}{d0 d1 d2:Value}{out:List R.It}(hF:F b)(hb:w.heap[b]?=some (.cells #[d0,d1,d2] 329 (0,0)))(hK:K=.slice none 0 0)(h0:IW w F d0 (R.Fq log 0 []))(h1:IW w F d1 (R.Fq log 1 []))(h2:IW w F d2 (R.Fq log 2 []))(ao:dn<3)(ad:R.IY en.arg 0=(dn:Int))(ae:Below w.heap.size w w1)
  (hC:(en.arg.drop 2=[]/\∃a,O=.slice a 0 0)\/BF w1 (fun k=>w.heap.size<=k/\k<w1.heap.size) O (en.arg.drop 2)) (ab:Below w1.heap.size (w1.setCell ⟨b,dn,none⟩ O) w2) (ag:V.Row w2 w.heap.size Z out):Did w F log en b K 2 (.iface 327 (ptr b)) Z out w2:=by
 have am:=lt_of_block hb;have ap:=ae.size;have an:=ab.size;simp only[World.size_setCell]at an;have al:Af (fun k=>k=b) w (w1.setCell ⟨b,dn,none⟩ O):=(Af.Al ae _).trans (Ah _);have ai:Af (fun k=>k=b) (w1.setCell ⟨b,dn,none⟩ O) w2:=⟨ab.os,ab.tape,ab.output,ab.size,fun k hk _=>ab.block k (by simpa using hk)⟩;have hk:Af (fun k=>k=b) w w2:=al.trans ai;have ah:w1.heap[b]?=some (.cells #[d0,d1,d2] 329 (0,0)):=by rw[ae.block b am];exact hb
 have aa:w2.heap[b]?=some (.cells ([d0,d1,d2].set dn O).toArray 329 (0,0)):=by
  rw[ab.block b (by omega)];exact Ai (cs:=[d0,d1,d2]) (off:=dn) ah O
 have ac:∀{Y:Value} {l:List R.It},IW w F Y l->IW w2 (fun k=>F k\/(w.heap.size<=k/\k<w2.heap.size)) Y l:=fun h=>h.keep hk (fun k aj ak af e=>by
  subst e;rw[hb]at af;cases af) (fun _ q=>afJ q)
 have hO:IW w2 (fun k=>F k\/(w.heap.size<=k/\k<w2.heap.size)) O (en.arg.drop 2):=by
  rcases hC with hC|hC
  ·exact afJ hC
  ·refine afM (hC.keep (E:=fun k=>k=b) ((Ah _).trans ai) (fun k aj ak af e=>?_) (fun k q=>afM ⟨q.1,by omega⟩));subst e;omega
 refine⟨ag,hk.mono (fun k _ e=>afJ e),K,?_,afJ rfl⟩;have l0:=KA log en 0 [];have l1:=KA log en 1 [];have l2:=KA log en 2 [];rw[ad]at l0 l1 l2;have hd:dn=0\/dn=1\/dn=2:=by omega
 rcases hd with rfl|rfl|rfl
 ·rw[if_pos (by decide)]at l0;rw[if_neg (by decide)]at l1 l2;exact .Jo O d1 d2 (afJ hF) aa hK (by rw[l0];exact hO) (by rw[l1];exact ac h1) (by rw[l2];exact ac h2)
 ·rw[if_neg (by decide)]at l0 l2;rw[if_pos (by decide)]at l1;exact .Jo d0 O d2 (afJ hF) aa hK (by rw[l0];exact ac h0) (by rw[l1];exact hO) (by rw[l2];exact ac h2)
 ·rw[if_neg (by decide)]at l0 l1;rw[if_pos (by decide)]at l2;exact .Jo d0 d1 O (afJ hF) aa hK (by rw[l0];exact ac h0) (by rw[l1];exact ac h1) (by rw[l2];exact hO)
theorem abp(w U:World)(hU:w.heap.size<=U.heap.size)(n m:Int)(s t:ByteArray):V.Row (U.alloc (.cells #[.int .i64 n,.string s,.int .i64 m,.string t] 73)) w.heap.size (.slice (some ⟨U.heap.size,0,none⟩) 2 2) [(n,s),(m,t)]:=by
 refine⟨rfl,afM ⟨U.heap.size,2,#[.int .i64 n,.string s,.int .i64 m,.string t],rfl,hU,?_,afI _,by decide,rfl,rfl⟩⟩;exact heap_alloc_new U _
theorem aax(w:World)(F:Aq)(log:List R.En)(en:R.En)(b:Nat)(K W:Value)(h:Works w F log b K 2 W)(ay:∀k,F k->k<w.heap.size){X:Value}(hX:V.Items w X en.arg)(ha:∃d k rest,en.arg=d :: k :: rest/\(0<=d.1/\d.1<=2)/\rest.length<=3)(ax:∀d,(R.Fq log d []).length<=3):
  Calls Tryz.prog 294 #[ptr b,.int .i64 en.proc,X] w fun e w'=>∃O,e=.returned O/\Did w F log en b K 2 W O (R.Cu 2 log en.proc en.arg) w':=by
 obtain⟨d,k,rest,hx,hd,hr⟩:=ha;have hn:en.arg.length=rest.length+2:=by rw[hx];rfl
 obtain⟨a,cap,rfl,ae,hc⟩:=hX;rcases hc with h0|⟨bb,off,rfl,aj,hc⟩
 ·rw[hx]at h0;cases h0
 obtain⟨c0,_⟩:=hc 0 d (by rw[hx];rfl);simp only[Nat.zero_mul,aha]at c0;obtain⟨dn,aq⟩:∃dn:Nat,d.1=(dn:Int):=⟨d.1.toNat,by omega⟩;rw[aq]at c0;have aa:R.IY en.arg 0=(dn:Int):=by rw[hx,<-aq];rfl
 generalize hk0:(2:Int)=kd at h;cases h with
 |counter=>cases hk0
 |FJ=>cases hk0
 |Jo d0 d1 d2 hF hb hK g0 g1 g2=>
  have aC:=lt_of_block hb;obtain⟨D,l,hD,ao,hl⟩:∃D l,w.cell? ⟨b,dn,none⟩=some D/\IW w F D l/\l=R.Fq log (dn:Int) []:=by
   have aw:dn=0\/dn=1\/dn=2:=by omega
   rcases aw with rfl|rfl|rfl
   ·exact⟨d0,_,cell_of hb 0 _ rfl,g0,rfl⟩
   ·exact⟨d1,_,cell_of hb 1 _ rfl,g1,rfl⟩
   ·exact⟨d2,_,cell_of hb 2 _ rfl,g2,rfl⟩
  have am:=ax (dn:Int);rw[<-hl]at am;have ag:en.arg.drop 2=rest:=by rw[hx];rfl
  have an:Hid (∀wa,Below w.heap.size w wa->Calls Tryz.prog 39 #[.slice (some ⟨bb,if cap=2 then off else off+4,none⟩) (en.arg.length-2) (cap-2)] wa fun e w'=>(∃ra rn rc,e=.returned (.slice ra rn rc)/\((en.arg.drop 2=[]/\∃a,Value.slice ra rn rc=.slice a 0 0)\/BF w' (fun k=>w.heap.size<=k/\k<w'.heap.size) (.slice ra rn rc) (en.arg.drop 2)))/\Below wa.heap.size wa w'):=fun wa ac=>by
   rw[ag];have e0:en.arg.length-2=rest.length:=by omega
   rw[e0];cases hre:rest with
   |nil=>
    refine(SG wa bb _ (cap-2)).mono ?_;rintro e w' ⟨⟨a,rfl⟩,ai⟩;exact⟨⟨a,0,0,rfl,afJ ⟨rfl,a,rfl⟩⟩,ai⟩
   |cons r0 rs=>
    rw[<-hre];have av:¬cap=2:=by
     have:1<=rest.length:=by rw[hre];simp
     omega
    rw[if_neg av];refine(MA wa bb (off+4) (cap-2) rest (by omega) (fun j x aA=>?_) (afT aj ac.size)).mono ?_
    ·obtain⟨p1,p2⟩:=hc (j+2) x (by rw[hx];exact aA);have e1:off+(j+2)*2=off+4+j*2:=by omega
     rw[e1]at p1 p2;exact⟨(ac.cell (p:=⟨bb,_,none⟩) aj).trans p1,(ac.cell (p:=⟨bb,_,none⟩) aj).trans p2⟩
    ·rintro e w' ⟨⟨O,rfl,ab,_⟩,ai⟩;obtain⟨ra,rn,rc,hO⟩:=Ar ab;subst hO;obtain⟨q1,q2⟩:=Nn ab (by rw[hre];simp);refine⟨⟨ra,rn,rc,rfl,afM (q1.keep (Af.refl (fun _=>False) w') (fun _ _ _ _ q=>q) (fun k hk=>?_))⟩,ai⟩;have:=q2 k hk;have:=ac.size;omega
  have af:R.Cu 2 log en.proc en.arg=if l.length=0 then [R.num 0,R.num 0] else R.num 1 :: R.num l.length :: l:=by
   unfold R.Cu;rw[if_neg (by decide),if_neg (by decide),aa,<-hl]
  rw[af];by_cases ah:l=[]
  ·subst ah;have az:∃da dc,D=.slice da 0 dc:=by
    rcases ao with ⟨_,a,rfl⟩|al
    ·exact⟨_,_,rfl⟩
    ·rcases al with ⟨_,rfl⟩|⟨_,_,_,_,q,_⟩
     ·exact⟨_,_,rfl⟩
     ·exact absurd rfl q
   obtain⟨da,dc,rfl⟩:=az;simp only[List.length_nil,if_true];refine Td w b dn bb off en.arg.length cap dc da en.proc (by omega) (by omega) ae c0 hD (open_list hb) (fun O _ w'=>(en.arg.drop 2=[]/\∃a,O=.slice a 0 0)\/BF w' (fun k=>w.heap.size<=k/\k<w'.heap.size) O (en.arg.drop 2)) _ an ?_;rintro O wa w1 ac ad hC;have e2:(w1.setCell ⟨b,dn,none⟩ O).heap.size=w1.heap.size:=by simp
   refine Qy hF hb hK g0 g1 g2 (by omega) aa ad hC ((Below.refl _ _).alloc (by rw[e2];exact afI _) _) ?_;have:=abp w (w1.setCell ⟨b,dn,none⟩ O) (by rw[e2];exact ad.size) 0 0 ⟨#[]⟩ ⟨#[]⟩;rw[e2]at this;exact this
  ·rcases ao with ⟨q,_⟩|al
   ·exact absurd q ah
   ·rcases al with ⟨q,_⟩|⟨lb,lo,dc,aB,_,rfl,_,ar,ak,ap⟩
    ·exact absurd q ah
    ·rw[if_neg (fun q=>ah (agL.1 q))];refine VJ w b dn bb off en.arg.length cap lb lo dc l en.proc (by omega) (by omega) ae ah (by omega) c0 hD (open_list hb) (ay lb ar) (AZ ak hb (by decide)) (fun j x hx=>⟨by simp[World.cell?,ak,(ap j x hx).1],by simp[World.cell?,ak,(ap j x hx).2]⟩) (fun O _ w'=>(en.arg.drop 2=[]/\∃a,O=.slice a 0 0)\/BF w' (fun k=>w.heap.size<=k/\k<w'.heap.size) O (en.arg.drop 2)) _ an ?_;rintro O wa w1 R w2 ac ad hC ab au;exact Qy hF hb hK g0 g1 g2 (by omega) aa ad hC au (V.EU ab ad.size)
theorem RQ{α:Type}{f:α->List Value}(hf:∀x,(f x).length=n):∀(xs:List α) (k:Nat),(tab f xs).take (k*n)=tab f (xs.take k)
 |[],k=>by simp[tab]
 |x :: xs,0=>by simp[tab]
 |x :: xs,k+1=>by
  have ih:=RQ hf xs k;simp only[tab,agI,List.take_succ_cons]at ih ⊢;rw[ag4,Nat.add_comm,<-hf x,List.take_length_add_append,hf x,ih]
theorem RO{α:Type}{f:α->List Value}(hf:∀x,(f x).length=n):∀(xs:List α) (k:Nat),(tab f xs).drop (k*n)=tab f (xs.drop k)
 |[],k=>by simp[tab]
 |x :: xs,0=>by simp[tab]
 |x :: xs,k+1=>by
  have ih:=RO hf xs k;simp only[tab,agI,List.drop_succ_cons]at ih ⊢;rw[ag4,Nat.add_comm,<-hf x,List.drop_length_add_append,hf x,ih]
theorem Um{α:Type}(f:α->List Value)(xs ys:List α):tab f (xs++ys)=tab f xs++tab f ys:=by simp[tab]
theorem IR{g:Nat}{aa cs:Array Value}{e:TypeId}(h:w.heap[g]?=some (.cells aa e (0,0))):(w.setRow g cs).heap[g]?=some (.cells cs e (0,0)):=by
 simp[World.setRow,Array.getElem?_modify,h]
theorem E6(w:World)(g:Nat)(cs:Array Value):Af (fun k=>k=g) w (w.setRow g cs):=by
 refine⟨rfl,rfl,rfl,by simp[World.setRow],fun k _ hn=>?_⟩;simp only[World.setRow,agi];rw[if_neg (fun e=>hn e.symm)]
theorem Xc{α:Type}{f:α->List Value}(hf:∀x,(f x).length=n)(xs:List α)(i:Nat):tab f (xs.eraseIdx i)=(tab f xs).take (i*n)++(tab f xs).drop ((i+1)*n):=by
 rw[List.eraseIdx_eq_take_drop_succ,Um,RQ hf,RO hf]
theorem XY{L T Z:List Value}{cap:Nat}(hk:0<k)(hL:L.length=cap*k)(hn:n<=cap)(hT:L.take (n*k)=T)(hi:i<n)(hZ:Z.length=k):
  let C1:=L.take (i*k)++T.drop ((i+1)*k)++L.drop (i*k+(T.drop ((i+1)*k)).length)
  let C2:=C1.take ((n-1)*k)++Z++C1.drop ((n-1)*k+k)
  C1.length=cap*k/\C2.length=cap*k/\C2.take ((n-1)*k)=T.take (i*k)++T.drop ((i+1)*k)/\T.length=n*k/\(T.drop ((i+1)*k)).length=(n-(i+1))*k:=by
 have ai:n*k<=cap*k:=agB _ hn;have ac:T.length=n*k:=by rw[<-hT,aga];omega
 have ah:(i+1)*k<=n*k:=agB _ hi;have ad:(i+1)*k=i*k+k:=ag4 i k;have ae:(n-1)*k+k=n*k:=by rw[<-ag4];congr 1;omega
 have hd:(T.drop ((i+1)*k)).length=(n-(i+1))*k:=by rw[agf,ac,Nat.sub_mul]
 have ag:(n-(i+1))*k=n*k-(i+1)*k:=Nat.sub_mul _ _ _;have af:T.take (i*k)=L.take (i*k):=by rw[<-hT,List.take_take,Nat.min_eq_left (by omega)]
 intro C1 C2;have ab:C1.length=cap*k:=by
  simp only[C1,afS,aga,agf,hL,hd]at *;omega
 have aa:C1.take ((n-1)*k)=L.take (i*k)++T.drop ((i+1)*k):=by
  simp only[C1];rw[agp (by rw[afS,aga,hd,hL];omega)];apply af6;rw[afS,aga,hd,hL];omega
 refine⟨ab,?_,?_,ac,hd⟩
 ·simp only[C2,afS,aga,agf,ab,hZ];omega
 ·simp only[C2];rw[agk,agp (by rw[aga,ab];omega),List.take_take,Nat.min_self,aa,af]
end Go.Proofs.YtblomippkddgiabGreatDoor
