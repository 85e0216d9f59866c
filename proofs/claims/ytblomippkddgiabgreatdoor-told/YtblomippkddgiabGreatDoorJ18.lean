import Derived.Test.YtblomippkddgiabGreatDoorJ17
import Derived.WalkMore
import Derived.ScopeJumps
set_option maxRecDepth 100000
set_option maxHeartbeats 4000000
namespace Go.Proofs.YtblomippkddgiabGreatDoor
open Go.RowKit
variable {a:Act}{F:Aq}{x:CU}{xs:List CU}{b i k:Nat}{p:Pl}{c:R.Cl}{l:R.Ln}{G:R.Wd}{w:World}
structure ab0(w:World)(b k:Nat)(x:CU):Prop where
 a0:w.cell? ⟨b,k*10,none⟩=some (.int .i64 x.state)
 a1:w.cell? ⟨b,k*10+1,none⟩=some (.int .i64 x.seq)
 a2:w.cell? ⟨b,k*10+2,none⟩=some x.rv
 a3:w.cell? ⟨b,k*10+3,none⟩=some (.int .i64 x.uid)
 a4:w.cell? ⟨b,k*10+4,none⟩=some (.int .i64 x.proc)
 a5:w.cell? ⟨b,k*10+5,none⟩=some (.string (str x.msg))
 a6:w.cell? ⟨b,k*10+6,none⟩=some (.int .i64 x.Ao)
 a7:w.cell? ⟨b,k*10+7,none⟩=some (.string (str x.came))
 a8:w.cell? ⟨b,k*10+8,none⟩=some (.int .i64 x.wait)
 a9:w.cell? ⟨b,k*10+9,none⟩=some (.int .i64 x.tries)
theorem Yu(h:w.heap[b]?=some (.cells (tab CU.cells xs).toArray 129 (0,0)))(hx:xs[k]?=some x):ab0 w b k x:=by
 have q:∀j v,j<10->x.cells[j]?=some v->w.cell? ⟨b,k*10+j,none⟩=some v:=fun j v hj hv=>AP h (by rw[E7 CU.len xs k j x hx hj];exact hv)
 exact⟨q 0 _ (by omega) rfl,q 1 _ (by omega) rfl,q 2 _ (by omega) rfl,q 3 _ (by omega) rfl,q 4 _ (by omega) rfl,q 5 _ (by omega) rfl,q 6 _ (by omega) rfl,q 7 _ (by omega) rfl,q 8 _ (by omega) rfl,q 9 _ (by omega) rfl⟩
theorem EO{V:Value}{l:List R.It}(h:BF w F V l):∃a n c,V=.slice a n c:=by
 rcases h with ⟨_,h⟩|⟨b,off,cap,aa,_,h,_⟩
 ·exact⟨_,_,_,h⟩
 ·exact⟨_,_,_,h⟩
structure aem(w:World)(p:Pl)(G:R.Wd)(i:Nat)(c:R.Cl):Prop where
 a0:w.cell? ⟨p.cb i,0,none⟩=some (.int .i64 (i:Int))
 a1:w.cell? ⟨p.cb i,1,none⟩=some (.int .i64 c.Ae)
 a2:w.cell? ⟨p.cb i,2,none⟩=some (.map (some (p.bm i)))
 a3:w.cell? ⟨p.cb i,3,none⟩=some (.slice (some ⟨p.lb i,0,none⟩) c.lines.length c.lines.length)
 a4:w.cell? ⟨p.cb i,4,none⟩=some (.int .i64 G.c.Ay)
 a5:w.cell? ⟨p.cb i,5,none⟩=some (.int .i64 G.c.tries)
 a6:w.cell? ⟨p.cb i,6,none⟩=some (ptr p.n)
theorem Ic(h:LW p F G w)(hc:G.Ad[i]?=some c):aem w p G i c:=by
 have hx:=h.cl i c hc;exact⟨cell_of hx 0 _ rfl,cell_of hx 1 _ rfl,cell_of hx 2 _ rfl,cell_of hx 3 _ rfl,cell_of hx 4 _ rfl,cell_of hx 5 _ rfl,cell_of hx 6 _ rfl⟩
theorem LW.line(h:LW p F G w)(hc:G.Ad[i]?=some c)(hl:c.lines[k]?=some l):∃xs x,w.heap[p.lb i]?=some (.cells (tab CU.cells xs).toArray 129 (0,0))/\Hw c.lines xs/\xs[k]?=some x/\N8 l x/\ab0 w (p.lb i) k x/\EJ w F c.lines xs/\BF w F x.rv l.result:=by
 obtain⟨xs,h1,h2,h5⟩:=h.ln i c hc;obtain⟨x,h3,h4⟩:=h2.get hl;exact⟨xs,x,h1,h2,h3,h4,Yu h1 h3,h5,h5 k l x hl h3⟩
theorem adv:∀args w,(callFunc 245 args).run Tryz.prog w=.ok (.enter 245 args) w:=fun _ _=>rfl
theorem LW.ZE(h:LW p F G w)(hc:G.Ad[i]?=some c)(hl:c.lines[k]?=some l)(h1:l.state=1)(kd pa o:Int)(pl:Bool)(body:List UInt8)(hr:AR ⟨kd,i,c.Ae,k,l.seq,l.uid,pa,o,pl,body⟩):
  Calls Tryz.prog 204 #[ptr (p.cb i),.int .i64 (k:Int),NL kd 0 0 0 0 0 pa o pl (str body)] w fun e w'=>e=.returned (.tuple #[])/\∃F',LW p F' (R.Bg G (-1) ⟨kd,i,c.Ae,k,l.seq,l.uid,pa,o,pl,body⟩) w'/\Ap F F' w w':=by
 obtain⟨xs,x,hL,hR,hx,ag,al,_,ak⟩:=h.line hc hl;obtain⟨ra,rn,rc,am⟩:=EO ak;have aj:=Ic h hc;have hk:=(afG.1 hl).1;have an:=lt_of_cell aj.a0;have ao:=lt_of_cell al.a0;obtain⟨ac,aa⟩:∃ac:World->Prop,∀ae,ac ae↔∃F',LW p F' (R.Bg G (-1) ⟨kd,i,c.Ae,k,l.seq,l.uid,pa,o,pl,body⟩) ae/\Ap F F' w ae:=⟨_,fun _=>Iff.rfl⟩;suffices hq:Calls Tryz.prog 204 #[ptr (p.cb i),.int .i64 (k:Int),NL kd 0 0 0 0 0 pa o pl (str body)] w fun e w'=>e=.returned (.tuple #[])/\ac w' from hq.mono (fun e w' h=>⟨h.1,(aa w').1 h.2⟩)
 have HS:Hid (∀w',LW p F G w'->Below w.heap.size w w'->Calls Tryz.prog 245 #[ptr p.n,.int .i64 (-1),NL kd i c.Ae k l.seq l.uid pa o pl (str body)] w' fun e ae=>e=.returned (.tuple #[])/\ac ae):=fun w' h' hb=>by
  refine(h'.send (-1) ⟨kd,i,c.Ae,k,l.seq,l.uid,pa,o,pl,body⟩ hr).mono ?_;rintro e ae ⟨rfl,F',q1,q2⟩;exact⟨rfl,(aa ae).2 ⟨F',q1,(Ap.Al F hb).trans q2⟩⟩
 clear aa;have ah:Hid (∀w',Below w.heap.size w w'->LW p F G w'):=fun w' hb=>h.below hb
 have eu:x.uid=l.uid:=(ag.one h1).1;have eq:x.seq=l.seq:=ag.seq;obtain⟨a0,a1,a2,a3,a4,a5,a6,a7,a8,a9⟩:=al;rw[am]at a2;obtain⟨b0,b1,b2,b3,b4,b5,b6⟩:=aj;rw[eu]at a3;rw[eq]at a1;generalize str body=SB at *;generalize c.Ae=li at *;generalize l.seq=sq at *;generalize l.uid=u at *;generalize c.lines.length=nl at *;generalize p.cb i=cb at *;generalize p.lb i=lb at *;clear hr h hL hR hx ag hc hl h1 eu eq ak am;obtain⟨BX,af⟩:∃BX,(w.alloc (.cells #[.int .i64 kd,.int .i64 (i:Int),.int .i64 li,.int .i64 (k:Int),.int .i64 sq,.int .i64 u,.int .i64 pa,.int .i64 o,.bool pl,.string SB] 82)).alloc (.cells #[.int .i64 x.state,.int .i64 sq,.slice ra rn rc,.int .i64 u,.int .i64 x.proc,.string (str x.msg),.int .i64 x.Ao,.string (str x.came),.int .i64 x.wait,.int .i64 x.tries] 129)=BX:=⟨_,rfl⟩;have HB:Hid (Below w.heap.size w BX):=by
  rw[<-af];exact((Below.refl w.heap.size w).alloc (afI _) _).alloc (by simp) _
 have ab:BX.heap[w.heap.size]?=some (.cells #[.int .i64 kd,.int .i64 (i:Int),.int .i64 li,.int .i64 (k:Int),.int .i64 sq,.int .i64 u,.int .i64 pa,.int .i64 o,.bool pl,.string SB] 82 (0,0)):=by
  rw[<-af];exact(Below.heap_alloc _ _ _ (by simp)).trans (heap_alloc_new w _)
 have HC:=Ac ((Aa HS) BX.drew ((Aa ah) _ (Aa HB).drew) (Aa HB).drew);have d6:BX.cell? ⟨cb,6,none⟩=some (ptr p.n):=((Aa HB).cell (p:=⟨cb,6,none⟩) an).trans b6;have c0:BX.cell? ⟨w.heap.size,0,none⟩=some (.int .i64 kd):=cell_of ab 0 _ rfl;have c1:BX.cell? ⟨w.heap.size,1,none⟩=some (.int .i64 (i:Int)):=cell_of ab 1 _ rfl;have c2:BX.cell? ⟨w.heap.size,2,none⟩=some (.int .i64 li):=cell_of ab 2 _ rfl;have c3:BX.cell? ⟨w.heap.size,3,none⟩=some (.int .i64 (k:Int)):=cell_of ab 3 _ rfl;have c4:BX.cell? ⟨w.heap.size,4,none⟩=some (.int .i64 sq):=cell_of ab 4 _ rfl;have c5:BX.cell? ⟨w.heap.size,5,none⟩=some (.int .i64 u):=cell_of ab 5 _ rfl;have c6:BX.cell? ⟨w.heap.size,6,none⟩=some (.int .i64 pa):=cell_of ab 6 _ rfl;have c7:BX.cell? ⟨w.heap.size,7,none⟩=some (.int .i64 o):=cell_of ab 7 _ rfl;have c8:BX.cell? ⟨w.heap.size,8,none⟩=some (.bool pl):=cell_of ab 8 _ rfl;have c9:BX.cell? ⟨w.heap.size,9,none⟩=some (.string SB):=cell_of ab 9 _ rfl;have ai:=Ac af;clear ab af HS ah;go_enter Tryz.func204,Tryz.ntmps204;go_wp2;rw[Aa ai];clear ai a0 a1 a2 a3 a4 a5 a6 a7 a8 a9 b0 b1 b2 b3 b4 b5 b6;go_region_law (refine Av rfl 245 #[.tmp 36,.const (.int .i64 (-1)),.tmp 37] #[67,3,82] rfl adv #[ptr p.n,.int .i64 (-1),NL kd i li k sq u pa o pl SB] rfl _ (Aa HC) ?_;rintro e w1 ⟨rfl,ad⟩;have HP:=Ac ad;clear ad;refine⟨_,rfl,?_⟩)
 all_goals
  go_wp2;go_returns;exact⟨rfl,Aa HP⟩
theorem Vw(hc:G.Ad[i]?=some c)(aa:Bool):R.Dn G i k l aa=⟨1,i,c.Ae,k,l.seq,l.uid,l.Ao,R.Ag l.message,aa || decide (l.Ao<R.Ag l.message-1),R.Be l.message l.Ao⟩:=by
 unfold R.Dn;rw[R.Co hc]
theorem Nh(hc:G.Ad[i]?=some c):R.Dw G i k l=⟨3,i,c.Ae,k,l.seq,l.uid,0,1,true,[]⟩:=by
 unfold R.Dw;rw[R.Co hc]
theorem aeM:∀args w,(callFunc 203 args).run Tryz.prog w=.ok (.enter 203 args) w:=fun _ _=>rfl
theorem LW.piece(h:LW p F G w)(hc:G.Ad[i]?=some c)(hl:c.lines[k]?=some l)(h1:l.state=1)(ao:l.Ao<R.Ag l.message)(aa:Bool):
  Calls Tryz.prog 150 #[ptr (p.cb i),.int .i64 (k:Int),.bool aa] w fun e w'=>e=.returned (.tuple #[])/\∃F',LW p F' (R.AA G i k aa) w'/\Ap F F' w w':=by
 obtain⟨xs,x,hL,hR,hx,aB,ay,_,ax⟩:=h.line hc hl;obtain⟨ra,rn,rc,aA⟩:=EO ax;have aw:=Ic h hc;have hk:=(afG.1 hl).1;have aI:=lt_of_cell aw.a0;have aJ:=lt_of_cell ay.a0;have an:=R.Mw h.wf hc hl h1 ao aa;obtain⟨z1,z2,aq,aF,z3⟩:=(((h.wf.cl i c hc).line k l hl)).one h1;rw[R.Je (R.CR hc hl)];rw[Vw hc]at an ⊢;obtain⟨a,av⟩:∃a:Nat,l.Ao=(a:Int):=⟨l.Ao.toNat,by omega⟩;obtain⟨z4,em,ea,z5⟩:=aB.one h1;have az:8*a<l.message.length:=by have:=R.Gg.2 ao;omega
 rw[av]at an ea ao ⊢;obtain⟨ad,ac⟩:∃ad:World->Prop,∀ai,ad ai↔∃F',LW p F' (R.Bg G (-1) ⟨1,i,c.Ae,k,l.seq,l.uid,(a:Int),R.Ag l.message,aa || decide ((a:Int)<R.Ag l.message-1),R.Be l.message (a:Int)⟩) ai/\Ap F F' w ai:=⟨_,fun _=>Iff.rfl⟩;suffices hq:Calls Tryz.prog 150 #[ptr (p.cb i),.int .i64 (k:Int),.bool aa] w fun e w'=>e=.returned (.tuple #[])/\ad w' from hq.mono (fun e w' h=>⟨h.1,(ac w').1 h.2⟩)
 have HS:Hid (∀w',Below w.heap.size w w'->Calls Tryz.prog 204 #[ptr (p.cb i),.int .i64 (k:Int),NL 1 0 0 0 0 0 (a:Int) (R.Ag l.message) (aa || decide ((a:Int)<R.Ag l.message-1)) (str (R.Be l.message (a:Int)))] w' fun e ai=>e=.returned (.tuple #[])/\ad ai):=fun w' hb=>by
  refine((h.below hb).ZE hc hl h1 1 (a:Int) (R.Ag l.message) _ _ an).mono ?_;rintro e ai ⟨rfl,F',q1,q2⟩;exact⟨rfl,(ac ai).2 ⟨F',q1,(Ap.Al F hb).trans q2⟩⟩
 have HP:=Ac (fun w=>CS l.message w (by omega));have HC:=Ac (fun w=>Ox l.message a w (by omega) az);clear ac an;obtain⟨a0,a1,a2,a3,a4,a5,a6,a7,a8,a9⟩:=ay;obtain⟨b0,b1,b2,b3,b4,b5,b6⟩:=aw;rw[aA]at a2;rw[em]at a5;rw[ea]at a6;generalize str (R.Be l.message (a:Int))=SB at *;generalize str l.message=SM at *;have aK:1<=R.Ag l.message/\R.Ag l.message<=9:=⟨R.De aq.1,R.El aq.2⟩;generalize R.Ag l.message=P at *;generalize c.lines.length=nl at *;generalize p.cb i=cb at *;generalize p.lb i=lb at *;obtain⟨aD,aC,aL,al,af,aH,aE,ae,ah,ag⟩:=x;simp only at a0 a1 a3 a4 a7 a8 a9;have aG:IntKind.i64.wrap (P-1)=P-1:=by rw[IntKind.wrap_i64];omega
 clear h hL hR hx aB hc hl h1 em ea av aF aq az z1 z2 z3 z4 z5 ax aA;obtain⟨LX,am⟩:∃LX,w.alloc (.cells #[.int .i64 aD,.int .i64 aC,.slice ra rn rc,.int .i64 al,.int .i64 af,.string SM,.int .i64 (a:Int),.string (str ae),.int .i64 ah,.int .i64 ag] 129)=LX:=⟨_,rfl⟩;have HB:Hid (Below w.heap.size w LX):=by
  rw[<-am];exact(Below.refl w.heap.size w).alloc (afI _) _
 have ap:LX.heap[w.heap.size]?=some (.cells #[.int .i64 aD,.int .i64 aC,.slice ra rn rc,.int .i64 al,.int .i64 af,.string SM,.int .i64 (a:Int),.string (str ae),.int .i64 ah,.int .i64 ag] 129 (0,0)):=by
  rw[<-am];exact heap_alloc_new w _
 have c4:LX.cell? ⟨w.heap.size,5,none⟩=some (.string SM):=cell_of ap 5 _ rfl;have c5:LX.cell? ⟨w.heap.size,6,none⟩=some (.int .i64 (a:Int)):=cell_of ap 6 _ rfl;have au:=Ac am;clear am ap;by_cases ab:(a:Int)=P-1
 ·have e1:decide ((a:Int)<P-1)=false:=by simp;omega
  rw[e1]at HS;have e2:(((a:Int))==P-1)=true:=by simpa using ab
  clear ab e1;cases aa;all_goals
   go_enter Tryz.func150,Tryz.ntmps150;go_wp2_with fail
   rw[Aa au];go_region_held3 (fun w'=>w'.cell? ⟨w.heap.size,5,none⟩=some (.string SM)/\w'.cell? ⟨w.heap.size,6,none⟩=some (.int .i64 (a:Int))) (go_keep) ((go_at_call 203;refine((Aa HP) _).mono ?_;rintro e w1 ⟨rfl,aj⟩;rw[aj];clear aj))
   go_wp2_with (first|(go_at_call 205;refine((Aa HC) _).mono ?_;rintro e w2 ⟨rfl,ak⟩;rw[ak];clear ak)|(go_at_call 204;refine((Aa HS) _ (Aa HB).drew).mono ?_;rintro e w3 ⟨rfl,ar⟩))
   go_returns;exact⟨rfl,ar⟩
 ·have e1:decide ((a:Int)<P-1)=true:=by simp;omega
  rw[e1]at HS;have e2:(((a:Int))==P-1)=false:=by simpa using ab
  clear ab e1;cases aa;all_goals
   go_enter Tryz.func150,Tryz.ntmps150;go_wp2_with fail
   rw[Aa au];go_region_held3 (fun w'=>w'.cell? ⟨w.heap.size,5,none⟩=some (.string SM)/\w'.cell? ⟨w.heap.size,6,none⟩=some (.int .i64 (a:Int))) (go_keep) ((go_at_call 203;refine((Aa HP) _).mono ?_;rintro e w1 ⟨rfl,aj⟩;rw[aj];clear aj))
   go_wp2_with (first|(go_at_call 205;refine((Aa HC) _).mono ?_;rintro e w2 ⟨rfl,ak⟩;rw[ak];clear ak)|(go_at_call 204;refine((Aa HS) _ (Aa HB).drew).mono ?_;rintro e w3 ⟨rfl,ar⟩))
   go_returns;exact⟨rfl,ar⟩
def Me(G:R.Wd)(i k:Nat)(l:R.Ln):R.Wd:=if l.Ao<R.Ag l.message then R.AA G i k true else R.Fw G i k
theorem LW.again(h:LW p F G w)(hc:G.Ad[i]?=some c)(hl:c.lines[k]?=some l)(h1:l.state=1):
  Calls Tryz.prog 168 #[ptr (p.cb i),.int .i64 (k:Int)] w fun e w'=>e=.returned (.tuple #[])/\∃F',LW p F' (Me G i k l) w'/\Ap F F' w w':=by
 obtain⟨xs,x,hL,hR,hx,ax,au,aD,ar⟩:=h.line hc hl;obtain⟨ra,rn,rc,aw⟩:=EO ar;have aq:=Ic h hc;have hk:=(afG.1 hl).1;have aF:=lt_of_cell aq.a0;have aG:=lt_of_cell au.a0;obtain⟨z1,z2,am,aC,z3⟩:=(((h.wf.cl i c hc).line k l hl)).one h1;obtain⟨z4,em,ea,z5⟩:=ax.one h1;obtain⟨ab,aa⟩:∃ab:World->Prop,∀ac,ab ac↔∃F',LW p F' (Me G i k l) ac/\Ap F F' w ac:=⟨_,fun _=>Iff.rfl⟩;suffices hq:Calls Tryz.prog 168 #[ptr (p.cb i),.int .i64 (k:Int)] w fun e w'=>e=.returned (.tuple #[])/\ab w' from hq.mono (fun e w' h=>⟨h.1,(aa w').1 h.2⟩)
 have aA:Hid (l.Ao<R.Ag l.message->∀w',Below w.heap.size w w'->Calls Tryz.prog 150 #[ptr (p.cb i),.int .i64 (k:Int),.bool true] w' fun e ac=>e=.returned (.tuple #[])/\ab ac):=fun ah w' hb=>by
  refine((h.below hb).piece hc hl h1 ah true).mono ?_;rintro e ac ⟨rfl,F',q1,q2⟩;refine⟨rfl,(aa ac).2 ⟨F',?_,(Ap.Al F hb).trans q2⟩⟩;rw[Me,if_pos ah];exact q1
 have ap:Hid (¬l.Ao<R.Ag l.message->∀w',Below w.heap.size w w'->Calls Tryz.prog 204 #[ptr (p.cb i),.int .i64 (k:Int),NL 3 0 0 0 0 0 0 1 true (str [])] w' fun e ac=>e=.returned (.tuple #[])/\ab ac):=fun ah w' hb=>by
  have av:=R.Lm h.wf hc hl h1;rw[Nh hc]at av;refine((h.below hb).ZE hc hl h1 3 0 1 true [] av).mono ?_;rintro e ac ⟨rfl,F',q1,q2⟩;refine⟨rfl,(aa ac).2 ⟨F',?_,(Ap.Al F hb).trans q2⟩⟩;rw[Me,if_neg ah,R.Oz (R.CR hc hl),Nh hc];exact q1
 rw[show str []=(⟨#[]⟩:ByteArray) from rfl]at ap;have HP:=Ac (fun w=>CS l.message w (by omega));clear aa;obtain⟨a0,a1,a2,a3,a4,a5,a6,a7,a8,a9⟩:=au;obtain⟨b0,b1,b2,b3,b4,b5,b6⟩:=aq;rw[aw]at a2;rw[em]at a5;rw[ea]at a6;generalize str l.message=SM at *;have aH:1<=R.Ag l.message/\R.Ag l.message<=9:=⟨R.De am.1,R.El am.2⟩;generalize R.Ag l.message=P at *;generalize l.Ao=a at *;generalize c.lines.length=nl at *;generalize p.cb i=cb at *;generalize p.lb i=lb at *;obtain⟨az,ay,aI,aj,ae,aE,aB,ad,ag,af⟩:=x;simp only at a0 a1 a3 a4 a7 a8 a9;clear h hL hR hx ax hc hl h1 em ea aC am z1 z2 z3 z4 z5 aD ar aw;obtain⟨LX,ak⟩:∃LX,w.alloc (.cells #[.int .i64 az,.int .i64 ay,.slice ra rn rc,.int .i64 aj,.int .i64 ae,.string SM,.int .i64 a,.string (str ad),.int .i64 ag,.int .i64 af] 129)=LX:=⟨_,rfl⟩;have HB:Hid (Below w.heap.size w LX):=by
  rw[<-ak];exact(Below.refl w.heap.size w).alloc (afI _) _
 have al:LX.heap[w.heap.size]?=some (.cells #[.int .i64 az,.int .i64 ay,.slice ra rn rc,.int .i64 aj,.int .i64 ae,.string SM,.int .i64 a,.string (str ad),.int .i64 ag,.int .i64 af] 129 (0,0)):=by
  rw[<-ak];exact heap_alloc_new w _
 have c4:LX.cell? ⟨w.heap.size,5,none⟩=some (.string SM):=cell_of al 5 _ rfl;have c5:LX.cell? ⟨w.heap.size,6,none⟩=some (.int .i64 a):=cell_of al 6 _ rfl;have ao:=Ac ak;clear ak al;by_cases ah:a<P
 ·go_enter Tryz.func168,Tryz.ntmps168;go_wp2_with fail
  rw[Aa ao];go_region_held3 (fun w'=>w'.cell? ⟨w.heap.size,5,none⟩=some (.string SM)/\w'.cell? ⟨w.heap.size,6,none⟩=some (.int .i64 a)) (go_keep) ((go_at_call 203;refine((Aa HP) _).mono ?_;rintro e w1 ⟨rfl,ai⟩;rw[ai];clear ai))
  go_wp2_with (first|(go_at_call 150;refine((Aa aA) ah _ (Aa HB).drew).mono ?_;rintro e w3 ⟨rfl,an⟩))
  go_returns;exact⟨rfl,an⟩
 ·go_enter Tryz.func168,Tryz.ntmps168;go_wp2_with fail
  rw[Aa ao];go_region_held3 (fun w'=>w'.cell? ⟨w.heap.size,5,none⟩=some (.string SM)/\w'.cell? ⟨w.heap.size,6,none⟩=some (.int .i64 a)) (go_keep) ((go_at_call 203;refine((Aa HP) _).mono ?_;rintro e w1 ⟨rfl,ai⟩;rw[ai];clear ai))
  go_wp2_with (first|(go_at_call 204;refine((Aa ap) ah _ (Aa HB).drew).mono ?_;rintro e w3 ⟨rfl,an⟩))
  go_returns;exact⟨rfl,an⟩
theorem Ah{o:Nat}(v:Value):Af (fun k=>k=b) w (w.setCell ⟨b,o,none⟩ v):=Af.setCell (F:=fun k=>k=b) (Af.refl _ w) (p:=⟨b,o,none⟩) (afJ rfl) v
theorem BS{j:Nat}{x':CU}{v:Value}(h:w.heap[b]?=some (.cells (tab CU.cells xs).toArray 129 (0,0)))(hx:xs[k]?=some x)(hj:j<10)(hv:x'.cells=x.cells.set j v):
  (w.setCell ⟨b,k*10+j,none⟩ v).heap[b]?=some (.cells (tab CU.cells (xs.set k x')).toArray 129 (0,0))/\(xs.set k x')[k]?=some x':=by
 refine⟨by rw[Ai h,IU CU.len xs k j x x' v hx hj hv],?_⟩;rw[afV];simp[(afG.1 hx).1]
abbrev Lp(w:World)(b k:Nat)(x:CU):World:=(((((((((w.setCell ⟨b,k*10,none⟩ (.int .i64 x.state)).setCell ⟨b,k*10+1,none⟩ (.int .i64 x.seq)).setCell ⟨b,k*10+2,none⟩ x.rv).setCell ⟨b,k*10+3,none⟩ (.int .i64 x.uid)).setCell ⟨b,k*10+4,none⟩ (.int .i64 x.proc)).setCell ⟨b,k*10+5,none⟩ (.string (str x.msg))).setCell ⟨b,k*10+6,none⟩ (.int .i64 x.Ao)).setCell ⟨b,k*10+7,none⟩ (.string (str x.came))).setCell ⟨b,k*10+8,none⟩ (.int .i64 x.wait)).setCell ⟨b,k*10+9,none⟩ (.int .i64 x.tries)
theorem Va(h:w.heap[b]?=some (.cells (tab CU.cells xs).toArray 129 (0,0)))(hx:xs[k]?=some x)(x':CU):
  (Lp w b k x').heap[b]?=some (.cells (tab CU.cells (xs.set k x')).toArray 129 (0,0))/\Af (fun q=>q=b) w (Lp w b k x'):=by
 obtain⟨st,sq,rv,u,pc,m,a,cm,wt,tr⟩:=x;obtain⟨aa,ab,ac,u',ad,m',a',ae,af,ag⟩:=x';have e0:=BS (j:=0) (x':=⟨aa,sq,rv,u,pc,m,a,cm,wt,tr⟩) (v:=.int .i64 aa) h hx (by omega) rfl;have e1:=BS (j:=1) (x':=⟨aa,ab,rv,u,pc,m,a,cm,wt,tr⟩) (v:=.int .i64 ab) e0.1 e0.2 (by omega) rfl;have e2:=BS (j:=2) (x':=⟨aa,ab,ac,u,pc,m,a,cm,wt,tr⟩) (v:=ac) e1.1 e1.2 (by omega) rfl;have e3:=BS (j:=3) (x':=⟨aa,ab,ac,u',pc,m,a,cm,wt,tr⟩) (v:=.int .i64 u') e2.1 e2.2 (by omega) rfl;have e4:=BS (j:=4) (x':=⟨aa,ab,ac,u',ad,m,a,cm,wt,tr⟩) (v:=.int .i64 ad) e3.1 e3.2 (by omega) rfl;have e5:=BS (j:=5) (x':=⟨aa,ab,ac,u',ad,m',a,cm,wt,tr⟩) (v:=.string (str m')) e4.1 e4.2 (by omega) rfl;have e6:=BS (j:=6) (x':=⟨aa,ab,ac,u',ad,m',a',cm,wt,tr⟩) (v:=.int .i64 a') e5.1 e5.2 (by omega) rfl;have e7:=BS (j:=7) (x':=⟨aa,ab,ac,u',ad,m',a',ae,wt,tr⟩) (v:=.string (str ae)) e6.1 e6.2 (by omega) rfl;have e8:=BS (j:=8) (x':=⟨aa,ab,ac,u',ad,m',a',ae,af,tr⟩) (v:=.int .i64 af) e7.1 e7.2 (by omega) rfl;have e9:=BS (j:=9) (x':=⟨aa,ab,ac,u',ad,m',a',ae,af,ag⟩) (v:=.int .i64 ag) e8.1 e8.2 (by omega) rfl;simp only[ag5]at e9;exact⟨e9.1,(((((((((Ah _).trans (Ah _)).trans (Ah _)).trans (Ah _)).trans (Ah _)).trans (Ah _)).trans (Ah _)).trans (Ah _)).trans (Ah _)).trans (Ah _)⟩
abbrev JR(st sq:Int):CU:=⟨st,sq,.slice none 0 0,0,0,[],0,[],0,0⟩
theorem ML(w:World)(b k:Nat)(st:Int)(xs:List CU)(x:CU)(aa:∃a n c,x.rv=.slice a n c)(h:w.heap[b]?=some (.cells (tab CU.cells xs).toArray 129 (0,0)))(hx:xs[k]?=some x):
  Calls Tryz.prog 167 #[.pointer (some ⟨b,k*10,none⟩),.int .i64 st] w fun e w'=>e=.returned (.tuple #[])/\w'.heap[b]?=some (.cells (tab CU.cells (xs.set k (JR st x.seq))).toArray 129 (0,0))/\Af (fun q=>q=b) w w':=by
 obtain⟨a0,a1,a2,a3,a4,a5,a6,a7,a8,a9⟩:=Yu h hx;obtain⟨ra,rn,rc,aa⟩:=aa;rw[aa]at a2;have z0:=open_list (off:=k*10) h;have z1:=open_list (off:=k*10+1) h;have z2:=open_list (off:=k*10+2) h;have z3:=open_list (off:=k*10+3) h;have z4:=open_list (off:=k*10+4) h;have z5:=open_list (off:=k*10+5) h;have z6:=open_list (off:=k*10+6) h;have z7:=open_list (off:=k*10+7) h;have z8:=open_list (off:=k*10+8) h;have z9:=open_list (off:=k*10+9) h;have HH:=Ac h;have HX:=Ac hx;have ab:=lt_of_block h;clear h hx aa;go_enter Tryz.func167,Tryz.ntmps167;go_wp2;go_returns;have hp:=Va (Aa HH) (Aa HX) (JR st x.seq);exact⟨rfl,hp⟩
theorem N3(G:R.Wd)(i k:Nat)(l l':R.Ln):R.Am (R.Am G i k l) i k l'=R.Am G i k l':=by
 simp[R.Am,List.modify_modify_eq,Function.comp_def]
theorem EQ{Q:Exit->Act->World->Prop}{l:Nat}{J:Act->World->Prop}(h:Q .ret a w):Exit.jump l J Q .ret a w:=h
theorem Lf{Q:Exit->Act->World->Prop}{l:Nat}{J:Act->World->Prop}(h:Q .normal a w):Exit.jump l J Q .normal a w:=h
theorem C8{P:Program}{Q:Exit->Act->World->Prop}{c rest:Code}(l:Nat)(hf:findLabel c l=some rest)(first:c.wp P (Exit.jump l (fun a w=>rest.wp P (Exit.jump l (fun _ _=>False) Q) a w) Q) a w):(Code.scope c).wp P Q a w:=by
 refine wp_scope_jumps l _ (fun _ _=>0) hf first (fun a w h=>?_)
 refine Code.wp_mono ?_ h;intro e a w h;cases e with
 |goto q=>exact h.2.elim
 |_=>exact h
theorem Xk(w:World)(cb lb k nl:Nat)(wt tr rt:Int)(aa:World->Prop)(hk:k<nl)(b3:w.cell? ⟨cb,3,none⟩=some (.slice (some ⟨lb,0,none⟩) nl nl))(b4:w.cell? ⟨cb,4,none⟩=some (.int .i64 rt))(a6:w.cell? ⟨lb,k*10+8,none⟩=some (.int .i64 wt))(a7:w.cell? ⟨lb,k*10+9,none⟩=some (.int .i64 tr))(z6:w.frozen? ⟨lb,k*10+8,none⟩=false)(z7:w.frozen? ⟨lb,k*10+9,none⟩=false)(ad:¬cb=lb)(ai:1<=wt/\wt<=8)(ah:0<=tr/\tr<=6)
  (HA:Hid (1<wt->aa (w.setCell ⟨lb,k*10+8,none⟩ (.int .i64 (wt-1)))))
  (HB:Hid (wt=1->tr=0->Calls Tryz.prog 167 #[.pointer (some ⟨lb,k*10,none⟩),.int .i64 3] (w.setCell ⟨lb,k*10+8,none⟩ (.int .i64 (wt-1))) fun e w'=>e=.returned (.tuple #[])/\aa w'))
  (HC:Hid (wt=1->0<tr->Calls Tryz.prog 168 #[ptr cb,.int .i64 (k:Int)] (((w.setCell ⟨lb,k*10+8,none⟩ (.int .i64 (wt-1))).setCell ⟨lb,k*10+9,none⟩ (.int .i64 (tr-1))).setCell ⟨lb,k*10+8,none⟩ (.int .i64 rt)) fun e w'=>e=.returned (.tuple #[])/\aa w')):
  Calls Tryz.prog 98 #[ptr cb,.int .i64 (k:Int)] w fun e w'=>e=.returned (.tuple #[])/\aa w':=by
 have e1:IntKind.i64.wrap (wt-1)=wt-1:=by rw[IntKind.wrap_i64];omega
 have e2:IntKind.i64.wrap (tr-1)=tr-1:=by rw[IntKind.wrap_i64];omega
 have ae:¬lb=cb:=fun e=>ad e.symm
 have af:=lt_of_cell b3;have ag:=lt_of_cell a6;by_cases h1:1<wt
 ·have q1:0<wt-1:=by omega
  have HP:=Ac ((Aa HA) h1);clear HA HB HC;go_enter Tryz.func98,Tryz.ntmps98;go_wp2;refine C8 0 rfl ?_;go_wp2;refine EQ ?_;go_wp2;go_returns;exact⟨rfl,Aa HP⟩
 ·have ab:wt=1:=by omega
  by_cases h2:tr=0
  ·have HP:=Ac ((Aa HB) ab h2);clear HA HB HC;subst ab h2;go_enter Tryz.func98,Tryz.ntmps98;go_wp2;refine C8 0 rfl ?_;go_wp2_with (first|(go_at_call 167;refine(Aa HP).mono ?_;rintro e w3 ⟨rfl,ac⟩))
   refine EQ ?_;go_wp2;go_returns;exact⟨rfl,ac⟩
  ·have h3:0<tr:=by omega
   have HP:=Ac ((Aa HC) ab h3);clear HA HB HC;subst ab;go_enter Tryz.func98,Tryz.ntmps98;go_wp2;refine C8 0 rfl ?_;go_wp2
   go_step3
   refine⟨rfl,?_⟩;show Code.wp Tryz.prog _ _ _ _;go_wp2_with (first|(go_at_call 168;refine(Aa HP).mono ?_;rintro e w3 ⟨rfl,ac⟩))
   refine Lf ?_;go_wp2;go_returns;exact⟨rfl,ac⟩
theorem LW.wait(h:LW p F G w)(hc:G.Ad[i]?=some c)(hl:c.lines[k]?=some l)(h1:l.state=1):
  Calls Tryz.prog 98 #[ptr (p.cb i),.int .i64 (k:Int)] w fun e w'=>e=.returned (.tuple #[])/\∃F',LW p F' (R.AU G i k) w'/\Ap F F' w w':=by
 obtain⟨xs,x,hL,hR,hx,ad,an,ai,ah⟩:=h.line hc hl;obtain⟨ra,rn,rc,ap⟩:=EO ah;have ag:=Ic h hc;have hk:=(afG.1 hl).1;have hi:=(afG.1 hc).1;have aG:=lt_of_cell ag.a0;have aH:=lt_of_cell an.a0;have ae:=(h.wf.cl i c hc).line k l hl;obtain⟨z1,z2,ao,am,aD,au⟩:=ae.one h1;obtain⟨eu,em,ea,ew,et⟩:=ad.one h1;have aB:F (p.lb i):=(h.FG i hi).2.1;have aA:=h.wf.cf;have eT:=R.CR hc hl;have aC:p.cb i≠p.lb i:=AZ (h.cl i c hc) hL (by decide);have av:=ad.two h1;have af:l.result=[]:=ad.res (by omega);have went:∀w',Af (fun q=>q=p.lb i) w w'->Ap F F w w':=fun w' hk=>⟨hk.mono (fun q _ e=>by rw[e];exact aB),fun _ q=>afJ q⟩
 unfold R.AU;simp only[eT];rw[if_neg (by omega)];obtain⟨ac,aa⟩:∃ac:World->Prop,∀ak,ac ak↔∃F',LW p F' (if 1<l.wait then R.Am G i k {l with wait:=l.wait-1} else if l.tries=0 then R.Am G i k {l with wait:=l.wait-1,state:=3} else if 8*l.Ao<(l.message.length:Int) then R.AA (R.Am G i k {l with wait:=G.c.Ay,tries:=l.tries-1}) i k true else R.Fw (R.Am G i k {l with wait:=G.c.Ay,tries:=l.tries-1}) i k) ak/\Ap F F' w ak:=⟨_,fun _=>Iff.rfl⟩;suffices hq:Calls Tryz.prog 98 #[ptr (p.cb i),.int .i64 (k:Int)] w fun e w'=>e=.returned (.tuple #[])/\ac w' from hq.mono (fun e w' h=>⟨h.1,(aa w').1 h.2⟩)
 obtain⟨a0,a1,a2,a3,a4,a5,a6,a7,a8,a9⟩:=an;rw[ew]at a8;rw[et]at a9;obtain⟨aJ,aI,aj,aF,ab,aE,ay,al,ax,aw⟩:=x;simp only at eu em ea ew et ap av;subst eu em ea ew et;obtain⟨tc,tp,tt⟩:=av;subst tc;have ar:=ad.state;have aq:=ad.seq;simp only at ar aq;subst ar aq;unfold R.BD at aA;have e1:=BS (j:=8) (x':=⟨l.state,l.seq,aj,l.uid,ab,l.message,l.Ao,l.came,l.wait-1,l.tries⟩) (v:=.int .i64 (l.wait-1)) hL hx (by omega) rfl;have e2:=BS (j:=9) (x':=⟨l.state,l.seq,aj,l.uid,ab,l.message,l.Ao,l.came,l.wait-1,l.tries-1⟩) (v:=.int .i64 (l.tries-1)) e1.1 e1.2 (by omega) rfl;have e3:=BS (j:=8) (x':=⟨l.state,l.seq,aj,l.uid,ab,l.message,l.Ao,l.came,G.c.Ay,l.tries-1⟩) (v:=.int .i64 G.c.Ay) e2.1 e2.2 (by omega) rfl;simp only[ag5]at e2 e3;refine Xk w (p.cb i) (p.lb i) k c.lines.length l.wait l.tries G.c.Ay ac hk ag.a3 ag.a4 a8 a9 (open_list hL) (open_list hL) aC aD au ?_ ?_ ?_
 ·intro h2;refine(aa _).2 ⟨F,?_,went _ (Ah _)⟩;rw[if_pos h2];exact h.turn hc hL hR ai (Ah _) e1.1 ⟨ae.seq,fun _=>⟨z1,z2,ao,am,by simp only;omega,au⟩⟩ ⟨rfl,rfl,fun _=>af,fun _=>⟨rfl,rfl,rfl,rfl,rfl⟩,fun _=>⟨rfl,tp,tt⟩⟩ ah
 ·intro h2 h3;refine(ML _ (p.lb i) k 3 _ _ ⟨_,_,_,ap⟩ e1.1 e1.2).mono ?_;rintro e w' ⟨rfl,q1,q2⟩;refine⟨rfl,(aa _).2 ⟨F,?_,went _ ((Ah _).trans q2)⟩⟩;rw[if_neg (by omega),if_pos h3];simp only[ag5]at q1;exact h.turn hc hL hR ai ((Ah _).trans q2) q1 ⟨ae.seq,fun q=>by cases q⟩ ⟨rfl,rfl,fun _=>af,fun q=>(by cases q),fun q=>(by cases q)⟩ (by
   rw[af];exact BF.nil _ _)
 ·intro h2 h3;have hT:=h.turn (l':={l with wait:=G.c.Ay,tries:=l.tries-1}) hc hL hR ai (((Ah _).trans (Ah _)).trans (Ah _)) e3.1 ⟨ae.seq,fun _=>⟨z1,z2,ao,am,by simp only;omega,by simp only;omega⟩⟩ ⟨rfl,rfl,fun _=>af,fun _=>⟨rfl,rfl,rfl,rfl,rfl⟩,fun _=>⟨rfl,tp,tt⟩⟩ ah;have az:(R.Am G i k {l with wait:=G.c.Ay,tries:=l.tries-1}).Ad[i]?=some {c with lines:=c.lines.set k {l with wait:=G.c.Ay,tries:=l.tries-1}}:=by
   rw[R.Bo,hc];simp
  refine(hT.again az (l:={l with wait:=G.c.Ay,tries:=l.tries-1}) (by simp[hk]) h1).mono ?_;rintro e w' ⟨rfl,F',q1,q2⟩;refine⟨rfl,(aa _).2 ⟨F',?_,(went _ (((Ah _).trans (Ah _)).trans (Ah _))).trans q2⟩⟩;rw[if_neg (by omega),if_neg (by omega)];unfold Me at q1;by_cases hq:l.Ao<R.Ag l.message
  ·rw[if_pos (R.Gg.2 hq)];rw[if_pos hq]at q1;exact q1
  ·rw[if_neg (fun q=>hq (R.Gg.1 q))];rw[if_neg hq]at q1;exact q1
end Go.Proofs.YtblomippkddgiabGreatDoor
