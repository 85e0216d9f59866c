import Derived.Test.YtblomippkddgiaaGreatDoorJ21
import Derived.WalkMore
import Derived.ScopeJumps
set_option maxRecDepth 100000
set_option maxHeartbeats 4000000
namespace Go.Proofs.YtblomippkddgiaaGreatDoor
open Go.RowKit
structure XY(w:World)(b k:Nat)(x:Dl):Prop where
 a0:w.cell? ⟨b,k*10,none⟩=some (.int .i64 x.state)
 a1:w.cell? ⟨b,k*10+1,none⟩=some (.int .i64 x.seq)
 a2:w.cell? ⟨b,k*10+2,none⟩=some x.rv
 a3:w.cell? ⟨b,k*10+3,none⟩=some (.int .i64 x.uid)
 a4:w.cell? ⟨b,k*10+4,none⟩=some (.int .i64 x.proc)
 a5:w.cell? ⟨b,k*10+5,none⟩=some (.string (str x.msg))
 a6:w.cell? ⟨b,k*10+6,none⟩=some (.int .i64 x.Az)
 a7:w.cell? ⟨b,k*10+7,none⟩=some (.string (str x.came))
 a8:w.cell? ⟨b,k*10+8,none⟩=some (.int .i64 x.wait)
 a9:w.cell? ⟨b,k*10+9,none⟩=some (.int .i64 x.tries)
theorem WM{w:World}{b k:Nat}{xs:List Dl}{x:Dl}(h:w.heap[b]?=some (.cells (tab Dl.cells xs).toArray 139 (0,0)))(hx:xs[k]?=some x):XY w b k x:=by
 have q:∀j v,j<10->x.cells[j]?=some v->w.cell? ⟨b,k*10+j,none⟩=some v:=fun j v hj hv=>Bi h (by rw[CW Dl.len xs k j x hx hj];exact hv)
 exact⟨q 0 _ (by omega) rfl,q 1 _ (by omega) rfl,q 2 _ (by omega) rfl,q 3 _ (by omega) rfl,q 4 _ (by omega) rfl,q 5 _ (by omega) rfl,q 6 _ (by omega) rfl,q 7 _ (by omega) rfl,q 8 _ (by omega) rfl,q 9 _ (by omega) rfl⟩
theorem EW{w:World}{F:Ag}{V:Value}{l:List R.It}(h:ED w F V l):∃a n c,V=.slice a n c:=by
 rcases h with ⟨_,h⟩|⟨b,off,cap,cur,_,h,_⟩
 ·exact⟨_,_,_,h⟩
 ·exact⟨_,_,_,h⟩
structure ZW(w:World)(p:Pl)(G:R.Wd)(i:Nat)(c:R.Cl):Prop where
 a0:w.cell? ⟨p.cb i,0,none⟩=some (.int .i64 (i:Int))
 a1:w.cell? ⟨p.cb i,1,none⟩=some (.int .i64 c.Ax)
 a2:w.cell? ⟨p.cb i,2,none⟩=some (.map (some (p.bm i)))
 a3:w.cell? ⟨p.cb i,3,none⟩=some (.slice (some ⟨p.lb i,0,none⟩) c.lines.length c.lines.length)
 a4:w.cell? ⟨p.cb i,4,none⟩=some (.int .i64 G.c.Al)
 a5:w.cell? ⟨p.cb i,5,none⟩=some (.int .i64 G.c.tries)
 a6:w.cell? ⟨p.cb i,6,none⟩=some (ptr p.n)
theorem KM{p:Pl}{F:Ag}{G:R.Wd}{w:World}(h:LW p F G w){i:Nat}{c:R.Cl}(hc:G.Ad[i]?=some c):ZW w p G i c:=by
 have hx:=h.cl i c hc;exact⟨cell_of hx 0 _ rfl,cell_of hx 1 _ rfl,cell_of hx 2 _ rfl,cell_of hx 3 _ rfl,cell_of hx 4 _ rfl,cell_of hx 5 _ rfl,cell_of hx 6 _ rfl⟩
theorem LW.line{p:Pl}{F:Ag}{G:R.Wd}{w:World}(h:LW p F G w){i k:Nat}{c:R.Cl}{l:R.Ln}(hc:G.Ad[i]?=some c)(hl:c.lines[k]?=some l):∃xs x,w.heap[p.lb i]?=some (.cells (tab Dl.cells xs).toArray 139 (0,0))/\Fx c.lines xs/\xs[k]?=some x/\LB l x/\XY w (p.lb i) k x/\Eg w F c.lines xs/\ED w F x.rv l.result:=by
 obtain⟨xs,h1,h2,h5⟩:=h.ln i c hc;obtain⟨x,h3,h4⟩:=h2.get hl;exact⟨xs,x,h1,h2,h3,h4,WM h1 h3,h5,h5 k l x hl h3⟩
theorem Zq:∀args w,(callFunc 230 args).run Tryz.prog w=.ok (.enter 230 args) w:=fun _ _=>rfl
theorem LW.XQ{p:Pl}{F:Ag}{G:R.Wd}{w:World}(h:LW p F G w){i k:Nat}{c:R.Cl}{l:R.Ln}(hc:G.Ad[i]?=some c)(hl:c.lines[k]?=some l)(h1:l.state=1)(kd pa o:Int)(pl:Bool)(body:List UInt8)(hr:Bq ⟨kd,i,c.Ax,k,l.seq,l.uid,pa,o,pl,body⟩):
  Calls Tryz.prog 188 #[ptr (p.cb i),.int .i64 (k:Int),My kd 0 0 0 0 0 pa o pl (str body)] w fun e w'=>e=.returned (.tuple #[])/\∃F',LW p F' (R.BM G (-1) ⟨kd,i,c.Ax,k,l.seq,l.uid,pa,o,pl,body⟩) w'/\Ah F F' w w':=by
 obtain⟨xs,x,hL,hR,hx,hx1,hla,_,hit⟩:=h.line hc hl;obtain⟨ra,rn,rc,hrv⟩:=EW hit;have hca:=KM h hc;have hk:=(List.getElem?_eq_some_iff.1 hl).1;have hlc:=lt_of_cell hca.a0;have hll:=lt_of_cell hla.a0;obtain⟨Post,hPost⟩:∃Post:World->Prop,∀w'',Post w''↔∃F',LW p F' (R.BM G (-1) ⟨kd,i,c.Ax,k,l.seq,l.uid,pa,o,pl,body⟩) w''/\Ah F F' w w'':=⟨_,fun _=>Iff.rfl⟩;suffices hq:Calls Tryz.prog 188 #[ptr (p.cb i),.int .i64 (k:Int),My kd 0 0 0 0 0 pa o pl (str body)] w fun e w'=>e=.returned (.tuple #[])/\Post w' from hq.mono (fun e w' h=>⟨h.1,(hPost w').1 h.2⟩)
 have HS:Hid (∀w',LW p F G w'->Below w.heap.size w w'->Calls Tryz.prog 230 #[ptr p.n,.int .i64 (-1),My kd i c.Ax k l.seq l.uid pa o pl (str body)] w' fun e w''=>e=.returned (.tuple #[])/\Post w''):=fun w' h' hb=>by
  refine(h'.send (-1) ⟨kd,i,c.Ax,k,l.seq,l.uid,pa,o,pl,body⟩ hr).mono ?_;rintro e w'' ⟨rfl,F',q1,q2⟩;exact⟨rfl,(hPost w'').2 ⟨F',q1,(Ah.Aq F hb).trans q2⟩⟩
 clear hPost;have HBL:Hid (∀w',Below w.heap.size w w'->LW p F G w'):=fun w' hb=>h.below hb
 have eu:x.uid=l.uid:=(hx1.one h1).1;have eq:x.seq=l.seq:=hx1.seq;obtain⟨a0,a1,a2,a3,a4,a5,a6,a7,a8,a9⟩:=hla;rw[hrv]at a2;obtain⟨b0,b1,b2,b3,b4,b5,b6⟩:=hca;rw[eu]at a3;rw[eq]at a1;generalize str body=SB at *;generalize c.Ax=li at *;generalize l.seq=sq at *;generalize l.uid=u at *;generalize c.lines.length=nl at *;generalize p.cb i=cb at *;generalize p.lb i=lb at *;clear hr h hL hR hx hx1 hc hl h1 eu eq hit hrv;obtain⟨BX,hBX⟩:∃BX,(w.alloc (.cells #[.int .i64 kd,.int .i64 (i:Int),.int .i64 li,.int .i64 (k:Int),.int .i64 sq,.int .i64 u,.int .i64 pa,.int .i64 o,.bool pl,.string SB] 41)).alloc (.cells #[.int .i64 x.state,.int .i64 sq,.slice ra rn rc,.int .i64 u,.int .i64 x.proc,.string (str x.msg),.int .i64 x.Az,.string (str x.came),.int .i64 x.wait,.int .i64 x.tries] 139)=BX:=⟨_,rfl⟩;have HB:Hid (Below w.heap.size w BX):=by
  rw[<-hBX];exact((Below.refl w.heap.size w).alloc (Nat.le_refl _) _).alloc (by simp) _
 have hbx:BX.heap[w.heap.size]?=some (.cells #[.int .i64 kd,.int .i64 (i:Int),.int .i64 li,.int .i64 (k:Int),.int .i64 sq,.int .i64 u,.int .i64 pa,.int .i64 o,.bool pl,.string SB] 41 (0,0)):=by
  rw[<-hBX];exact(Below.heap_alloc _ _ _ (by simp)).trans (heap_alloc_new w _)
 have HC:=Ab ((Aa HS) BX.drew ((Aa HBL) _ (Aa HB).drew) (Aa HB).drew);have d6:BX.cell? ⟨cb,6,none⟩=some (ptr p.n):=((Aa HB).cell (p:=⟨cb,6,none⟩) hlc).trans b6;have c0:BX.cell? ⟨w.heap.size,0,none⟩=some (.int .i64 kd):=cell_of hbx 0 _ rfl;have c1:BX.cell? ⟨w.heap.size,1,none⟩=some (.int .i64 (i:Int)):=cell_of hbx 1 _ rfl;have c2:BX.cell? ⟨w.heap.size,2,none⟩=some (.int .i64 li):=cell_of hbx 2 _ rfl;have c3:BX.cell? ⟨w.heap.size,3,none⟩=some (.int .i64 (k:Int)):=cell_of hbx 3 _ rfl;have c4:BX.cell? ⟨w.heap.size,4,none⟩=some (.int .i64 sq):=cell_of hbx 4 _ rfl;have c5:BX.cell? ⟨w.heap.size,5,none⟩=some (.int .i64 u):=cell_of hbx 5 _ rfl;have c6:BX.cell? ⟨w.heap.size,6,none⟩=some (.int .i64 pa):=cell_of hbx 6 _ rfl;have c7:BX.cell? ⟨w.heap.size,7,none⟩=some (.int .i64 o):=cell_of hbx 7 _ rfl;have c8:BX.cell? ⟨w.heap.size,8,none⟩=some (.bool pl):=cell_of hbx 8 _ rfl;have c9:BX.cell? ⟨w.heap.size,9,none⟩=some (.string SB):=cell_of hbx 9 _ rfl;have HBX:=Ab hBX;clear hbx hBX HS HBL;go_enter Tryz.func188,Tryz.ntmps188;go_wp2;rw[Aa HBX];clear HBX a0 a1 a2 a3 a4 a5 a6 a7 a8 a9 b0 b1 b2 b3 b4 b5 b6;go_region_law (refine CV rfl 230 #[.tmp 36,.const (.int .i64 (-1)),.tmp 37] #[80,3,41] rfl Zq #[ptr p.n,.int .i64 (-1),My kd i li k sq u pa o pl SB] rfl _ (Aa HC) ?_;rintro e w1 ⟨rfl,hpost⟩;have HP:=Ab hpost;clear hpost;refine⟨_,rfl,?_⟩)
 all_goals
  go_wp2;go_returns;exact⟨rfl,Aa HP⟩
theorem QM{G:R.Wd}{i k:Nat}{c:R.Cl}{l:R.Ln}(hc:G.Ad[i]?=some c)(again:Bool):R.CH G i k l again=⟨1,i,c.Ax,k,l.seq,l.uid,l.Az,R.Ak l.message,again || decide (l.Az<R.Ak l.message-1),R.Bs l.message l.Az⟩:=by
 unfold R.CH;rw[R.DR hc]
theorem Jo{G:R.Wd}{i k:Nat}{c:R.Cl}{l:R.Ln}(hc:G.Ad[i]?=some c):R.Cr G i k l=⟨3,i,c.Ax,k,l.seq,l.uid,0,1,true,[]⟩:=by
 unfold R.Cr;rw[R.DR hc]
theorem aaj:∀args w,(callFunc 187 args).run Tryz.prog w=.ok (.enter 187 args) w:=fun _ _=>rfl
theorem LW.piece{p:Pl}{F:Ag}{G:R.Wd}{w:World}(h:LW p F G w){i k:Nat}{c:R.Cl}{l:R.Ln}(hc:G.Ad[i]?=some c)(hl:c.lines[k]?=some l)(h1:l.state=1)(hak:l.Az<R.Ak l.message)(again:Bool):
  Calls Tryz.prog 112 #[ptr (p.cb i),.int .i64 (k:Int),.bool again] w fun e w'=>e=.returned (.tuple #[])/\∃F',LW p F' (R.A9 G i k again) w'/\Ah F F' w w':=by
 obtain⟨xs,x,hL,hR,hx,hx1,hla,_,hit⟩:=h.line hc hl;obtain⟨ra,rn,rc,hrv⟩:=EW hit;have hca:=KM h hc;have hk:=(List.getElem?_eq_some_iff.1 hl).1;have hlc:=lt_of_cell hca.a0;have hll:=lt_of_cell hla.a0;have hrt:=R.IX h.wf hc hl h1 hak again;obtain⟨z1,z2,hml,hac,z3⟩:=(((h.wf.cl i c hc).line k l hl)).one h1;rw[R.Ge (R.Bc hc hl)];rw[QM hc]at hrt ⊢;obtain⟨a,hae⟩:∃a:Nat,l.Az=(a:Int):=⟨l.Az.toNat,by omega⟩;obtain⟨z4,em,ea,z5⟩:=hx1.one h1;have hpl:8*a<l.message.length:=by have:=R.FO.2 hak;omega
 rw[hae]at hrt ea hak ⊢;obtain⟨Post,hPost⟩:∃Post:World->Prop,∀w'',Post w''↔∃F',LW p F' (R.BM G (-1) ⟨1,i,c.Ax,k,l.seq,l.uid,(a:Int),R.Ak l.message,again || decide ((a:Int)<R.Ak l.message-1),R.Bs l.message (a:Int)⟩) w''/\Ah F F' w w'':=⟨_,fun _=>Iff.rfl⟩;suffices hq:Calls Tryz.prog 112 #[ptr (p.cb i),.int .i64 (k:Int),.bool again] w fun e w'=>e=.returned (.tuple #[])/\Post w' from hq.mono (fun e w' h=>⟨h.1,(hPost w').1 h.2⟩)
 have HS:Hid (∀w',Below w.heap.size w w'->Calls Tryz.prog 188 #[ptr (p.cb i),.int .i64 (k:Int),My 1 0 0 0 0 0 (a:Int) (R.Ak l.message) (again || decide ((a:Int)<R.Ak l.message-1)) (str (R.Bs l.message (a:Int)))] w' fun e w''=>e=.returned (.tuple #[])/\Post w''):=fun w' hb=>by
  refine((h.below hb).XQ hc hl h1 1 (a:Int) (R.Ak l.message) _ _ hrt).mono ?_;rintro e w'' ⟨rfl,F',q1,q2⟩;exact⟨rfl,(hPost w'').2 ⟨F',q1,(Ah.Aq F hb).trans q2⟩⟩
 have HP:=Ab (fun w=>Gp l.message w (by omega));have HC:=Ab (fun w=>Ke l.message a w (by omega) hpl);clear hPost hrt;obtain⟨a0,a1,a2,a3,a4,a5,a6,a7,a8,a9⟩:=hla;obtain⟨b0,b1,b2,b3,b4,b5,b6⟩:=hca;rw[hrv]at a2;rw[em]at a5;rw[ea]at a6;generalize str (R.Bs l.message (a:Int))=SB at *;generalize str l.message=SM at *;have hpp:1<=R.Ak l.message/\R.Ak l.message<=9:=⟨R.Ff hml.1,R.FW hml.2⟩;generalize R.Ak l.message=P at *;generalize c.lines.length=nl at *;generalize p.cb i=cb at *;generalize p.lb i=lb at *;obtain⟨sta,sqa,rva,uida,proca,msga,acka,camea,waita,triea⟩:=x;simp only at a0 a1 a3 a4 a7 a8 a9;have hsub:IntKind.i64.wrap (P-1)=P-1:=by rw[IntKind.wrap_i64];omega
 clear h hL hR hx hx1 hc hl h1 em ea hae hac hml hpl z1 z2 z3 z4 z5 hit hrv;obtain⟨LX,hLX⟩:∃LX,w.alloc (.cells #[.int .i64 sta,.int .i64 sqa,.slice ra rn rc,.int .i64 uida,.int .i64 proca,.string SM,.int .i64 (a:Int),.string (str camea),.int .i64 waita,.int .i64 triea] 139)=LX:=⟨_,rfl⟩;have HB:Hid (Below w.heap.size w LX):=by
  rw[<-hLX];exact(Below.refl w.heap.size w).alloc (Nat.le_refl _) _
 have hbx:LX.heap[w.heap.size]?=some (.cells #[.int .i64 sta,.int .i64 sqa,.slice ra rn rc,.int .i64 uida,.int .i64 proca,.string SM,.int .i64 (a:Int),.string (str camea),.int .i64 waita,.int .i64 triea] 139 (0,0)):=by
  rw[<-hLX];exact heap_alloc_new w _
 have c4:LX.cell? ⟨w.heap.size,5,none⟩=some (.string SM):=cell_of hbx 5 _ rfl;have c5:LX.cell? ⟨w.heap.size,6,none⟩=some (.int .i64 (a:Int)):=cell_of hbx 6 _ rfl;have HLX:=Ab hLX;clear hLX hbx;by_cases hlast:(a:Int)=P-1
 ·have e1:decide ((a:Int)<P-1)=false:=by simp;omega
  rw[e1]at HS;have e2:(((a:Int))==P-1)=true:=by simpa using hlast
  clear hlast e1;cases again;all_goals
   go_enter Tryz.func112,Tryz.ntmps112;go_wp2_with fail
   rw[Aa HLX];go_region_held3 (fun w'=>w'.cell? ⟨w.heap.size,5,none⟩=some (.string SM)/\w'.cell? ⟨w.heap.size,6,none⟩=some (.int .i64 (a:Int))) (go_keep) ((go_at_call 187;refine((Aa HP) _).mono ?_;rintro e w1 ⟨rfl,hw1⟩;rw[hw1];clear hw1))
   go_wp2_with (first|(go_at_call 189;refine((Aa HC) _).mono ?_;rintro e w2 ⟨rfl,hw2⟩;rw[hw2];clear hw2)|(go_at_call 188;refine((Aa HS) _ (Aa HB).drew).mono ?_;rintro e w3 ⟨rfl,hw3⟩))
   go_returns;exact⟨rfl,hw3⟩
 ·have e1:decide ((a:Int)<P-1)=true:=by simp;omega
  rw[e1]at HS;have e2:(((a:Int))==P-1)=false:=by simpa using hlast
  clear hlast e1;cases again;all_goals
   go_enter Tryz.func112,Tryz.ntmps112;go_wp2_with fail
   rw[Aa HLX];go_region_held3 (fun w'=>w'.cell? ⟨w.heap.size,5,none⟩=some (.string SM)/\w'.cell? ⟨w.heap.size,6,none⟩=some (.int .i64 (a:Int))) (go_keep) ((go_at_call 187;refine((Aa HP) _).mono ?_;rintro e w1 ⟨rfl,hw1⟩;rw[hw1];clear hw1))
   go_wp2_with (first|(go_at_call 189;refine((Aa HC) _).mono ?_;rintro e w2 ⟨rfl,hw2⟩;rw[hw2];clear hw2)|(go_at_call 188;refine((Aa HS) _ (Aa HB).drew).mono ?_;rintro e w3 ⟨rfl,hw3⟩))
   go_returns;exact⟨rfl,hw3⟩
def IJ(G:R.Wd)(i k:Nat)(l:R.Ln):R.Wd:=if l.Az<R.Ak l.message then R.A9 G i k true else R.Fg G i k
theorem LW.again{p:Pl}{F:Ag}{G:R.Wd}{w:World}(h:LW p F G w){i k:Nat}{c:R.Cl}{l:R.Ln}(hc:G.Ad[i]?=some c)(hl:c.lines[k]?=some l)(h1:l.state=1):
  Calls Tryz.prog 122 #[ptr (p.cb i),.int .i64 (k:Int)] w fun e w'=>e=.returned (.tuple #[])/\∃F',LW p F' (IJ G i k l) w'/\Ah F F' w w':=by
 obtain⟨xs,x,hL,hR,hx,hx1,hla,hrs,hit⟩:=h.line hc hl;obtain⟨ra,rn,rc,hrv⟩:=EW hit;have hca:=KM h hc;have hk:=(List.getElem?_eq_some_iff.1 hl).1;have hlc:=lt_of_cell hca.a0;have hll:=lt_of_cell hla.a0;obtain⟨z1,z2,hml,hac,z3⟩:=(((h.wf.cl i c hc).line k l hl)).one h1;obtain⟨z4,em,ea,z5⟩:=hx1.one h1;obtain⟨Post,hPost⟩:∃Post:World->Prop,∀w'',Post w''↔∃F',LW p F' (IJ G i k l) w''/\Ah F F' w w'':=⟨_,fun _=>Iff.rfl⟩;suffices hq:Calls Tryz.prog 122 #[ptr (p.cb i),.int .i64 (k:Int)] w fun e w'=>e=.returned (.tuple #[])/\Post w' from hq.mono (fun e w' h=>⟨h.1,(hPost w').1 h.2⟩)
 have HS1:Hid (l.Az<R.Ak l.message->∀w',Below w.heap.size w w'->Calls Tryz.prog 112 #[ptr (p.cb i),.int .i64 (k:Int),.bool true] w' fun e w''=>e=.returned (.tuple #[])/\Post w''):=fun hlt w' hb=>by
  refine((h.below hb).piece hc hl h1 hlt true).mono ?_;rintro e w'' ⟨rfl,F',q1,q2⟩;refine⟨rfl,(hPost w'').2 ⟨F',?_,(Ah.Aq F hb).trans q2⟩⟩;rw[IJ,if_pos hlt];exact q1
 have HS2:Hid (¬l.Az<R.Ak l.message->∀w',Below w.heap.size w w'->Calls Tryz.prog 188 #[ptr (p.cb i),.int .i64 (k:Int),My 3 0 0 0 0 0 0 1 true (str [])] w' fun e w''=>e=.returned (.tuple #[])/\Post w''):=fun hlt w' hb=>by
  have hrt:=R.Ii h.wf hc hl h1;rw[Jo hc]at hrt;refine((h.below hb).XQ hc hl h1 3 0 1 true [] hrt).mono ?_;rintro e w'' ⟨rfl,F',q1,q2⟩;refine⟨rfl,(hPost w'').2 ⟨F',?_,(Ah.Aq F hb).trans q2⟩⟩;rw[IJ,if_neg hlt,R.Rq (R.Bc hc hl),Jo hc];exact q1
 rw[show str []=(⟨#[]⟩:ByteArray) from rfl]at HS2;have HP:=Ab (fun w=>Gp l.message w (by omega));clear hPost;obtain⟨a0,a1,a2,a3,a4,a5,a6,a7,a8,a9⟩:=hla;obtain⟨b0,b1,b2,b3,b4,b5,b6⟩:=hca;rw[hrv]at a2;rw[em]at a5;rw[ea]at a6;generalize str l.message=SM at *;have hpp:1<=R.Ak l.message/\R.Ak l.message<=9:=⟨R.Ff hml.1,R.FW hml.2⟩;generalize R.Ak l.message=P at *;generalize l.Az=a at *;generalize c.lines.length=nl at *;generalize p.cb i=cb at *;generalize p.lb i=lb at *;obtain⟨sta,sqa,rva,uida,proca,msga,acka,camea,waita,triea⟩:=x;simp only at a0 a1 a3 a4 a7 a8 a9;clear h hL hR hx hx1 hc hl h1 em ea hac hml z1 z2 z3 z4 z5 hrs hit hrv;obtain⟨LX,hLX⟩:∃LX,w.alloc (.cells #[.int .i64 sta,.int .i64 sqa,.slice ra rn rc,.int .i64 uida,.int .i64 proca,.string SM,.int .i64 a,.string (str camea),.int .i64 waita,.int .i64 triea] 139)=LX:=⟨_,rfl⟩;have HB:Hid (Below w.heap.size w LX):=by
  rw[<-hLX];exact(Below.refl w.heap.size w).alloc (Nat.le_refl _) _
 have hbx:LX.heap[w.heap.size]?=some (.cells #[.int .i64 sta,.int .i64 sqa,.slice ra rn rc,.int .i64 uida,.int .i64 proca,.string SM,.int .i64 a,.string (str camea),.int .i64 waita,.int .i64 triea] 139 (0,0)):=by
  rw[<-hLX];exact heap_alloc_new w _
 have c4:LX.cell? ⟨w.heap.size,5,none⟩=some (.string SM):=cell_of hbx 5 _ rfl;have c5:LX.cell? ⟨w.heap.size,6,none⟩=some (.int .i64 a):=cell_of hbx 6 _ rfl;have HLX:=Ab hLX;clear hLX hbx;by_cases hlt:a<P
 ·go_enter Tryz.func122,Tryz.ntmps122;go_wp2_with fail
  rw[Aa HLX];go_region_held3 (fun w'=>w'.cell? ⟨w.heap.size,5,none⟩=some (.string SM)/\w'.cell? ⟨w.heap.size,6,none⟩=some (.int .i64 a)) (go_keep) ((go_at_call 187;refine((Aa HP) _).mono ?_;rintro e w1 ⟨rfl,hw1⟩;rw[hw1];clear hw1))
  go_wp2_with (first|(go_at_call 112;refine((Aa HS1) hlt _ (Aa HB).drew).mono ?_;rintro e w3 ⟨rfl,hw3⟩))
  go_returns;exact⟨rfl,hw3⟩
 ·go_enter Tryz.func122,Tryz.ntmps122;go_wp2_with fail
  rw[Aa HLX];go_region_held3 (fun w'=>w'.cell? ⟨w.heap.size,5,none⟩=some (.string SM)/\w'.cell? ⟨w.heap.size,6,none⟩=some (.int .i64 a)) (go_keep) ((go_at_call 187;refine((Aa HP) _).mono ?_;rintro e w1 ⟨rfl,hw1⟩;rw[hw1];clear hw1))
  go_wp2_with (first|(go_at_call 188;refine((Aa HS2) hlt _ (Aa HB).drew).mono ?_;rintro e w3 ⟨rfl,hw3⟩))
  go_returns;exact⟨rfl,hw3⟩
theorem Ai{w:World}{b o:Nat}(v:Value):Ae (fun k=>k=b) w (w.setCell ⟨b,o,none⟩ v):=Ae.setCell (F:=fun k=>k=b) (Ae.refl _ w) (p:=⟨b,o,none⟩) (Or.inl rfl) v
theorem BS{w:World}{b k j:Nat}{xs:List Dl}{x x':Dl}{v:Value}(h:w.heap[b]?=some (.cells (tab Dl.cells xs).toArray 139 (0,0)))(hx:xs[k]?=some x)(hj:j<10)(hv:x'.cells=x.cells.set j v):
  (w.setCell ⟨b,k*10+j,none⟩ v).heap[b]?=some (.cells (tab Dl.cells (xs.set k x')).toArray 139 (0,0))/\(xs.set k x')[k]?=some x':=by
 refine⟨by rw[Ap h,Dy Dl.len xs k j x x' v hx hj hv],?_⟩;rw[List.getElem?_set];simp[(List.getElem?_eq_some_iff.1 hx).1]
abbrev Qg(w:World)(b k:Nat)(x:Dl):World:=(((((((((w.setCell ⟨b,k*10,none⟩ (.int .i64 x.state)).setCell ⟨b,k*10+1,none⟩ (.int .i64 x.seq)).setCell ⟨b,k*10+2,none⟩ x.rv).setCell ⟨b,k*10+3,none⟩ (.int .i64 x.uid)).setCell ⟨b,k*10+4,none⟩ (.int .i64 x.proc)).setCell ⟨b,k*10+5,none⟩ (.string (str x.msg))).setCell ⟨b,k*10+6,none⟩ (.int .i64 x.Az)).setCell ⟨b,k*10+7,none⟩ (.string (str x.came))).setCell ⟨b,k*10+8,none⟩ (.int .i64 x.wait)).setCell ⟨b,k*10+9,none⟩ (.int .i64 x.tries)
theorem Qh{w:World}{b k:Nat}{xs:List Dl}{x:Dl}(h:w.heap[b]?=some (.cells (tab Dl.cells xs).toArray 139 (0,0)))(hx:xs[k]?=some x)(x':Dl):
  (Qg w b k x').heap[b]?=some (.cells (tab Dl.cells (xs.set k x')).toArray 139 (0,0))/\Ae (fun q=>q=b) w (Qg w b k x'):=by
 obtain⟨st,sq,rv,u,pc,m,a,cm,wt,tr⟩:=x;obtain⟨st',sq',rv',u',pc',m',a',cm',wt',tr'⟩:=x';have e0:=BS (j:=0) (x':=⟨st',sq,rv,u,pc,m,a,cm,wt,tr⟩) (v:=.int .i64 st') h hx (by omega) rfl;have e1:=BS (j:=1) (x':=⟨st',sq',rv,u,pc,m,a,cm,wt,tr⟩) (v:=.int .i64 sq') e0.1 e0.2 (by omega) rfl;have e2:=BS (j:=2) (x':=⟨st',sq',rv',u,pc,m,a,cm,wt,tr⟩) (v:=rv') e1.1 e1.2 (by omega) rfl;have e3:=BS (j:=3) (x':=⟨st',sq',rv',u',pc,m,a,cm,wt,tr⟩) (v:=.int .i64 u') e2.1 e2.2 (by omega) rfl;have e4:=BS (j:=4) (x':=⟨st',sq',rv',u',pc',m,a,cm,wt,tr⟩) (v:=.int .i64 pc') e3.1 e3.2 (by omega) rfl;have e5:=BS (j:=5) (x':=⟨st',sq',rv',u',pc',m',a,cm,wt,tr⟩) (v:=.string (str m')) e4.1 e4.2 (by omega) rfl;have e6:=BS (j:=6) (x':=⟨st',sq',rv',u',pc',m',a',cm,wt,tr⟩) (v:=.int .i64 a') e5.1 e5.2 (by omega) rfl;have e7:=BS (j:=7) (x':=⟨st',sq',rv',u',pc',m',a',cm',wt,tr⟩) (v:=.string (str cm')) e6.1 e6.2 (by omega) rfl;have e8:=BS (j:=8) (x':=⟨st',sq',rv',u',pc',m',a',cm',wt',tr⟩) (v:=.int .i64 wt') e7.1 e7.2 (by omega) rfl;have e9:=BS (j:=9) (x':=⟨st',sq',rv',u',pc',m',a',cm',wt',tr'⟩) (v:=.int .i64 tr') e8.1 e8.2 (by omega) rfl;simp only[List.set_set]at e9;exact⟨e9.1,(((((((((Ai _).trans (Ai _)).trans (Ai _)).trans (Ai _)).trans (Ai _)).trans (Ai _)).trans (Ai _)).trans (Ai _)).trans (Ai _)).trans (Ai _)⟩
abbrev XL(st sq:Int):Dl:=⟨st,sq,.slice none 0 0,0,0,[],0,[],0,0⟩
theorem TU(w:World)(b k:Nat)(st:Int)(xs:List Dl)(x:Dl)(hrv:∃a n c,x.rv=.slice a n c)(h:w.heap[b]?=some (.cells (tab Dl.cells xs).toArray 139 (0,0)))(hx:xs[k]?=some x):
  Calls Tryz.prog 121 #[.pointer (some ⟨b,k*10,none⟩),.int .i64 st] w fun e w'=>e=.returned (.tuple #[])/\w'.heap[b]?=some (.cells (tab Dl.cells (xs.set k (XL st x.seq))).toArray 139 (0,0))/\Ae (fun q=>q=b) w w':=by
 obtain⟨a0,a1,a2,a3,a4,a5,a6,a7,a8,a9⟩:=WM h hx;obtain⟨ra,rn,rc,hrv⟩:=hrv;rw[hrv]at a2;have z0:=open_list (off:=k*10) h;have z1:=open_list (off:=k*10+1) h;have z2:=open_list (off:=k*10+2) h;have z3:=open_list (off:=k*10+3) h;have z4:=open_list (off:=k*10+4) h;have z5:=open_list (off:=k*10+5) h;have z6:=open_list (off:=k*10+6) h;have z7:=open_list (off:=k*10+7) h;have z8:=open_list (off:=k*10+8) h;have z9:=open_list (off:=k*10+9) h;have HH:=Ab h;have HX:=Ab hx;have hlt:=lt_of_block h;clear h hx hrv;go_enter Tryz.func121,Tryz.ntmps121;go_wp2;go_returns;have hp:=Qh (Aa HH) (Aa HX) (XL st x.seq);exact⟨rfl,hp⟩
theorem GF{Q:Exit->Act->World->Prop}{l:Nat}{J:Act->World->Prop}{a:Act}{w:World}(h:Q .ret a w):Exit.jump l J Q .ret a w:=h
theorem Ig{Q:Exit->Act->World->Prop}{l:Nat}{J:Act->World->Prop}{a:Act}{w:World}(h:Q .normal a w):Exit.jump l J Q .normal a w:=h
theorem Ch{P:Program}{a:Act}{w:World}{Q:Exit->Act->World->Prop}{c rest:Code}(l:Nat)(hf:findLabel c l=some rest)(first:c.wp P (Exit.jump l (fun a w=>rest.wp P (Exit.jump l (fun _ _=>False) Q) a w) Q) a w):(Code.scope c).wp P Q a w:=by
 refine wp_scope_jumps l _ (fun _ _=>0) hf first (fun a w h=>?_)
 refine Code.wp_mono ?_ h;intro e a w h;cases e with
 |goto q=>exact h.2.elim
 |_=>exact h
theorem SX(w:World)(cb lb k nl:Nat)(wt tr rt:Int)(Post:World->Prop)(hk:k<nl)(b3:w.cell? ⟨cb,3,none⟩=some (.slice (some ⟨lb,0,none⟩) nl nl))(b4:w.cell? ⟨cb,4,none⟩=some (.int .i64 rt))(a6:w.cell? ⟨lb,k*10+8,none⟩=some (.int .i64 wt))(a7:w.cell? ⟨lb,k*10+9,none⟩=some (.int .i64 tr))(z6:w.frozen? ⟨lb,k*10+8,none⟩=false)(z7:w.frozen? ⟨lb,k*10+9,none⟩=false)(hne:¬cb=lb)(hwt:1<=wt/\wt<=8)(htr:0<=tr/\tr<=6)
  (HA:Hid (1<wt->Post (w.setCell ⟨lb,k*10+8,none⟩ (.int .i64 (wt-1)))))
  (HB:Hid (wt=1->tr=0->Calls Tryz.prog 121 #[.pointer (some ⟨lb,k*10,none⟩),.int .i64 3] (w.setCell ⟨lb,k*10+8,none⟩ (.int .i64 (wt-1))) fun e w'=>e=.returned (.tuple #[])/\Post w'))
  (HC:Hid (wt=1->0<tr->Calls Tryz.prog 122 #[ptr cb,.int .i64 (k:Int)] (((w.setCell ⟨lb,k*10+8,none⟩ (.int .i64 (wt-1))).setCell ⟨lb,k*10+9,none⟩ (.int .i64 (tr-1))).setCell ⟨lb,k*10+8,none⟩ (.int .i64 rt)) fun e w'=>e=.returned (.tuple #[])/\Post w')):
  Calls Tryz.prog 70 #[ptr cb,.int .i64 (k:Int)] w fun e w'=>e=.returned (.tuple #[])/\Post w':=by
 have e1:IntKind.i64.wrap (wt-1)=wt-1:=by rw[IntKind.wrap_i64];omega
 have e2:IntKind.i64.wrap (tr-1)=tr-1:=by rw[IntKind.wrap_i64];omega
 have hne':¬lb=cb:=fun e=>hne e.symm
 have hl1:=lt_of_cell b3;have hl2:=lt_of_cell a6;by_cases h1:1<wt
 ·have q1:0<wt-1:=by omega
  have HP:=Ab ((Aa HA) h1);clear HA HB HC;go_enter Tryz.func70,Tryz.ntmps70;go_wp2;refine Ch 0 rfl ?_;go_wp2;refine GF ?_;go_wp2;go_returns;exact⟨rfl,Aa HP⟩
 ·have hw1:wt=1:=by omega
  by_cases h2:tr=0
  ·have HP:=Ab ((Aa HB) hw1 h2);clear HA HB HC;subst hw1 h2;go_enter Tryz.func70,Tryz.ntmps70;go_wp2;refine Ch 0 rfl ?_;go_wp2_with (first|(go_at_call 121;refine(Aa HP).mono ?_;rintro e w3 ⟨rfl,hw3⟩))
   refine GF ?_;go_wp2;go_returns;exact⟨rfl,hw3⟩
  ·have h3:0<tr:=by omega
   have HP:=Ab ((Aa HC) hw1 h3);clear HA HB HC;subst hw1;go_enter Tryz.func70,Tryz.ntmps70;go_wp2;refine Ch 0 rfl ?_;go_wp2
   go_step3
   refine⟨rfl,?_⟩;show Code.wp Tryz.prog _ _ _ _;go_wp2_with (first|(go_at_call 122;refine(Aa HP).mono ?_;rintro e w3 ⟨rfl,hw3⟩))
   refine Ig ?_;go_wp2;go_returns;exact⟨rfl,hw3⟩
theorem LW.wait{p:Pl}{F:Ag}{G:R.Wd}{w:World}(h:LW p F G w){i k:Nat}{c:R.Cl}{l:R.Ln}(hc:G.Ad[i]?=some c)(hl:c.lines[k]?=some l)(h1:l.state=1):
  Calls Tryz.prog 70 #[ptr (p.cb i),.int .i64 (k:Int)] w fun e w'=>e=.returned (.tuple #[])/\∃F',LW p F' (R.AB G i k) w'/\Ah F F' w w':=by
 obtain⟨xs,x,hL,hR,hx,hx1,hla,hrs,hit⟩:=h.line hc hl;obtain⟨ra,rn,rc,hrv⟩:=EW hit;have hca:=KM h hc;have hk:=(List.getElem?_eq_some_iff.1 hl).1;have hi:=(List.getElem?_eq_some_iff.1 hc).1;have hlc:=lt_of_cell hca.a0;have hll:=lt_of_cell hla.a0;have hok:=(h.wf.cl i c hc).line k l hl;obtain⟨z1,z2,hml,hac,hwt,htr⟩:=hok.one h1;obtain⟨eu,em,ea,ew,et⟩:=hx1.one h1;have hfl:F (p.lb i):=(h.Bw i hi).2.1;have hcf:=h.wf.cf;have eT:=R.Bc hc hl;have hne:p.cb i≠p.lb i:=AO (h.cl i c hc) hL (by decide);have htw:=hx1.two h1;have hr0:l.result=[]:=hx1.res (by omega);have went:∀w',Ae (fun q=>q=p.lb i) w w'->Ah F F w w':=fun w' hk=>⟨hk.mono (fun q _ e=>by rw[e];exact hfl),fun _ q=>Or.inl q⟩
 unfold R.AB;simp only[eT];rw[if_neg (by omega)];obtain⟨Post,hPost⟩:∃Post:World->Prop,∀w'',Post w''↔∃F',LW p F' (if 1<l.wait then R.Ar G i k {l with wait:=l.wait-1} else if l.tries=0 then R.Ar G i k {l with wait:=l.wait-1,state:=3} else if 8*l.Az<(l.message.length:Int) then R.A9 (R.Ar G i k {l with wait:=G.c.Al,tries:=l.tries-1}) i k true else R.Fg (R.Ar G i k {l with wait:=G.c.Al,tries:=l.tries-1}) i k) w''/\Ah F F' w w'':=⟨_,fun _=>Iff.rfl⟩;suffices hq:Calls Tryz.prog 70 #[ptr (p.cb i),.int .i64 (k:Int)] w fun e w'=>e=.returned (.tuple #[])/\Post w' from hq.mono (fun e w' h=>⟨h.1,(hPost w').1 h.2⟩)
 obtain⟨a0,a1,a2,a3,a4,a5,a6,a7,a8,a9⟩:=hla;rw[ew]at a8;rw[et]at a9;obtain⟨sta,sqa,rva,uida,proca,msga,acka,camea,waita,triea⟩:=x;simp only at eu em ea ew et hrv htw;subst eu em ea ew et;obtain⟨tc,tp,tt⟩:=htw;subst tc;have hst:=hx1.state;have hsq:=hx1.seq;simp only at hst hsq;subst hst hsq;unfold R.Cj at hcf;have e1:=BS (j:=8) (x':=⟨l.state,l.seq,rva,l.uid,proca,l.message,l.Az,l.came,l.wait-1,l.tries⟩) (v:=.int .i64 (l.wait-1)) hL hx (by omega) rfl;have e2:=BS (j:=9) (x':=⟨l.state,l.seq,rva,l.uid,proca,l.message,l.Az,l.came,l.wait-1,l.tries-1⟩) (v:=.int .i64 (l.tries-1)) e1.1 e1.2 (by omega) rfl;have e3:=BS (j:=8) (x':=⟨l.state,l.seq,rva,l.uid,proca,l.message,l.Az,l.came,G.c.Al,l.tries-1⟩) (v:=.int .i64 G.c.Al) e2.1 e2.2 (by omega) rfl;simp only[List.set_set]at e2 e3;refine SX w (p.cb i) (p.lb i) k c.lines.length l.wait l.tries G.c.Al Post hk hca.a3 hca.a4 a8 a9 (open_list hL) (open_list hL) hne hwt htr ?_ ?_ ?_
 ·intro h2;refine(hPost _).2 ⟨F,?_,went _ (Ai _)⟩;rw[if_pos h2];exact h.turn hc hL hR hrs (Ai _) e1.1 ⟨hok.seq,fun _=>⟨z1,z2,hml,hac,by simp only;omega,htr⟩⟩ ⟨rfl,rfl,fun _=>hr0,fun _=>⟨rfl,rfl,rfl,rfl,rfl⟩,fun _=>⟨rfl,tp,tt⟩⟩ hit
 ·intro h2 h3;refine(TU _ (p.lb i) k 3 _ _ ⟨_,_,_,hrv⟩ e1.1 e1.2).mono ?_;rintro e w' ⟨rfl,q1,q2⟩;refine⟨rfl,(hPost _).2 ⟨F,?_,went _ ((Ai _).trans q2)⟩⟩;rw[if_neg (by omega),if_pos h3];simp only[List.set_set]at q1;exact h.turn hc hL hR hrs ((Ai _).trans q2) q1 ⟨hok.seq,fun q=>by cases q⟩ ⟨rfl,rfl,fun _=>hr0,fun q=>(by cases q),fun q=>(by cases q)⟩ (by
   rw[hr0];exact ED.nil _ _)
 ·intro h2 h3;have hT:=h.turn (l':={l with wait:=G.c.Al,tries:=l.tries-1}) hc hL hR hrs (((Ai _).trans (Ai _)).trans (Ai _)) e3.1 ⟨hok.seq,fun _=>⟨z1,z2,hml,hac,by simp only;omega,by simp only;omega⟩⟩ ⟨rfl,rfl,fun _=>hr0,fun _=>⟨rfl,rfl,rfl,rfl,rfl⟩,fun _=>⟨rfl,tp,tt⟩⟩ hit;have hc':(R.Ar G i k {l with wait:=G.c.Al,tries:=l.tries-1}).Ad[i]?=some {c with lines:=c.lines.set k {l with wait:=G.c.Al,tries:=l.tries-1}}:=by
   rw[R.BK,hc];simp
  refine(hT.again hc' (l:={l with wait:=G.c.Al,tries:=l.tries-1}) (by simp[hk]) h1).mono ?_;rintro e w' ⟨rfl,F',q1,q2⟩;refine⟨rfl,(hPost _).2 ⟨F',?_,(went _ (((Ai _).trans (Ai _)).trans (Ai _))).trans q2⟩⟩;rw[if_neg (by omega),if_neg (by omega)];unfold IJ at q1;by_cases hq:l.Az<R.Ak l.message
  ·rw[if_pos (R.FO.2 hq)];rw[if_pos hq]at q1;exact q1
  ·rw[if_neg (fun q=>hq (R.FO.1 q))];rw[if_neg hq]at q1;exact q1
end Go.Proofs.YtblomippkddgiaaGreatDoor
