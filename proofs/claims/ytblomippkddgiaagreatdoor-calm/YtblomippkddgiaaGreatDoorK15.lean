import Derived.Test.YtblomippkddgiaaGreatDoorK14
import Derived.WalkMore
import Derived.ScopeJumps
set_option maxRecDepth 100000
set_option maxHeartbeats 4000000
namespace Go.Proofs.YtblomippkddgiaaGreatDoor
open Go.RowKit
structure aan(w:World)(b k:Nat)(x:DK):Prop where
 a0:w.cell? ⟨b,k*10,none⟩=some (.int .i64 x.state)
 a1:w.cell? ⟨b,k*10+1,none⟩=some (.int .i64 x.seq)
 a2:w.cell? ⟨b,k*10+2,none⟩=some x.rv
 a3:w.cell? ⟨b,k*10+3,none⟩=some (.int .i64 x.uid)
 a4:w.cell? ⟨b,k*10+4,none⟩=some (.int .i64 x.proc)
 a5:w.cell? ⟨b,k*10+5,none⟩=some (.string (str x.msg))
 a6:w.cell? ⟨b,k*10+6,none⟩=some (.int .i64 x.Ah)
 a7:w.cell? ⟨b,k*10+7,none⟩=some (.string (str x.came))
 a8:w.cell? ⟨b,k*10+8,none⟩=some (.int .i64 x.wait)
 a9:w.cell? ⟨b,k*10+9,none⟩=some (.int .i64 x.tries)
theorem AQ{w:World}{b k:Nat}{xs:List DK}{x:DK}(h:w.heap[b]?=some (.cells (tab DK.cells xs).toArray 139 (0,0)))(hx:xs[k]?=some x):aan w b k x:=by
 have q:∀j v,j<10->x.cells[j]?=some v->w.cell? ⟨b,k*10+j,none⟩=some v:=fun j v hj hv=>AY h (by rw[GG DK.len xs k j x hx hj];exact hv)
 exact⟨q 0 _ (by omega) rfl,q 1 _ (by omega) rfl,q 2 _ (by omega) rfl,q 3 _ (by omega) rfl,q 4 _ (by omega) rfl,q 5 _ (by omega) rfl,q 6 _ (by omega) rfl,q 7 _ (by omega) rfl,q 8 _ (by omega) rfl,q 9 _ (by omega) rfl⟩
theorem FQ{w:World}{F:Aq}{V:Value}{l:List R.It}(h:BD w F V l):∃a n c,V=.slice a n c:=by
 rcases h with ⟨_,h⟩|⟨b,off,cap,cur,_,h,_⟩
 ·exact⟨_,_,_,h⟩
 ·exact⟨_,_,_,h⟩
structure acz(w:World)(p:Pl)(G:R.Wd)(i:Nat)(c:R.Cl):Prop where
 a0:w.cell? ⟨p.cb i,0,none⟩=some (.int .i64 (i:Int))
 a1:w.cell? ⟨p.cb i,1,none⟩=some (.int .i64 c.Ag)
 a2:w.cell? ⟨p.cb i,2,none⟩=some (.map (some (p.bm i)))
 a3:w.cell? ⟨p.cb i,3,none⟩=some (.slice (some ⟨p.lb i,0,none⟩) c.lines.length c.lines.length)
 a4:w.cell? ⟨p.cb i,4,none⟩=some (.int .i64 G.c.Be)
 a5:w.cell? ⟨p.cb i,5,none⟩=some (.int .i64 G.c.tries)
 a6:w.cell? ⟨p.cb i,6,none⟩=some (ptr p.n)
theorem K3{p:Pl}{F:Aq}{G:R.Wd}{w:World}(h:LW p F G w){i:Nat}{c:R.Cl}(hc:G.Ad[i]?=some c):acz w p G i c:=by
 have hx:=h.cl i c hc;exact⟨cell_of hx 0 _ rfl,cell_of hx 1 _ rfl,cell_of hx 2 _ rfl,cell_of hx 3 _ rfl,cell_of hx 4 _ rfl,cell_of hx 5 _ rfl,cell_of hx 6 _ rfl⟩
theorem LW.line{p:Pl}{F:Aq}{G:R.Wd}{w:World}(h:LW p F G w){i k:Nat}{c:R.Cl}{l:R.Ln}(hc:G.Ad[i]?=some c)(hl:c.lines[k]?=some l):∃xs x,w.heap[p.lb i]?=some (.cells (tab DK.cells xs).toArray 139 (0,0))/\GZ c.lines xs/\xs[k]?=some x/\MF l x/\aan w (p.lb i) k x/\Eu w F c.lines xs/\BD w F x.rv l.result:=by
 obtain⟨xs,h1,h2,h5⟩:=h.ln i c hc;obtain⟨x,h3,h4⟩:=h2.get hl;exact⟨xs,x,h1,h2,h3,h4,AQ h1 h3,h5,h5 k l x hl h3⟩
theorem abL:∀args w,(callFunc 230 args).run Tryz.prog w=.ok (.enter 230 args) w:=fun _ _=>rfl
theorem LW.aab{p:Pl}{F:Aq}{G:R.Wd}{w:World}(h:LW p F G w){i k:Nat}{c:R.Cl}{l:R.Ln}(hc:G.Ad[i]?=some c)(hl:c.lines[k]?=some l)(h1:l.state=1)(kd pa o:Int)(pl:Bool)(body:List UInt8)(hr:AJ ⟨kd,i,c.Ag,k,l.seq,l.uid,pa,o,pl,body⟩):
  Calls Tryz.prog 188 #[ptr (p.cb i),.int .i64 (k:Int),Ms kd 0 0 0 0 0 pa o pl (str body)] w fun e w'=>e=.returned (.tuple #[])/\∃F',LW p F' (R.AU G (-1) ⟨kd,i,c.Ag,k,l.seq,l.uid,pa,o,pl,body⟩) w'/\Ay F F' w w':=by
 obtain⟨xs,x,hL,hR,hx,hx1,hla,_,hit⟩:=h.line hc hl;obtain⟨ra,rn,rc,hrv⟩:=FQ hit;have hca:=K3 h hc;have hk:=(List.getElem?_eq_some_iff.1 hl).1;have hlc:=lt_of_cell hca.a0;have hll:=lt_of_cell hla.a0;obtain⟨Post,hPost⟩:∃Post:World->Prop,∀w'',Post w''↔∃F',LW p F' (R.AU G (-1) ⟨kd,i,c.Ag,k,l.seq,l.uid,pa,o,pl,body⟩) w''/\Ay F F' w w'':=⟨_,fun _=>Iff.rfl⟩;suffices hq:Calls Tryz.prog 188 #[ptr (p.cb i),.int .i64 (k:Int),Ms kd 0 0 0 0 0 pa o pl (str body)] w fun e w'=>e=.returned (.tuple #[])/\Post w' from hq.mono (fun e w' h=>⟨h.1,(hPost w').1 h.2⟩)
 have HS:Hid (∀w',LW p F G w'->Below w.heap.size w w'->Calls Tryz.prog 230 #[ptr p.n,.int .i64 (-1),Ms kd i c.Ag k l.seq l.uid pa o pl (str body)] w' fun e w''=>e=.returned (.tuple #[])/\Post w''):=fun w' h' hb=>by
  refine(h'.send (-1) ⟨kd,i,c.Ag,k,l.seq,l.uid,pa,o,pl,body⟩ hr).mono ?_;rintro e w'' ⟨rfl,F',q1,q2⟩;exact⟨rfl,(hPost w'').2 ⟨F',q1,(Ay.Aj F hb).trans q2⟩⟩
 clear hPost;have HBL:Hid (∀w',Below w.heap.size w w'->LW p F G w'):=fun w' hb=>h.below hb
 have eu:x.uid=l.uid:=(hx1.one h1).1;have eq:x.seq=l.seq:=hx1.seq;obtain⟨a0,a1,a2,a3,a4,a5,a6,a7,a8,a9⟩:=hla;rw[hrv]at a2;obtain⟨b0,b1,b2,b3,b4,b5,b6⟩:=hca;rw[eu]at a3;rw[eq]at a1;generalize str body=SB at *;generalize c.Ag=li at *;generalize l.seq=sq at *;generalize l.uid=u at *;generalize c.lines.length=nl at *;generalize p.cb i=cb at *;generalize p.lb i=lb at *;clear hr h hL hR hx hx1 hc hl h1 eu eq hit hrv;obtain⟨BX,hBX⟩:∃BX,(w.alloc (.cells #[.int .i64 kd,.int .i64 (i:Int),.int .i64 li,.int .i64 (k:Int),.int .i64 sq,.int .i64 u,.int .i64 pa,.int .i64 o,.bool pl,.string SB] 41)).alloc (.cells #[.int .i64 x.state,.int .i64 sq,.slice ra rn rc,.int .i64 u,.int .i64 x.proc,.string (str x.msg),.int .i64 x.Ah,.string (str x.came),.int .i64 x.wait,.int .i64 x.tries] 139)=BX:=⟨_,rfl⟩;have HB:Hid (Below w.heap.size w BX):=by
  rw[<-hBX];exact((Below.refl w.heap.size w).alloc (Nat.le_refl _) _).alloc (by simp) _
 have hbx:BX.heap[w.heap.size]?=some (.cells #[.int .i64 kd,.int .i64 (i:Int),.int .i64 li,.int .i64 (k:Int),.int .i64 sq,.int .i64 u,.int .i64 pa,.int .i64 o,.bool pl,.string SB] 41 (0,0)):=by
  rw[<-hBX];exact(Below.heap_alloc _ _ _ (by simp)).trans (heap_alloc_new w _)
 have HC:=Ab ((Aa HS) BX.drew ((Aa HBL) _ (Aa HB).drew) (Aa HB).drew);have d6:BX.cell? ⟨cb,6,none⟩=some (ptr p.n):=((Aa HB).cell (p:=⟨cb,6,none⟩) hlc).trans b6;have c0:BX.cell? ⟨w.heap.size,0,none⟩=some (.int .i64 kd):=cell_of hbx 0 _ rfl;have c1:BX.cell? ⟨w.heap.size,1,none⟩=some (.int .i64 (i:Int)):=cell_of hbx 1 _ rfl;have c2:BX.cell? ⟨w.heap.size,2,none⟩=some (.int .i64 li):=cell_of hbx 2 _ rfl;have c3:BX.cell? ⟨w.heap.size,3,none⟩=some (.int .i64 (k:Int)):=cell_of hbx 3 _ rfl;have c4:BX.cell? ⟨w.heap.size,4,none⟩=some (.int .i64 sq):=cell_of hbx 4 _ rfl;have c5:BX.cell? ⟨w.heap.size,5,none⟩=some (.int .i64 u):=cell_of hbx 5 _ rfl;have c6:BX.cell? ⟨w.heap.size,6,none⟩=some (.int .i64 pa):=cell_of hbx 6 _ rfl;have c7:BX.cell? ⟨w.heap.size,7,none⟩=some (.int .i64 o):=cell_of hbx 7 _ rfl;have c8:BX.cell? ⟨w.heap.size,8,none⟩=some (.bool pl):=cell_of hbx 8 _ rfl;have c9:BX.cell? ⟨w.heap.size,9,none⟩=some (.string SB):=cell_of hbx 9 _ rfl;have HBX:=Ab hBX;clear hbx hBX HS HBL;go_enter Tryz.func188,Tryz.ntmps188;go_wp2;rw[Aa HBX];clear HBX a0 a1 a2 a3 a4 a5 a6 a7 a8 a9 b0 b1 b2 b3 b4 b5 b6;go_region_law (refine AR rfl 230 #[.tmp 36,.const (.int .i64 (-1)),.tmp 37] #[80,3,41] rfl abL #[ptr p.n,.int .i64 (-1),Ms kd i li k sq u pa o pl SB] rfl _ (Aa HC) ?_;rintro e w1 ⟨rfl,hpost⟩;have HP:=Ab hpost;clear hpost;refine⟨_,rfl,?_⟩)
 all_goals
  go_wp2;go_returns;exact⟨rfl,Aa HP⟩
theorem T6{G:R.Wd}{i k:Nat}{c:R.Cl}{l:R.Ln}(hc:G.Ad[i]?=some c)(again:Bool):R.Cb G i k l again=⟨1,i,c.Ag,k,l.seq,l.uid,l.Ah,R.Ae l.message,again || decide (l.Ah<R.Ae l.message-1),R.Bb l.message l.Ah⟩:=by
 unfold R.Cb;rw[R.Bt hc]
theorem ac7:∀args w,(callFunc 187 args).run Tryz.prog w=.ok (.enter 187 args) w:=fun _ _=>rfl
theorem LW.piece{p:Pl}{F:Aq}{G:R.Wd}{w:World}(h:LW p F G w){i k:Nat}{c:R.Cl}{l:R.Ln}(hc:G.Ad[i]?=some c)(hl:c.lines[k]?=some l)(h1:l.state=1)(hak:l.Ah<R.Ae l.message)(again:Bool):
  Calls Tryz.prog 112 #[ptr (p.cb i),.int .i64 (k:Int),.bool again] w fun e w'=>e=.returned (.tuple #[])/\∃F',LW p F' (R.AA G i k again) w'/\Ay F F' w w':=by
 obtain⟨xs,x,hL,hR,hx,hx1,hla,_,hit⟩:=h.line hc hl;obtain⟨ra,rn,rc,hrv⟩:=FQ hit;have hca:=K3 h hc;have hk:=(List.getElem?_eq_some_iff.1 hl).1;have hlc:=lt_of_cell hca.a0;have hll:=lt_of_cell hla.a0;have hrt:=R.Gm h.wf hc hl h1 hak again;obtain⟨z1,z2,hml,hac,z3⟩:=(((h.wf.cl i c hc).line k l hl)).one h1;rw[R.Ew (R.Cu hc hl)];rw[T6 hc]at hrt ⊢;obtain⟨a,hae⟩:∃a:Nat,l.Ah=(a:Int):=⟨l.Ah.toNat,by omega⟩;obtain⟨z4,em,ea,z5⟩:=hx1.one h1;have hpl:8*a<l.message.length:=by have:=R.MG.2 hak;omega
 rw[hae]at hrt ea hak ⊢;obtain⟨Post,hPost⟩:∃Post:World->Prop,∀w'',Post w''↔∃F',LW p F' (R.AU G (-1) ⟨1,i,c.Ag,k,l.seq,l.uid,(a:Int),R.Ae l.message,again || decide ((a:Int)<R.Ae l.message-1),R.Bb l.message (a:Int)⟩) w''/\Ay F F' w w'':=⟨_,fun _=>Iff.rfl⟩;suffices hq:Calls Tryz.prog 112 #[ptr (p.cb i),.int .i64 (k:Int),.bool again] w fun e w'=>e=.returned (.tuple #[])/\Post w' from hq.mono (fun e w' h=>⟨h.1,(hPost w').1 h.2⟩)
 have HS:Hid (∀w',Below w.heap.size w w'->Calls Tryz.prog 188 #[ptr (p.cb i),.int .i64 (k:Int),Ms 1 0 0 0 0 0 (a:Int) (R.Ae l.message) (again || decide ((a:Int)<R.Ae l.message-1)) (str (R.Bb l.message (a:Int)))] w' fun e w''=>e=.returned (.tuple #[])/\Post w''):=fun w' hb=>by
  refine((h.below hb).aab hc hl h1 1 (a:Int) (R.Ae l.message) _ _ hrt).mono ?_;rintro e w'' ⟨rfl,F',q1,q2⟩;exact⟨rfl,(hPost w'').2 ⟨F',q1,(Ay.Aj F hb).trans q2⟩⟩
 have HP:=Ab (fun w=>C8 l.message w (by omega));have HC:=Ab (fun w=>M4 l.message a w (by omega) hpl);clear hPost hrt;obtain⟨a0,a1,a2,a3,a4,a5,a6,a7,a8,a9⟩:=hla;obtain⟨b0,b1,b2,b3,b4,b5,b6⟩:=hca;rw[hrv]at a2;rw[em]at a5;rw[ea]at a6;generalize str (R.Bb l.message (a:Int))=SB at *;generalize str l.message=SM at *;have hpp:1<=R.Ae l.message/\R.Ae l.message<=9:=⟨R.Du hml.1,R.Er hml.2⟩;generalize R.Ae l.message=P at *;generalize c.lines.length=nl at *;generalize p.cb i=cb at *;generalize p.lb i=lb at *;obtain⟨sta,sqa,rva,uida,proca,msga,acka,camea,waita,triea⟩:=x;simp only at a0 a1 a3 a4 a7 a8 a9;have hsub:IntKind.i64.wrap (P-1)=P-1:=by rw[IntKind.wrap_i64];omega
 clear h hL hR hx hx1 hc hl h1 em ea hae hac hml hpl z1 z2 z3 z4 z5 hit hrv;obtain⟨LX,hLX⟩:∃LX,w.alloc (.cells #[.int .i64 sta,.int .i64 sqa,.slice ra rn rc,.int .i64 uida,.int .i64 proca,.string SM,.int .i64 (a:Int),.string (str camea),.int .i64 waita,.int .i64 triea] 139)=LX:=⟨_,rfl⟩;have HB:Hid (Below w.heap.size w LX):=by
  rw[<-hLX];exact(Below.refl w.heap.size w).alloc (Nat.le_refl _) _
 have hbx:LX.heap[w.heap.size]?=some (.cells #[.int .i64 sta,.int .i64 sqa,.slice ra rn rc,.int .i64 uida,.int .i64 proca,.string SM,.int .i64 (a:Int),.string (str camea),.int .i64 waita,.int .i64 triea] 139 (0,0)):=by
  rw[<-hLX];exact heap_alloc_new w _
 have c4:LX.cell? ⟨w.heap.size,5,none⟩=some (.string SM):=cell_of hbx 5 _ rfl;have c5:LX.cell? ⟨w.heap.size,6,none⟩=some (.int .i64 (a:Int)):=cell_of hbx 6 _ rfl;have HLX:=Ab hLX;clear hLX hbx;by_cases hlast:(a:Int)=P-1
 ·have e1:decide ((a:Int)<P-1)=false:=by simp;omega
  rw[e1]at HS;have e2:(((a:Int))==P-1)=true:=by simpa using hlast
  clear hlast e1;cases again;all_goals
   go_enter Tryz.func112,Tryz.ntmps112;go_wp2_with fail
   rw[Aa HLX];go_region_held3 (fun w'=>w'.cell? ⟨w.heap.size,5,none⟩=some (.string SM)/\w'.cell? ⟨w.heap.size,6,none⟩=some (.int .i64 (a:Int))) (go_keep) ((go_at_call 187;refine((Aa HP) _).mono ?_;rintro e w1 ⟨rfl,hw1⟩;rw[hw1];clear hw1))
   go_wp2_with (first|(go_at_call 189;refine((Aa HC) _).mono ?_;rintro e w2 ⟨rfl,hw2⟩;rw[hw2];clear hw2)|(go_at_call 188;refine((Aa HS) _ (Aa HB).drew).mono ?_;rintro e w3 ⟨rfl,hw3⟩))
   go_returns;exact⟨rfl,hw3⟩
 ·have e1:decide ((a:Int)<P-1)=true:=by simp;omega
  rw[e1]at HS;have e2:(((a:Int))==P-1)=false:=by simpa using hlast
  clear hlast e1;cases again;all_goals
   go_enter Tryz.func112,Tryz.ntmps112;go_wp2_with fail
   rw[Aa HLX];go_region_held3 (fun w'=>w'.cell? ⟨w.heap.size,5,none⟩=some (.string SM)/\w'.cell? ⟨w.heap.size,6,none⟩=some (.int .i64 (a:Int))) (go_keep) ((go_at_call 187;refine((Aa HP) _).mono ?_;rintro e w1 ⟨rfl,hw1⟩;rw[hw1];clear hw1))
   go_wp2_with (first|(go_at_call 189;refine((Aa HC) _).mono ?_;rintro e w2 ⟨rfl,hw2⟩;rw[hw2];clear hw2)|(go_at_call 188;refine((Aa HS) _ (Aa HB).drew).mono ?_;rintro e w3 ⟨rfl,hw3⟩))
   go_returns;exact⟨rfl,hw3⟩
theorem Am{w:World}{b o:Nat}(v:Value):Af (fun k=>k=b) w (w.setCell ⟨b,o,none⟩ v):=Af.setCell (F:=fun k=>k=b) (Af.refl _ w) (p:=⟨b,o,none⟩) (Or.inl rfl) v
theorem Ca{w:World}{b k j:Nat}{xs:List DK}{x x':DK}{v:Value}(h:w.heap[b]?=some (.cells (tab DK.cells xs).toArray 139 (0,0)))(hx:xs[k]?=some x)(hj:j<10)(hv:x'.cells=x.cells.set j v):
  (w.setCell ⟨b,k*10+j,none⟩ v).heap[b]?=some (.cells (tab DK.cells (xs.set k x')).toArray 139 (0,0))/\(xs.set k x')[k]?=some x':=by
 refine⟨by rw[Ak h,Om DK.len xs k j x x' v hx hj hv],?_⟩;rw[List.getElem?_set];simp[(List.getElem?_eq_some_iff.1 hx).1]
abbrev M7(w:World)(b k:Nat)(x:DK):World:=(((((((((w.setCell ⟨b,k*10,none⟩ (.int .i64 x.state)).setCell ⟨b,k*10+1,none⟩ (.int .i64 x.seq)).setCell ⟨b,k*10+2,none⟩ x.rv).setCell ⟨b,k*10+3,none⟩ (.int .i64 x.uid)).setCell ⟨b,k*10+4,none⟩ (.int .i64 x.proc)).setCell ⟨b,k*10+5,none⟩ (.string (str x.msg))).setCell ⟨b,k*10+6,none⟩ (.int .i64 x.Ah)).setCell ⟨b,k*10+7,none⟩ (.string (str x.came))).setCell ⟨b,k*10+8,none⟩ (.int .i64 x.wait)).setCell ⟨b,k*10+9,none⟩ (.int .i64 x.tries)
theorem TB{w:World}{b k:Nat}{xs:List DK}{x:DK}(h:w.heap[b]?=some (.cells (tab DK.cells xs).toArray 139 (0,0)))(hx:xs[k]?=some x)(x':DK):
  (M7 w b k x').heap[b]?=some (.cells (tab DK.cells (xs.set k x')).toArray 139 (0,0))/\Af (fun q=>q=b) w (M7 w b k x'):=by
 obtain⟨st,sq,rv,u,pc,m,a,cm,wt,tr⟩:=x;obtain⟨st',sq',rv',u',pc',m',a',cm',wt',tr'⟩:=x';have e0:=Ca (j:=0) (x':=⟨st',sq,rv,u,pc,m,a,cm,wt,tr⟩) (v:=.int .i64 st') h hx (by omega) rfl;have e1:=Ca (j:=1) (x':=⟨st',sq',rv,u,pc,m,a,cm,wt,tr⟩) (v:=.int .i64 sq') e0.1 e0.2 (by omega) rfl;have e2:=Ca (j:=2) (x':=⟨st',sq',rv',u,pc,m,a,cm,wt,tr⟩) (v:=rv') e1.1 e1.2 (by omega) rfl;have e3:=Ca (j:=3) (x':=⟨st',sq',rv',u',pc,m,a,cm,wt,tr⟩) (v:=.int .i64 u') e2.1 e2.2 (by omega) rfl;have e4:=Ca (j:=4) (x':=⟨st',sq',rv',u',pc',m,a,cm,wt,tr⟩) (v:=.int .i64 pc') e3.1 e3.2 (by omega) rfl;have e5:=Ca (j:=5) (x':=⟨st',sq',rv',u',pc',m',a,cm,wt,tr⟩) (v:=.string (str m')) e4.1 e4.2 (by omega) rfl;have e6:=Ca (j:=6) (x':=⟨st',sq',rv',u',pc',m',a',cm,wt,tr⟩) (v:=.int .i64 a') e5.1 e5.2 (by omega) rfl;have e7:=Ca (j:=7) (x':=⟨st',sq',rv',u',pc',m',a',cm',wt,tr⟩) (v:=.string (str cm')) e6.1 e6.2 (by omega) rfl;have e8:=Ca (j:=8) (x':=⟨st',sq',rv',u',pc',m',a',cm',wt',tr⟩) (v:=.int .i64 wt') e7.1 e7.2 (by omega) rfl;have e9:=Ca (j:=9) (x':=⟨st',sq',rv',u',pc',m',a',cm',wt',tr'⟩) (v:=.int .i64 tr') e8.1 e8.2 (by omega) rfl;simp only[List.set_set]at e9;exact⟨e9.1,(((((((((Am _).trans (Am _)).trans (Am _)).trans (Am _)).trans (Am _)).trans (Am _)).trans (Am _)).trans (Am _)).trans (Am _)).trans (Am _)⟩
abbrev Jj(st sq:Int):DK:=⟨st,sq,.slice none 0 0,0,0,[],0,[],0,0⟩
theorem OW(w:World)(b k:Nat)(st:Int)(xs:List DK)(x:DK)(hrv:∃a n c,x.rv=.slice a n c)(h:w.heap[b]?=some (.cells (tab DK.cells xs).toArray 139 (0,0)))(hx:xs[k]?=some x):
  Calls Tryz.prog 121 #[.pointer (some ⟨b,k*10,none⟩),.int .i64 st] w fun e w'=>e=.returned (.tuple #[])/\w'.heap[b]?=some (.cells (tab DK.cells (xs.set k (Jj st x.seq))).toArray 139 (0,0))/\Af (fun q=>q=b) w w':=by
 obtain⟨a0,a1,a2,a3,a4,a5,a6,a7,a8,a9⟩:=AQ h hx;obtain⟨ra,rn,rc,hrv⟩:=hrv;rw[hrv]at a2;have z0:=open_list (off:=k*10) h;have z1:=open_list (off:=k*10+1) h;have z2:=open_list (off:=k*10+2) h;have z3:=open_list (off:=k*10+3) h;have z4:=open_list (off:=k*10+4) h;have z5:=open_list (off:=k*10+5) h;have z6:=open_list (off:=k*10+6) h;have z7:=open_list (off:=k*10+7) h;have z8:=open_list (off:=k*10+8) h;have z9:=open_list (off:=k*10+9) h;have HH:=Ab h;have HX:=Ab hx;have hlt:=lt_of_block h;clear h hx hrv;go_enter Tryz.func121,Tryz.ntmps121;go_wp2;go_returns;have hp:=TB (Aa HH) (Aa HX) (Jj st x.seq);exact⟨rfl,hp⟩
theorem My(G:R.Wd)(i k:Nat)(l l':R.Ln):R.Al (R.Al G i k l) i k l'=R.Al G i k l':=by
 simp[R.Al,List.modify_modify_eq,Function.comp_def]
theorem Js{Q:Exit->Act->World->Prop}{l:Nat}{J:Act->World->Prop}{a:Act}{w:World}(h:Q .ret a w):Exit.jump l J Q .ret a w:=h
theorem Zd:(Tryz.prog.info? 143).map (fun i=>(i.zero,i.size,i.bytes))=some (some (.pointer none),1,8):=by kernel_rfl
def pa(o:Option Nat):Option Addr:=o.map fun b=>⟨b,0,none⟩
abbrev pc(o:Option Nat):Value:=.pointer (pa o)
def GB(f:Nat->Option Nat)(n:Nat):List Value:=((List.range n).filterMap f).map ptr
theorem JY(f:Nat->Option Nat)(n:Nat):GB f (n+1)=GB f n++(match f n with|none=>[]|some b=>[ptr b]):=by
 unfold GB;rw[List.range_succ,List.filterMap_append];cases h:f n<;>simp[h]
theorem XT(f:Nat->Option Nat)(n:Nat):(GB f n).length<=n:=by
 unfold GB;rw[List.length_map];have:=List.length_filterMap_le f (List.range n);simpa using this
structure FI(w:World)(f:Nat->Option Nat)(n:Nat)(O:Value)(wr:World):Prop where
 row:wr.ownsRow w.heap.size 143 1 O (GB f n).length (GB f n)
 below:Below w.heap.size w wr
theorem FI.none{w:World}{f:Nat->Option Nat}{n:Nat}{O:Value}{wr:World}(h:FI w f n O wr)(hf:f n=none):FI w f (n+1) O wr:=by
 have e:GB f (n+1)=GB f n:=by rw[JY,hf];simp
 refine⟨?_,h.below⟩;rw[e];exact h.row
theorem FI.alloc{w:World}{f:Nat->Option Nat}{n:Nat}{O:Value}{wr:World}(h:FI w f n O wr)(o:Obj):FI w f n O (wr.alloc o):=⟨h.row.alloc _,h.below.alloc h.below.size _⟩
theorem FI.some{w:World}{f:Nat->Option Nat}{n b:Nat}{O':Value}{wz:World}(hf:f n=some b)(hown:wz.ownsRow w.heap.size 143 1 O' ((GB f n).length+1) (GB f n++[ptr b]))(hb:Below w.heap.size w wz):FI w f (n+1) O' wz:=by
 have e:GB f (n+1)=GB f n++[ptr b]:=by rw[JY,hf]
 refine⟨?_,hb⟩;rw[e,List.length_append];exact hown
theorem one_cell(w:World)(t:TypeId)(v:Value)(j:Nat)(u:Value)(h:([v]:List Value)[j]?=Option.some u):(w.alloc (.cells #[v] t)).cell? ((⟨w.heap.size,0,none⟩:Addr).add j)=Option.some u:=by
 rw[Addr.add_lit,Nat.zero_add,World.cell?_alloc_new w _ _ j,<-List.getElem?_toArray]at *;exact h
theorem ab3(q:Nat->Option Addr)(k:Nat)(hk:k<3)(w:World):(Instr.index 162 (.agg #[.pointer (q 0),.pointer (q 1),.pointer (q 2),.pointer (q 3),.pointer (q 4),.pointer (q 5),.pointer (q 6),.pointer (q 7),.pointer (q 8)]) (.int .i64 (k:Int))).run Tryz.prog w=.ok (.agg #[.pointer (q (3*k)),.pointer (q (3*k+1)),.pointer (q (3*k+2))]) w:=by
 obtain rfl|rfl|rfl:k=0\/k=1\/k=2:=by omega
 all_goals rfl
theorem ab2(q:Nat->Option Addr)(k j:Nat)(hj:j<3)(w:World):(Instr.index 158 (.agg #[.pointer (q (3*k)),.pointer (q (3*k+1)),.pointer (q (3*k+2))]) (.int .i64 (j:Int))).run Tryz.prog w=.ok (.pointer (q (3*k+j))) w:=by
 obtain rfl|rfl|rfl:j=0\/j=1\/j=2:=by omega
 all_goals rfl
theorem ZC(w:World)(s:Nat)(f:Nat->Option Nat)(h:∀i,i<9->w.cell? ⟨s,10+i,none⟩=some (pc (f i))):
  Calls Tryz.prog 71 #[ptr s] w fun e w'=>∃O,e=.returned O/\w'.ownsRow w.heap.size 143 1 O (GB f 9).length (GB f 9)/\Below w.heap.size w w':=by
 obtain⟨u,hu⟩:∃u:Nat->Option Addr,∀i,u i=pa (f i):=⟨_,fun _=>rfl⟩;have HU:=Ab hu;have c0:=h 0 (by omega);have c1:=h 1 (by omega);have c2:=h 2 (by omega);have c3:=h 3 (by omega);have c4:=h 4 (by omega);have c5:=h 5 (by omega);have c6:=h 6 (by omega);have c7:=h 7 (by omega);have c8:=h 8 (by omega);simp only[pc,<-hu]at c0 c1 c2 c3 c4 c5 c6 c7 c8;have hl:=lt_of_cell c0;obtain⟨i0,hi,hz0,hz1,hz2⟩:=info_parts Zd;have H0:Hid (FI w f 0 (.slice none 0 0) w):=⟨World.ownsRow_nil _ _ _ _,Below.refl _ _⟩;clear h hu;go_enter Tryz.func71,Tryz.ntmps71;go_wp2;clear c0 c1 c2 c3 c4 c5 c6 c7 c8;go_loopw [3,13] (fun av iv wr=>∃k:Nat,k<=3/\iv=.int .i64 k/\FI w f (3*k) av wr) (fun _ iv _=>3-(intOf iv).toNat)
 case atStart=>exact⟨0,by omega,rfl,Aa H0⟩
 case round=>
  obtain⟨k,hk,rfl,hR⟩:=hrel;by_cases hlt:k<3
  ·have hix:=ab3 u k hlt;have HR:=Ab hR;clear hR;go_wp2;generalize decide ((k:Int)<3)=b14;go_loopw [3,17] (fun av jv wr'=>∃j:Nat,j<=3/\jv=.int .i64 j/\FI w f (3*k+j) av wr') (fun _ jv _=>3-(intOf jv).toNat)
   case atStart=>exact⟨0,by omega,rfl,(Aa HR).alloc _⟩
   case round=>
    obtain⟨j,hj,rfl,hR2⟩:=hrel;by_cases hjl:j<3
    ·obtain⟨oa,on,oc,hsh⟩:=Ar hR2.row;subst hsh;have HR2:=Ab hR2;clear hR2;have hjx:=ab2 u k j hjl;cases hf:f (3*k+j) with
     |none=>
      have e0:u (3*k+j)=none:=by rw[Aa HU,hf];rfl
      rw[e0]at hjx;have HN:=Ab ((Aa HR2).none hf);go_wp2;go_roundw
      case rel=>exact⟨j+1,by omega,by go_num,Aa HN⟩
      case measure=>simp[intOf];omega
     |some b=>
      have e0:u (3*k+j)=some ⟨b,0,none⟩:=by rw[Aa HU,hf];rfl
      rw[e0]at hjx;have hlen:=XT f (3*k+j);go_wp2_with (at_builtin;go_must (refine wpList_append_own_at _ rfl (.tmp 22) (.tmp 24) 141 rfl w.heap.size 143 i0 (.pointer none) 1 8 Tryz.underlying141 hi hz0 hz1 hz2 rfl (by decide) _ _ _ rfl (by exact(Aa HR2).row.alloc _) ⟨wr.heap.size,0,none⟩ 1 1 [ptr b] rfl rfl (by exact one_cell wr 143 (ptr b)) (by simp[Value.oneCell']) (by unfold maxLen;omega) (by omega) (by have:=(Aa HR2).below.size;simp;omega) ?_))
      intro v' wz hown hgrow _ _;obtain⟨va,vn,vc,hvs⟩:=Ar hown;subst hvs;have hbz:Below w.heap.size w wz:=((Aa HR2).below.alloc (Aa HR2).below.size _).grown hgrow (by have:=(Aa HR2).below.size;simp;omega) (fun k hk=>((World.ownsRow.lt (Aa HR2).row) k hk).1);have HN:Hid (FI w f (3*k+j+1) (.slice va vn vc) wz):=FI.some hf hown hbz;clear hown hgrow hbz HR2;go_wp2;go_roundw
      case rel=>exact⟨j+1,by omega,by go_num,Aa HN⟩
      case measure=>simp[intOf];omega
    ·obtain rfl:j=3:=by omega
     have HR3:=Ab hR2;clear hR2;go_wp2;go_roundw
     case rel=>exact⟨k+1,by omega,by go_num,by exact Aa HR3⟩
     case measure=>simp[intOf];omega
  ·obtain rfl:k=3:=by omega
   have HR3:=Ab hR;clear hR;go_wp2
   go_ret
   exact⟨_,rfl,(Aa HR3).row,(Aa HR3).below⟩
def qf(t:SP)(seen:List R.Sn)(i:Nat):Option Nat:=if ((seen[i]?).getD R.De).seq=0 then none else some (t.ql i)
theorem XG(t:SP)(seen:List R.Sn)(i:Nat):Bm t seen i=pc (qf t seen i):=by
 unfold Bm qf;split<;>rfl
section
variable {s n nm:Nat} {t:SP} {F:Aq} {c:R.Cf} {sv:List R.Sv} {Ai:List Int} {seen:List R.Sn} {jobs:List R.Jb} {w:World}
theorem Cp.cell(h:Cp s n nm t F c sv Ai seen jobs w)(j:Nat)(v:Value)(hv:(Cv n nm t c Ai seen)[j]?=some v):w.cell? ⟨s,j,none⟩=some v:=AY h.bs hv
theorem Cp.rem(h:Cp s n nm t F c sv Ai seen jobs w):Calls Tryz.prog 71 #[ptr s] w fun e w'=>∃O,e=.returned O/\w'.ownsRow w.heap.size 143 1 O (GB (qf t seen) 9).length (GB (qf t seen) 9)/\Below w.heap.size w w':=by
 refine ZC w s (qf t seen) (fun i hi=>?_);rw[<-XG];obtain rfl|rfl|rfl|rfl|rfl|rfl|rfl|rfl|rfl:i=0\/i=1\/i=2\/i=3\/i=4\/i=5\/i=6\/i=7\/i=8:=by omega
 all_goals exact h.cell _ _ rfl
end
theorem LW.aac{p:Pl}{F:Aq}{G:R.Wd}{w:World}(h:LW p F G w)(cl li ln sq u kd pa o:Int)(pl:Bool)(body:List UInt8)(hr:AJ ⟨kd,cl,li,ln,sq,u,pa,o,pl,body⟩):
  Calls Tryz.prog 192 #[ptr p.s,.agg #[.int .i64 cl,.int .i64 li,.int .i64 ln,.int .i64 sq,.int .i64 u],Ms kd 0 0 0 0 0 pa o pl (str body)] w fun e w'=>e=.returned (.tuple #[])/\∃F',LW p F' (R.AU G cl ⟨kd,cl,li,ln,sq,u,pa,o,pl,body⟩) w'/\Ay F F' w w':=by
 have ht:=h.Co;have s20:w.cell? ⟨p.s,20,none⟩=some (ptr p.n):=ht.cell 20 _ rfl;have hls:=lt_of_cell s20;obtain⟨Post,hPost⟩:∃Post:World->Prop,∀w'',Post w''↔∃F',LW p F' (R.AU G cl ⟨kd,cl,li,ln,sq,u,pa,o,pl,body⟩) w''/\Ay F F' w w'':=⟨_,fun _=>Iff.rfl⟩;suffices hq:Calls Tryz.prog 192 #[ptr p.s,.agg #[.int .i64 cl,.int .i64 li,.int .i64 ln,.int .i64 sq,.int .i64 u],Ms kd 0 0 0 0 0 pa o pl (str body)] w fun e w'=>e=.returned (.tuple #[])/\Post w' from hq.mono (fun e w' h=>⟨h.1,(hPost w').1 h.2⟩)
 have HS:Hid (∀w',Below w.heap.size w w'->Calls Tryz.prog 230 #[ptr p.n,.int .i64 cl,Ms kd cl li ln sq u pa o pl (str body)] w' fun e w''=>e=.returned (.tuple #[])/\Post w''):=fun w' hb=>by
  refine((h.below hb).send cl ⟨kd,cl,li,ln,sq,u,pa,o,pl,body⟩ hr).mono ?_;rintro e w'' ⟨rfl,F',q1,q2⟩;exact⟨rfl,(hPost w'').2 ⟨F',q1,(Ay.Aj F hb).trans q2⟩⟩
 clear hPost hr h ht;generalize str body=SB at *;obtain⟨BX,hBX⟩:∃BX,(w.alloc (.cells #[.int .i64 cl,.int .i64 li,.int .i64 ln,.int .i64 sq,.int .i64 u] 145)).alloc (.cells #[.int .i64 kd,.int .i64 cl,.int .i64 li,.int .i64 ln,.int .i64 sq,.int .i64 u,.int .i64 pa,.int .i64 o,.bool pl,.string SB] 41)=BX:=⟨_,rfl⟩;have HB:Hid (Below w.heap.size w BX):=by
  rw[<-hBX];exact((Below.refl w.heap.size w).alloc (Nat.le_refl _) _).alloc (by simp) _
 have hb0:BX.heap[w.heap.size]?=some (.cells #[.int .i64 cl,.int .i64 li,.int .i64 ln,.int .i64 sq,.int .i64 u] 145 (0,0)):=by
  rw[<-hBX];exact(Below.heap_alloc _ _ _ (by simp)).trans (heap_alloc_new w _)
 have hb1:BX.heap[w.heap.size+1]?=some (.cells #[.int .i64 kd,.int .i64 cl,.int .i64 li,.int .i64 ln,.int .i64 sq,.int .i64 u,.int .i64 pa,.int .i64 o,.bool pl,.string SB] 41 (0,0)):=by
  rw[<-hBX,<-World.size_alloc w];exact heap_alloc_new _ _
 have HC:=Ab ((Aa HS) BX.drew (Aa HB).drew);have d20:BX.cell? ⟨p.s,20,none⟩=some (ptr p.n):=((Aa HB).cell (p:=⟨p.s,20,none⟩) hls).trans s20;have c0:BX.cell? ⟨w.heap.size,0,none⟩=some (.int .i64 cl):=cell_of hb0 0 _ rfl;have e0:BX.cell? ⟨w.heap.size+1,0,none⟩=some (.int .i64 kd):=cell_of hb1 0 _ rfl;have e1:BX.cell? ⟨w.heap.size+1,1,none⟩=some (.int .i64 cl):=cell_of hb1 1 _ rfl;have e2:BX.cell? ⟨w.heap.size+1,2,none⟩=some (.int .i64 li):=cell_of hb1 2 _ rfl;have e3:BX.cell? ⟨w.heap.size+1,3,none⟩=some (.int .i64 ln):=cell_of hb1 3 _ rfl;have e4:BX.cell? ⟨w.heap.size+1,4,none⟩=some (.int .i64 sq):=cell_of hb1 4 _ rfl;have e5:BX.cell? ⟨w.heap.size+1,5,none⟩=some (.int .i64 u):=cell_of hb1 5 _ rfl;have e6:BX.cell? ⟨w.heap.size+1,6,none⟩=some (.int .i64 pa):=cell_of hb1 6 _ rfl;have e7:BX.cell? ⟨w.heap.size+1,7,none⟩=some (.int .i64 o):=cell_of hb1 7 _ rfl;have e8:BX.cell? ⟨w.heap.size+1,8,none⟩=some (.bool pl):=cell_of hb1 8 _ rfl;have e9:BX.cell? ⟨w.heap.size+1,9,none⟩=some (.string SB):=cell_of hb1 9 _ rfl;have HBX:=Ab hBX;clear hb0 hb1 hBX HS;go_enter Tryz.func192,Tryz.ntmps192;go_wp2;rw[Aa HBX];clear HBX s20;go_region_law (refine AR rfl 230 #[.tmp 24,.tmp 26,.tmp 27] #[80,3,41] rfl abL #[ptr p.n,.int .i64 cl,Ms kd cl li ln sq u pa o pl SB] rfl _ (Aa HC) ?_;rintro e w1 ⟨rfl,hpost⟩;have HP:=Ab hpost;clear hpost;refine⟨_,rfl,?_⟩)
 all_goals
  go_wp2;go_returns;exact⟨rfl,Aa HP⟩
end Go.Proofs.YtblomippkddgiaaGreatDoor
