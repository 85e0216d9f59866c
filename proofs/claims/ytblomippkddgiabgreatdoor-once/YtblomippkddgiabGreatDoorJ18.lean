import Derived.Test.YtblomippkddgiabGreatDoorJ17
set_option maxRecDepth 100000
set_option maxHeartbeats 4000000
namespace Go.Proofs.YtblomippkddgiabGreatDoor
open Go.RowKit
variable {F:Aq}{xs:List Value}{B b i k n size:Nat}{p:Pl}{c:R.Cl}{l:R.Ln}{G:R.Wd}{e:TypeId}{K:Value}{w:World}
theorem AV(h:w.ownsRow B e size K n xs){ys:Array Value}{t:TypeId}{f:Nat×Nat}(hb:w.heap[b]?=some (.cells ys t f))(aa:e≠t):K.ownBlock≠some b:=fun q=>by
 rcases h.2 with ⟨rfl,_⟩|⟨g,cap,ab,rfl,_,hg,_⟩
 ·cases q
 ·cases q;exact AZ hg hb aa rfl
theorem FU(h:w.ownsRow B e size K n xs){es:Array MapEntry}{cl:Nat}(hb:w.heap[b]?=some (.map es cl)):K.ownBlock≠some b:=fun q=>by
 rcases h.2 with ⟨rfl,_⟩|⟨g,cap,aa,rfl,_,hg,_⟩
 ·cases q
 ·cases q;exact Fv hg hb rfl
theorem LW.net{w':World}(h:LW p F G w){fl:List R.Fl}(hK:w.heap[p.n]?=some (.cells #[K] 110 (0,0)))(hr:w.ownsRow 0 166 3 K G.Ak.length (tab BB G.Ak))(hn:Ea w p.n K fl w')(hf:∀j,K.ownBlock=some j->F j)(ah:R.Wf {G with Ak:=fl}):
  ∃F',LW p F' {G with Ak:=fl} w'/\Ap F F' w w':=by
 obtain⟨hx,ad,ae,ag⟩:=h.BP;obtain⟨⟨K',k1,k2,k3⟩,hk⟩:=hn;have sz:=hk.size;have at':∀{b:Nat} {ys:Array Value} {t:TypeId} {f:Nat×Nat},w.heap[b]?=some (.cells ys t f)->t≠110->t≠166->w'.heap[b]?=some (.cells ys t f):=fun hb h1 h2=>hk.at hb (by
  rintro (e|e)
  ·exact AZ hb hK h1 e
  ·exact AV hr hb (fun q=>h2 q.symm) e)
 have aa:∀{α:Type} {k:TypeId} {b:Nat} {lit:α->Lit} {g:α->Option Int} {n:Nat},Mp w k b lit g n->Mp w' k b lit g n:=fun hm=>by
  obtain⟨es,q,hq⟩:=hm.block;refine hm.keep hk ?_;rintro (e|e)
  ·exact(Fv hK hq) e.symm
  ·exact FU hr hq e
 have ac:Avoid w F (fun k=>k=p.n\/K.ownBlock=some k):=Avoid.tags (fun b hb=>by
  rcases hb with rfl|hb
  ·exact Or.inl ⟨_,_,_,hK,by decide⟩
  ·rcases hr.2 with ⟨rfl,_⟩|⟨g,cap,ab,rfl,_,hg,_⟩
   ·cases hb
   ·cases hb;exact Or.inl ⟨_,_,_,hg,by decide⟩)
 refine⟨fun k=>F k\/K'.ownBlock=some k,⟨ah,h.Db,at' h.bx (by decide) (by decide),?_,⟨K',k1,k2,fun j hj=>Or.inr hj⟩,?_,aa h.names,fun i c hc=>at' (h.cl i c hc) (by decide) (by decide),fun i c hc=>?_,fun i c hc=>aa (h.bound i c hc),⟨Or.inl hx,Or.inl ad,Or.inl ae,Or.inl ag⟩,fun i hi=>?_,h.inj,fun k af=>?_⟩,?_⟩
 ·obtain⟨ab,h1,h2⟩:=h.XH;exact⟨ab,at' h1 (by decide) (by decide),h2⟩
 ·exact h.BN.keep hk ac (fun _ q=>Or.inl q)
 ·obtain⟨xs,h1,h2,h3⟩:=h.ln i c hc;exact⟨xs,at' h1 (by decide) (by decide),h2,h3.Eg hk ac.sv (fun _ q=>Or.inl q)⟩
 ·obtain⟨a1,a2,a3,a4⟩:=h.FG i hi;exact⟨Or.inl a1,Or.inl a2,Or.inl a3,a4⟩
 ·rcases af with q|q
  ·exact Nat.lt_of_lt_of_le (h.lt k q) sz
  ·exact(World.ownsRow.lt k2 k q).2
 ·refine⟨hk.mono (fun k _ q=>?_),fun k q=>?_⟩
  ·rcases q with rfl|q
   ·exact ad
   ·exact hf k q
  ·rcases q with q|q
   ·exact Or.inl q
   ·rcases k3 with e|⟨j,e,hj⟩
    ·exact Or.inl (hf k (e ▸ q))
    ·rw[e]at q;cases q;exact Or.inr hj
theorem AX(h:w.ownsRow B e size K n xs):∃a c,K=.slice a n c:=by
 rcases h.2 with ⟨rfl,rfl⟩|⟨g,cap,aa,rfl,_⟩
 ·exact⟨none,0,rfl⟩
 ·exact⟨_,_,rfl⟩
theorem LW.send(h:LW p F G w)(to:Int)(pk:Pk)(hr:AR pk):
  Calls Tryz.prog 245 #[ptr p.n,.int .i64 to,pv pk] w fun e w'=>e=.returned (.tuple #[])/\∃F',LW p F' (R.Bg G to pk) w'/\Ap F F' w w':=by
 obtain⟨K,hK,aa,hf⟩:=h.bn;have ad:=h.wf.E3;have ab:=h.wf.Bg (to:=to) hr;obtain⟨a,c,rfl⟩:=AX aa;unfold R.Bg at ab ⊢;by_cases hl:G.Ak.length<40
 ·rw[if_pos hl]at ab ⊢;refine(WN w p.n a c G.Ak to pk hK aa hl hr).mono ?_;rintro e w' ⟨rfl,hn⟩;exact⟨rfl,h.net hK aa hn hf ab⟩
 ·rw[if_neg hl];have ac:G.Ak.length=40:=by omega
  rw[ac]at hK;refine(WM w p.n a c to pk hK).mono ?_;rintro e w' ⟨rfl,hb⟩;exact⟨rfl,F,h.below hb,Ap.Al F hb⟩
theorem LW.Ak(h:LW p F G w):Calls Tryz.prog 31 #[ptr p.x] w fun e w'=>e=.returned (.int .i64 (G.Ak.length:Int))/\w'=w:=by
 obtain⟨K,hK,aa,_⟩:=h.bn;obtain⟨a,c,rfl⟩:=AX aa;have hx:=h.bx;have c0:w.cell? ⟨p.x,0,none⟩=some (ptr p.n):=cell_of hx 0 _ rfl;have c1:w.cell? ⟨p.n,0,none⟩=some (.slice a G.Ak.length c):=cell_of hK 0 _ rfl;clear hx hK aa h;generalize G.Ak.length=m at *;go_enter Tryz.func31,Tryz.ntmps31;go_wp2_with (first|(go_at_call 57;go_in))
 go_returns;exact⟨rfl,rfl⟩
theorem Rl(s:List UInt8):R.Ag s=((s.length:Int)+7) / 8:=by
 unfold R.Ag;omega
theorem CS(s:List UInt8)(w:World)(hs:s.length<=1000):Calls Tryz.prog 203 #[.string (str s)] w fun e w'=>e=.returned (.int .i64 (R.Ag s))/\w'=w:=by
 have hz:(str s).size=s.length:=Ax s;rw[Rl];generalize str s=S at *;generalize s.length=n at *;have e1:IntKind.i64.wrap ((n:Int)+8)=(n:Int)+8:=by rw[IntKind.wrap_i64];omega
 have e2:IntKind.i64.wrap ((n:Int)+8-1)=(n:Int)+7:=by rw[IntKind.wrap_i64];omega
 have e3:IntKind.i64.wrap (((n:Int)+7).tdiv 8)=((n:Int)+7) / 8:=by
  rw[Int.tdiv_eq_ediv_of_nonneg (by omega),IntKind.wrap_i64];omega
 go_enter Tryz.func203,Tryz.ntmps203;go_wp2;go_returns;exact⟨rfl,rfl⟩
theorem Ox(s:List UInt8)(k:Nat)(w:World)(hs:s.length<=1000)(hk:8*k<s.length):Calls Tryz.prog 205 #[.string (str s),.int .i64 (k:Int)] w fun e w'=>e=.returned (.string (str (R.Be s (k:Int))))/\w'=w:=by
 have hz:(str s).size=s.length:=Ax s;have HP:Hid ((str s).extract (k*8) (min (k*8+8) s.length)=str (R.Be s (k:Int))):=by
  show _=_;rw[CP];congr 1;unfold R.Be;rw[Int.toNat_natCast,Nat.mul_comm 8 k];apply List.ext_getElem?;intro i;simp only[List.getElem?_take,List.getElem?_drop];by_cases h1:i<8
  ·rw[if_pos h1];by_cases h2:i<min (k*8+8) s.length-k*8
   ·rw[if_pos h2]
   ·rw[if_neg h2,List.getElem?_eq_none];omega
  ·rw[if_neg h1,if_neg];omega
 generalize str (R.Be s (k:Int))=T at *;generalize str s=S at *;generalize s.length=n at *;have e1:IntKind.i64.wrap ((k:Int)*8)=((k*8:Nat):Int):=by rw[IntKind.wrap_i64];omega
 have e2:IntKind.i64.wrap (((k*8:Nat):Int)+8)=((k*8+8:Nat):Int):=by rw[IntKind.wrap_i64];omega
 go_enter Tryz.func205,Tryz.ntmps205;go_wp2
 ·go_returns;refine⟨?_,rfl⟩;have:=Aa HP;rw[Nat.min_eq_right (by omega)]at this;rw[<-this];rfl
 ·go_returns;refine⟨?_,rfl⟩;have:=Aa HP;rw[Nat.min_eq_left (by omega)]at this;rw[<-this];show Ending.returned (Value.string (S.extract (k*8) ((k:Int)*8+8).toNat))=_;rw[show ((k:Int)*8+8).toNat=k*8+8 by omega]
structure ab0(w:World)(b k:Nat)(x:CU):Prop where
 a0:w.cell? ⟨b,k*10,none⟩=some (.int .i64 x.state)
 a1:w.cell? ⟨b,k*10+1,none⟩=some (.int .i64 x.seq)
 a2:w.cell? ⟨b,k*10+2,none⟩=some x.rv
 a3:w.cell? ⟨b,k*10+3,none⟩=some (.int .i64 x.uid)
 a4:w.cell? ⟨b,k*10+4,none⟩=some (.int .i64 x.proc)
 a5:w.cell? ⟨b,k*10+5,none⟩=some (.string (str x.msg))
 a6:w.cell? ⟨b,k*10+6,none⟩=some (.int .i64 x.Ao)
 a7:w.cell? ⟨b,k*10+7,none⟩=some (.string (str x.came))
 a8:w.cell? ⟨b,k*10+8,none⟩=some (.int .i64 x.wait)
 a9:w.cell? ⟨b,k*10+9,none⟩=some (.int .i64 x.tries)
theorem Yu{xs:List CU}{x:CU}(h:w.heap[b]?=some (.cells (tab CU.cells xs).toArray 129 (0,0)))(hx:xs[k]?=some x):ab0 w b k x:=by
 have q:∀j v,j<10->x.cells[j]?=some v->w.cell? ⟨b,k*10+j,none⟩=some v:=fun j v hj hv=>AP h (by rw[E7 CU.len xs k j x hx hj];exact hv)
 exact⟨q 0 _ (by omega) rfl,q 1 _ (by omega) rfl,q 2 _ (by omega) rfl,q 3 _ (by omega) rfl,q 4 _ (by omega) rfl,q 5 _ (by omega) rfl,q 6 _ (by omega) rfl,q 7 _ (by omega) rfl,q 8 _ (by omega) rfl,q 9 _ (by omega) rfl⟩
theorem EO{V:Value}{l:List R.It}(h:BF w F V l):∃a n c,V=.slice a n c:=by
 rcases h with ⟨_,h⟩|⟨b,off,cap,aa,_,h,_⟩
 ·exact⟨_,_,_,h⟩
 ·exact⟨_,_,_,h⟩
structure aem(w:World)(p:Pl)(G:R.Wd)(i:Nat)(c:R.Cl):Prop where
 a0:w.cell? ⟨p.cb i,0,none⟩=some (.int .i64 (i:Int))
 a1:w.cell? ⟨p.cb i,1,none⟩=some (.int .i64 c.Ae)
 a2:w.cell? ⟨p.cb i,2,none⟩=some (.map (some (p.bm i)))
 a3:w.cell? ⟨p.cb i,3,none⟩=some (.slice (some ⟨p.lb i,0,none⟩) c.lines.length c.lines.length)
 a4:w.cell? ⟨p.cb i,4,none⟩=some (.int .i64 G.c.Ay)
 a5:w.cell? ⟨p.cb i,5,none⟩=some (.int .i64 G.c.tries)
 a6:w.cell? ⟨p.cb i,6,none⟩=some (ptr p.n)
theorem Ic(h:LW p F G w)(hc:G.Ad[i]?=some c):aem w p G i c:=by
 have hx:=h.cl i c hc;exact⟨cell_of hx 0 _ rfl,cell_of hx 1 _ rfl,cell_of hx 2 _ rfl,cell_of hx 3 _ rfl,cell_of hx 4 _ rfl,cell_of hx 5 _ rfl,cell_of hx 6 _ rfl⟩
theorem LW.line(h:LW p F G w)(hc:G.Ad[i]?=some c)(hl:c.lines[k]?=some l):∃xs x,w.heap[p.lb i]?=some (.cells (tab CU.cells xs).toArray 129 (0,0))/\Hw c.lines xs/\xs[k]?=some x/\N8 l x/\ab0 w (p.lb i) k x/\EJ w F c.lines xs/\BF w F x.rv l.result:=by
 obtain⟨xs,h1,h2,h5⟩:=h.ln i c hc;obtain⟨x,h3,h4⟩:=h2.get hl;exact⟨xs,x,h1,h2,h3,h4,Yu h1 h3,h5,h5 k l x hl h3⟩
theorem adv:∀args w,(callFunc 245 args).run Tryz.prog w=.ok (.enter 245 args) w:=fun _ _=>rfl
theorem LW.ZE(h:LW p F G w)(hc:G.Ad[i]?=some c)(hl:c.lines[k]?=some l)(h1:l.state=1)(kd pa o:Int)(pl:Bool)(body:List UInt8)(hr:AR ⟨kd,i,c.Ae,k,l.seq,l.uid,pa,o,pl,body⟩):
  Calls Tryz.prog 204 #[ptr (p.cb i),.int .i64 (k:Int),NL kd 0 0 0 0 0 pa o pl (str body)] w fun e w'=>e=.returned (.tuple #[])/\∃F',LW p F' (R.Bg G (-1) ⟨kd,i,c.Ae,k,l.seq,l.uid,pa,o,pl,body⟩) w'/\Ap F F' w w':=by
 obtain⟨xs,x,hL,hR,hx,ag,al,_,ak⟩:=h.line hc hl;obtain⟨ra,rn,rc,am⟩:=EO ak;have aj:=Ic h hc;have hk:=(List.getElem?_eq_some_iff.1 hl).1;have an:=lt_of_cell aj.a0;have ao:=lt_of_cell al.a0;obtain⟨ac,aa⟩:∃ac:World->Prop,∀ae,ac ae↔∃F',LW p F' (R.Bg G (-1) ⟨kd,i,c.Ae,k,l.seq,l.uid,pa,o,pl,body⟩) ae/\Ap F F' w ae:=⟨_,fun _=>Iff.rfl⟩;suffices hq:Calls Tryz.prog 204 #[ptr (p.cb i),.int .i64 (k:Int),NL kd 0 0 0 0 0 pa o pl (str body)] w fun e w'=>e=.returned (.tuple #[])/\ac w' from hq.mono (fun e w' h=>⟨h.1,(aa w').1 h.2⟩)
 have HS:Hid (∀w',LW p F G w'->Below w.heap.size w w'->Calls Tryz.prog 245 #[ptr p.n,.int .i64 (-1),NL kd i c.Ae k l.seq l.uid pa o pl (str body)] w' fun e ae=>e=.returned (.tuple #[])/\ac ae):=fun w' h' hb=>by
  refine(h'.send (-1) ⟨kd,i,c.Ae,k,l.seq,l.uid,pa,o,pl,body⟩ hr).mono ?_;rintro e ae ⟨rfl,F',q1,q2⟩;exact⟨rfl,(aa ae).2 ⟨F',q1,(Ap.Al F hb).trans q2⟩⟩
 clear aa;have ah:Hid (∀w',Below w.heap.size w w'->LW p F G w'):=fun w' hb=>h.below hb
 have eu:x.uid=l.uid:=(ag.one h1).1;have eq:x.seq=l.seq:=ag.seq;obtain⟨a0,a1,a2,a3,a4,a5,a6,a7,a8,a9⟩:=al;rw[am]at a2;obtain⟨b0,b1,b2,b3,b4,b5,b6⟩:=aj;rw[eu]at a3;rw[eq]at a1;generalize str body=SB at *;generalize c.Ae=li at *;generalize l.seq=sq at *;generalize l.uid=u at *;generalize c.lines.length=nl at *;generalize p.cb i=cb at *;generalize p.lb i=lb at *;clear hr h hL hR hx ag hc hl h1 eu eq ak am;obtain⟨BX,af⟩:∃BX,(w.alloc (.cells #[.int .i64 kd,.int .i64 (i:Int),.int .i64 li,.int .i64 (k:Int),.int .i64 sq,.int .i64 u,.int .i64 pa,.int .i64 o,.bool pl,.string SB] 82)).alloc (.cells #[.int .i64 x.state,.int .i64 sq,.slice ra rn rc,.int .i64 u,.int .i64 x.proc,.string (str x.msg),.int .i64 x.Ao,.string (str x.came),.int .i64 x.wait,.int .i64 x.tries] 129)=BX:=⟨_,rfl⟩;have HB:Hid (Below w.heap.size w BX):=by
  rw[<-af];exact((Below.refl w.heap.size w).alloc (Nat.le_refl _) _).alloc (by simp) _
 have ab:BX.heap[w.heap.size]?=some (.cells #[.int .i64 kd,.int .i64 (i:Int),.int .i64 li,.int .i64 (k:Int),.int .i64 sq,.int .i64 u,.int .i64 pa,.int .i64 o,.bool pl,.string SB] 82 (0,0)):=by
  rw[<-af];exact(Below.heap_alloc _ _ _ (by simp)).trans (heap_alloc_new w _)
 have HC:=Ac ((Aa HS) BX.drew ((Aa ah) _ (Aa HB).drew) (Aa HB).drew);have d6:BX.cell? ⟨cb,6,none⟩=some (ptr p.n):=((Aa HB).cell (p:=⟨cb,6,none⟩) an).trans b6;have c0:BX.cell? ⟨w.heap.size,0,none⟩=some (.int .i64 kd):=cell_of ab 0 _ rfl;have c1:BX.cell? ⟨w.heap.size,1,none⟩=some (.int .i64 (i:Int)):=cell_of ab 1 _ rfl;have c2:BX.cell? ⟨w.heap.size,2,none⟩=some (.int .i64 li):=cell_of ab 2 _ rfl;have c3:BX.cell? ⟨w.heap.size,3,none⟩=some (.int .i64 (k:Int)):=cell_of ab 3 _ rfl;have c4:BX.cell? ⟨w.heap.size,4,none⟩=some (.int .i64 sq):=cell_of ab 4 _ rfl;have c5:BX.cell? ⟨w.heap.size,5,none⟩=some (.int .i64 u):=cell_of ab 5 _ rfl;have c6:BX.cell? ⟨w.heap.size,6,none⟩=some (.int .i64 pa):=cell_of ab 6 _ rfl;have c7:BX.cell? ⟨w.heap.size,7,none⟩=some (.int .i64 o):=cell_of ab 7 _ rfl;have c8:BX.cell? ⟨w.heap.size,8,none⟩=some (.bool pl):=cell_of ab 8 _ rfl;have c9:BX.cell? ⟨w.heap.size,9,none⟩=some (.string SB):=cell_of ab 9 _ rfl;have ai:=Ac af;clear ab af HS ah;go_enter Tryz.func204,Tryz.ntmps204;go_wp2;rw[Aa ai];clear ai a0 a1 a2 a3 a4 a5 a6 a7 a8 a9 b0 b1 b2 b3 b4 b5 b6;go_region_law (refine Av rfl 245 #[.tmp 36,.const (.int .i64 (-1)),.tmp 37] #[67,3,82] rfl adv #[ptr p.n,.int .i64 (-1),NL kd i li k sq u pa o pl SB] rfl _ (Aa HC) ?_;rintro e w1 ⟨rfl,ad⟩;have HP:=Ac ad;clear ad;refine⟨_,rfl,?_⟩)
 all_goals
  go_wp2;go_returns;exact⟨rfl,Aa HP⟩
theorem Vw(hc:G.Ad[i]?=some c)(aa:Bool):R.Dn G i k l aa=⟨1,i,c.Ae,k,l.seq,l.uid,l.Ao,R.Ag l.message,aa || decide (l.Ao<R.Ag l.message-1),R.Be l.message l.Ao⟩:=by
 unfold R.Dn;rw[R.Co hc]
theorem Nh(hc:G.Ad[i]?=some c):R.Dw G i k l=⟨3,i,c.Ae,k,l.seq,l.uid,0,1,true,[]⟩:=by
 unfold R.Dw;rw[R.Co hc]
theorem aeM:∀args w,(callFunc 203 args).run Tryz.prog w=.ok (.enter 203 args) w:=fun _ _=>rfl
theorem LW.piece(h:LW p F G w)(hc:G.Ad[i]?=some c)(hl:c.lines[k]?=some l)(h1:l.state=1)(ao:l.Ao<R.Ag l.message)(aa:Bool):
  Calls Tryz.prog 150 #[ptr (p.cb i),.int .i64 (k:Int),.bool aa] w fun e w'=>e=.returned (.tuple #[])/\∃F',LW p F' (R.AA G i k aa) w'/\Ap F F' w w':=by
 obtain⟨xs,x,hL,hR,hx,aB,ay,_,ax⟩:=h.line hc hl;obtain⟨ra,rn,rc,aA⟩:=EO ax;have aw:=Ic h hc;have hk:=(List.getElem?_eq_some_iff.1 hl).1;have aI:=lt_of_cell aw.a0;have aJ:=lt_of_cell ay.a0;have an:=R.Mw h.wf hc hl h1 ao aa;obtain⟨z1,z2,aq,aF,z3⟩:=(((h.wf.cl i c hc).line k l hl)).one h1;rw[R.Je (R.CR hc hl)];rw[Vw hc]at an ⊢;obtain⟨a,av⟩:∃a:Nat,l.Ao=(a:Int):=⟨l.Ao.toNat,by omega⟩;obtain⟨z4,em,ea,z5⟩:=aB.one h1;have az:8*a<l.message.length:=by have:=R.Gg.2 ao;omega
 rw[av]at an ea ao ⊢;obtain⟨ad,ac⟩:∃ad:World->Prop,∀ai,ad ai↔∃F',LW p F' (R.Bg G (-1) ⟨1,i,c.Ae,k,l.seq,l.uid,(a:Int),R.Ag l.message,aa || decide ((a:Int)<R.Ag l.message-1),R.Be l.message (a:Int)⟩) ai/\Ap F F' w ai:=⟨_,fun _=>Iff.rfl⟩;suffices hq:Calls Tryz.prog 150 #[ptr (p.cb i),.int .i64 (k:Int),.bool aa] w fun e w'=>e=.returned (.tuple #[])/\ad w' from hq.mono (fun e w' h=>⟨h.1,(ac w').1 h.2⟩)
 have HS:Hid (∀w',Below w.heap.size w w'->Calls Tryz.prog 204 #[ptr (p.cb i),.int .i64 (k:Int),NL 1 0 0 0 0 0 (a:Int) (R.Ag l.message) (aa || decide ((a:Int)<R.Ag l.message-1)) (str (R.Be l.message (a:Int)))] w' fun e ai=>e=.returned (.tuple #[])/\ad ai):=fun w' hb=>by
  refine((h.below hb).ZE hc hl h1 1 (a:Int) (R.Ag l.message) _ _ an).mono ?_;rintro e ai ⟨rfl,F',q1,q2⟩;exact⟨rfl,(ac ai).2 ⟨F',q1,(Ap.Al F hb).trans q2⟩⟩
 have HP:=Ac (fun w=>CS l.message w (by omega));have HC:=Ac (fun w=>Ox l.message a w (by omega) az);clear ac an;obtain⟨a0,a1,a2,a3,a4,a5,a6,a7,a8,a9⟩:=ay;obtain⟨b0,b1,b2,b3,b4,b5,b6⟩:=aw;rw[aA]at a2;rw[em]at a5;rw[ea]at a6;generalize str (R.Be l.message (a:Int))=SB at *;generalize str l.message=SM at *;have aK:1<=R.Ag l.message/\R.Ag l.message<=9:=⟨R.De aq.1,R.El aq.2⟩;generalize R.Ag l.message=P at *;generalize c.lines.length=nl at *;generalize p.cb i=cb at *;generalize p.lb i=lb at *;obtain⟨aD,aC,aL,al,af,aH,aE,ae,ah,ag⟩:=x;simp only at a0 a1 a3 a4 a7 a8 a9;have aG:IntKind.i64.wrap (P-1)=P-1:=by rw[IntKind.wrap_i64];omega
 clear h hL hR hx aB hc hl h1 em ea av aF aq az z1 z2 z3 z4 z5 ax aA;obtain⟨LX,am⟩:∃LX,w.alloc (.cells #[.int .i64 aD,.int .i64 aC,.slice ra rn rc,.int .i64 al,.int .i64 af,.string SM,.int .i64 (a:Int),.string (str ae),.int .i64 ah,.int .i64 ag] 129)=LX:=⟨_,rfl⟩;have HB:Hid (Below w.heap.size w LX):=by
  rw[<-am];exact(Below.refl w.heap.size w).alloc (Nat.le_refl _) _
 have ap:LX.heap[w.heap.size]?=some (.cells #[.int .i64 aD,.int .i64 aC,.slice ra rn rc,.int .i64 al,.int .i64 af,.string SM,.int .i64 (a:Int),.string (str ae),.int .i64 ah,.int .i64 ag] 129 (0,0)):=by
  rw[<-am];exact heap_alloc_new w _
 have c4:LX.cell? ⟨w.heap.size,5,none⟩=some (.string SM):=cell_of ap 5 _ rfl;have c5:LX.cell? ⟨w.heap.size,6,none⟩=some (.int .i64 (a:Int)):=cell_of ap 6 _ rfl;have au:=Ac am;clear am ap;by_cases ab:(a:Int)=P-1
 ·have e1:decide ((a:Int)<P-1)=false:=by simp;omega
  rw[e1]at HS;have e2:(((a:Int))==P-1)=true:=by simpa using ab
  clear ab e1;cases aa;all_goals
   go_enter Tryz.func150,Tryz.ntmps150;go_wp2_with fail
   rw[Aa au];go_region_held3 (fun w'=>w'.cell? ⟨w.heap.size,5,none⟩=some (.string SM)/\w'.cell? ⟨w.heap.size,6,none⟩=some (.int .i64 (a:Int))) (go_keep) ((go_at_call 203;refine((Aa HP) _).mono ?_;rintro e w1 ⟨rfl,aj⟩;rw[aj];clear aj))
   go_wp2_with (first|(go_at_call 205;refine((Aa HC) _).mono ?_;rintro e w2 ⟨rfl,ak⟩;rw[ak];clear ak)|(go_at_call 204;refine((Aa HS) _ (Aa HB).drew).mono ?_;rintro e w3 ⟨rfl,ar⟩))
   go_returns;exact⟨rfl,ar⟩
 ·have e1:decide ((a:Int)<P-1)=true:=by simp;omega
  rw[e1]at HS;have e2:(((a:Int))==P-1)=false:=by simpa using ab
  clear ab e1;cases aa;all_goals
   go_enter Tryz.func150,Tryz.ntmps150;go_wp2_with fail
   rw[Aa au];go_region_held3 (fun w'=>w'.cell? ⟨w.heap.size,5,none⟩=some (.string SM)/\w'.cell? ⟨w.heap.size,6,none⟩=some (.int .i64 (a:Int))) (go_keep) ((go_at_call 203;refine((Aa HP) _).mono ?_;rintro e w1 ⟨rfl,aj⟩;rw[aj];clear aj))
   go_wp2_with (first|(go_at_call 205;refine((Aa HC) _).mono ?_;rintro e w2 ⟨rfl,ak⟩;rw[ak];clear ak)|(go_at_call 204;refine((Aa HS) _ (Aa HB).drew).mono ?_;rintro e w3 ⟨rfl,ar⟩))
   go_returns;exact⟨rfl,ar⟩
end Go.Proofs.YtblomippkddgiabGreatDoor
