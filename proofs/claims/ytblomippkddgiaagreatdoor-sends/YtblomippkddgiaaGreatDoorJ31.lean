import Derived.Test.YtblomippkddgiaaGreatDoorJ30
set_option maxRecDepth 100000
set_option maxHeartbeats 1000000
namespace Go.Proofs.YtblomippkddgiaaGreatDoor
open Go.RowKit
theorem OO(w:World)(x:Nat)(a:Option Addr)(cc:Nat)(to:Int)(pk:Pk)(x8:w.cell? ⟨x,8,none⟩=some (.slice a 40 cc)):Calls Tryz.prog 167 #[Av x,.int .i64 to,pv pk] w fun e w'=>e=.returned (.tuple #[])/\Below w.heap.size w w':=by
 have hl:=lt_of_cell x8;go_enter Tryz.func167,Tryz.ntmps167;go_wp2;go_returns;exact⟨rfl,(Below.refl _ _).alloc (Nat.le_refl _) _⟩
theorem RW.send{x:Nat}{v:RV}{F:Ag}{G:R.Wd}{w:World}(h:RW x v F G w)(to:Int)(pk:Pk)(hr:Bq pk):Calls Tryz.prog 167 #[Av x,.int .i64 to,pv pk] w fun e w'=>e=.returned (.tuple #[])/\∃v' F',RW x v' F' (R.BM G to pk) w'/\Ah F F' w w':=by
 have hfl:=h.wf.EC;have hwf:=h.wf.BM (to:=to) hr;unfold R.BM at hwf ⊢;by_cases hl:G.Af.length<40
 ·rw[if_pos hl]at hwf ⊢;refine(OP w x G.c v G.Af to pk h.bx h.EC hl hr).mono ?_;rintro e w' ⟨rfl,hp⟩;exact⟨rfl,h.Ye hwf hp⟩
 ·rw[if_neg hl];obtain⟨a,cc,hK⟩:=AR h.EC;have e40:G.Af.length=40:=by omega
  rw[e40]at hK;refine(OO w x a cc to pk (cell_of h.bx 8 _ (by rw[<-hK];rfl))).mono ?_;rintro e w' ⟨rfl,hb⟩;exact⟨rfl,v,F,h.below hb,Ah.Aq F hb⟩
theorem Kl{α:Type}{l:List α}{i:Nat}{y:α}(h:l[i]?=some y):l.set i y=l:=by
 obtain⟨hi,rfl⟩:=List.getElem?_eq_some_iff.1 h;exact List.set_getElem_self hi
theorem Ei{α β:Type}{f:α->β}{l:List α}{m:List β}(h:l.map f=m){i:Nat}{y:β}(hy:m[i]?=some y):∃z,l[i]?=some z/\f z=y:=by
 subst h;rw[List.getElem?_map]at hy;cases hz:l[i]? with
 |none=>rw[hz]at hy;cases hy
 |some z=>rw[hz]at hy;exact⟨z,rfl,Option.some.inj hy⟩
structure VP(x:Nat)(v:RV)(G:R.Wd)(w:World)(i:Nat)(c:R.Cl)(g cap:Nat)(z:R.Cl×CE)(zl:List (R.Ln×Value)):Prop where
 hC:v.C=.slice (some ⟨g,0,none⟩) G.Ad.length cap
 hz:v.zc[i]?=some z
 hc:z.1=c
 hzl:zl.map (·.1)=c.lines
 lt:g<w.heap.size
 c0:w.cell? ⟨g,i*3,none⟩=some (.int .i64 c.Ax)
 c1:w.cell? ⟨g,i*3+1,none⟩=some z.2.bv
 c2:w.cell? ⟨g,i*3+2,none⟩=some (.slice (some ⟨z.2.lb,0,none⟩) c.lines.length c.lines.length)
 x9:w.cell? ⟨x,9,none⟩=some (.slice (some ⟨g,0,none⟩) G.Ad.length cap)
 lb:w.heap[z.2.lb]?=some (.cells (tab K4 zl).toArray 259 (0,0))
 rs:∀y∈zl,Rs y.2 y.1.result
theorem RW.at{x:Nat}{v:RV}{F:Ag}{G:R.Wd}{w:World}(h:RW x v F G w){i:Nat}{c:R.Cl}(hc:G.Ad[i]?=some c):∃g cap z zl,VP x v G w i c g cap z zl:=by
 obtain⟨z,hz,hzc⟩:=Ei h.zc hc;have hlen:v.zc.length=G.Ad.length:=by rw[<-h.zc,List.length_map]
 obtain⟨g,cap,hC,hlt,hcell,_⟩:=DU Gw (by omega) h.cl hz;obtain⟨zl,l1,l2,l3⟩:=h.ln i z hz;rw[hlen]at hC;have hzc':z.1=c:=hzc;refine⟨g,cap,z,zl,⟨hC,hz,hzc',by rw[l1,hzc'],hlt,?_,?_,?_,?_,l2,l3⟩⟩
 ·have:=hcell 0 (.int .i64 z.1.Ax) (by omega) rfl;rw[hzc']at this;exact this
 ·exact hcell 1 z.2.bv (by omega) rfl
 ·have:=hcell 2 (.slice (some ⟨z.2.lb,0,none⟩) z.1.lines.length z.1.lines.length) (by omega) rfl;rw[hzc']at this;exact this
 ·exact cell_of h.bx 9 _ (by rw[<-hC];rfl)
theorem VP.line{x:Nat}{v:RV}{G:R.Wd}{w:World}{i:Nat}{c:R.Cl}{g cap:Nat}{z:R.Cl×CE}{zl:List (R.Ln×Value)}(h:VP x v G w i c g cap z zl){k:Nat}{l:R.Ln}(hl:c.lines[k]?=some l):zl[k]?=some (l,.slice none 0 0)/\l.result=[]/\∀j u,j<11->(K4 (l,.slice none 0 0))[j]?=some u->w.cell? ⟨z.2.lb,k*11+j,none⟩=some u:=by
 obtain⟨y,hy,hyl⟩:=Ei h.hzl hl;have hr:=h.rs y (List.mem_of_getElem? hy);have hyy:y=(l,.slice none 0 0):=by
  obtain⟨y1,y2⟩:=y;simp only at hyl;subst hyl;exact congrArg (Prod.mk y1) hr.2
 rw[hyy]at hy hr;refine⟨hy,hr.1,fun j u hj hu=>?_⟩;have:=CW P9 zl k j _ hy hj;rw[hu]at this;exact Bi h.lb this
theorem RW.GG{x:Nat}{v:RV}{F:Ag}{G:R.Wd}{w w':World}(h:RW x v F G w){i k:Nat}{c:R.Cl}{g cap:Nat}{z:R.Cl×CE}{zl:List (R.Ln×Value)}(hc:G.Ad[i]?=some c)(ha:VP x v G w i c g cap z zl){l':R.Ln}(hl':R.Nc l')(hr:l'.result=[])(hk:Ae (fun b=>b=z.2.lb) w w')(hL:w'.heap[z.2.lb]?=some (.cells (tab K4 (zl.set k (l',.slice none 0 0))).toArray 259 (0,0))):∃v' F',RW x v' F' (R.Ar G i k l') w'/\Ah F F' w w':=by
 obtain⟨f1,f2,f3⟩:=h.A4;have hi:=(List.getElem?_eq_some_iff.1 hc).1;have hb:=ha.lb;have nb:∀{b:Nat} {ys:Array Value} {t:TypeId},w.heap[b]?=some (.cells ys t (0,0))->t≠259->¬b=z.2.lb:=fun hbb h1 e=>by
  subst e;exact AO hbb hb h1 rfl
 have nr:∀{n size:Nat} {e:TypeId} {M:Value} {xs:List Value},w.ownsRow 0 e size M n xs->e≠259->∀j,M.ownBlock=some j->¬j=z.2.lb:=fun hr h1 j hj=>by
  obtain⟨cur,hcc⟩:=C4 hr hj;exact nb hcc h1
 have hz:=ha.hz;have hzi:=(List.getElem?_eq_some_iff.1 hz).1;have hcl:∀(j:Nat) (y:R.Cl×CE),(v.zc.set i ({c with lines:=c.lines.set k l'},z.2))[j]?=some y->∃y0,v.zc[j]?=some y0/\y.2=y0.2/\y.1.bound=y0.1.bound/\(i≠j->y=y0)/\(i=j->y=({c with lines:=c.lines.set k l'},z.2)/\y0=z):=fun j y hy=>by
  rw[List.getElem?_set]at hy;by_cases hij:i=j
  ·subst hij;rw[if_pos rfl,if_pos hzi]at hy;cases hy;exact⟨z,hz,rfl,by rw[ha.hc],fun q=>absurd rfl q,fun _=>⟨rfl,rfl⟩⟩
  ·rw[if_neg hij]at hy;exact⟨y,hy,rfl,rfl,fun _=>rfl,fun q=>absurd q hij⟩
 have hC:tab Lx (v.zc.set i ({c with lines:=c.lines.set k l'},z.2))=tab Lx v.zc:=by
  have e:Lx ({c with lines:=c.lines.set k l'},z.2)=(Lx z).set 0 (.int .i64 c.Ax):=by
   simp[Lx,<-ha.hc]
  rw[<-Dy Gw v.zc i 0 z _ (.int .i64 c.Ax) hz (by omega) e];have h0:=CW Gw v.zc i 0 z hz (by omega);rw[<-ha.hc];exact Kl h0
 refine⟨{v with zc:=v.zc.set i ({c with lines:=c.lines.set k l'},z.2)},F,⟨h.wf.Ar hl',h.CF,hk.at h.bx (nb h.bx (by decide)),hk.row h.names (nr h.names (by decide)),hk.row h.stands (nr h.stands (by decide)),h.zs,hk.row h.C5 (nr h.C5 (by decide)),h.F7,hk.row h.EC (nr h.EC (by decide)),?_,?_,fun j y hy=>?_,fun j y hy=>?_,hk.at h.Ao (nb h.Ao (by decide)),hk.at h.seen (nb h.seen (by decide)),h.A4,h.rows,fun j y hy=>?_,h.sL,fun a b y y' hy hy' hab=>?_,fun k hf=>Nat.lt_of_lt_of_le (h.lt k hf) hk.size⟩,⟨hk.mono (fun b _ e=>by rw[e];exact(h.Bw i z hz).1),fun _ hf=>Or.inl hf⟩⟩
 ·have:(R.Ar G i k l').Ad=G.Ad.set i {c with lines:=c.lines.set k l'}:=by
   apply List.ext_getElem?;intro j;rw[R.BK,List.getElem?_set];by_cases hij:i=j
   ·subst hij;rw[hc,if_pos rfl,if_pos hi];simp
   ·simp[hij]
  rw[this,<-h.zc,List.map_set]
 ·show w'.ownsRow 0 232 3 v.C (v.zc.set i _).length _;rw[hC,List.length_set];exact hk.row h.cl (nr h.cl (by decide))
 ·obtain⟨y0,q1,q2,q3,_⟩:=hcl j y hy;rw[q2,q3];exact hk.row (h.bound j y0 q1) (nr (h.bound j y0 q1) (by decide))
 ·obtain⟨y0,q1,q2,_,q4,q5⟩:=hcl j y hy;by_cases hij:i=j
  ·obtain⟨e1,e2⟩:=q5 hij;rw[e1];refine⟨zl.set k (l',.slice none 0 0),by rw[List.map_set,ha.hzl],hL,fun y hy=>?_⟩;rcases List.mem_or_eq_of_mem_set hy with q|q
   ·exact ha.rs y q
   ·rw[q];exact⟨hr,rfl⟩
  ·rw[q4 hij];obtain⟨zl2,l1,l2,l3⟩:=h.ln j y0 q1;exact⟨zl2,l1,hk.at l2 ((h.inj j i y0 z q1 hz (fun e=>hij e.symm)).1),l3⟩
 ·obtain⟨y0,q1,q2,_⟩:=hcl j y hy;rw[q2];exact h.Bw j y0 q1
 ·obtain⟨y0,q1,q2,_⟩:=hcl a y hy;obtain⟨y1,r1,r2,_⟩:=hcl b y' hy';rw[q2,r2];exact h.inj a b y0 y1 q1 r1 hab
theorem Ej(l:List UInt8)(a b:Nat):(str l).extract a b=str ((l.drop a).take (b-a)):=by
 apply ByteArray.ext;simp[ByteArray.data_extract,List.extract_eq_take_drop]
theorem OL(s:List UInt8)(k:Nat)(hk:8*k<=s.length)(hs:s.length<=1000)(w:World):Calls Tryz.prog 220 #[.string (str s),.int .i64 (k:Int)] w fun e w'=>e=.returned (.tuple #[.string (str (R.Bs s (k:Int))),.int .i64 (R.Ak s)])/\w'=w:=by
 have hss:(str s).size=s.length:=Au s;have e1:IntKind.i64.wrap ((s.length:Int)+7)=(s.length:Int)+7:=by rw[IntKind.wrap_i64];omega
 have e2:IntKind.i64.wrap (((s.length:Int)+7).tdiv 8)=R.Ak s:=by
  unfold R.Ak;rw[show (s.length:Int)+7=((s.length+7:Nat):Int) by omega,show (8:Int)=((8:Nat):Int) from rfl,<-Int.ofNat_tdiv,IntKind.wrap_i64];omega
 have e3:IntKind.i64.wrap (8*(k:Int))=8*(k:Int):=by rw[IntKind.wrap_i64];omega
 have e4:IntKind.i64.wrap (8*(k:Int)+8)=8*(k:Int)+8:=by rw[IntKind.wrap_i64];omega
 have q0:(0:Int)<=8*(k:Int):=by omega
 have q1:(8*(k:Int)).toNat=8*k:=by omega
 have q2:(8*(k:Int)+8).toNat=8*k+8:=by omega
 have q3:(0:Int)<=8*(k:Int)+8:=by omega
 by_cases hl:(s.length:Int)<=8*(k:Int)+8
 ·have hv:str (R.Bs s (k:Int))=(str s).extract (8*k) s.length:=by
   rw[Ej];unfold R.Bs;rw[Int.toNat_natCast,List.take_of_length_le (by simp;omega),List.take_of_length_le (by simp)]
  rw[hv];go_enter Tryz.func220,Tryz.ntmps220;go_wp2;go_returns;exact⟨rfl,rfl⟩
 ·have hv:str (R.Bs s (k:Int))=(str s).extract (8*k) (8*k+8):=by
   rw[Ej];unfold R.Bs;rw[Int.toNat_natCast,Nat.add_sub_cancel_left]
  have hl2:8*k+8<=s.length:=by omega
  rw[hv];go_enter Tryz.func220,Tryz.ntmps220;go_wp2;go_returns;exact⟨rfl,rfl⟩
theorem Lh(w:World)(x g n cap i lb k nl:Nat)(kind Ax seq uid state Az pieces wait tries:Int)(ra:Option Addr)(rn rc:Nat)(to ms cm:ByteArray)(hi:i<n)(hk:k<nl)(x9:w.cell? ⟨x,9,none⟩=some (.slice (some ⟨g,0,none⟩) n cap))(c0:w.cell? ⟨g,i*3,none⟩=some (.int .i64 Ax))(c2:w.cell? ⟨g,i*3+2,none⟩=some (.slice (some ⟨lb,0,none⟩) nl nl))
  (l0:w.cell? ⟨lb,k*11,none⟩=some (.int .i64 seq)) (l1:w.cell? ⟨lb,k*11+1,none⟩=some (.int .i64 state)) (l2:w.cell? ⟨lb,k*11+2,none⟩=some (.slice ra rn rc)) (l3:w.cell? ⟨lb,k*11+3,none⟩=some (.int .i64 uid)) (l4:w.cell? ⟨lb,k*11+4,none⟩=some (.string to)) (l5:w.cell? ⟨lb,k*11+5,none⟩=some (.string ms)) (l6:w.cell? ⟨lb,k*11+6,none⟩=some (.int .i64 Az)) (l7:w.cell? ⟨lb,k*11+7,none⟩=some (.string cm)) (l8:w.cell? ⟨lb,k*11+8,none⟩=some (.int .i64 pieces)) (l9:w.cell? ⟨lb,k*11+9,none⟩=some (.int .i64 wait)) (l10:w.cell? ⟨lb,k*11+10,none⟩=some (.int .i64 tries)):
  Calls Tryz.prog 166 #[Av x,.int .i64 (i:Int),.int .i64 (k:Int),.int .i64 kind] w fun e w'=>e=.returned (.agg #[.int .i64 kind,.int .i64 (i:Int),.int .i64 Ax,.int .i64 (k:Int),.int .i64 seq,.int .i64 uid,.int .i64 0,.int .i64 1,.bool false,.string ⟨#[]⟩])/\Below w.heap.size w w':=by
 have q0:(0:Int)<=(i:Int):=by omega
 have q1:(i:Int)<(n:Int):=by omega
 have q2:(0:Int)<=(k:Int):=by omega
 have q3:(k:Int)<(nl:Int):=by omega
 have hx:=lt_of_cell x9;have hg:=lt_of_cell c0;have hl:=lt_of_cell l0;go_enter Tryz.func166,Tryz.ntmps166;go_wp2_with fail
 go_region_held3 (fun w'=>w'.cell? ⟨x,9,none⟩=some (.slice (some ⟨g,0,none⟩) n cap)/\w'.cell? ⟨g,i*3,none⟩=some (.int .i64 Ax)/\w'.cell? ⟨w.heap.size+1,0,none⟩=some (.int .i64 seq)/\w'.cell? ⟨w.heap.size+1,3,none⟩=some (.int .i64 uid)) (go_keep) (fail)
 go_wp2;go_returns;exact⟨rfl,((((Below.refl _ _).alloc (Nat.le_refl _) _).alloc (by simp) _).drew)⟩
structure XF(w:World)(lb k:Nat)(l:R.Ln):Prop where
 l0:w.cell? ⟨lb,k*11,none⟩=some (.int .i64 l.seq)
 l1:w.cell? ⟨lb,k*11+1,none⟩=some (.int .i64 l.state)
 l2:w.cell? ⟨lb,k*11+2,none⟩=some (.slice none 0 0)
 l3:w.cell? ⟨lb,k*11+3,none⟩=some (.int .i64 l.uid)
 l4:w.cell? ⟨lb,k*11+4,none⟩=some (.string l.to)
 l5:w.cell? ⟨lb,k*11+5,none⟩=some (.string (str l.message))
 l6:w.cell? ⟨lb,k*11+6,none⟩=some (.int .i64 l.Az)
 l7:w.cell? ⟨lb,k*11+7,none⟩=some (.string (str l.came))
 l8:w.cell? ⟨lb,k*11+8,none⟩=some (.int .i64 l.pieces)
 l9:w.cell? ⟨lb,k*11+9,none⟩=some (.int .i64 l.wait)
 l10:w.cell? ⟨lb,k*11+10,none⟩=some (.int .i64 l.tries)
theorem VP.cells{x:Nat}{v:RV}{G:R.Wd}{w:World}{i:Nat}{c:R.Cl}{g cap:Nat}{z:R.Cl×CE}{zl:List (R.Ln×Value)}(h:VP x v G w i c g cap z zl){k:Nat}{l:R.Ln}(hl:c.lines[k]?=some l):XF w z.2.lb k l:=by
 obtain⟨_,_,hc⟩:=h.line hl;exact⟨hc 0 _ (by omega) rfl,hc 1 _ (by omega) rfl,hc 2 _ (by omega) rfl,hc 3 _ (by omega) rfl,hc 4 _ (by omega) rfl,hc 5 _ (by omega) rfl,hc 6 _ (by omega) rfl,hc 7 _ (by omega) rfl,hc 8 _ (by omega) rfl,hc 9 _ (by omega) rfl,hc 10 _ (by omega) rfl⟩
theorem XF.below{w w':World}{lb k:Nat}{l:R.Ln}(h:XF w lb k l)(hb:Below w.heap.size w w'):XF w' lb k l:=by
 have hl:=lt_of_cell h.l0;exact⟨(hb.cell (p:=⟨lb,_,none⟩) hl).trans h.l0,(hb.cell (p:=⟨lb,_,none⟩) hl).trans h.l1,(hb.cell (p:=⟨lb,_,none⟩) hl).trans h.l2,(hb.cell (p:=⟨lb,_,none⟩) hl).trans h.l3,(hb.cell (p:=⟨lb,_,none⟩) hl).trans h.l4,(hb.cell (p:=⟨lb,_,none⟩) hl).trans h.l5,(hb.cell (p:=⟨lb,_,none⟩) hl).trans h.l6,(hb.cell (p:=⟨lb,_,none⟩) hl).trans h.l7,(hb.cell (p:=⟨lb,_,none⟩) hl).trans h.l8,(hb.cell (p:=⟨lb,_,none⟩) hl).trans h.l9,(hb.cell (p:=⟨lb,_,none⟩) hl).trans h.l10⟩
theorem RW.UU{x:Nat}{v:RV}{F:Ag}{G:R.Wd}{w:World}(h:RW x v F G w){i k:Nat}{c:R.Cl}{l:R.Ln}(hc:G.Ad[i]?=some c)(hl:c.lines[k]?=some l)(kind:Int):
  Calls Tryz.prog 166 #[Av x,.int .i64 (i:Int),.int .i64 (k:Int),.int .i64 kind] w fun e w'=>e=.returned (.agg #[.int .i64 kind,.int .i64 (i:Int),.int .i64 c.Ax,.int .i64 (k:Int),.int .i64 l.seq,.int .i64 l.uid,.int .i64 0,.int .i64 1,.bool false,.string ⟨#[]⟩])/\Below w.heap.size w w':=by
 obtain⟨g,cap,z,zl,ha⟩:=h.at hc;have q:=ha.cells hl;exact Lh w x g G.Ad.length cap i z.2.lb k c.lines.length kind c.Ax l.seq l.uid l.state l.Az l.pieces l.wait l.tries none 0 0 l.to (str l.message) (str l.came) (List.getElem?_eq_some_iff.1 hc).1 (List.getElem?_eq_some_iff.1 hl).1 ha.x9 ha.c0 ha.c2 q.l0 q.l1 q.l2 q.l3 q.l4 q.l5 q.l6 q.l7 q.l8 q.l9 q.l10
theorem Li(w:World)(x:Nat)(a:Option Addr)(n cap:Nat)(cl li:Int)(x9:w.cell? ⟨x,9,none⟩=some (.slice a n cap))(h:cl<0\/(n:Int)<=cl):Calls Tryz.prog 164 #[Av x,.int .i64 cl,.int .i64 li] w fun e w'=>e=.returned (.tuple #[.agg #[.int .i64 0,.int .i64 0,.slice none 0 0],.int .i64 13])/\Below w.heap.size w w':=by
 have hx:=lt_of_cell x9;by_cases h0:cl<0
 ·go_enter Tryz.func164,Tryz.ntmps164;go_wp2;go_returns;exact⟨rfl,(Below.refl _ _).alloc (Nat.le_refl _) _⟩
 ·have h1:(n:Int)<=cl:=by omega
  go_enter Tryz.func164,Tryz.ntmps164;go_wp2;go_returns;exact⟨rfl,(Below.refl _ _).alloc (Nat.le_refl _) _⟩
theorem OQ(w:World)(x:Nat)(a:Option Addr)(n cap:Nat)(cl li ln:Int)(x1:w.cell? ⟨x,1,none⟩=some (.int .i64 ln))(x9:w.cell? ⟨x,9,none⟩=some (.slice a n cap))(h0:¬cl<0)(h1:¬(n:Int)<=cl)(h:li<0\/ln<=li):Calls Tryz.prog 164 #[Av x,.int .i64 cl,.int .i64 li] w fun e w'=>e=.returned (.tuple #[.agg #[.int .i64 0,.int .i64 0,.slice none 0 0],.int .i64 14])/\Below w.heap.size w w':=by
 have hx:=lt_of_cell x9;by_cases h2:li<0
 ·go_enter Tryz.func164,Tryz.ntmps164;go_wp2;go_returns;exact⟨rfl,(Below.refl _ _).alloc (Nat.le_refl _) _⟩
 ·have h3:ln<=li:=by omega
  go_enter Tryz.func164,Tryz.ntmps164;go_wp2;go_returns;exact⟨rfl,(Below.refl _ _).alloc (Nat.le_refl _) _⟩
theorem Vb(w:World)(x g n cap i lb k nl:Nat)(l:R.Ln)(hi:i<n)(hk:k<nl)(x1:w.cell? ⟨x,1,none⟩=some (.int .i64 (nl:Int)))(x9:w.cell? ⟨x,9,none⟩=some (.slice (some ⟨g,0,none⟩) n cap))(c2:w.cell? ⟨g,i*3+2,none⟩=some (.slice (some ⟨lb,0,none⟩) nl nl))(hL:XF w lb k l):Calls Tryz.prog 164 #[Av x,.int .i64 (i:Int),.int .i64 (k:Int)] w fun e w'=>e=.returned (.tuple #[.agg #[.int .i64 l.state,.int .i64 l.seq,.slice none 0 0],.int .i64 0])/\Below w.heap.size w w':=by
 have q0:(0:Int)<=(i:Int):=by omega
 have q1:(i:Int)<(n:Int):=by omega
 have q2:(0:Int)<=(k:Int):=by omega
 have q3:(k:Int)<(nl:Int):=by omega
 have p0:¬(i:Int)<0:=by omega
 have p1:¬(n:Int)<=(i:Int):=by omega
 have p2:¬(k:Int)<0:=by omega
 have p3:¬(nl:Int)<=(k:Int):=by omega
 have hx:=lt_of_cell x9;have hg:=lt_of_cell c2;have hlb:=lt_of_cell hL.l0;obtain⟨l0,l1,l2,l3,l4,l5,l6,l7,l8,l9,l10⟩:=hL;go_enter Tryz.func164,Tryz.ntmps164;go_wp2;go_returns;exact⟨rfl,((Below.refl _ _).alloc (Nat.le_refl _) _).alloc (by simp) _⟩
theorem RW.x9{x:Nat}{v:RV}{F:Ag}{G:R.Wd}{w:World}(h:RW x v F G w):∃a cap,w.cell? ⟨x,9,none⟩=some (.slice a G.Ad.length cap):=by
 obtain⟨a,cap,hC⟩:=AR h.cl;have hlen:v.zc.length=G.Ad.length:=by rw[<-h.zc,List.length_map]
 rw[hlen]at hC;exact⟨a,cap,cell_of h.bx 9 _ (by rw[<-hC];rfl)⟩
theorem RW.status{x:Nat}{v:RV}{F:Ag}{G:R.Wd}{w:World}(h:RW x v F G w)(cl li:Int):Calls Tryz.prog 164 #[Av x,.int .i64 cl,.int .i64 li] w fun e w'=>e=.returned (.tuple #[.agg #[.int .i64 (R.Df G cl li).1,.int .i64 (R.Df G cl li).2.1,.slice none 0 0],.int .i64 (R.Df G cl li).2.2.2])/\Below w.heap.size w w':=by
 obtain⟨a,cap,x9⟩:=h.x9;have x1:w.cell? ⟨x,1,none⟩=some (.int .i64 G.c.lines):=cell_of h.bx 1 _ rfl;unfold R.Df;by_cases h1:cl<0\/(G.Ad.length:Int)<=cl
 ·rw[if_pos h1];exact Li w x a _ cap cl li x9 h1
 ·rw[if_neg h1];by_cases h2:li<0\/G.c.lines<=li
  ·rw[if_pos h2];exact OQ w x a _ cap cl li _ x1 x9 (by omega) (by omega) h2
  ·rw[if_neg h2];obtain⟨i,rfl⟩:∃i:Nat,cl=(i:Int):=⟨cl.toNat,by omega⟩;obtain⟨k,rfl⟩:∃k:Nat,li=(k:Int):=⟨li.toNat,by omega⟩;have hi:i<G.Ad.length:=by omega
   obtain⟨c,hc⟩:∃c,G.Ad[i]?=some c:=⟨_,List.getElem?_eq_getElem hi⟩;have hln:=(h.wf.cl i c hc).lines;obtain⟨l,hl⟩:∃l,c.lines[k]?=some l:=⟨_,List.getElem?_eq_getElem (by omega)⟩;obtain⟨g,cap2,z,zl,hA⟩:=h.at hc;rw[R.Bc hc hl];exact Vb w x g _ cap2 i z.2.lb k c.lines.length l hi (List.getElem?_eq_some_iff.1 hl).1 (by rw[hln];exact x1) hA.x9 hA.c2 (hA.cells hl)
end Go.Proofs.YtblomippkddgiaaGreatDoor
namespace Go.Proofs.YtblomippkddgiaaGreatDoor.V
open Go.RowKit
theorem RJ(s:ByteArray)(hc:(Pt.GX (nx s) s.size).1=0)(V:Value)(v:List It)(w:World)(hI:Items w V v)(hn:v.length<=9000000000000):Calls Tryz.prog 207 #[.string s,V] w fun e w'=>e=.returned (.bool (C8 s v).isSome)/\Below w.heap.size w w':=by
 have hg:=KV hc;obtain⟨a,cap,hV,_,_⟩:=id hI;have hv:=SV s V v hg.size hn (s.size+1) 0 0 w hg.ok (Nat.zero_le _) hI;have HF:=T6 s V a cap v w hV _ hv;rw[List.drop_zero,Wp]at HF;unfold C8;cases he:Dk (nx s) (s.size+1) 0 v with
 |none=>
  simp only[he]at HF;exact HF
 |some x=>
  obtain⟨ks,r⟩:=x;simp only[he]at HF;cases r with
  |cons y r=>exact HF
  |nil=>exact HF
theorem Oz(s:ByteArray)(hc:(Pt.GX (nx s) s.size).1=0)(V:Value)(v:List It)(w:World)(hI:Items w V v)(hn:v.length<=9000000000000){out:List UInt8}(ho:C8 s v=some out):Calls Tryz.prog 208 #[.string s,V] w fun e w'=>e=.returned (.string ⟨out.toArray⟩)/\Below w.heap.size w w':=by
 have hg:=KV hc;unfold C8 at ho;cases he:Dk (nx s) (s.size+1) 0 v with
 |none=>rw[he]at ho;cases ho
 |some x=>
  obtain⟨ks,r⟩:=x;rw[he]at ho;cases r with
  |cons y r=>cases ho
  |nil=>
   cases ho;obtain⟨h1,h2⟩:=Cu _ _ _ _ _ _ he;obtain⟨s1,s2⟩:=QW s _ _ hg.ok _ _ _ he;have hl:ks.length=v.length:=by
    have:=congrArg List.length h1;rw[List.length_drop]at this;simp at this;omega
   have hM:10 ^ Pt.DK (nx s) (s.size+1) 0<=10 ^ 4:=Nat.pow_le_pow_right (by decide) hg.DK;have hK:=Ug s2 hl;have ht:=SK s V v w hg.size hn hI (s.size+1) 0 (.slice none 0 0) [] ks [] w hg.ok ⟨World.ownsRow_nil _ _ _ _,Below.refl _ _⟩ he;exact QL s V v ks w hI (by omega) hK ht
end Go.Proofs.YtblomippkddgiaaGreatDoor.V
namespace Go.Proofs.YtblomippkddgiaaGreatDoor
open Go.RowKit
theorem Ip(w:World)(x g n cap i lb k nl:Nat)(Ax:Int)(l:R.Ln)(again pl:Bool)(aN:Nat)(haN:l.Az=(aN:Int))(hm:8*aN<=l.message.length)(hm2:l.message.length<=72)(hi:i<n)(hk:k<nl)(x9:w.cell? ⟨x,9,none⟩=some (.slice (some ⟨g,0,none⟩) n cap))(c2:w.cell? ⟨g,i*3+2,none⟩=some (.slice (some ⟨lb,0,none⟩) nl nl))(hL:XF w lb k l)(Post:World->Prop)(hpl:pl=(again || decide (l.Az<R.Ak l.message-1)))
  (H165:Hid (Calls Tryz.prog 166 #[Av x,.int .i64 (i:Int),.int .i64 (k:Int),.int .i64 1] w fun e w'=>e=.returned (.agg #[.int .i64 1,.int .i64 (i:Int),.int .i64 Ax,.int .i64 (k:Int),.int .i64 l.seq,.int .i64 l.uid,.int .i64 0,.int .i64 1,.bool false,.string ⟨#[]⟩])/\Below w.heap.size w w'))
  (H166:Hid (∀W,Below w.heap.size w W->Calls Tryz.prog 167 #[Av x,.int .i64 (-1),.agg #[.int .i64 1,.int .i64 (i:Int),.int .i64 Ax,.int .i64 (k:Int),.int .i64 l.seq,.int .i64 l.uid,.int .i64 l.Az,.int .i64 (R.Ak l.message),.bool pl,.string (str (R.Bs l.message l.Az))]] W fun e w'=>e=.returned (.tuple #[])/\Post w')):
  Calls Tryz.prog 165 #[Av x,.int .i64 (i:Int),.int .i64 (k:Int),.bool again] w fun e w'=>e=.returned (.tuple #[])/\Post w':=by
 have H217:=Ab (fun w=>OL l.message aN hm (by omega) w);have q0:(0:Int)<=(i:Int):=by omega
 have q1:(i:Int)<(n:Int):=by omega
 have q2:(0:Int)<=(k:Int):=by omega
 have q3:(k:Int)<(nl:Int):=by omega
 have hx:=lt_of_cell x9;have hg:=lt_of_cell c2;have hlb:=lt_of_cell hL.l0;have hpp:IntKind.i64.wrap (R.Ak l.message-1)=R.Ak l.message-1:=by
  unfold R.Ak;rw[IntKind.wrap_i64];omega
 rw[haN]at H166 hpl;generalize R.Ak l.message=pn at *;generalize str (R.Bs l.message (aN:Int))=pb at *;have HL:=Ab hL;have X9:=Ab x9;have C2:=Ab c2;clear hm hm2 hL x9 c2;cases again;all_goals
  first|rw[Bool.false_or]at hpl|rw[Bool.true_or]at hpl
  go_enter Tryz.func165,Tryz.ntmps165;go_wp2_with fail
  refine(Aa H165).mono ?_;rintro e w1 ⟨rfl,hb1⟩;have x9:w1.cell? ⟨x,9,none⟩=some (.slice (some ⟨g,0,none⟩) n cap):=(hb1.cell (p:=⟨x,9,none⟩) hx).trans (Aa X9);have c2:w1.cell? ⟨g,i*3+2,none⟩=some (.slice (some ⟨lb,0,none⟩) nl nl):=(hb1.cell (p:=⟨g,_,none⟩) hg).trans (Aa C2);have hL1:=(Aa HL).below hb1;obtain⟨l0,l1,l2,l3,l4,l5,l6,l7,l8,l9,l10⟩:=hL1;rw[haN]at l6;have hx1:=lt_of_cell x9;have hg1:=lt_of_cell c2;have hlb1:=lt_of_cell l0;have HB1:=Ab hb1;clear hb1 HL X9 C2 H165;obtain⟨W3,hW3⟩:∃W3,(w1.alloc (.cells #[.int .i64 1,.int .i64 (i:Int),.int .i64 Ax,.int .i64 (k:Int),.int .i64 l.seq,.int .i64 l.uid,.int .i64 (aN:Int),.int .i64 1,.bool false,.string ⟨#[]⟩] 41)).alloc (.cells #[.int .i64 l.seq,.int .i64 l.state,.slice none 0 0,.int .i64 l.uid,.string l.to,.string (str l.message),.int .i64 (aN:Int),.string (str l.came),.int .i64 l.pieces,.int .i64 l.wait,.int .i64 l.tries] 259)=W3:=⟨_,rfl⟩;have hx3:W3.heap[w1.heap.size]?=some (.cells [.int .i64 1,.int .i64 (i:Int),.int .i64 Ax,.int .i64 (k:Int),.int .i64 l.seq,.int .i64 l.uid,.int .i64 (aN:Int),.int .i64 1,.bool false,.string ⟨#[]⟩].toArray 41 (0,0)):=by
   rw[<-hW3,Below.heap_alloc _ _ _ (by simp)];exact heap_alloc_new w1 _
  have hB3:Below w.heap.size w W3:=by
   rw[<-hW3];exact((Aa HB1).alloc (Aa HB1).size _).alloc (by have:=(Aa HB1).size;simp;omega) _
  have b6:W3.cell? ⟨w1.heap.size,6,none⟩=some (.int .i64 (aN:Int)):=cell_of hx3 6 _ rfl;have b7:W3.cell? ⟨w1.heap.size,7,none⟩=some (.int .i64 1):=cell_of hx3 7 _ rfl;have b8':W3.cell? ⟨w1.heap.size,8,none⟩=some (.bool false):=cell_of hx3 8 _ rfl;have b9:W3.cell? ⟨w1.heap.size,9,none⟩=some (.string ⟨#[]⟩):=cell_of hx3 9 _ rfl;have b0:W3.cell? ⟨w1.heap.size,0,none⟩=some (.int .i64 1):=cell_of hx3 0 _ rfl;have b1:W3.cell? ⟨w1.heap.size,1,none⟩=some (.int .i64 (i:Int)):=cell_of hx3 1 _ rfl;have b2:W3.cell? ⟨w1.heap.size,2,none⟩=some (.int .i64 Ax):=cell_of hx3 2 _ rfl;have b3:W3.cell? ⟨w1.heap.size,3,none⟩=some (.int .i64 (k:Int)):=cell_of hx3 3 _ rfl;have b4:W3.cell? ⟨w1.heap.size,4,none⟩=some (.int .i64 l.seq):=cell_of hx3 4 _ rfl;have b5:W3.cell? ⟨w1.heap.size,5,none⟩=some (.int .i64 l.uid):=cell_of hx3 5 _ rfl;have bz:∀o,W3.frozen? ⟨w1.heap.size,o,none⟩=false:=fun o=>Cs hx3 o
  have bz7:=bz 7;have bz8:=bz 8;have bz9:=bz 9;have hl3:=lt_of_block hx3;have HB3:=Ab hB3;have HW3:=Ab hW3;clear hx3 hB3 hW3 bz;go_wp2_with fail
  rw[Aa HW3];refine((Aa H217) _).mono ?_;rintro e w2 ⟨rfl,hw2⟩;rw[hw2];clear hw2 H217 l0 l1 l2 l3 l4 l5 l6 l7 l8 l9 l10 x9 c2;go_wp2_with fail
  rw[<-hpl];clear hpl;refine((Aa H166) _ (by
   have hs:=(Aa HB1).size;exact(((Aa HB3).setCell (p:=⟨w1.heap.size,9,none⟩) hs _).setCell (p:=⟨w1.heap.size,7,none⟩) hs _).setCell (p:=⟨w1.heap.size,8,none⟩) hs _)).mono ?_
  rintro e w4 ⟨rfl,hP⟩;have HP:=Ab hP;clear hP H166;go_wp2_with fail
  go_returns;exact⟨rfl,Aa HP⟩
theorem RW.Kn{x:Nat}{v:RV}{F:Ag}{G:R.Wd}{w:World}(h:RW x v F G w){i k:Nat}{c:R.Cl}{l:R.Ln}(hc:G.Ad[i]?=some c)(hl:c.lines[k]?=some l)(h1:l.state=1)(ha:l.Az<R.Ak l.message)(again:Bool):
  Calls Tryz.prog 165 #[Av x,.int .i64 (i:Int),.int .i64 (k:Int),.bool again] w fun e w'=>e=.returned (.tuple #[])/\∃v' F',RW x v' F' (R.A9 G i k again) w'/\Ah F F' w w':=by
 obtain⟨g,cap,z,zl,hA⟩:=h.at hc;obtain⟨q1,q2,q3,q4,q5,q6⟩:=((h.wf.cl i c hc).line k l hl).one h1;obtain⟨aN,haN⟩:∃aN:Nat,l.Az=(aN:Int):=⟨l.Az.toNat,by omega⟩;have hR:=R.IX h.wf hc hl h1 ha again;have he:=R.Ge (again:=again) (R.Bc hc hl);have hlife:=R.DR hc;refine Ip w x g G.Ad.length cap i z.2.lb k c.lines.length c.Ax l again _ aN haN ?_ q3.2 (List.getElem?_eq_some_iff.1 hc).1 (List.getElem?_eq_some_iff.1 hl).1 hA.x9 hA.c2 (hA.cells hl) _ rfl (Ab (h.UU hc hl 1)) (Ab fun W hb=>?_)
 ·rw[haN]at ha;unfold R.Ak at ha;omega
 ·have hpv:pv (R.CH G i k l again)=.agg #[.int .i64 1,.int .i64 (i:Int),.int .i64 c.Ax,.int .i64 (k:Int),.int .i64 l.seq,.int .i64 l.uid,.int .i64 l.Az,.int .i64 (R.Ak l.message),.bool (again || decide (l.Az<R.Ak l.message-1)),.string (str (R.Bs l.message l.Az))]:=by
   rw[<-hlife];rfl
  rw[<-hpv];refine((h.below hb).send (-1) (R.CH G i k l again) hR).mono ?_;rintro e w' ⟨rfl,v',F',p1,p2⟩;refine⟨rfl,v',F',?_,(Ah.Aq F hb).trans p2⟩;rw[he];exact p1
end Go.Proofs.YtblomippkddgiaaGreatDoor
