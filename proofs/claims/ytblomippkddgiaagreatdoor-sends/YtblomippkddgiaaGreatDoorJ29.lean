import Derived.Test.YtblomippkddgiaaGreatDoorJ28
set_option maxRecDepth 100000
set_option maxHeartbeats 2000000
namespace Go.Proofs.YtblomippkddgiaaGreatDoor
open Go.RowKit
abbrev Tw.val(t:Tw):Value:=.agg #[ptr t.p.x,Av t.x]
def Bd(N:Nat)(G:R.Wd):Prop:=∀c∈G.Ad,c.bound.length<=N
theorem Bd.le{N N':Nat}{G:R.Wd}(h:Bd N G)(hN:N<=N'):Bd N' G:=fun c hc=>Nat.le_trans (h c hc) hN
theorem Bd.sm{N:Nat}{G G':R.Wd}(h:Bd N G)(hs:R.Sm G G'):Bd N G':=fun c hc=>by
 obtain⟨i,hi⟩:=List.mem_iff_getElem?.1 hc;obtain⟨c0,h0,_,hb,_⟩:=hs.cl.each i c hi;rw[hb];exact h c0 (List.mem_of_getElem? h0)
theorem Bd.Ar{N:Nat}{G:R.Wd}(h:Bd N G)(i k:Int)(l:R.Ln):Bd N (R.Ar G i k l):=fun c hc=>by
 obtain⟨j,hj⟩:=List.mem_iff_getElem?.1 hc;unfold R.Ar at hj;simp only[List.getElem?_modify]at hj;cases hq:G.Ad[j]? with
 |none=>rw[hq]at hj;cases hj
 |some c0=>
  rw[hq]at hj;have h0:=h c0 (List.mem_of_getElem? hq);obtain rfl:=Option.some.inj hj;split<;>exact h0
theorem Bd.call{N:Nat}{G:R.Wd}(h:Bd N G)(cl li uid pr:Int)(arg:List R.It):Bd N (R.Bf G cl li uid pr arg).2:=by
 unfold R.Bf;split
 ·exact h
 split
 ·exact h
 split
 ·exact h
 split
 ·exact h
 split
 ·exact h
 simp only;split
 ·exact h
 split
 ·exact h
 exact(h.Ar _ _ _).sm (R.Sm.piece _ _ _ _)
theorem Bd.export{N:Nat}{G:R.Wd}(h:Bd N G)(name:List UInt8)(kind:Int):Bd N (R.AJ G name kind).2:=by
 unfold R.AJ;split
 ·exact h
 split
 ·exact h
 split
 ·split
  ·exact h
  split<;>exact h
 ·split<;>exact h
theorem Bd.EA{N:Nat}{G:R.Wd}(h:Bd N G)(name:List UInt8):Bd N (R.AU G name).2:=by
 unfold R.AU;split<;>exact h
theorem Bd.import{N:Nat}{G:R.Wd}(h:Bd N G)(cl:Int)(name:List UInt8):Bd (N+1) (R.Bn G cl name).2:=by
 unfold R.Bn;split
 ·exact h.le (by omega)
 split
 ·exact h.le (by omega)
 ·intro c hc;obtain⟨j,hj⟩:=List.mem_iff_getElem?.1 hc;simp only[List.getElem?_modify]at hj;cases hq:G.Ad[j]? with
  |none=>rw[hq]at hj;cases hj
  |some c0=>
   rw[hq]at hj;have h0:=h c0 (List.mem_of_getElem? hq);obtain rfl:=Option.some.inj hj;split
   ·simp;omega
   ·simp;omega
theorem Bd.drop{N:Nat}{G:R.Wd}(h:Bd N G)(i:Int):Bd N (R.EF G i).2:=by
 unfold R.EF;split<;>exact h
theorem Bd.copy{N:Nat}{G:R.Wd}(h:Bd N G)(i:Int):Bd N (R.D5 G i).2:=by
 unfold R.D5;split
 ·exact h
 split
 ·exact h
 split<;>exact h
theorem Bd.Tx{N:Nat}{G:R.Wd}(h:Bd N G)(i a b:Int):Bd N (R.D4 G i a b).2:=by
 unfold R.D4;split
 ·exact h
 split
 ·exact h
 split
 ·exact h
 split<;>exact h
def Ec(N:Nat)(t:Tw)(G':R.Wd)(w w':World):Prop:=∃t',Ci N t' w'/\Ah t.A4 t'.A4 w w'/\t'.p.x=t.p.x/\t'.x=t.x/\t'.G=G'
structure Mid(N:Nat)(t:Tw)(G':R.Wd)(w w1:World):Prop where
 was:Ci N t w
 l:∃p' F',LW p' F' G' w1/\Ah t.F F' w w1/\p'.x=t.p.x
theorem Mid.r{N:Nat}{t:Tw}{G':R.Wd}{w w1:World}(h:Mid N t G' w w1):RW t.x t.v t.E t.G w1:=by
 obtain⟨p',F',_,g,_⟩:=h.l;exact h.was.left g
theorem Mid.stays{N:Nat}{t:Tw}{G':R.Wd}{w w1:World}(h:Mid N t G' w w1){k:Nat}{o:Obj}(hk:w.heap[k]?=some o)(hn:¬t.A4 k):w1.heap[k]?=some o:=by
 obtain⟨p',F',_,g,_⟩:=h.l;exact g.keeps.at hk (fun f=>hn (Or.inl f))
theorem Mid.done{N N':Nat}{t:Tw}{G':R.Wd}{w w1 w2:World}(h:Mid N t G' w w1)(h2:∃v' E',RW t.x v' E' G' w2/\Ah t.E E' w1 w2)(hb:Bd N' G'):Ec N' t G' w w2:=by
 obtain⟨p',F',l,g,e⟩:=h.l;obtain⟨v',E',r,g2⟩:=h2;obtain⟨q1,q2⟩:=h.was.both l g r g2 hb;exact⟨_,q1,q2,e,rfl,rfl⟩
theorem Ci.mid{N:Nat}{t:Tw}{w w1:World}(h:Ci N t w){G':R.Wd}(hl:XE t.p t.F w G' w1):Mid N t G' w w1:=by
 obtain⟨tt,F',l,g⟩:=hl;exact⟨h,_,F',l,g,rfl⟩
theorem Ci.Og{N:Nat}{t:Tw}{w w1:World}(h:Ci N t w){G':R.Wd}{F':Ag}(l:LW t.p F' G' w1)(g:Ah t.F F' w w1):Mid N t G' w w1:=⟨h,_,F',l,g,rfl⟩
theorem Ci.ZE{N:Nat}{t:Tw}{w w1:World}(h:Ci N t w)(hb:Below w.heap.size w w1):Mid N t t.G w w1:=⟨h,_,t.F,h.l.below hb,Ah.Aq _ hb,rfl⟩
theorem Mid.XK{N:Nat}{t:Tw}{w w1 w2:World}(h:Mid N t t.G w w1)(hb:Below w1.heap.size w1 w2):Ec N t t.G w w2:=h.done ⟨_,_,h.r.below hb,Ah.Aq _ hb⟩ h.was.bd
theorem Ec.ahead{N:Nat}{t:Tw}{G':R.Wd}{w w1 w2:World}(hb:Below w.heap.size w w1)(h:Ec N t G' w1 w2):Ec N t G' w w2:=by
 obtain⟨t',h1,h2,h3,h4⟩:=h;exact⟨t',h1,(Ah.Aq _ hb).trans h2,h3,h4⟩
theorem Ec.le{N N':Nat}{t:Tw}{G':R.Wd}{w w1:World}(h:Ec N t G' w w1)(hN:N<=N'):Ec N' t G' w w1:=by
 obtain⟨t',h1,h2,h3,h4⟩:=h;exact⟨t',⟨h1.l,h1.r,h1.ap,Bd.le h1.bd hN⟩,h2,h3,h4⟩
theorem Ci.off{N:Nat}{t:Tw}{w:World}(h:Ci N t w){k:Nat}(hk:w.heap.size<=k):¬t.A4 k:=fun q=>by have:=h.lt k q;omega
theorem Fz(w:World)(t:Tw)(o:EM):Below w.heap.size w ((w.alloc (.cells #[ptr t.p.x,Av t.x] 109)).alloc (.cells o.cells 72))/\((w.alloc (.cells #[ptr t.p.x,Av t.x] 109)).alloc (.cells o.cells 72)).heap[w.heap.size]?=some (.cells #[ptr t.p.x,Av t.x] 109 (0,0))/\((w.alloc (.cells #[ptr t.p.x,Av t.x] 109)).alloc (.cells o.cells 72)).heap[w.heap.size+1]?=some (.cells o.cells 72 (0,0)):=by
 have hs:(w.alloc (.cells #[ptr t.p.x,Av t.x] 109)).heap.size=w.heap.size+1:=by simp
 refine⟨((Below.refl _ _).alloc (Nat.le_refl _) _).alloc (by omega) _,?_,?_⟩
 ·rw[Below.heap_alloc _ _ _ (by omega)];exact heap_alloc_new w _
 ·have:=heap_alloc_new (w.alloc (.cells #[ptr t.p.x,Av t.x] 109)) (.cells o.cells 72);rw[hs]at this;exact this
theorem Dt(n:Int)(w:World):Calls Tryz.prog 88 #[.int .i64 n] w fun e w'=>e=.returned (.int .i64 n)/\w'=w:=by
 go_enter Tryz.func88,Tryz.ntmps88;go_wp2;go_returns;exact⟨rfl,rfl⟩
structure Bx(b:Nat)(t:Tw)(o:EM)(w:World):Prop where
 t:w.heap[b]?=some (.cells #[ptr t.p.x,Av t.x] 109 (0,0))
 o:w.heap[b+1]?=some (.cells o.cells 72 (0,0))
theorem Bx.stays{b N:Nat}{t:Tw}{o:EM}{G':R.Wd}{w w1:World}(h:Bx b t o w)(hm:Mid N t G' w w1)(hb:∀k,b<=k->¬t.A4 k):Bx b t o w1:=⟨hm.stays h.t (hb _ (Nat.le_refl _)),hm.stays h.o (hb _ (by omega))⟩
theorem Dp{N:Nat}{t:Tw}{w:World}(h:Ci N t w)(o:EM):∃W1,(w.alloc (.cells #[ptr t.p.x,Av t.x] 109)).alloc (.cells o.cells 72)=W1/\Below w.heap.size w W1/\Bx w.heap.size t o W1/\Ci N t W1/\∀k,w.heap.size<=k->¬t.A4 k:=by
 obtain⟨hb1,hx1,hx2⟩:=Fz w t o;exact⟨_,rfl,hb1,⟨hx1,hx2⟩,h.below hb1,fun k hk=>h.off hk⟩
end Go.Proofs.YtblomippkddgiaaGreatDoor
namespace Go.Proofs.YtblomippkddgiaaGreatDoor.V
open Go.RowKit
theorem Ih{F:Ag}{u v:World}(h:Go.Proofs.YtblomippkddgiaaGreatDoor.Ae F u v)(n:Nat):Go.Proofs.YtblomippkddgiaaGreatDoor.Ae F u (v.drewN n):=⟨h.os,h.tape,h.output,h.size,h.block⟩
theorem Items.keep{w w':World}{V:Value}{v:List It}{E:Ag}(h:Items w V v)(hk:Go.Proofs.YtblomippkddgiaaGreatDoor.Ae E w w')(hn:v≠[]->∀b off n c,V=.slice (some ⟨b,off,none⟩) n c->¬E b):Items w' V v:=by
 obtain⟨a,cap,hV,hc,h⟩:=h;refine⟨a,cap,hV,hc,?_⟩;rcases h with h|⟨b,off,ha,hl,hx⟩
 ·exact Or.inl h
 ·refine Or.inr ⟨b,off,ha,Nat.lt_of_lt_of_le hl hk.size,fun j x hj=>?_⟩;have hb:=fun q=>hk.block b hl (hn q b off _ _ (by rw[hV,ha]))
  have hv:v≠[]:=fun e=>by rw[e]at hj;cases hj
  obtain⟨h1,h2⟩:=hx j x hj;exact⟨(World.cell?_of_block (a:=⟨b,_,none⟩) (hb hv)).trans h1,(World.cell?_of_block (a:=⟨b,_,none⟩) (hb hv)).trans h2⟩
theorem CG.keep{w w':World}{G m k:Nat}{l:List It}{E:Ag}(h:CG w G m k l)(hk:Go.Proofs.YtblomippkddgiaaGreatDoor.Ae E w w')(hn:¬E G):CG w' G m k l:=by
 obtain⟨cur,hg,r⟩:=h;exact⟨cur,hk.at hg hn,r⟩
theorem N5(w:World)(ad:Addr)(cap G:Nat)(v:List It)(hn:v.length<=9000000000000)(hI:Items w (.slice (some ad) v.length cap) v)(hG:v≠[]->ad.block≠G)(hL:CG w G (v.length+6) 0 (v++List.replicate 6 Ca)):
  Calls Tryz.prog 150 #[.slice (some ⟨G,0,none⟩) v.length (v.length+6),.slice (some ad) v.length cap] w fun e w'=>e=.returned (.bool true)/\Go.Proofs.YtblomippkddgiaaGreatDoor.Ae (fun k=>k=G) w w':=by
 obtain⟨n,hvn⟩:∃n,n=v.length:=⟨_,rfl⟩;have hnil:=notNil ad n cap;have HB:=Ab IL;have HI:=Ab hI;rw[<-hvn]at HI hL;rw[<-hvn];have HVN:=Ab hvn;have hnn:n<=9000000000000:=by omega
 have HL:=Ab hL;clear hvn hn hI hL;go_enter Tryz.func150,Tryz.ntmps150;go_wp2;go_loopw [7,8] (fun ok iv wr=>ok=.bool true/\∃i:Nat,i<=n+6/\iv=.int .i64 i/\CG wr G (n+6) i (v++List.replicate 6 Ca)/\Go.Proofs.YtblomippkddgiaaGreatDoor.Ae (fun k=>k=G) w wr) (fun _ iv _=>n+6-(intOf iv).toNat)
 case atStart=>exact⟨rfl,0,by omega,rfl,Aa HL,Go.Proofs.YtblomippkddgiaaGreatDoor.Ae.refl _ w⟩
 case round=>
  obtain⟨rfl,i,hi6,rfl,hL,hb⟩:=hrel;by_cases hlt:i<n+6
  ·have HLL:=Ab hL;have HBB:=Ab hb;clear hL hb;go_wp2_with fail
   refine((Aa HB) _).mono ?_;rintro e w1 ⟨rfl,hb1⟩;have hL1:=(Aa HLL).below hb1;have hbt:=(Aa HBB).trans (Go.Proofs.YtblomippkddgiaaGreatDoor.Ae.Aq hb1 _);obtain⟨x,hx⟩:∃x,(v++List.replicate 6 Ca)[i]?=some x:=⟨_,List.getElem?_eq_getElem (by rw[List.length_append,List.length_replicate,<-Aa HVN];exact hlt)⟩;obtain⟨c0,c1⟩:=hL1.at (Nat.le_refl _) hx;have z0:=hL1.thaw (i*2);have z1:=hL1.thaw (i*2+1);have hgl:=hL1.lt;have hgn:¬w1.heap.size=G:=by omega
   have hgn':¬G=w1.heap.size:=by omega
   have HL1:=Ab hL1;have HBT:=Ab hbt;by_cases hin:i<n
   ·have hxv:v[i]?=some x:=by rwa [List.getElem?_append_left (by rw[<-Aa HVN];exact hin)]at hx
    obtain⟨b,off,cap',hV,hbl,d0,d1⟩:=((Aa HI).keep hbt (fun hv b off n c e=>by injection e with e1;injection e1 with e1;rw[<-show ad.block=b by rw[e1]];exact hG hv)).at hxv;obtain rfl:ad=⟨b,off,none⟩:=by
     injection hV with h1;injection h1
    have hbn:¬w1.heap.size=b:=by omega
    have hbn':¬b=w1.heap.size:=by omega
    clear hL1 hbt hx hxv hb1;go_wp2;go_quiet (fail);go_wp2;go_roundw
    case rel=>
     exact⟨rfl,i+1,by omega,by go_num,((Aa HL1).below (below_drewN ((Below.refl w1.heap.size w1).alloc (Nat.le_refl _) _) _)).from _ _,(((Ih ((Aa HBT).alloc _) _).setCell (Or.inl rfl) _).setCell (Or.inl rfl) _)⟩
    case measure=>simp[intOf];omega
   ·have hxb:x=Ca:=by
     rw[List.getElem?_append_right (by rw[<-Aa HVN];omega),List.getElem?_replicate]at hx;split at hx
     ·cases hx;rfl
     ·cases hx
    subst hxb;clear hL1 hbt hx hb1;go_wp2;go_quiet (fail);go_wp2;go_roundw
    case rel=>
     exact⟨rfl,i+1,by omega,by go_num,((Aa HL1).below (below_drewN ((Below.refl w1.heap.size w1).alloc (Nat.le_refl _) _) _)).from _ _,(((Ih ((Aa HBT).alloc _) _).setCell (Or.inl rfl) _).setCell (Or.inl rfl) _)⟩
    case measure=>simp[intOf];omega
  ·clear hL;have HBB:=Ab hb;clear hb;go_wp2
   go_ret
   exact⟨rfl,Aa HBB⟩
end Go.Proofs.YtblomippkddgiaaGreatDoor.V
namespace Go.Proofs.YtblomippkddgiaaGreatDoor
open Go.RowKit
theorem C9{w W wz:World}{x:Nat}{cs:Array Value}{t e:TypeId}{K:Value}{n size:Nat}{xs:List Value}(hx:w.heap[x]?=some (.cells cs t (0,0)))(hrow:w.ownsRow 0 e size K n xs)(het:e≠t)(hb:Below w.heap.size w W)(hg:W.grownBy wz K.ownBlock):wz.heap[x]?=some (.cells cs t (0,0)):=by
 have hl:=(Array.getElem?_eq_some_iff.1 hx).1;rw[hg.block x (Nat.lt_of_lt_of_le hl hb.size) (fun e'=>Bv hrow hx het e'.symm),hb.block x hl];exact hx
theorem FX{w W wz:World}{x o:Nat}{cs:List Value}{t e:TypeId}{K K':Value}{n n' size j0:Nat}{xs ys:List Value}(hx:w.heap[x]?=some (.cells cs.toArray t (0,0)))(hrow:w.ownsRow 0 e size K n xs)(het:e≠t)(hb:Below w.heap.size w W)(hg:W.grownBy wz K.ownBlock)(hown:wz.ownsRow 0 e size K' n' ys)(hat:K'.ownBlock=K.ownBlock\/K'.ownBlock=some j0)(hj:w.heap.size<=j0):
  (wz.setCell ⟨x,o,none⟩ K').ownsRow 0 e size K' n' ys/\(wz.setCell ⟨x,o,none⟩ K').heap[x]?=some (.cells (cs.set o K').toArray t (0,0))/\Ae (fun k=>k=x\/K.ownBlock=some k) w (wz.setCell ⟨x,o,none⟩ K')/\∀j,K'.ownBlock=some j->K.ownBlock=some j\/w.heap.size<=j:=by
 have hgx:=C9 hx hrow het hb hg;have hx':(wz.setCell ⟨x,o,none⟩ K').heap[x]?=some (.cells (cs.set o K').toArray t (0,0)):=Ap hgx K';refine⟨?_,hx',?_,fun j hjj=>?_⟩
 ·have hk:Ae (fun k=>k=x) wz (wz.setCell ⟨x,o,none⟩ K'):=Ae.setCell (F:=fun k=>k=x) (Ae.refl _ wz) (p:=⟨x,o,none⟩) (Or.inl rfl) K';exact hk.row hown (fun j hjj e'=>Bv hown hgx het (e' ▸ hjj))
 ·have h1:Ae (fun k=>k=x\/K.ownBlock=some k) w W:=Ae.Aq hb _;have h2:Ae (fun k=>k=x\/K.ownBlock=some k) w wz:=h1.grown hg (fun k hk=>Or.inl (Or.inr hk));exact h2.setCell (p:=⟨x,o,none⟩) (Or.inl (Or.inl rfl)) K'
 ·rcases hat with q|q
  ·exact Or.inl (q ▸ hjj)
  ·rw[q]at hjj;cases hjj;exact Or.inr hj
theorem DU{α:Type}{f:α->List Value}{size:Nat}(hf:∀x,(f x).length=size)(hs:0<size){w:World}{e:TypeId}{K:Value}{n:Nat}{xs:List α}(h:w.ownsRow 0 e size K n (tab f xs)){i:Nat}{y:α}(hy:xs[i]?=some y):∃g cap,K=.slice (some ⟨g,0,none⟩) n cap/\g<w.heap.size/\(∀j u,j<size->(f y)[j]?=some u->w.cell? ⟨g,i*size+j,none⟩=some u)/\∀o,w.frozen? ⟨g,o,none⟩=false:=by
 have hi:=(List.getElem?_eq_some_iff.1 hy).1;have hl:=h.1;rw[BN hf]at hl;rcases h.2 with ⟨_,h0⟩|⟨g,cap,cur,rfl,_,hg,hc,_,hsz,htk⟩
 ·subst h0;exfalso;have h1:size*xs.length=0:=by simpa using hl
  have:=Nat.mul_pos hs (Nat.lt_of_le_of_lt (Nat.zero_le i) hi);omega
 ·refine⟨g,cap,rfl,(Array.getElem?_eq_some_iff.1 hg).1,fun j u hj hu=>?_,fun o=>open_list hg⟩;have hn:i*size+j<n*size:=by
   have:size*xs.length=n*size:=hl;have h1:(i+1)*size<=xs.length*size:=Nat.mul_le_mul_right _ hi;rw[Nat.succ_mul]at h1;rw[Nat.mul_comm]at this;omega
  have:=CW hf xs i j y hy hj;rw[hu,<-htk,List.getElem?_take,if_pos hn]at this;simp[World.cell?,hg];simpa using this
def JO(b:Bool):Int:=if b then 1 else 0
def Bits(w:World)(G N lo:Nat)(f:Nat->Bool):Prop:=∃cur:Array Value,w.heap[G]?=some (.cells cur 5 (0,0))/\cur.size=N/\∀k,lo<=k->k<N->cur[k]?=some (.int .u8 (JO (f k)))
theorem Bits.at{w:World}{G N lo:Nat}{f:Nat->Bool}(h:Bits w G N lo f){k:Nat}(h1:lo<=k)(h2:k<N):w.cell? ⟨G,k,none⟩=some (.int .u8 (JO (f k))):=by
 obtain⟨cur,hg,_,hx⟩:=h;simp[World.cell?,hg,hx k h1 h2]
theorem Bits.thaw{w:World}{G N lo:Nat}{f:Nat->Bool}(h:Bits w G N lo f)(o:Nat):w.frozen? ⟨G,o,none⟩=false:=by
 obtain⟨cur,hg,_⟩:=h;simp[World.frozen?,hg]
theorem Bits.set{w:World}{G N lo:Nat}{f:Nat->Bool}(h:Bits w G N lo f)(k:Nat)(b:Bool)(n:Int)(hn:n=JO b):Bits (w.setCell ⟨G,k,none⟩ (.int .u8 n)) G N lo (fun j=>if j=k then b else f j):=by
 obtain⟨cur,hg,hs,hx⟩:=h;refine⟨cur.setIfInBounds k (.int .u8 n),Kr hg _,by simpa using hs,fun j h1 h2=>?_⟩;by_cases hj:j=k
 ·subst hj;rw[Array.getElem?_setIfInBounds_self_of_lt (by omega),hn];simp
 ·rw[Array.getElem?_setIfInBounds_ne (by omega),hx j h1 h2];simp[hj]
theorem Bits.to{w:World}{G N lo lo':Nat}{f g:Nat->Bool}(h:Bits w G N lo f)(hlo:lo<=lo')(hfg:∀k,lo'<=k->k<N->f k=g k):Bits w G N lo' g:=by
 obtain⟨cur,hg,hs,hx⟩:=h;exact⟨cur,hg,hs,fun k h1 h2=>by rw[hx k (by omega) h2,hfg k h1 h2]⟩
theorem QI(b:UInt8)(r:Nat)(h:r<8):JY b r=decide (b.toNat / 2 ^ (7-r) % 2=1):=by
 have H:∀n,n<256->∀r,r<8->(BitVec.ofNat 16 (n*256)).getMsbD r=decide (n / 2 ^ (7-r) % 2=1):=by decide +kernel
 exact H b.toNat b.toNat_lt r h
theorem Rk(w:World)(N:Nat):Bits (w.alloc (.cells (madeCells (Value.int .u8 0).cells (N*1)) 5)) w.heap.size N 0 (fun _=>false):=by
 refine⟨_,heap_alloc_new w _,by rw[size_madeCells];omega,fun k _ hk=>?_⟩;have e:(Value.int .u8 0).cells=#[.int .u8 0]:=rfl;rw[e,<-Array.getElem?_toList,toList_madeCells_one,List.getElem?_replicate,if_pos (by omega)];rfl
def ER(m:Nat->Bool)(i k:Nat):Bool:=decide (k<i)&&m k
theorem Dj{m:Nat->Bool}{i:Nat}(h:m i=true)(k:Nat):(if k=i then true else ER m i k)=ER m (i+1) k:=by
 unfold ER;by_cases hk:k=i
 ·subst hk;simp[h]
 ·rw[if_neg hk];congr 1;rw[decide_eq_decide];omega
theorem D8{m:Nat->Bool}{i:Nat}(h:m i=false)(k:Nat):ER m i k=ER m (i+1) k:=by
 unfold ER;by_cases hk:k=i
 ·subst hk;simp[h]
 ·congr 1;rw[decide_eq_decide];omega
theorem Sk{m:Nat->Bool}{i:Nat}(h:∀k,i<=k->m k=false)(k:Nat):ER m i k=m k:=by
 unfold ER;by_cases hk:k<i
 ·simp[hk]
 ·simp[hk,h k (by omega)]
theorem Mh(l:List UInt8)(k:Nat)(h:8*l.length<=k):Fv l k=false:=by
 unfold Fv;rw[List.getElem?_eq_none (by omega)]
theorem Sl(l:List UInt8)(w:World)(hl:l.length<=1000):
  Calls Tryz.prog 262 #[.string (str l)] w fun e w'=>e=.returned (.slice (some ⟨w.heap.size,0,none⟩) (8*l.length+16) (8*l.length+16))/\Bits w' w.heap.size (8*l.length+16) 0 (Fv l)/\Below w.heap.size w w':=by
 obtain⟨S,hS⟩:∃S,S=str l:=⟨_,rfl⟩;obtain⟨n,hn⟩:∃n,n=l.length:=⟨_,rfl⟩;have hsz:(S.size:Int)=(n:Int):=by rw[hS,Au,hn]
 obtain⟨i0,hi,hz0,hz1,hz2⟩:=info_parts info5;obtain⟨M,hM⟩:∃M,M=madeCells (Value.int .u8 0).cells ((8*n+16)*1):=⟨_,rfl⟩;have hmk:∀W:World,(Instr.makeSlice 199 (.int .i64 (8*(n:Int)+16)) (.int .i64 (8*(n:Int)+16))).run Tryz.prog W=.ok (.slice (some ⟨W.heap.size,0,none⟩) (8*n+16) (8*n+16)) (W.alloc (.cells M 5)):=fun W=>by
  have h:=run_make (P:=Tryz.prog) W 199 5 i0 (.int .u8 0) Tryz.underlying199 hi hz0 .i64 .i64 (8*(n:Int)+16) (8*(n:Int)+16) (by omega) (Int.le_refl _) (by rw[hz2];omega) (by omega);have e:(8*(n:Int)+16).toNat=8*n+16:=by omega
  rw[hz1,e,<-hM]at h;exact h
 have HM:Hid (Bits (w.alloc (.cells M 5)) w.heap.size (8*n+16) 0 (fun _=>false)):=by rw[hM];exact Rk w _
 have HBM:=Ab ((Below.refl w.heap.size w).alloc (Nat.le_refl _) (.cells M 5));rw[<-hS,<-hn];have HG:Hid (∀i q r:Nat,i=8*q+r->r<8->(hq:q<S.size)->Fv l i=decide ((S[q]).toNat / 2 ^ (7-r) % 2=1)):=by
  intro i q r hi hr hq;have h1:l[q]?=some (S[q]):=by subst hS;exact Ek l q hq
  unfold Fv;rw[show i / 8=q by omega,show i % 8=r by omega,h1];exact QI _ _ hr
 have HZ0:Hid (∀k,8*n<=k->Fv l k=false):=by rw[hn];exact Mh l
 have hnn:n<=1000:=by omega
 have hSn:S.size=n:=by omega
 have HSN:=Ab hSn;clear hM hS hn hl hSn;generalize Fv l=m at *;go_enter Tryz.func262,Tryz.ntmps262;go_wp2;go_loopw [4] (fun iv wr=>∃i:Nat,i<=8*n/\iv=.int .i64 i/\Bits wr w.heap.size (8*n+16) 0 (ER m i)/\Below w.heap.size w wr) (fun iv _=>8*n-(intOf iv).toNat)
 case atStart=>exact⟨0,Nat.zero_le _,rfl,(Aa HM).to (Nat.le_refl _) (fun k _ _=>by simp[ER]),Aa HBM⟩
 case round=>
  obtain⟨i,hi,rfl,hbits,hbel⟩:=hrel;by_cases hlt:i<8*n
  ·obtain⟨q,r,hqr,hr8⟩:∃q r:Nat,i=8*q+r/\r<8:=⟨i / 8,i % 8,by omega,by omega⟩;have hq:q<S.size:=by have:=Aa HSN;omega
   have hbit:=(Aa HG) i q r hqr hr8 hq;have hcl:=hbits.at (k:=i) (Nat.zero_le _) (by omega);have hth:=hbits.thaw i;have hc:=(S[q]).toNat_lt;have d1:(i:Int) / 8=(q:Int):=by omega
   have d2:(i:Int) % 8=(r:Int):=by omega
   have hqI:(q:Int)<(n:Int):=by have:=Aa HSN;omega
   have HBT:=Ab hbits;have HBL:=Ab hbel;clear hbits hbel;have HQR:=Ab hqr;clear hqr;generalize hC:S[q].toNat=C at *;have hbit':=Ab hbit;clear hbit;have hr:r=0\/r=1\/r=2\/r=3\/r=4\/r=5\/r=6\/r=7:=by omega
   rcases hr with rfl|rfl|rfl|rfl|rfl|rfl|rfl|rfl
   ·have hcmp:(((C:Int) / 128 % 2==1))=m i:=by
     rw[Aa hbit',Bool.eq_iff_iff];simp;omega
    cases hm:m i with
    |true=>
     rw[hm]at hcmp;go_wp2
     go_region
     go_wp2;go_roundw
     case rel=>exact⟨i+1,by omega,by go_num,((Aa HBT).set i true 1 rfl).to (Nat.le_refl _) (fun k _ _=>Dj hm k),((Aa HBL).setCell (by simp) _).drew⟩
     case measure=>simp[intOf];omega
    |false=>
     rw[hm]at hcmp;go_wp2
     go_region
     go_wp2;go_roundw
     case rel=>exact⟨i+1,by omega,by go_num,(Aa HBT).to (Nat.le_refl _) (fun k _ _=>D8 hm k),(Aa HBL).drew⟩
     case measure=>simp[intOf];omega
   ·have hcmp:(((C:Int) / 64 % 2==1))=m i:=by
     rw[Aa hbit',Bool.eq_iff_iff];simp;omega
    cases hm:m i with
    |true=>
     rw[hm]at hcmp;go_wp2
     go_region
     go_wp2;go_roundw
     case rel=>exact⟨i+1,by omega,by go_num,((Aa HBT).set i true 1 rfl).to (Nat.le_refl _) (fun k _ _=>Dj hm k),((Aa HBL).setCell (by simp) _).drew⟩
     case measure=>simp[intOf];omega
    |false=>
     rw[hm]at hcmp;go_wp2
     go_region
     go_wp2;go_roundw
     case rel=>exact⟨i+1,by omega,by go_num,(Aa HBT).to (Nat.le_refl _) (fun k _ _=>D8 hm k),(Aa HBL).drew⟩
     case measure=>simp[intOf];omega
   ·have hcmp:(((C:Int) / 32 % 2==1))=m i:=by
     rw[Aa hbit',Bool.eq_iff_iff];simp;omega
    cases hm:m i with
    |true=>
     rw[hm]at hcmp;go_wp2
     go_region
     go_wp2;go_roundw
     case rel=>exact⟨i+1,by omega,by go_num,((Aa HBT).set i true 1 rfl).to (Nat.le_refl _) (fun k _ _=>Dj hm k),((Aa HBL).setCell (by simp) _).drew⟩
     case measure=>simp[intOf];omega
    |false=>
     rw[hm]at hcmp;go_wp2
     go_region
     go_wp2;go_roundw
     case rel=>exact⟨i+1,by omega,by go_num,(Aa HBT).to (Nat.le_refl _) (fun k _ _=>D8 hm k),(Aa HBL).drew⟩
     case measure=>simp[intOf];omega
   ·have hcmp:(((C:Int) / 16 % 2==1))=m i:=by
     rw[Aa hbit',Bool.eq_iff_iff];simp;omega
    cases hm:m i with
    |true=>
     rw[hm]at hcmp;go_wp2
     go_region
     go_wp2;go_roundw
     case rel=>exact⟨i+1,by omega,by go_num,((Aa HBT).set i true 1 rfl).to (Nat.le_refl _) (fun k _ _=>Dj hm k),((Aa HBL).setCell (by simp) _).drew⟩
     case measure=>simp[intOf];omega
    |false=>
     rw[hm]at hcmp;go_wp2
     go_region
     go_wp2;go_roundw
     case rel=>exact⟨i+1,by omega,by go_num,(Aa HBT).to (Nat.le_refl _) (fun k _ _=>D8 hm k),(Aa HBL).drew⟩
     case measure=>simp[intOf];omega
   ·have hcmp:(((C:Int) / 8 % 2==1))=m i:=by
     rw[Aa hbit',Bool.eq_iff_iff];simp;omega
    cases hm:m i with
    |true=>
     rw[hm]at hcmp;go_wp2
     go_region
     go_wp2;go_roundw
     case rel=>exact⟨i+1,by omega,by go_num,((Aa HBT).set i true 1 rfl).to (Nat.le_refl _) (fun k _ _=>Dj hm k),((Aa HBL).setCell (by simp) _).drew⟩
     case measure=>simp[intOf];omega
    |false=>
     rw[hm]at hcmp;go_wp2
     go_region
     go_wp2;go_roundw
     case rel=>exact⟨i+1,by omega,by go_num,(Aa HBT).to (Nat.le_refl _) (fun k _ _=>D8 hm k),(Aa HBL).drew⟩
     case measure=>simp[intOf];omega
   ·have hcmp:(((C:Int) / 4 % 2==1))=m i:=by
     rw[Aa hbit',Bool.eq_iff_iff];simp;omega
    cases hm:m i with
    |true=>
     rw[hm]at hcmp;go_wp2
     go_region
     go_wp2;go_roundw
     case rel=>exact⟨i+1,by omega,by go_num,((Aa HBT).set i true 1 rfl).to (Nat.le_refl _) (fun k _ _=>Dj hm k),((Aa HBL).setCell (by simp) _).drew⟩
     case measure=>simp[intOf];omega
    |false=>
     rw[hm]at hcmp;go_wp2
     go_region
     go_wp2;go_roundw
     case rel=>exact⟨i+1,by omega,by go_num,(Aa HBT).to (Nat.le_refl _) (fun k _ _=>D8 hm k),(Aa HBL).drew⟩
     case measure=>simp[intOf];omega
   ·have hcmp:(((C:Int) / 2 % 2==1))=m i:=by
     rw[Aa hbit',Bool.eq_iff_iff];simp;omega
    cases hm:m i with
    |true=>
     rw[hm]at hcmp;go_wp2
     go_region
     go_wp2;go_roundw
     case rel=>exact⟨i+1,by omega,by go_num,((Aa HBT).set i true 1 rfl).to (Nat.le_refl _) (fun k _ _=>Dj hm k),((Aa HBL).setCell (by simp) _).drew⟩
     case measure=>simp[intOf];omega
    |false=>
     rw[hm]at hcmp;go_wp2
     go_region
     go_wp2;go_roundw
     case rel=>exact⟨i+1,by omega,by go_num,(Aa HBT).to (Nat.le_refl _) (fun k _ _=>D8 hm k),(Aa HBL).drew⟩
     case measure=>simp[intOf];omega
   ·have hcmp:(((C:Int) % 2==1))=m i:=by
     rw[Aa hbit',Bool.eq_iff_iff];simp;omega
    cases hm:m i with
    |true=>
     rw[hm]at hcmp;go_wp2
     go_region
     go_wp2;go_roundw
     case rel=>exact⟨i+1,by omega,by go_num,((Aa HBT).set i true 1 rfl).to (Nat.le_refl _) (fun k _ _=>Dj hm k),((Aa HBL).setCell (by simp) _).drew⟩
     case measure=>simp[intOf];omega
    |false=>
     rw[hm]at hcmp;go_wp2
     go_region
     go_wp2;go_roundw
     case rel=>exact⟨i+1,by omega,by go_num,(Aa HBT).to (Nat.le_refl _) (fun k _ _=>D8 hm k),(Aa HBL).drew⟩
     case measure=>simp[intOf];omega
  ·have hie:i=8*n:=by omega
   have HBT:=Ab hbits;have HBL:=Ab hbel;clear hbits hbel hi;subst hie;go_wp2
   go_ret
   exact⟨rfl,(Aa HBT).to (Nat.le_refl _) (fun k _ hk=>Sk (Aa HZ0) k),Aa HBL⟩
end Go.Proofs.YtblomippkddgiaaGreatDoor
