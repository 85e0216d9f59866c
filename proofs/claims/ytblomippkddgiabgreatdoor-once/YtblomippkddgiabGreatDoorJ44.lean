import Derived.Test.YtblomippkddgiabGreatDoorJ43
set_option maxRecDepth 100000
set_option maxHeartbeats 2000000
namespace Go.Proofs.YtblomippkddgiabGreatDoor
open Go.RowKit
variable {F:Aq}{v:List R.It}{p:Pl}{M:R.Bk}{G:R.Wd}{w:World}
theorem VR(w:World)(s g u lb dl dc k:Nat)(n:Int)(v0 v1 v2 v3 v4:Int)(xa ya:Option Addr)(xn xc yn yc:Nat)(P Q:Value->World->Prop)(hn:(k:Int)<n)(hk:k<dl)
  (d2:w.cell? ⟨g,u*3+2,none⟩=some (.slice (some ⟨lb,0,none⟩) dl dc)) (e0:w.cell? ⟨lb,k*7,none⟩=some (.int .i64 v0)) (e1:w.cell? ⟨lb,k*7+1,none⟩=some (.int .i64 v1)) (e2:w.cell? ⟨lb,k*7+2,none⟩=some (.int .i64 v2)) (e3:w.cell? ⟨lb,k*7+3,none⟩=some (.int .i64 v3)) (e4:w.cell? ⟨lb,k*7+4,none⟩=some (.int .i64 v4)) (e5:w.cell? ⟨lb,k*7+5,none⟩=some (.slice xa xn xc)) (e6:w.cell? ⟨lb,k*7+6,none⟩=some (.slice ya yn yc))
  (ah:∀wa,Below w.heap.size w wa->Calls Tryz.prog 20 #[ptr s,.int .i64 ((u:Int)+1)] wa fun e w'=>e=.returned (.tuple #[.int .i64 n,.int .i64 0])/\Below wa.heap.size wa w')
  (ad:∀wa,Below w.heap.size w wa->Calls Tryz.prog 38 #[ptr s,.int .i64 ((u:Int)+1)] wa fun e w'=>e=.returned (.pointer (some ⟨g,u*3,none⟩))/\w'=wa)
  (HA:∀wa,Below w.heap.size w wa->Calls Tryz.prog 39 #[.slice xa xn xc] wa fun e w'=>(∃ra rn rc,e=.returned (.slice ra rn rc)/\∀wb,Af (fun k=>w.heap.size<=k/\k<wa.heap.size) w' wb->P (.slice ra rn rc) wb)/\Below wa.heap.size wa w')
  (HB:∀wa,Below w.heap.size w wa->Calls Tryz.prog 39 #[.slice ya yn yc] wa fun e w'=>(∃ra rn rc,e=.returned (.slice ra rn rc)/\∀wb,Af (fun k=>w.heap.size<=k/\k<wa.heap.size) w' wb->Q (.slice ra rn rc) wb)/\Below wa.heap.size wa w'):
  Calls Tryz.prog 21 #[ptr s,.int .i64 ((u:Int)+1),.int .i64 (k:Int)] w fun e w'=>∃X Y,e=.returned (.tuple #[.agg #[.int .i64 v0,.int .i64 v1,.int .i64 v2,.int .i64 v3,.int .i64 v4,X,Y],.int .i64 0])/\P X w'/\Q Y w'/\Below w.heap.size w w':=by
 have HL:=Ac (ah (w.alloc (.cells UR.toArray 45)) ((Below.refl _ _).alloc (Nat.le_refl _) _));have HV:=Ac ad;have HA:=Ac HA;have HB:=Ac HB;have ay:=lt_of_cell d2;have ac:=lt_of_cell e0;have q0:¬(k:Int)<0:=by omega
 have q1:¬n<=(k:Int):=by omega
 have q2:(0:Int)<=(k:Int):=by omega
 have q3:(k:Int)<(dl:Int):=by omega
 have HC:Hid (∀w1,Below w.heap.size w w1->w1.cell? ⟨g,u*3+2,none⟩=some (.slice (some ⟨lb,0,none⟩) dl dc)/\w1.cell? ⟨lb,k*7,none⟩=some (.int .i64 v0)/\w1.cell? ⟨lb,k*7+1,none⟩=some (.int .i64 v1)/\w1.cell? ⟨lb,k*7+2,none⟩=some (.int .i64 v2)/\w1.cell? ⟨lb,k*7+3,none⟩=some (.int .i64 v3)/\w1.cell? ⟨lb,k*7+4,none⟩=some (.int .i64 v4)/\w1.cell? ⟨lb,k*7+5,none⟩=some (.slice xa xn xc)/\w1.cell? ⟨lb,k*7+6,none⟩=some (.slice ya yn yc)):=fun w1 hb=>
  ⟨(hb.cell (p:=⟨g,_,none⟩) ay).trans d2,(hb.cell (p:=⟨lb,_,none⟩) ac).trans e0,(hb.cell (p:=⟨lb,_,none⟩) ac).trans e1,(hb.cell (p:=⟨lb,_,none⟩) ac).trans e2,(hb.cell (p:=⟨lb,_,none⟩) ac).trans e3,(hb.cell (p:=⟨lb,_,none⟩) ac).trans e4,(hb.cell (p:=⟨lb,_,none⟩) ac).trans e5,(hb.cell (p:=⟨lb,_,none⟩) ac).trans e6⟩
 clear ah ad d2 e0 e1 e2 e3 e4 e5 e6;go_enter Tryz.func21,Tryz.ntmps21;go_wp2_with (first
  |(go_at_call 20;refine(Aa HL).mono ?_;rintro e w1 ⟨rfl,ap⟩;obtain⟨b1,b4⟩:=Ku ap;have aw:=lt_of_block b1;have HX:=Ac b1;have ar:=Ac b4;have am:=Ac ((Aa HV) w1 b4);obtain⟨d2,e0,e1,e2,e3,e4,e5,e6⟩:=(Aa HC) w1 b4;clear ap b4 b1)
  |(go_at_call 38;refine(Aa am).mono ?_;rintro e w2 ⟨rfl,aq⟩;rw[aq];clear aq))
 have az:w.heap.size<w1.heap.size:=aw;have af:Below w.heap.size w (w1.alloc (.cells #[.int .i64 v0,.int .i64 v1,.int .i64 v2,.int .i64 v3,.int .i64 v4,.slice xa xn xc,.slice ya yn yc] 45)):=(Aa ar).alloc (by omega) _;refine((Aa HA) _ af).mono ?_;rintro e w2 ⟨⟨ra,rn,rc,rfl,hP⟩,ab⟩;have b2:w2.heap[w1.heap.size]?=some (.cells #[.int .i64 v0,.int .i64 v1,.int .i64 v2,.int .i64 v3,.int .i64 v4,.slice xa xn xc,.slice ya yn yc] 45 (0,0)):=(ab.block _ (by simp)).trans (heap_alloc_new w1 _);have r2:=((ab.block w.heap.size (by simp;omega)).trans (Below.heap_alloc _ _ _ az)).trans (Aa HX);obtain⟨f0,f1,f2,f3,f4,f5,f6,fz,_⟩:=GR b2 (Af.refl _ w2);have aC:=lt_of_block b2;have ag:Below w.heap.size w (w2.setCell ⟨w1.heap.size,5,none⟩ (.slice ra rn rc)):=by
  have hk:Af (fun k=>k=w1.heap.size) w2 (w2.setCell ⟨w1.heap.size,5,none⟩ (.slice ra rn rc)):=Ah _;have h1:Below w.heap.size w w2:=af.trans ⟨ab.os,ab.tape,ab.output,ab.size,fun k hk=>ab.block k (by simp;omega)⟩;exact h1.trans ⟨hk.os,hk.tape,hk.output,hk.size,fun k av=>hk.block k (Nat.lt_of_lt_of_le av h1.size) (by omega)⟩
 have HP:=Ac hP;have ai:=Ac b2;have ak:=Ac r2;have al:=Ac ab.size;have aj:=Ac ((Aa HB) _ ag);have an:=Ac ag;clear hP b2 r2 ab ag af HA HB HC HV am HL HX d2 e0 e1 e2 e3 e4 e5 e6;go_wp2_with fail
 refine(Aa aj).mono ?_;rintro e w3 ⟨⟨sa,sn,sc,rfl,hQ⟩,aa⟩;have ao:w.heap.size≠w1.heap.size:=by omega
 have aB:=aa.size;simp only[World.size_setCell]at aB;have b3:w3.heap[w1.heap.size]?=some (.cells #[.int .i64 v0,.int .i64 v1,.int .i64 v2,.int .i64 v3,.int .i64 v4,.slice ra rn rc,.slice ya yn yc] 45 (0,0)):=(aa.block _ (by simp;omega)).trans (Ai (cs:=[.int .i64 v0,.int .i64 v1,.int .i64 v2,.int .i64 v3,.int .i64 v4,.slice xa xn xc,.slice ya yn yc]) (off:=5) (Aa ai) _);have r3:=((aa.block w.heap.size (by simp;omega)).trans (Below.heap_setCell _ _ _ _ ao)).trans (Aa ak);have r4:=(Below.heap_setCell w3 ⟨w1.heap.size,6,none⟩ (.slice sa sn sc) w.heap.size ao).trans r3;clear f0 f1 f2 f3 f4 f5 f6 fz;obtain⟨f0,f1,f2,f3,f4,f5,f6,fz,_⟩:=GR b3 (Af.refl _ w3);obtain⟨g0,g1,g2,g3,g4,g5,g6,gz,_⟩:=GR r3 (Af.refl _ w3);have aD:=lt_of_block b3;have ax:=lt_of_block r3;have ae:Af (fun k=>k=w1.heap.size) w3 (w3.setCell ⟨w1.heap.size,6,none⟩ (.slice sa sn sc)):=Ah _;have HF:Hid (∀W,Af (fun k=>k=w.heap.size) (w3.setCell ⟨w1.heap.size,6,none⟩ (.slice sa sn sc)) W->P (.slice ra rn rc) W/\Q (.slice sa sn sc) W/\Below w.heap.size w W):=fun W hW=>by
  have k3:Af (fun k=>k=w.heap.size\/k=w1.heap.size) w3 W:=(ae.mono (fun k _ e=>Or.inr e)).trans (hW.mono (fun k _ e=>Or.inl e));have aA:=Aa al;simp only[World.size_alloc]at aA;refine⟨(Aa HP) W ?_,hQ W (k3.mono (fun k _ e=>by simp only[World.size_setCell];omega)),?_⟩
  ·have ka:Af (fun k=>w.heap.size<=k/\k<(w1.alloc (.cells #[.int .i64 v0,.int .i64 v1,.int .i64 v2,.int .i64 v3,.int .i64 v4,.slice xa xn xc,.slice ya yn yc] 45)).heap.size) w2 (w2.setCell ⟨w1.heap.size,5,none⟩ (.slice ra rn rc)):=(Ah _).mono (fun k _ e=>by simp only[World.size_alloc];have:k=w1.heap.size:=e;omega);exact(ka.trans (Af.Al aa _)).trans (k3.mono (fun k _ e=>by simp only[World.size_alloc];omega))
  ·have h3:Below w.heap.size w w3:=(Aa an).trans ⟨aa.os,aa.tape,aa.output,aa.size,fun k hk=>aa.block k (by simp;omega)⟩;exact h3.trans ⟨k3.os,k3.tape,k3.output,k3.size,fun k hk=>k3.block k (by omega) (by omega)⟩
 have au:=Ac r4;clear r4 b3 r3 hQ aa aj an ae HP ai ak al;go_wp2;refine AQ _ (IG (Aa au) (.int .i64 v0) (.int .i64 v1) (.int .i64 v2) (.int .i64 v3) (.int .i64 v4) (.slice ra rn rc) (.slice sa sn sc)) ?_;rintro W ⟨m0,m1,m2,m3,m4,m5,m6,mz,mk⟩;have HK:=Ac mk;clear mk;go_wp2
 (try simp only[Exit.inBlock,Exit.then])
 refine bodyPost_ret (by simp[results,Tryz.results21,go_sem,m0,m1,m2,m3,m4,m5,m6];try rfl) rfl ?_;obtain⟨z1,z2,z3⟩:=(Aa HF) W (Aa HK);exact⟨_,_,rfl,z1,z2,z3⟩
theorem Vd{A B n size:Nat}{e:TypeId}{v:Value}{xs:List Value}(h:w.ownsRow A e size v n xs)(hB:B<=A):w.ownsRow B e size v n xs:=by
 refine⟨h.1,?_⟩;rcases h.2 with q|⟨g,cap,aa,q1,q2,q3⟩
 ·exact Or.inl q
 ·exact Or.inr ⟨g,cap,aa,q1,Nat.le_trans hB q2,q3⟩
theorem Mq:∀(ks:List Bool) (v:List V.It),ks.length=v.length->v.length<=(V.bytesOf ks v).length
 |[],[],_=>Nat.le_refl _
 |[],_ :: _,h=>by simp at h
 |_ :: _,[],h=>by simp at h
 |k :: ks,x :: v,h=>by
  have ih:=Mq ks v (by simpa using h);have h2:1<=(V.EE k x).length:=by
   cases k
   ·exact Nat.le_of_ble_eq_true rfl
   ·simp[V.EE,V.A5]
  simp only[V.bytesOf,List.length_append,List.length_cons];omega
theorem aaD{g:Nat->Nat}{f p:Nat}{v:List V.It}{ks:List Bool}(he:V.CF g f p v=some (ks,[])):ks.length=v.length:=by
 obtain⟨h1,h4⟩:=V.Gp _ _ _ _ _ _ he;have:=congrArg List.length h1;rw[List.length_drop]at this;simp at this;omega
theorem GL{t:ByteArray}{bs:List UInt8}(h:R.Ba t v=some bs):v.length<=70:=by
 obtain⟨hc,ks,he,h1,h2⟩:=V.Ef (R.DF h);have:=Mq ks v (aaD he);omega
def Sc(o:Option R.En)(w:World)(e:Ending)(w':World):Prop:=(match o with
 |none=>e=.returned (.tuple #[.agg UR.toArray,.int .i64 9])
 |some x=>∃X Y,e=.returned (.tuple #[.agg #[.int .i64 x.client,.int .i64 x.Ae,.int .i64 x.line,.int .i64 x.seq,.int .i64 x.proc,X,Y],.int .i64 0])/\V.Row w' w.heap.size X x.arg/\V.Row w' w.heap.size Y x.result)/\Below w.heap.size w w'
theorem Og{xa:Option Addr}{xn xc:Nat}(hn:v.length<=1000)(h:∀wa,Below w.heap.size w wa->BF wa F (.slice xa xn xc) v):
  ∀wa,Below w.heap.size w wa->Calls Tryz.prog 39 #[.slice xa xn xc] wa fun e w'=>(∃ra rn rc,e=.returned (.slice ra rn rc)/\∀wb,Af (fun k=>w.heap.size<=k/\k<wa.heap.size) w' wb->V.Row wb w.heap.size (.slice ra rn rc) v)/\Below wa.heap.size wa w':=by
 intro wa hb;refine(Qp (h wa hb) hn).mono ?_;rintro e w' ⟨⟨O,rfl,hR,_⟩,aa⟩;obtain⟨ra,rn,rc,rfl⟩:=Ar hR;refine⟨⟨ra,rn,rc,rfl,fun wb hk=>?_⟩,aa⟩;have:=hk.row hR (fun j hj q=>by have:=(World.ownsRow.lt hR j hj).1;omega);exact Vd this hb.size
theorem LW.acF(h:LW p F G w)(hI:R.Inv M G)(u k:Int):
  Calls Tryz.prog 21 #[ptr p.s,.int .i64 u,.int .i64 k] w (Sc (R.DJ G u k) w):=by
 have hL:∀wa,Below w.heap.size w wa->Calls Tryz.prog 20 #[ptr p.s,.int .i64 u] wa fun e w'=>e=.returned (.tuple #[.int .i64 (R.I4 G u).1,.int .i64 (R.I4 G u).2])/\Below wa.heap.size wa w':=fun wa hb=>(h.below hb).aed u
 have no:((R.I4 G u).2≠0\/k<0\/(R.I4 G u).1<=k)->R.DJ G u k=none->Calls Tryz.prog 21 #[ptr p.s,.int .i64 u,.int .i64 k] w (Sc (R.DJ G u k) w):=fun h1 h2=>by
  rw[h2];exact Yc w p.s u k _ _ hL h1
 have ax:p.t.zs.length=G.Ab.length:=by rw[<-h.BN.zs,List.length_map]
 have ak:=h.wf.sv;by_cases hm:R.Ip G u
 ·by_cases hk:0<=k/\k<((R.Ho G u).length:Int)
  ·have au:=hm;unfold R.Ip at au;obtain⟨n,rfl⟩:∃n:Nat,u=(n:Int)+1:=⟨(u-1).toNat,by omega⟩;obtain⟨j,rfl⟩:∃j:Nat,k=(j:Int):=⟨k.toNat,by omega⟩;have hn:n<G.Ab.length:=by omega
   have hs:G.Ab[n]?=some G.Ab[n]:=List.getElem?_eq_getElem hn;obtain⟨z,hz,ai⟩:=KV h.BN.zs hs;obtain⟨g,cap,aj,hK,hg,aw,k0,k1,k2,_⟩:=h.BN.Jt hz;obtain⟨es,he,ag,ad⟩:=(h.BN.each z (List.mem_of_getElem? hz)).log;have af:R.Ho G ((n:Int)+1)=es.map (·.1):=by
    unfold R.Ho;rw[show ((n:Int)+1-1).toNat=n by omega,hs,<-ai,he];rfl
   rw[af,List.length_map]at hk;have ae:j<es.length:=by omega
   have ac:es[j]?=some es[j]:=List.getElem?_eq_getElem ae;have ab:es[j]∈es:=List.getElem_mem ae;generalize es[j]=y at ac ab;have an:R.DJ G ((n:Int)+1) (j:Int)=some y.1:=by
    unfold R.DJ;rw[if_pos ⟨hm,by omega⟩,af];simp[ac]
   have aq:R.I4 G ((n:Int)+1)=((es.length:Int),0):=by
    unfold R.I4;rw[if_pos hm,af,List.length_map]
   rw[aq]at hL;rw[an];have ap:y.1∈G.Ab[n].log:=by
    rw[<-ai,<-he];exact List.mem_map_of_mem ab
   obtain⟨d,rb,d1,d2,d3,d4,d5,d6⟩:=((hI.lg n _ hs).each y.1 ap).some;have f1:y.1.arg.length<=1000:=by
    rw[d4];have:=GL (hI.bk _ _ d1).1.bs;omega
   have f2:y.1.result.length<=1000:=by
    have:=GL d5;omega
   rcases ag.2 with ⟨_,h0⟩|⟨lb,dc,ah,am,_,ao,al,_,_,av⟩
   ·omega
   ·have q:∀c,c<7->ah[j*7+c]?=(EX y)[c]?:=fun c hc=>by
     rw[<-E7 Ti es j c y ac hc,<-av,List.getElem?_take,if_pos (by omega)];simp
    have cl:∀c v,c<7->(EX y)[c]?=some v->w.cell? ⟨lb,j*7+c,none⟩=some v:=fun c v hc hv=>by
     simp[World.cell?,ao,q c hc,hv]
    have aa:∀{X:Value} {l:List R.It},BF w F X l->∃xa xn xc,X=.slice xa xn xc:=fun hx=>by
     rcases hx with ⟨_,rfl⟩|⟨b,off,cap,aj,_,rfl,_⟩
     ·exact⟨_,_,_,rfl⟩
     ·exact⟨_,_,_,rfl⟩
    obtain⟨i1,i2⟩:=ad y ab;have e5:=cl 5 _ (by omega) rfl;have e6:=cl 6 _ (by omega) rfl;obtain⟨xa,xn,xc,hX⟩:=aa i1;obtain⟨ya,yn,yc,hY⟩:=aa i2;rw[hX]at i1 e5;rw[hY]at i2 e6;rw[am]at k2;have keep:∀{X:Value} {l:List R.It},BF w F X l->∀wa,Below w.heap.size w wa->BF wa F X l:=fun hx wa hb=>hx.keep (Af.Al hb (fun _=>False)) (fun _ _ _ _ q=>q) (fun _ q=>q)
    have h6:w.cell? ⟨p.s,6,none⟩=some (.slice (some ⟨g,0,none⟩) p.t.zs.length cap):=by
     have:=cell_of h.BN.bs 6 p.t.K rfl;rw[hK]at this;exact this
    have ar:=lt_of_cell h6;refine(VR w p.s g n lb es.length dc j (es.length:Int) y.1.client y.1.Ae y.1.line y.1.seq y.1.proc xa ya xn xc yn yc (fun X w'=>V.Row w' w.heap.size X y.1.arg) (fun X w'=>V.Row w' w.heap.size X y.1.result) (by omega) ae k2 (cl 0 _ (by omega) rfl) (cl 1 _ (by omega) rfl) (cl 2 _ (by omega) rfl) (cl 3 _ (by omega) rfl) (cl 4 _ (by omega) rfl) e5 e6 hL (fun wa hb=>Ey wa p.s g n p.t.zs.length cap ((hb.cell (p:=⟨p.s,6,none⟩) ar).trans h6) (by omega) (by omega)) (Og f1 (keep i1)) (Og f2 (keep i2))).mono ?_;rintro e w' ⟨X,Y,rfl,r1,r2,r3⟩;exact⟨⟨X,Y,rfl,r1,r2⟩,r3⟩
  ·refine no ?_ ?_
   ·right;unfold R.I4;rw[if_pos hm];simp only;omega
   ·unfold R.DJ;split
    ·rw[List.getElem?_eq_none_iff];omega
    ·rfl
 ·refine no ?_ ?_
  ·left;unfold R.I4;rw[if_neg hm];simp
  ·unfold R.DJ;rw[if_neg (fun q=>hm q.1)]
theorem LW.entry(h:LW p F G w)(hI:R.Inv M G)(u k:Int):
  Calls Tryz.prog 10 #[ptr p.x,.int .i64 u,.int .i64 k] w (Sc (R.DJ G u k) w):=by
 have x1:w.cell? ⟨p.x,1,none⟩=some (ptr p.s):=cell_of h.bx 1 _ rfl;have ad:=lt_of_cell x1;have HL:=Ac ((h.below ((Below.refl _ _).alloc (Nat.le_refl _) (.cells UR.toArray 45))).acF hI u k);generalize R.DJ G u k=Z at *;clear h hI;cases Z with
 |none=>
  have ab:Hid (Calls Tryz.prog 21 #[ptr p.s,.int .i64 u,.int .i64 k] (w.alloc (.cells UR.toArray 45)) fun e w'=>e=.returned (.tuple #[.agg #[.int .i64 0,.int .i64 0,.int .i64 0,.int .i64 0,.int .i64 0,.slice none 0 0,.slice none 0 0],.int .i64 9])/\Below (w.alloc (.cells UR.toArray 45)).heap.size (w.alloc (.cells UR.toArray 45)) w'):=Aa HL;clear HL;go_enter Tryz.func10,Tryz.ntmps10;go_wp2_with (go_at_call 21;refine(Aa ab).mono ?_;rintro e w1 ⟨rfl,aa⟩;obtain⟨b1,b4⟩:=Ku aa;obtain⟨f0,f1,f2,f3,f4,f5,f6,fz,_⟩:=GR b1 (Af.refl _ w1);have ac:=lt_of_block b1;have HX:=Ac b1;have HB:=Ac b4;clear aa b4 b1)
  refine AQ _ (IG (Aa HX) (.int .i64 0) (.int .i64 0) (.int .i64 0) (.int .i64 0) (.int .i64 0) (.slice none 0 0) (.slice none 0 0)) ?_;rintro W ⟨g0,g1,g2,g3,g4,g5,g6,gz,gk⟩;have HK:=Ac gk;clear gk;go_wp2
  (try simp only[Exit.inBlock,Exit.then])
  refine bodyPost_ret (by simp[results,Tryz.results10,go_sem,g0,g1,g2,g3,g4,g5,g6];try rfl) rfl ?_;exact⟨rfl,Gh (Aa HB) (Aa HK)⟩
 |some x=>
  have ab:Hid (Calls Tryz.prog 21 #[ptr p.s,.int .i64 u,.int .i64 k] (w.alloc (.cells UR.toArray 45)) fun e w'=>(∃xa xn xc ya yn yc,e=.returned (.tuple #[.agg #[.int .i64 x.client,.int .i64 x.Ae,.int .i64 x.line,.int .i64 x.seq,.int .i64 x.proc,.slice xa xn xc,.slice ya yn yc],.int .i64 0])/\V.Row w' (w.heap.size+1) (.slice xa xn xc) x.arg/\V.Row w' (w.heap.size+1) (.slice ya yn yc) x.result)/\Below (w.alloc (.cells UR.toArray 45)).heap.size (w.alloc (.cells UR.toArray 45)) w'):=by
   refine(Aa HL).mono ?_;rintro e w' ⟨⟨X,Y,rfl,r1,r2⟩,hb⟩;rw[show (w.alloc (.cells UR.toArray 45)).heap.size=w.heap.size+1 by simp]at r1 r2;obtain⟨xa,xn,xc,rfl⟩:=Ar r1;obtain⟨ya,yn,yc,rfl⟩:=Ar r2;exact⟨⟨xa,xn,xc,ya,yn,yc,rfl,r1,r2⟩,hb⟩
  clear HL;go_enter Tryz.func10,Tryz.ntmps10;go_wp2_with (go_at_call 21;refine(Aa ab).mono ?_;rintro e w1 ⟨⟨xa,xn,xc,ya,yn,yc,rfl,r1,r2⟩,aa⟩;obtain⟨b1,b4⟩:=Ku aa;obtain⟨f0,f1,f2,f3,f4,f5,f6,fz,_⟩:=GR b1 (Af.refl _ w1);have ac:=lt_of_block b1;have HX:=Ac b1;have HB:=Ac b4;have R1:=Ac r1;have R2:=Ac r2;clear aa b4 b1 r1 r2)
  refine AQ _ (IG (Aa HX) (.int .i64 x.client) (.int .i64 x.Ae) (.int .i64 x.line) (.int .i64 x.seq) (.int .i64 x.proc) (.slice xa xn xc) (.slice ya yn yc)) ?_;rintro W ⟨g0,g1,g2,g3,g4,g5,g6,gz,gk⟩;have HK:=Ac gk;have HR:Hid (∀{O:Value} {v:List V.It},V.Row w1 (w.heap.size+1) O v->V.Row W w.heap.size O v):=fun {O v} hR=>Vd ((Aa HK).row hR (fun j hj e=>by have:=(World.ownsRow.lt hR j hj).1;omega)) (by omega)
  clear gk;go_wp2
  (try simp only[Exit.inBlock,Exit.then])
  refine bodyPost_ret (by simp[results,Tryz.results10,go_sem,g0,g1,g2,g3,g4,g5,g6];try rfl) rfl ?_;exact⟨⟨_,_,rfl,(Aa HR) (Aa R1),(Aa HR) (Aa R2)⟩,Gh (Aa HB) (Aa HK)⟩
theorem Rz(w:World)(a b:Option Addr)(c d:Nat):Calls Tryz.prog 13 #[.slice a 0 c,.slice b 0 d] w fun e w'=>e=.returned (.bool true)/\Below w.heap.size w w':=by
 go_enter Tryz.func13,Tryz.ntmps13;go_wp2;go_loopw [5] (fun iv wr=>iv=.int .i64 0/\Below w.heap.size w wr) (fun _ _=>0)
 case atStart=>exact⟨rfl,Below.refl _ _⟩
 case round=>
  obtain⟨rfl,hb⟩:=hrel;have HB:=Ac hb;clear hb;go_wp2;go_returns;exact⟨rfl,Aa HB⟩
theorem WJ(w:World)(l:List V.It)(n ab ao ac bb bo bc:Nat)(hn:l.length=n)(ad:n<=1000000)(hA:∀j x,l[j]?=some x->w.cell? ⟨ab,ao+j*2,none⟩=some (.int .i64 x.1)/\w.cell? ⟨ab,ao+j*2+1,none⟩=some (.string x.2))(hB:∀j x,l[j]?=some x->w.cell? ⟨bb,bo+j*2,none⟩=some (.int .i64 x.1)/\w.cell? ⟨bb,bo+j*2+1,none⟩=some (.string x.2)):
  Calls Tryz.prog 13 #[.slice (some ⟨ab,ao,none⟩) n ac,.slice (some ⟨bb,bo,none⟩) n bc] w fun e w'=>e=.returned (.bool true)/\Below w.heap.size w w':=by
 have HA:Hid (∀j x wr,Below w.heap.size w wr->l[j]?=some x->(wr.cell? ⟨ab,ao+j*2,none⟩=some (.int .i64 x.1)/\wr.cell? ⟨ab,ao+j*2+1,none⟩=some (.string x.2))/\(wr.cell? ⟨bb,bo+j*2,none⟩=some (.int .i64 x.1)/\wr.cell? ⟨bb,bo+j*2+1,none⟩=some (.string x.2))):=fun j x wr hb hx=>
  ⟨⟨(hb.cell (p:=⟨ab,_,none⟩) (lt_of_cell (hA j x hx).1)).trans (hA j x hx).1,(hb.cell (p:=⟨ab,_,none⟩) (lt_of_cell (hA j x hx).1)).trans (hA j x hx).2⟩,(hb.cell (p:=⟨bb,_,none⟩) (lt_of_cell (hB j x hx).1)).trans (hB j x hx).1,(hb.cell (p:=⟨bb,_,none⟩) (lt_of_cell (hB j x hx).1)).trans (hB j x hx).2⟩
 clear hA hB;have HN:=Ac hn;clear hn;go_enter Tryz.func13,Tryz.ntmps13;go_wp2;go_loopw [5] (fun iv wr=>∃i:Nat,i<=n/\iv=.int .i64 i/\Below w.heap.size w wr) (fun iv _=>n-(intOf iv).toNat)
 case atStart=>exact⟨0,Nat.zero_le _,rfl,Below.refl _ _⟩
 case round=>
  obtain⟨i,hi,rfl,hb⟩:=hrel;by_cases aa:i<n
  ·have hx:l[i]?=some (l[i]'(by have:=Aa HN;omega)):=List.getElem?_eq_getElem _;generalize l[i]'(by have:=Aa HN;omega)=x at hx;obtain⟨x1,x2⟩:=x;obtain⟨⟨a0,a1⟩,b0,b1⟩:=(Aa HA) i (x1,x2) wr hb hx;simp only at a0 a1 b0 b1;have q1:(0:Int)<=(i:Int):=by omega
   have q3:IntKind.i64.wrap ((i:Int)+1)=(i:Int)+1:=by rw[IntKind.wrap_i64];omega
   have q2:(i:Int)<(n:Int):=by omega
   have HB:=Ac (fun k=>below_drewN hb k);have HI:=Ac hi;clear hb hx hi;go_wp2_with fail
   go_quiet (fail);go_wp2;go_roundw
   case rel=>exact⟨i+1,by omega,by go_num,(Aa HB) _⟩
   case measure=>simp[intOf];omega
  ·obtain rfl:i=n:=by omega
   have HB:=Ac hb;clear hb hi;go_wp2;go_returns;exact⟨rfl,Aa HB⟩
theorem RA(w:World)(A B:Value)(l:List V.It)(hA:V.Items w A l)(hB:V.Items w B l)(hl:l.length<=1000):Calls Tryz.prog 13 #[A,B] w fun e w'=>e=.returned (.bool true)/\Below w.heap.size w w':=by
 obtain⟨a,c,rfl,_,hA⟩:=hA;obtain⟨b,d,rfl,_,hB⟩:=hB;rcases hA with rfl|⟨ab,ao,rfl,_,hA⟩
 ·exact Rz w a b c d
 ·rcases hB with rfl|⟨bb,bo,rfl,_,hB⟩
  ·exact Rz w _ b c d
  ·exact WJ w l l.length ab ao c bb bo d rfl (by omega) hA hB
end Go.Proofs.YtblomippkddgiabGreatDoor
