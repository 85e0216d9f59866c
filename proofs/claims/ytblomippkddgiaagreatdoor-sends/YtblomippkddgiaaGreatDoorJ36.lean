import Derived.Test.YtblomippkddgiaaGreatDoorJ35
set_option maxRecDepth 100000
set_option maxHeartbeats 2000000
namespace Go.Proofs.YtblomippkddgiaaGreatDoor
open Go.RowKit
theorem RW.Ya{x:Nat}{v:RV}{F:Ag}{G:R.Wd}{w:World}(h:RW x v F G w){i k u:Nat}{c:R.Cl}{l:R.Ln}{s:R.Sv}(hc:G.Ad[i]?=some c)(hl:c.lines[k]?=some l)(hs:G.Ac[u]?=some s)(hm:((u:Int)+1)∈c.bound)(hbl:c.bound.length<=9000000000000):∃g cap gB cb gV cV z zl,VP x v G w i c g cap z zl/\KA w x g G.Ad.length cap i k c.lines.length gB c.bound.length cb gV G.Ac.length cV z.2.lb u (some ⟨gB,0,none⟩) c.bound s.kind G.c.Al G.c.tries l:=by
 obtain⟨g,cap,z,zl,hA⟩:=h.at hc;have hi:=(List.getElem?_eq_some_iff.1 hc).1;have hk:=(List.getElem?_eq_some_iff.1 hl).1;have hu:=(List.getElem?_eq_some_iff.1 hs).1;have hln:=(h.wf.cl i c hc).lines;have hrowB:=h.bound i z hA.hz;rw[hA.hc]at hrowB;obtain⟨gB,cb,hB⟩:∃gB cb,z.2.bv=.slice (some ⟨gB,0,none⟩) c.bound.length cb:=by
  rcases hrowB.2 with ⟨_,h0⟩|⟨g,cap,cur,hv,_⟩
  ·have:c.bound=[]:=List.eq_nil_of_length_eq_zero h0;rw[this]at hm;cases hm
  ·exact⟨g,cap,hv⟩
 have hzl:v.zs.length=G.Ac.length:=by rw[<-h.zs,List.length_map]
 obtain⟨zs,hzs,hzs1⟩:=Ei h.zs hs;obtain⟨gV,cV,hV,_,hvcell,_⟩:=DU F6 (by omega) h.C5 hzs;rw[hzl]at hV;rw[hB]at hrowB;have vk:w.cell? ⟨gV,u*3,none⟩=some (.int .i64 s.kind):=by
  have:=hvcell 0 (.int .i64 zs.1.kind) (by omega) rfl;rw[show zs.1=s from hzs1]at this;exact this
 have hc1:=hA.c1;rw[hB]at hc1;have hC:∃cur,w.heap[g]?=some (.cells cur 232 (0,0)):=C4 h.cl (by rw[hA.hC];rfl);obtain⟨curC,hcC⟩:=hC;exact⟨g,cap,gB,cb,gV,cV,z,zl,hA,⟨hi,hk,rfl,hbl,cell_of h.bx 1 _ (by rw[hln];rfl),cell_of h.bx 2 _ rfl,cell_of h.bx 3 _ rfl,cell_of h.bx 7 _ (by rw[<-hV];rfl),hA.x9,hc1,hA.c2,fun j y hy=>⟨rfl,EZ hrowB (He hy)⟩,hu,h.wf.sv,vk,hA.cells hl,fun o=>open_list hA.lb,hm,⟨AO hA.lb h.bx (by decide),AO hA.lb hcC (by decide)⟩⟩⟩
theorem RW.call{x:Nat}{v:RV}{F:Ag}{G:R.Wd}{w:World}(h:RW x v F G w)(cl li uid pr:Int)(X:Value)(arg:List V.It)(hI:V.Items w X arg)(hn:arg.length<=9000000000000)(hbl:∀c∈G.Ad,c.bound.length<=9000000000000):
  Calls Tryz.prog 163 #[Av x,.int .i64 cl,.int .i64 li,.int .i64 uid,.int .i64 pr,X] w fun e w'=>e=.returned (.tuple #[.int .i64 (R.Bf G cl li uid pr arg).1.1,.int .i64 (R.Bf G cl li uid pr arg).1.2])/\∃v' F',RW x v' F' (R.Bf G cl li uid pr arg).2 w'/\Ah F F' w w':=by
 have hwf:=h.wf;obtain⟨a9,cap9,x9⟩:∃a cap,w.cell? ⟨x,9,none⟩=some (.slice a G.Ad.length cap):=by
  obtain⟨a,cap,hC⟩:=AR h.cl;have hlen:v.zc.length=G.Ad.length:=by rw[<-h.zc,List.length_map]
  rw[hlen]at hC;exact⟨a,cap,cell_of h.bx 9 _ (by rw[<-hC];rfl)⟩
 have x1:w.cell? ⟨x,1,none⟩=some (.int .i64 G.c.lines):=cell_of h.bx 1 _ rfl;have same:∀{e0:Int},Calls Tryz.prog 163 #[Av x,.int .i64 cl,.int .i64 li,.int .i64 uid,.int .i64 pr,X] w (fun e w'=>e=.returned (.tuple #[.int .i64 0,.int .i64 e0])/\w'=w)->Calls Tryz.prog 163 #[Av x,.int .i64 cl,.int .i64 li,.int .i64 uid,.int .i64 pr,X] w fun e w'=>e=.returned (.tuple #[.int .i64 0,.int .i64 e0])/\∃v' F',RW x v' F' G w'/\Ah F F' w w':=fun hc=>hc.mono (by
  rintro e w' ⟨rfl,rfl⟩;exact⟨rfl,v,F,h,Ah.refl F _⟩)
 have same2:∀{e0:Int},Calls Tryz.prog 163 #[Av x,.int .i64 cl,.int .i64 li,.int .i64 uid,.int .i64 pr,X] w (fun e w'=>e=.returned (.tuple #[.int .i64 0,.int .i64 e0])/\Below w.heap.size w w')->Calls Tryz.prog 163 #[Av x,.int .i64 cl,.int .i64 li,.int .i64 uid,.int .i64 pr,X] w fun e w'=>e=.returned (.tuple #[.int .i64 0,.int .i64 e0])/\∃v' F',RW x v' F' G w'/\Ah F F' w w':=fun hc=>hc.mono (by
  rintro e w' ⟨rfl,hb⟩;exact⟨rfl,v,F,h.below hb,Ah.Aq F hb⟩)
 unfold R.Bf;by_cases h1:cl<0\/(G.Ad.length:Int)<=cl
 ·rw[if_pos h1];exact same (K9 w x a9 _ cap9 cl li uid pr X x9 h1)
 rw[if_neg h1];by_cases h2:li<0\/G.c.lines<=li
 ·rw[if_pos h2];exact same (OA w x a9 _ cap9 cl li uid pr _ X x1 x9 (by omega) (by omega) h2)
 rw[if_neg h2];obtain⟨i,rfl⟩:∃i:Nat,cl=(i:Int):=⟨cl.toNat,by omega⟩;obtain⟨k,rfl⟩:∃k:Nat,li=(k:Int):=⟨li.toNat,by omega⟩;obtain⟨c,hc⟩:∃c,G.Ad[i]?=some c:=⟨_,List.getElem?_eq_getElem (by omega)⟩;have hln:=(hwf.cl i c hc).lines;obtain⟨l,hl⟩:∃l,c.lines[k]?=some l:=⟨_,List.getElem?_eq_getElem (by omega)⟩;have hb9:=hbl c (List.mem_of_getElem? hc);simp only[Int.toNat_natCast,hc,Option.map_some,Option.getD_some];by_cases h3:uid∈c.bound
 ·rw[if_neg (by simpa using h3)];have hur:=(hwf.cl i c hc).bound uid h3;obtain⟨u,rfl⟩:∃u:Nat,uid=(u:Int)+1:=⟨(uid-1).toNat,by omega⟩;obtain⟨s,hs⟩:∃s,G.Ac[u]?=some s:=⟨_,List.getElem?_eq_getElem (by omega)⟩;have eu:((u:Int)+1-1).toNat=u:=by omega
  simp only[eu,hs,Option.map_some,Option.getD_some];have hsk:=hwf.Lr s (List.mem_of_getElem? hs);obtain⟨g,cap,gB,cb,gV,cV,z,zl,hA,hAt⟩:=h.Ya hc hl hs h3 hb9;have H154:=fun w=>Xb s.kind pr w
  rcases Sj s.kind pr hsk with ⟨g1,g2⟩|⟨g1,g2,g3,g4,g5⟩
  ·rw[g1];unfold Cb at H154;rw[g2]at H154;exact same2 (Rz w hAt pr X 16 (by decide) _ _ (Ab fun w=>(H154 w).mono (by
    rintro e w' ⟨rfl,rfl⟩;exact⟨rfl,Below.refl _ _⟩)))
  ·rw[g1];unfold Cb at H154;rw[g2]at H154;have HF:=V.RJ (Ho s.kind pr) g4 X arg w hI hn;simp only;rw[KH g4 g5,R.Bc hc hl];cases he:V.C8 (Ho s.kind pr) arg with
   |none=>
    rw[he]at HF;exact same2 (Ha w hAt pr X 4 false _ _ (Ab H154) (Ab HF) (Or.inl ⟨rfl,rfl⟩))
   |some out=>
    rw[he]at HF;simp only;by_cases h4:l.state=1
    ·rw[if_pos h4];exact same2 (Ha w hAt pr X 17 true _ _ (Ab H154) (Ab HF) (Or.inr (Or.inl ⟨rfl,h4,rfl⟩)))
    rw[if_neg h4];by_cases h5:l.seq=999
    ·rw[if_pos h5];exact same2 (Ha w hAt pr X 11 true _ _ (Ab H154) (Ab HF) (Or.inr (Or.inr ⟨rfl,by simpa using h4,h5,rfl⟩)))
    rw[if_neg h5];have hlo:=(hwf.cl i c hc).line k l hl;have hol:=g5 arg out he;have hcf:=hwf.cf;unfold R.Cj at hcf;have hsv:=hwf.sv;have hul:=(List.getElem?_eq_some_iff.1 hs).1;have hkl:=(List.getElem?_eq_some_iff.1 hl).1;obtain⟨hy,_,_⟩:=hA.line hl;have hml:(AF pr++out).length=2+out.length:=by simp[AF];omega
    have hok:R.Nc ⟨l.seq+1,1,[],(u:Int)+1,Hq s.kind pr,AF pr++out,0,[],0,G.c.Al,G.c.tries⟩:=by
     have:=hlo.seq;refine⟨by simp only;omega,fun _=>⟨by simp only;omega,by simp only;omega,by simp only;omega,⟨by simp,?_⟩,by simp only;omega,by simp only;omega⟩⟩;simp only;unfold R.Ak;omega
    refine(RA w hAt pr X (Ho s.kind pr) (Hq s.kind pr) (AF pr) out (fun w'=>∃v' F',RW x v' F' (R.A9 (R.Ar G i k ⟨l.seq+1,1,[],(u:Int)+1,Hq s.kind pr,AF pr++out,0,[],0,G.c.Al,G.c.tries⟩) i k false) w'/\Ah F F' w w') (by simpa using h4) (by simpa using h5) hlo.seq (by have:(AF pr).length=2:=rfl;omega) (Ab H154) (Ab HF) (Ab fun w=>Jq pr w (by omega) (by omega)) (Ab fun W hb=>V.Oz (Ho s.kind pr) g4 X arg W (hI.below hb) hn he) (Ab fun W hb=>?_)).mono ?_
    ·have hW:=h.below hb;obtain⟨g',cap',z',zl',hA'⟩:=hW.at hc;have ez:z'=z:=Option.some.inj (hA'.hz.symm.trans hA.hz);subst ez;obtain⟨hy',_,_⟩:=hA'.line hl;have hlbw:z'.2.lb<w.heap.size:=(Array.getElem?_eq_some_iff.1 hA.lb).1;obtain⟨v2,F2,t1,t2⟩:=hW.GG (k:=k) hc hA' hok rfl (MO _) (O9 _ hA'.lb hy');have hc3:(R.Ar G i k ⟨l.seq+1,1,[],(u:Int)+1,Hq s.kind pr,AF pr++out,0,[],0,G.c.Al,G.c.tries⟩).Ad[i]?=some {c with lines:=c.lines.set k ⟨l.seq+1,1,[],(u:Int)+1,Hq s.kind pr,AF pr++out,0,[],0,G.c.Al,G.c.tries⟩}:=by rw[R.BK,hc];simp
     have hl3:(c.lines.set k ⟨l.seq+1,1,[],(u:Int)+1,Hq s.kind pr,AF pr++out,0,[],0,G.c.Al,G.c.tries⟩)[k]?=some ⟨l.seq+1,1,[],(u:Int)+1,Hq s.kind pr,AF pr++out,0,[],0,G.c.Al,G.c.tries⟩:=List.getElem?_set_self hkl;refine(t1.Kn hc3 hl3 rfl (by unfold R.Ak;simp only;omega) false).mono ?_;rintro e w' ⟨rfl,v3,F3,r1,r2⟩;refine⟨rfl,⟨v3,F3,r1,(Ah.Aq F hb).trans (t2.trans r2)⟩,fun b hb1 hb2=>?_⟩;have nF:¬F b:=fun hf=>by have:=h.lt b hf;omega
     have nF2:¬F2 b:=fun hf=>by
      rcases t2.fresh b hf with q|q
      ·exact nF q
      ·omega
     rw[r2.keeps.block b (Nat.lt_of_lt_of_le hb2 t2.keeps.size) nF2,t2.keeps.block b hb2 nF]
    ·rintro e w' ⟨rfl,hp⟩;exact⟨rfl,hp⟩
 ·rw[if_pos (by simpa using h3)];obtain⟨g,cap,z,zl,hA⟩:=h.at hc;have hrowB:=h.bound i z hA.hz;rw[hA.hc]at hrowB;obtain⟨ab,cb,hB⟩:=AR hrowB;have hc1:=hA.c1;rw[hB]at hc1;rw[hB]at hrowB;refine same (OB w x g _ cap i k c.lines.length (match ab with|some a=>a.block|none=>0) c.bound.length cb ab uid pr X c.bound (List.getElem?_eq_some_iff.1 hc).1 (List.getElem?_eq_some_iff.1 hl).1 rfl hb9 (by rw[hln];exact x1) hA.x9 hc1 (fun j y hy=>?_) h3);rcases hrowB.2 with ⟨_,h0⟩|⟨g',cap',cur,hv,_⟩
  ·have:=(List.getElem?_eq_some_iff.1 hy).1;omega
  ·cases hv;exact⟨rfl,EZ hrowB (He hy)⟩
theorem Ec.ZO{N G:Nat}{t:Tw}{G':R.Wd}{W1 w2 w4 w5:World}(hb:Below W1.heap.size W1 w2)(h:Ec N t G' w2 w4)(hG1:W1.heap.size<=G)(hG2:G<w2.heap.size)(hn:¬t.A4 G)(hk:Ae (fun k=>k=G) w4 w5):Ec N t G' W1 w5:=by
 obtain⟨t',h1,h2,h3,h4⟩:=h;have hn':¬t'.A4 G:=fun q=>by
  rcases h2.fresh G q with q|q
  ·exact hn q
  ·omega
 refine⟨t',h1.elsewhere hk (fun k q e=>hn' (e ▸ q)),?_,h3,h4⟩;have h6:=(Ah.Aq t.A4 hb).trans h2;exact⟨h6.keeps.andThen hk (fun i hi e=>by omega),h6.fresh⟩
theorem Ia(w W1:World)(bp X:Value)(t:Tw)(o:EM)(hk:o.kind=11)(A B:Int)(Q1 Q2 Q3 Q4:World->Prop)(hW1:(w.alloc (.cells #[ptr t.p.x,Av t.x] 109)).alloc (.cells o.cells 72)=W1)(hx:Bx w.heap.size t o W1)
  (H1:Hid (Calls Tryz.prog 148 #[o.L] W1 fun e w'=>e=.returned X/\Bx w.heap.size t o w'/\Q1 w'))
  (H2:Hid (∀w',Q1 w'->Calls Tryz.prog 31 #[ptr t.p.x,.int .i64 o.a,.int .i64 o.b,.int .i64 o.c,.int .i64 o.d,X] w' fun e w'=>e=.returned (.tuple #[.int .i64 A,.int .i64 B])/\Bx w.heap.size t o w'/\Q2 w'))
  (H3:Hid (∀w',Q2 w'->Calls Tryz.prog 163 #[Av t.x,.int .i64 o.a,.int .i64 o.b,.int .i64 o.c,.int .i64 o.d,o.L] w' fun e w'=>e=.returned (.tuple #[.int .i64 A,.int .i64 B])/\Bx w.heap.size t o w'/\Q3 w'))
  (H4:Hid (∀w',Q3 w'->Calls Tryz.prog 150 #[X,o.L] w' fun e w'=>e=.returned (.bool true)/\Q4 w')):
  Calls Tryz.prog 96 #[bp,t.val,o.val] w fun e w'=>e=.returned (.bool true)/\Q4 w':=by
 have HW1:=Ab hW1;have lw1:=lt_of_block hx.t;have lw2:=lt_of_block hx.o;have k11:(o.kind==11)=true:=by rw[hk];rfl
 have d8:W1.cell? ⟨w.heap.size+1,8,none⟩=some o.L:=cell_of hx.o 8 _ rfl;clear hW1 hx hk;go_enter Tryz.func96,Tryz.ntmps96;go_wp2_with fail
 rw[Aa HW1];refine(Aa H1).mono ?_;rintro e w2 ⟨rfl,hy,q1⟩;have l1:=lt_of_block hy.t;have l2:=lt_of_block hy.o;have e0:w2.cell? ⟨w.heap.size,0,none⟩=some (ptr t.p.x):=cell_of hy.t 0 _ rfl;have e2:w2.cell? ⟨w.heap.size+1,2,none⟩=some (.int .i64 o.a):=cell_of hy.o 2 _ rfl;have e3:w2.cell? ⟨w.heap.size+1,3,none⟩=some (.int .i64 o.b):=cell_of hy.o 3 _ rfl;have e4:w2.cell? ⟨w.heap.size+1,4,none⟩=some (.int .i64 o.c):=cell_of hy.o 4 _ rfl;have e5:w2.cell? ⟨w.heap.size+1,5,none⟩=some (.int .i64 o.d):=cell_of hy.o 5 _ rfl;have HQ:=Ab ((Aa H2) _ q1);clear hy q1 H1 H2 d8;go_wp2_with fail
 refine(Aa HQ).mono ?_;rintro e w3 ⟨rfl,hy,q2⟩;have l1:=lt_of_block hy.t;have l2:=lt_of_block hy.o;have f1:w3.cell? ⟨w.heap.size,1,none⟩=some (Av t.x):=cell_of hy.t 1 _ rfl;have f2:w3.cell? ⟨w.heap.size+1,2,none⟩=some (.int .i64 o.a):=cell_of hy.o 2 _ rfl;have f3:w3.cell? ⟨w.heap.size+1,3,none⟩=some (.int .i64 o.b):=cell_of hy.o 3 _ rfl;have f4:w3.cell? ⟨w.heap.size+1,4,none⟩=some (.int .i64 o.c):=cell_of hy.o 4 _ rfl;have f5:w3.cell? ⟨w.heap.size+1,5,none⟩=some (.int .i64 o.d):=cell_of hy.o 5 _ rfl;have f8:w3.cell? ⟨w.heap.size+1,8,none⟩=some o.L:=cell_of hy.o 8 _ rfl;have HR:=Ab ((Aa H3) _ q2);clear hy q2 HQ H3 e0 e2 e3 e4 e5;go_wp2_with fail
 refine(Aa HR).mono ?_;rintro e w4 ⟨rfl,hy,q3⟩;have l1:=lt_of_block hy.t;have l2:=lt_of_block hy.o;have g8:w4.cell? ⟨w.heap.size+1,8,none⟩=some o.L:=cell_of hy.o 8 _ rfl;have HS:=Ab ((Aa H4) _ q3);clear hy q3 HR H4 f1 f2 f3 f4 f5 f8;go_wp2_with fail
 refine(Aa HS).mono ?_;rintro e w5 ⟨rfl,q4⟩;have HQ4:=Ab q4;clear q4 HS g8;have HNUM:=Ab Dt;go_wp2_with fail
 refine((Aa HNUM) _ _).mono ?_;rintro e w6 ⟨rfl,hw6⟩;rw[hw6];clear hw6 w6;go_wp2;go_returns;exact⟨rfl,Aa HQ4⟩
theorem LG{N:Nat}{t:Tw}{w:World}(h:Ci N t w)(bp:Value)(o:EM)(hk:o.kind=11){v:List V.It}(hI:V.Items w o.L v)(hIo:v≠[]->∀b off n c,o.L=.slice (some ⟨b,off,none⟩) n c->¬t.A4 b)(hn:v.length<=9000000000000)(ht:Fu w)(hN:N<=9000000000000)(hc:LA o.c):
  Calls Tryz.prog 96 #[bp,t.val,o.val] w fun e w'=>e=.returned (.bool true)/\Ec N t (R.Bf t.G o.a o.b o.c o.d v).2 w w':=by
 obtain⟨W1,hW1,hb1,hx,hT,hoff⟩:=Dp h o;have hI1:=hI.below hb1;have ht1:=ht.below hb1;have hbd:Bd N (R.Bf t.G o.a o.b o.c o.d v).2:=Bd.call h.bd _ _ _ _ _;obtain⟨la,lc,hL,hlc,_⟩:=id hI;cases la with
 |none=>
  have hv:v=[]:=by
   obtain⟨a,c,e,_,q⟩:=hI;rcases q with q|⟨b,off,e1,_⟩
   ·exact q
   ·rw[hL,e1]at e;cases e
  subst hv;have hX:∀W,V.Items W (.slice none 0 0) []:=fun W=>⟨none,0,rfl,Nat.le_refl _,Or.inl rfl⟩
  refine(Ia w W1 bp (.slice none 0 0) t o hk (R.Bf t.G o.a o.b o.c o.d []).1.1 (R.Bf t.G o.a o.b o.c o.d []).1.2 (fun w'=>w'=W1) (fun w'=>Mid N t (R.Bf t.G o.a o.b o.c o.d []).2 W1 w') (fun w'=>Ec N t (R.Bf t.G o.a o.b o.c o.d []).2 W1 w') (fun w'=>Ec N t (R.Bf t.G o.a o.b o.c o.d []).2 W1 w') hW1 hx ?_ ?_ ?_ ?_).mono ?_
  ·rw[hL];refine(V.Ui _ _ W1).mono ?_;rintro e w' ⟨rfl,rfl⟩;exact⟨rfl,hx,rfl⟩
  ·rintro w' rfl;refine(hT.l.call ht1 o.a o.b o.c o.d hc (hX _) hn).mono ?_;rintro e w2 ⟨rfl,F',l,g⟩;have hm:=hT.Og l g;exact⟨rfl,hx.stays hm hoff,hm⟩
  ·intro w' hm;have hI2:V.Items w' o.L []:=by
    rw[hL];exact⟨none,lc,rfl,hlc,Or.inl rfl⟩
   have hy:=hx.stays hm hoff;refine(hm.r.call o.a o.b o.c o.d o.L [] hI2 hn (fun c hc=>Nat.le_trans (h.bd c hc) hN)).mono ?_;rintro e w3 ⟨rfl,h3⟩;refine⟨rfl,?_,hm.done h3 hbd⟩;obtain⟨v',E',_,g2⟩:=h3;exact⟨g2.keeps.at hy.t (fun q=>hoff _ (Nat.le_refl _) (Or.inr q)),g2.keeps.at hy.o (fun q=>hoff _ (by omega) (Or.inr q))⟩
  ·intro w' hS;rw[hL];refine(V.SZ _ _ _ w').mono ?_;rintro e w3 ⟨rfl,rfl⟩;exact⟨rfl,hS⟩
  ·rintro e w' ⟨rfl,hS⟩;exact⟨rfl,Ec.ahead hb1 hS⟩
 |some ad=>
  have hlen:∀W,Below W1.heap.size W1 W->V.Items W o.L v:=fun W hb=>hI1.below hb
  have hfo:v≠[]->∀b off n c,o.L=.slice (some ⟨b,off,none⟩) n c->¬t.F b:=fun hv b off n c e q=>hIo hv b off n c e (Or.inl q)
  have hGo:v≠[]->ad.block≠W1.heap.size:=fun hv e=>by
   obtain⟨a,c,e1,_,q⟩:=hI1;rcases q with q|⟨b,off,ea,hbl,_⟩
   ·exact hv q
   ·rw[hL,ea]at e1;injection e1 with e2;injection e2 with e2;rw[e2]at e;simp at e;omega
  refine(Ia w W1 bp (.slice (some ⟨W1.heap.size,0,none⟩) v.length (v.length+6)) t o hk (R.Bf t.G o.a o.b o.c o.d v).1.1 (R.Bf t.G o.a o.b o.c o.d v).1.2
   (fun w'=>Below W1.heap.size W1 w'/\V.CG w' W1.heap.size (v.length+6) 0 (v++List.replicate 6 V.Ca))
   (fun w'=>∃w2,Below W1.heap.size W1 w2/\W1.heap.size<w2.heap.size/\Mid N t (R.Bf t.G o.a o.b o.c o.d v).2 w2 w'/\V.CG w' W1.heap.size (v.length+6) 0 (v++List.replicate 6 V.Ca)/\V.Items w' o.L v)
   (fun w'=>∃w2,Below W1.heap.size W1 w2/\W1.heap.size<w2.heap.size/\Ec N t (R.Bf t.G o.a o.b o.c o.d v).2 w2 w'/\V.CG w' W1.heap.size (v.length+6) 0 (v++List.replicate 6 V.Ca)/\V.Items w' o.L v)
   (fun w'=>Ec N t (R.Bf t.G o.a o.b o.c o.d v).2 W1 w') hW1 hx ?_ ?_ ?_ ?_).mono ?_
  ·rw[hL]at hI1 ⊢;refine(V.Uh W1 ad lc v hI1 hn).mono ?_;rintro e w' ⟨rfl,hl,hb⟩;exact⟨rfl,⟨(hb.block _ (lt_of_block hx.t)).trans hx.t,(hb.block _ (lt_of_block hx.o)).trans hx.o⟩,hb,hl⟩
  ·rintro w' ⟨hb,hl⟩;have hT2:=hT.below hb;have hy:Bx w.heap.size t o w':=⟨(hb.block _ (lt_of_block hx.t)).trans hx.t,(hb.block _ (lt_of_block hx.o)).trans hx.o⟩;refine(hT2.l.call (ht1.below hb) o.a o.b o.c o.d hc (hl.items rfl (by omega)) hn).mono ?_;rintro e w2 ⟨rfl,F',l,g⟩;have hm:=hT2.Og l g;exact⟨rfl,hy.stays hm hoff,w',hb,hl.lt,hm,hl.keep g.keeps (fun q=>hT.off (Nat.le_refl _) (Or.inl q)),(hlen _ hb).keep g.keeps hfo⟩
  ·rintro w' ⟨w2,hb,hlt,hm,hl,hi⟩;have hy0:Bx w.heap.size t o w2:=⟨(hb.block _ (lt_of_block hx.t)).trans hx.t,(hb.block _ (lt_of_block hx.o)).trans hx.o⟩;have hy:=hy0.stays hm hoff;refine(hm.r.call o.a o.b o.c o.d o.L v hi hn (fun c hc=>Nat.le_trans (h.bd c hc) hN)).mono ?_;rintro e w3 ⟨rfl,h3⟩;have hS:=hm.done h3 hbd;obtain⟨v',E',_,g2⟩:=h3;exact⟨rfl,⟨g2.keeps.at hy.t (fun q=>hoff _ (Nat.le_refl _) (Or.inr q)),g2.keeps.at hy.o (fun q=>hoff _ (by omega) (Or.inr q))⟩,w2,hb,hlt,hS,hl.keep g2.keeps (fun q=>hT.off (Nat.le_refl _) (Or.inr q)),hi.keep g2.keeps (fun hv b off n c e q=>hIo hv b off n c e (Or.inr q))⟩
  ·rintro w' ⟨w2,hb,hlt,hS,hl,hi⟩;rw[hL]at hi ⊢;refine(V.N5 w' ad lc W1.heap.size v hn hi hGo hl).mono ?_;rintro e w3 ⟨rfl,hk3⟩;exact⟨rfl,Ec.ZO hb hS (Nat.le_refl _) hlt (hT.off (Nat.le_refl _)) hk3⟩
  ·rintro e w' ⟨rfl,hS⟩;exact⟨rfl,Ec.ahead hb1 hS⟩
end Go.Proofs.YtblomippkddgiaaGreatDoor
namespace Go.Proofs.YtblomippkddgiaaGreatDoor.V
open Go.RowKit
theorem Bb{P:Program}{ops:Array Oper}{o:Oper}{a:Act}{w:World}{K:Act->World->Prop}{Q:Exit->Act->World->Prop}{E:Prop}
  (hgd:o.guard=none) (sl x:Operand) (t:TypeId) (ho:o.op=.call {callee:=.builtin .append,args:=#[sl,x],argTypes:=#[t,t]})
  (base:Nat) (e:TypeId) (i:TypeInfo) (z:Value) (size bytes:Nat) (ht:P.underlying t=some (.slice e)) (hi:P.info? e=some i) (hz:i.zero=some z)
  (hsize:i.size=size) (hby:i.bytes=bytes) (hzs:z.cells.size=size) (hsz:0<size)
  (v:Value) (n:Nat) (xs:List Value) (hs:a.eval sl=v) (hown:w.ownsRow base e size v n xs)
  (ad:Addr) (m c:Nat) (news:List Value) (hx:a.eval x=.slice (some ad) m c) (hl:news.length=m*size) (hnews:∀j u,news[j]?=some u->w.cell? (ad.add j)=some u) (h1:∀u∈news,u.oneCell'=true)
  (h63:n+m<=maxLen) (hbytes:(n+m)*bytes<=140737488355328) (hbase:base<=w.heap.size)
  (h:∀v' w',w'.ownsRow base e size v' (n+m) (xs++news)->w.grownBy w' v.ownBlock->(v'.ownBlock=v.ownBlock\/v'.ownBlock=some w.heap.size)->K (a.put o.dst v') w'):
  if Region.wanted o (yielded ops a.tmps)=true then Oper.wp P o a w K Q else E:=by
 have hw:Region.wanted o (yielded ops a.tmps)=true:=by simp[Region.wanted,hgd]
 rw[if_pos hw];obtain⟨v',w',hr,h2,h3,_,h4⟩:=run_append_own_at (P:=P) w base t o.type e i z size bytes ht hi hz hsize hby hzs hsz v n xs hown ad m c news hl hnews h1 h63 hbytes hbase;unfold Oper.wp;simp[execOp,ho,resolve,invoke,builtin,hs,hx,hr,Result.andThen];exact h v' w' h2 h3 h4
theorem LJ(w:World)(k:Kp):∀(j:Nat) (u:Value),k.cells[j]?=some u->(w.alloc (.cells #[k.l,k.g1,k.g2,k.g3,.int .i64 k.n,.int .i64 k.x.1,.string k.x.2] 178)).cell? ((⟨w.heap.size,0,none⟩:Addr).add j)=some u:=by
 intro j u hj;rw[Addr.add_lit,Nat.zero_add,World.cell?_alloc_new w _ _ j];rw[<-hj,<-List.getElem?_toArray];rfl
theorem Yp(oa a1 a2 a3:Option Addr)(n0 n1 n2 n3 c0 c1 c2 c3 i:Nat)(x:It):∀u∈(Kp.mk (.slice oa n0 c0) (.slice a1 n1 c1) (.slice a2 n2 c2) (.slice a3 n3 c3) i x).cells,u.oneCell'=true:=by
 intro u hu;simp only[Kp.cells,List.mem_cons,List.not_mem_nil,or_false]at hu;rcases hu with rfl|rfl|rfl|rfl|rfl|rfl|rfl<;>rfl
theorem X0.drew{w0 w:World}{O:Value}{x:It}{B:Nat}{Ts:List (Value×Nat)}{wr:World}(h:X0 w0 w O x B Ts wr):X0 w0 w O x B Ts wr.drew:=⟨h.size,h.box,h.keep,h.below.drew,h.marks⟩
theorem Nz(w0 w:World)(b B:Nat)(L:List Kp)(lv:Value)(ka oa:Option Addr)(kc on oc:Nat)(x:It)(hx:x=(-1000-(L.length:Int),Iy))(hkn:L.length<=1000000000000)(hon:on<=100000)
  (hBk:Bo b L lv (.slice ka L.length kc) w) (hb0:Below w0.heap.size w0 w) (hB:B<=w.heap.size) (hBO:∀j,(Value.slice oa on oc).ownBlock=some j->B<=j)
  (hO:∀j,(Value.slice oa on oc).ownBlock=some j->(j<w.heap.size/\w0.heap.size<=j)/\j≠b/\(Value.slice ka L.length kc).ownBlock≠some j/\∀k∈L,∀t∈k.lists,t.1.ownBlock≠some j)
  (HI0:Zc w0 w (.slice oa on oc) on x 0 (w.alloc (.cells #[.int .i64 x.1,.string x.2] 106))):
  Calls Tryz.prog 154 #[.pointer (some ⟨b,1,none⟩),.slice oa on oc] w fun e w'=>e=.returned (.tuple #[])/\∃K' k,Bo b (L++[k]) lv K' w'/\Ah (fun j=>Iu b L (.slice ka L.length kc) j\/(Value.slice oa on oc).ownBlock=some j) (Iu b (L++[k]) K') w w':=by
 have HI:=Ab HI0;have HBK:=Ab hBk;have HB0:=Ab hb0;have HO:=Ab hO;have HBO:=Ab hBO;have hbl:=lt_of_block hBk.cell;have hb:w.cell? ⟨b,1,none⟩=some (.slice ka L.length kc):=by simp[World.cell?,hBk.cell]
 obtain⟨x0,x1⟩:=x;have hx0:-1000-(L.length:Int)=x0:=(Prod.mk.inj hx).1.symm;have hx1:x1=Iy:=(Prod.mk.inj hx).2;have HX1:=Ab hx1;clear HI0 hBk hO hBO hx hx1 hb0;simp only at HI;have hmk:(⟨#[109,97,114,107]⟩:ByteArray)=x1:=(Aa HX1).symm;obtain⟨kn,hkl⟩:∃kn,kn=L.length:=⟨_,rfl⟩;rw[<-hkl]at hb hx0 hkn;have HKL:=Ab hkl;clear hkl;go_enter Tryz.func154,Tryz.ntmps154;go_wp2;go_loopw [5] (fun iv wr=>∃i:Nat,i<=on/\iv=.int .i64 i/\Zc w0 w (.slice oa on oc) on (x0,x1) i wr) (fun iv _=>on-(intOf iv).toNat)
 case atStart=>exact⟨0,Nat.zero_le _,rfl,Aa HI⟩
 case round=>
  obtain⟨i,hi,rfl,hT⟩:=hrel;by_cases hlt:i<on
  ·obtain⟨G,cap,hOe,hL,hic,hG,hT2⟩:=hT.step hlt;obtain rfl:oa=some ⟨G,0,none⟩:=by injection hOe
   obtain⟨c0,c1⟩:=Fy hT.box;obtain⟨d0,d1,e0,e1⟩:=hL.has hic;have z0:=hL.thaw (i*2);have z1:=hL.thaw (i*2+1);have HT2:=Ab hT2;clear hT hL hT2 hOe;go_wp2;go_roundw
   case rel=>exact⟨i+1,by omega,by go_num,Aa HT2⟩
   case measure=>simp[intOf];omega
  ·obtain rfl:i=on:=by omega
   have hM:=YV hT (Aa HBO);have hOO:∀j,(Value.slice oa i oc).ownBlock=some j->j<w.heap.size/\w0.heap.size<=j:=fun j hj=>((Aa HO) j hj).1
   obtain⟨a1,c1,w1,hr1,hM1⟩:=Lt hM (n:=i) (by simp) 1 (by omega) hB hOO;obtain⟨a2,c2,w2,hr2,hM2⟩:=Lt hM1 (n:=i) (by simp) 2 (by omega) hB hOO;obtain⟨a3,c3,w3,hr3,hM3⟩:=Lt hM2 (n:=i) (by simp) 3 (by omega) hB hOO;obtain⟨p0,p1⟩:=Fy hM.box;obtain⟨q0,q1⟩:=Fy hM1.box;obtain⟨r0,r1⟩:=Fy hM2.box;obtain⟨s0,s1⟩:=Fy hM3.box;have hb3:w3.cell? ⟨b,1,none⟩=some (.slice ka kn kc):=by
    have hc:=(Aa HBK).cell;rw[Aa HKL];simp[World.cell?,hM3.keep b hbl (fun e=>((Aa HO) b e).2.1 rfl),hc]
   have hl3:=hM3.size;have hrow3:w3.ownsRow 0 178 7 (.slice ka kn kc) kn (Im L):=by
    have hr:=(Aa HBK).row;rw[Aa HKL];exact Dv hr fun g hg=>hM3.keep g ((hr.lt g hg).2) (fun e=>((Aa HO) g e).2.2.1 hg)
   have hs0:=hM3.below.size;have hb4:b<w3.heap.size:=by omega
   have hb5:(w3.alloc (.cells #[.slice oa i oc,.slice a1 (i+1) c1,.slice a2 (i+2) c2,.slice a3 (i+3) c3,.int .i64 i,.int .i64 x0,.string x1] 178)).drew.cell? ⟨b,1,none⟩=some (.slice ka kn kc):=
    (((Below.refl w3.heap.size w3).alloc (Nat.le_refl _) _).cell (p:=⟨b,1,none⟩) hb4).trans hb3
   have n1:¬w3.heap.size=b:=by omega
   have n2:¬b=w3.heap.size:=by omega
   have n3:¬w3.heap.size=w.heap.size:=by omega
   have n4:¬w.heap.size=w3.heap.size:=by omega
   have HM3:=Ab hM3;obtain⟨j0,hj0,hz0,hz1,hz2⟩:=info_parts Yn;clear hT hM hM1 hM2 hM3 hOO;go_wp2_with (first
    |(at_builtin;refine wpList_append_run rfl (.tmp 26) (.tmp 28) 44 rfl _ _ _ _ rfl rfl hr1 ?_)
    |(at_builtin;refine wpList_append_run rfl (.tmp 30) (.tmp 33) 44 rfl _ _ _ _ rfl rfl hr2 ?_)
    |(at_builtin;refine wpList_append_run rfl (.tmp 35) (.tmp 39) 44 rfl _ _ _ _ rfl rfl hr3 ?_))
   go_region_law (refine Bb rfl (.tmp 45) (.tmp 54) 65 rfl 0 178 j0 _ 7 128 Tryz.underlying65 hj0 hz0 hz1 hz2 rfl (by decide) (.slice ka kn kc) kn (Im L) rfl (by exact World.ownsRow.alloc (w:=w3.drew) hrow3 _) ⟨w3.heap.size,0,none⟩ 1 1 (Kp.mk (.slice oa i oc) (.slice a1 (i+1) c1) (.slice a2 (i+2) c2) (.slice a3 (i+3) c3) i (x0,x1)).cells rfl rfl (by exact LJ w3.drew (Kp.mk (.slice oa i oc) (.slice a1 (i+1) c1) (.slice a2 (i+2) c2) (.slice a3 (i+3) c3) i (x0,x1))) (by exact Yp _ _ _ _ _ _ _ _ _ _ _ _ _ _) (by unfold maxLen;omega) (by omega) (Nat.zero_le _) ?_;intro K' w5 hown hgrow hat;obtain⟨va,vn,vc,hvs⟩:=Am hown;subst hvs;rw[Aa HKL]at hown;have hpush:=V2 (Aa HBK) (Aa HB0) (Aa HM3).drew (by omega) (fun j hj=>⟨((Aa HO) j hj).1.1,((Aa HO) j hj).2⟩) hown (by rw[<-Aa HKL];exact hgrow) (by rw[<-Aa HKL];simpa using hat);obtain⟨hc5,hbk5⟩:=hpush;have k1:w5.cell? ⟨b,1,none⟩=some (.slice ka L.length kc):=(by simp[World.cell?,hc5]);have k2:w5.frozen? ⟨b,1,none⟩=false:=(by simp[World.frozen?,hc5]))
   all_goals
    have HBK5:=Ab hbk5;clear hbk5 hown hgrow hat hc5 k1 k2;go_wp2
    go_end0
    exact⟨rfl,_,_,Aa HBK5⟩
theorem QK(w0 w:World)(b:Nat)(L:List Kp)(lv K O:Value)(v:List It)(hBk:Bo b L lv K w)(hb0:Below w0.heap.size w0 w)(hR:w.ownsRow w0.heap.size 106 2 O v.length (flat v))(hL:L.length<=1000000000000)(hv:v.length<=100000)
  (hO:∀j,Iu b L K j->j<w0.heap.size):
  Calls Tryz.prog 154 #[.pointer (some ⟨b,1,none⟩),O] w fun e w'=>e=.returned (.tuple #[])/\∃K' k,Bo b (L++[k]) lv K' w'/\Ah (fun j=>Iu b L K j\/O.ownBlock=some j) (Iu b (L++[k]) K') w w':=by
 have hOl:=hR.lt;obtain⟨ka,kn,kc,hk⟩:=Am hBk.row;subst hk;have hkn:kn=L.length:=by
  rcases hBk.row.2 with ⟨hv,h0⟩|⟨g,cap,cur,hv,_⟩
  ·cases hv;omega
  ·cases hv;rfl
 subst hkn;obtain⟨oa,on,oc,ho⟩:=Am hR;subst ho;have hon:on=v.length:=by
  rcases hR.2 with ⟨hv,h0⟩|⟨g,cap,cur,hv,_⟩
  ·cases hv;omega
  ·cases hv;rfl
 have hO2:∀j,(Value.slice oa on oc).ownBlock=some j->(j<w.heap.size/\w0.heap.size<=j)/\j≠b/\(Value.slice ka L.length kc).ownBlock≠some j/\∀k∈L,∀t∈k.lists,t.1.ownBlock≠some j:=fun j hj=>by
  have h1:=hOl j hj;have hno:¬Iu b L (.slice ka L.length kc) j:=fun q=>by have:=hO j q;omega
  exact⟨⟨h1.2,h1.1⟩,fun e=>hno (Or.inl e),fun e=>hno (Or.inr (Or.inl e)),fun k hk t ht e=>hno (Or.inr (Or.inr ⟨k,hk,t,ht,e⟩))⟩
 have hb1:Below w.heap.size w (w.alloc (.cells #[.int .i64 (-1000-(L.length:Int)),.string Iy] 106)):=(Below.refl _ _).alloc (Nat.le_refl _) _;refine Nz w0 w b w0.heap.size L lv ka oa kc on oc (-1000-(L.length:Int),Iy) rfl hL (by omega) hBk hb0 hb0.size (fun j hj=>(hOl j hj).1) hO2 ⟨by simp,?_,fun k hk _=>hb1.block k hk,hb0.trans (hb1.mono hb0.size),?_⟩
 ·show ((w.heap.push _)[w.heap.size]?)=_;rw[Array.getElem?_push_size]
 ·rcases hR.2 with ⟨hv,h0⟩|⟨g,cap,cur,hv,hbg,hg,hc,hcm,hcs,_⟩
  ·exact Or.inl ⟨hv,by omega⟩
  ·refine Or.inr ⟨g,cap,?_,lt_of_block hg,by omega,⟨cur,?_,hcs,fun j y _ hy=>by simp at hy⟩,by omega,hcm⟩
   ·rw[hv,hon]
   ·rw[hb1.block g (lt_of_block hg)];exact hg
end Go.Proofs.YtblomippkddgiaaGreatDoor.V
