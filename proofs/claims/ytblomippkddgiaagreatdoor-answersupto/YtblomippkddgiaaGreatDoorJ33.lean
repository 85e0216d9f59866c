import Derived.Test.YtblomippkddgiaaGreatDoorJ32
set_option maxRecDepth 100000
set_option maxHeartbeats 4000000
namespace Go.Proofs.YtblomippkddgiaaGreatDoor
open Go.Proofs.Tryz
open Go.RowKit
variable {cur:Array Value}{T:ByteArray}{E F F':D9}{k:Int}{l:List R.En}{EF:List R.Jb}{b cap g j n nm s u:Nat}{c:R.Cf}{en:R.En}{t:SP}{K K' W X:Value}{w w' wz:World}
theorem jI:(prog.info? 9).map (λi=>(i.zero,i.size,i.bytes))=some (some (.string ⟨#[]⟩),1,16):=EL
theorem afZ(w:Aa):(zeroValue 9).run prog w=.ok (.string ⟨#[]⟩) w:=EL
theorem vZ(l:List ByteArray):∀u∈strs l,u.oneCell'=true:=by
 intro u hu;obtain⟨x,_,rfl⟩:=Cy.1 hu;rfl
theorem qJ{ps:List ByteArray}(hg:w.heap[g]?=some (.cells cur 9 (0,0)))(hn:ps.length=5)(ao:5<=cap)(hm:cap<=maxLen)(O:cur.size=cap)(ak:cur.toList.take 5=strs ps):
  D7 293 #[EJ g 5 cap,Z 0,Z 1] w (EJ g 4 cap) λw'=>(∃e:Array Value,w'.heap[g]?=some (.cells e 9 (0,0))/\e.size=cap/\e.toList.take 4=strs (ps.drop 1))/\DF (λk=>k=g) w w':=by
 have⟨i0,an,ar,ad,av⟩:=A1 jI;have ah:cur.toList.length=cap:=by rw[BO];exact O
 obtain⟨Q,m⟩:∃Q,Q=strs (ps.drop 1):=⟨_,rfl⟩;have D:Q.length=4:=by rw[m];simp[strs,hn]
 obtain⟨y,B⟩:∃y,y=cur.toList.take 0++Q++cur.toList.drop (0+Q.length):=⟨_,rfl⟩;have f:y.length=cap:=by rw[B];simp[D,O];omega
 obtain⟨W1,hW1⟩:∃W1,W1=w.drew.setRow g y.toArray:=⟨_,rfl⟩;have g1:W1.heap[g]?=some (.cells y.toArray 9 (0,0)):=by rw[hW1];exact Nf (w:=w.drew) hg
 obtain⟨W2,hW2⟩:∃W2,W2=W1.setRow g (y.take 4++[Value.string ⟨#[]⟩]++y.drop (4+1)).toArray:=⟨_,rfl⟩;have g2:W2.heap[g]?=some (.cells (y.take 4++[Value.string ⟨#[]⟩]++y.drop (4+1)).toArray 9 (0,0)):=by rw[hW2];exact Nf g1
 have HK:Hid (DF (λk=>k=g) w W2):=by
  exact abH
 have aa:y.take 4=Q:=by
  rw[B,List.take_zero,Cc,Ch U,A7 U]
 have HE:Hid (∃e:Array Value,W2.heap[g]?=some (.cells e 9 (0,0))/\e.size=cap/\e.toList.take 4=strs (ps.drop 1)):=by
  refine⟨_,g2,by simp[f];omega,?_⟩;simp only[aa,Bs];rw[Ch U,A7 U,m]
 have ab:∀j u,Q[j]?=some u->w.drew.cell? (((Y g 1):Addr).add j)=some u:=λj u hj=>by
  have M:(strs ps)[1+j]?=some u:=by
   rw[m]at hj;unfold strs at hj ⊢;rw[BP,Cn]at hj;rw[BP];exact hj
  rw[<-ak,BI]at M;split at M
  ·rw[Bc];have:w.drew.heap[g]?=some (.cells cur 9 (0,0)):=hg;simp[World.cell?,this];simpa using M
  ·cases M
 have HA:Hid (∀c,(Builtin.append_ #[222,222] 222 #[EJ g 0 cap,.slice (some (Y g 1)) 4 c]).run prog w.drew=.ok (EJ g 4 cap) W1):=λc=>by
  have h:=run_append_room (P:=prog) w.drew 222 222 9 i0 underlying222 an g 0 cap cur hg (Y g 1) 4 c Q (by rw[D,ad]) ab (λu hu=>vZ _ u (m ▸ hu)) U (by rw[ad,D,O];omega);rw[ad]at h;rw[h,hW1,B]
 have HC:Hid (∀ty c,(Builtin.clear_ #[222] ty #[.slice (some (Y g 4)) 1 c]).run prog W1=.ok Ep W2):=λty c=>by
  have h:=Pj (ty:=ty) (off:=4) underlying222 afZ (by simp[Value.cells,Value.oneCell']) g1 (by simp[Value.cells,f];omega) c;rw[h,hW2];simp[Value.cells]
 unfold maxLen at hm;clear m B hW1 hW2 g1 g2 ab hg ak O hn aa f D ah;obtain⟨b1,b2,b3,b4⟩:(5:Int)<=cap/\¬cap=1/\(1:Int)<=cap/\0<=(cap:Int):=U;go_enter func293,ntmps293;go_wp2;go_region_law (refine Jm rfl (.tmp 22) (.tmp 25) 222 rfl (EJ g 0 cap) (.slice (some (Y g 1)) 4 (cap-1)) (EJ g 4 cap) W1 rfl rfl (HA _) ?_)
 exact wK
theorem ZF(l:List R.En)(e:R.En):R.Fe (l++[e])=if e.Eo=0 then (if (R.Fe l).length<4 then R.Fe l++[R.Tt e.arg 0] else (R.Fe l++[R.Tt e.arg 0]).drop 1) else R.Fe l:=by
 unfold R.Fe;simp only[List.filter_append,C8];by_cases h:e.Eo=0
 ·rw[Ay h];have e1:List.filter (λe=>decide (e.Eo=0)) [e]=[e]:=by simp[h]
  rw[e1,Cq,CU];generalize (l.filter λe=>decide (e.Eo=0)).map (λe=>R.Tt e.arg 0)=out;rw[AJ,A9,CP];by_cases f:out.length<4
  ·rw[Ay U,show out.length+1-4=0 by omega,show out.length-4=0 by omega,De,De]
  ·rw[Ao U,CY U,CY (by rw[A9];omega),CF];congr 2;omega
 ·rw[Ao h];have e1:List.filter (λe=>decide (e.Eo=0)) [e]=[]:=by simp[h]
  rw[e1,CU,Cb]
structure QI(w:Aa)(b:Nat)(K:Ad)(ps:List ByteArray)(O:Ad)(w':Aa):Prop where
 row:V.Row w' w.heap.size O [((ps.length:Int),⟨#[]⟩)]
 cell:∃K',w'.heap[b]?=some (.cells #[K'] 333 (0,0))/\w'.ownsRow 0 9 1 K' ps.length (strs ps)/\(K'.ownBlock=K.ownBlock\/∃j,K'.ownBlock=some j/\w.heap.size<=j/\j<w'.heap.size)
 keep:DF (λk=>k=b\/K.ownBlock=some k) w w'
theorem ZE{m va0:Nat}{D:List ByteArray}(h:w.heap[b]?=some (.cells #[K] 333 (0,0)))(y:w.ownsRow 0 9 1 K m (strs D))(hg:(w.alloc (.cells #[.string T] 9)).grownBy wz K.ownBlock)(O:wz.ownsRow 0 9 1 K' (m+1) (strs D++[.string T]))(Q:K'.ownBlock=K.ownBlock\/K'.ownBlock=some va0)(ab:w.heap.size<=va0):
  wz.heap[b]?=some (.cells #[K] 333 (0,0))/\(wz.setCell (Y b 0) K').heap[b]?=some (.cells #[K'] 333 (0,0))/\(wz.setCell (Y b 0) K').ownsRow 0 9 1 K' (m+1) (strs (D++[T]))/\DF (λk=>k=b\/K.ownBlock=some k) w (wz.setCell (Y b 0) K')/\K'.ownBlock≠some b:=by
 have hl:=Dv h;have M:=K5 y h Em;have f:K'.ownBlock≠some b:=by grind
 have B:wz.heap[b]?=some (.cells #[K] 333 (0,0)):=by
  rw[hg.block b Fy (λe=>M e.symm)]
  grind [Below.heap_alloc]
 have hs:strs (D++[T])=strs D++[.string T]:=by simp[strs]
 refine⟨B,Ek (cs:=[K]) (off:=0) B K',?_,?_,f⟩
 ·grind [Jl,Below.heap_setCell]
 ·have aa:DF (λk=>k=b\/K.ownBlock=some k) w (w.alloc (.cells #[.string T] 9)):=(DF.refl _ w).alloc _
  grind [DF.grown,DF.setCell]
theorem Ur(j:Nat)(u:Ad)(h:([.string T]:Ae)[j]?=some u):(w.alloc (.cells #[.string T] 9)).cell? (((EN w 0):Addr).add j)=some u:=by grind [Addr.add_lit,World.cell?_alloc_new]
theorem row_in(w Uq:Aa)(e:w.heap.size<=Uq.heap.size)(n:Int)(s:Ab):V.Row (Uq.alloc (.cells #[Z n,.string s] 106)) w.heap.size (EJ Uq.heap.size 1 1) [(n,s)]:=
 ⟨rfl,Am ⟨Uq.heap.size,1,#[Z n,.string s],rfl,e,AF Uq _,Ar _,Em,rfl,rfl⟩⟩
theorem uD(w:Aa)(b c:Nat)(a:Af)(f:List ByteArray)(T:Ab)(h4:f.length<4)(h:w.heap[b]?=some (.cells #[.slice a f.length c] 333 (0,0)))(D:w.ownsRow 0 9 1 (.slice a f.length c) f.length (strs f)):
  ET 291 #[ptr b,.string T] w λe w'=>∃O,e=.returned O/\QI w b (.slice a f.length c) (f++[T]) O w':=by
 have⟨i0,hi,ad,ae,ah⟩:=A1 jI;have c0:=EI h 0;have z0:w.frozen? (Y b 0)=false:=Eb h;have hl:=Dv h;have HP:Hid (∀{wz:Aa} {K':Ad} {M:Nat},(w.alloc (.cells #[.string T] 9)).grownBy wz (Value.slice a f.length c).ownBlock->wz.ownsRow 0 9 1 K' (f.length+1) (strs f++[.string T])->(K'.ownBlock=(Value.slice a f.length c).ownBlock\/K'.ownBlock=some M)->w.heap.size<=M->EB wz b 0 (.slice a f.length c)/\wz.frozen? (Y b 0)=false/\b<wz.heap.size/\QI w b (.slice a f.length c) (f++[T]) (EJ wz.heap.size 1 1) ((wz.setCell (Y b 0) K').alloc (.cells #[Z ((f.length:Int)+1),.string ⟨#[]⟩] 106))):=λ{wz K' M} hg m y hva=>by
  have⟨r1,r2,r3,r4,r5⟩:=ZE h D hg m y hva;have ab:(wz.setCell (Y b 0) K').heap.size=wz.heap.size:=Ev;have ak:=hg.size;simp only[Cx]at ak;have Q:(f++[T]).length=f.length+1:=Ev;refine⟨EI r1 0,Eb r1,Dv r1,?_,⟨K',(AL _ _ _ (by rw[ab];exact Dv r1)).trans r2,by rw[Q];exact r3.alloc _,?_⟩,r4.alloc _⟩
  ·have:=row_in w (wz.setCell (Y b 0) K') (by rw[ab];omega) ((f.length:Int)+1) ⟨#[]⟩;rw[ab]at this;rw[Q];exact this
  ·rcases y with e|e
   ·exact Aj e
   ·refine Am ⟨M,e,hva,?_⟩;have:=(Ba m M e).2;simp;omega
 have ao:¬(4:Int)<((f.length+1:Nat):Int):=U;have e4:decide (((f.length+1:Nat):Int) > 4)=false:=Fy;have ac:=Dx D;clear h D;go_enter func291,ntmps291;go_wp2_with (at_builtin;go_must (refine AQ _ rfl (.tmp 9) (.tmp 11) 222 rfl 0 9 i0 (.string ⟨#[]⟩) 1 16 underlying222 hi ad ae ah rfl Em (.slice a f.length c) f.length (strs f) rfl (ac.alloc _) (EN w 0) 1 1 [.string T] rfl rfl (Ur) Vd JG U U ?_))
 intro v' wz m B aa y;have⟨p1,p2,p3,p4⟩:=HP B m y U;rcases m.2 with ⟨q,_⟩|⟨g,cap,cur,hv,_⟩
 ·exact absurd q aa
 subst hv;have HQ:=Dx p4;clear p4 m B y HP ac c0 z0 hl aa hi ad ae ah;go_wp2;go_returns;exact⟨_,rfl,HQ⟩
theorem uC{B:List ByteArray}(h4:B.length=4)(h:w.heap[b]?=some (.cells #[K] 333 (0,0)))(ae:w.ownsRow 0 9 1 K 4 (strs B))(hg:(w.alloc (.cells #[.string T] 9)).grownBy wz K.ownBlock)(ad:wz.ownsRow 0 9 1 (EJ g 5 cap) 5 (strs B++[.string T]))(O:some g=K.ownBlock\/some g=some (w.heap.size+1)):
  EB wz b 0 K/\wz.frozen? (Y b 0)=false/\b<wz.heap.size/\D7 293 #[EJ g 5 cap,Z 0,Z 1] (wz.setCell (Y b 0) (EJ g 5 cap)) (EJ g 4 cap) λw'=>EB w' b 0 (EJ g 5 cap)/\w'.frozen? (Y b 0)=false/\b<w'.heap.size/\QI w b K ((B++[T]).drop 1) (EJ w'.heap.size 1 1) ((w'.setCell (Y b 0) (EJ g 4 cap)).alloc (.cells #[Z 4,.string ⟨#[]⟩] 106)):=by
 have⟨r1,r2,r3,D,r5⟩:=ZE (m:=4) (va0:=w.heap.size+1) (K':=EJ g 5 cap) h ae hg ad O U;have al:g≠b:=λe=>r5 (CG some e)
 have am:=hg.size;simp only[Cx]at am;have ar:(wz.setCell (Y b 0) (EJ g 5 cap)).heap.size=wz.heap.size:=Ev;refine⟨EI r1 0,Eb r1,Dv r1,?_⟩;rcases r3 with ⟨aS,⟨q,_⟩|⟨g',az,cur,hv,_,hc,aV,ac,aN,aw⟩⟩
 ·cases q
 cases hv;have ab:(B++[T]).length=5:=by simp[h4]
 refine(qJ hc ab U ac U aw).mono ?_;rintro e w' ⟨rfl,⟨M,ak,b2,av⟩,hk⟩;have f:w'.heap[b]?=some (.cells #[EJ g 5 cap] 333 (0,0)):=by
  rw[hk.block b (Dv r2) (λe=>al e.symm)];exact r2
 have ao:=hk.size;rw[ar]at ao;have aq:((B++[T]).drop 1).length=4:=by simp[h4]
 have ah:(w'.setCell (Y b 0) (EJ g 4 cap)).heap.size=w'.heap.size:=Ev;have aa:=Dv f;have b1:=Dv ak;refine⟨rfl,EI f 0,Eb f,aa,⟨?_,⟨EJ g 4 cap,?_,?_,?_⟩,?_⟩⟩
 ·grind [row_in]
 ·exact(AL _ _ _ (by rw[ah];exact aa)).trans (Ek (cs:=[EJ g 5 cap]) (off:=0) f _)
 ·rw[aq];refine⟨by simp[strs,h4],Am ⟨g,cap,M,rfl,AV _,?_,U,ac,U,by simpa using av⟩⟩
  grind [Below.heap_alloc,Below.heap_setCell]
 ·rcases O with e|e
  ·exact Aj e
  ·cases e;exact Am ⟨w.heap.size+1,rfl,U,Fy⟩
 ·have y:DF (λk=>k=b\/K.ownBlock=some k) w w':=⟨hk.os.trans D.os,hk.tape.trans D.tape,hk.output.trans D.output,Br D.size hk.size,λk Q y=>by
   have an:k≠g:=λe=>by
    grind
   rw[hk.block k (Ai Q D.size) an];exact D.block k Q y⟩
  exact(y.setCell (p:=Y b 0) (Aj (Aj rfl)) _).alloc _
theorem mU(w:Aa)(b c:Nat)(a:Af)(ps:List ByteArray)(T:Ab)(h4:ps.length=4)(h:w.heap[b]?=some (.cells #[.slice a 4 c] 333 (0,0)))(B:w.ownsRow 0 9 1 (.slice a 4 c) 4 (strs ps)):
  ET 291 #[ptr b,.string T] w λe w'=>∃O,e=.returned O/\QI w b (.slice a 4 c) ((ps++[T]).drop 1) O w':=by
 have⟨i0,hi,Q,aa,ab⟩:=A1 jI;have c0:=EI h 0;have z0:w.frozen? (Y b 0)=false:=Eb h;have hl:=Dv h;have H4:=Dx h4;have al:4+1<=maxLen:=Em;have⟨H0,D⟩:=FU h B;clear h B h4;go_enter func291,ntmps291;go_wp2_with (at_builtin;go_must (refine AQ _ rfl (.tmp 9) (.tmp 11) 222 rfl 0 9 i0 (.string ⟨#[]⟩) 1 16 underlying222 hi Q aa ab rfl Em (.slice a 4 c) 4 (strs ps) rfl (D.alloc _) (EN w 0) 1 1 [.string T] rfl rfl (Ur) Vd JG U U ?_))
 intro v' wz m f y M;rcases m.2 with ⟨q,_⟩|⟨g,cap,cur,hv,_⟩
 ·exact absurd q y
 subst hv;have⟨p1,p2,p3,p4⟩:=uC H4 H0 D f m M;have HQ:=Dx p4;clear p4 m f M D c0 z0 hl y hi Q aa ab H0;go_wp2_with (go_at_call 293;refine cm HQ ?_;rintro w3 ⟨d0,z0,hl,hp⟩;have ad:=Dx hp;clear hp HQ p1 p2 p3)
 go_returns;exact⟨_,rfl,ad⟩
def Ik(x:V.It):List Value:=[Z x.1,.string x.2]
theorem T8:(prog.info? 106).map (λi=>(i.zero,i.size,i.bytes))=some (some (.agg #[Z 0,.string ⟨#[]⟩]),2,24):=EL
def Hm(n:Nat)(ps:List ByteArray)(i:Nat):List V.It:=((n:Int),⟨#[]⟩) :: (ps.take i).map λs=>(0,s)
theorem RZ(n:Nat)(e:List ByteArray)(i:Nat)(s:Ab)(h:e[i]?=some s):Hm n e (i+1)=Hm n e i++[(0,s)]:=by grind [Hm,List.take_add_one]
theorem UQ(n:Nat)(e:List ByteArray)(i:Nat)(h:i<=e.length):(Hm n e i).length=i+1:=by simp[Hm,h]
theorem Qc:∀v:List V.It,V.flat v=tab Ik v
 |[]=>rfl
 |x :: v=>by
  have:=Qc v;simp only[tab,Ci]at this ⊢;rw[V.flat,this];rfl
theorem Zw(w:Aa)(T:Ab)(j:Nat)(u:Ad)(h:([Z 0,.string T]:Ae)[j]?=some u):(w.alloc (.cells #[Z 0,.string T] 106)).cell? (((EN w 0):Addr).add j)=some u:=by grind [Addr.add_lit,World.cell?_alloc_new]
theorem oK(w:Aa)(b g cap L n:Nat)(ps:List ByteArray)(hL:ps.length=L)(m:L<=4)(f:L<=cap)(h:n<=L)(c0:EB w b 0 (EJ g L cap))(hg:g<w.heap.size)(hcs:∀i s,ps[i]?=some s->EB w g i (.string s)):
  ET 292 #[ptr b,Z n] w λe w'=>∃O,e=.returned O/\V.Row w' w.heap.size O (Hm n ps n)/\DY w w':=by
 have⟨i0,hi,hz0,hz1,hz2⟩:=A1 T8;have⟨HCS,HL⟩:=FU hcs hL;have hl:=Gv c0;have e1:¬(L:Int)<n:=U;exact tl2
theorem vG{L:Nat}{most:Int}{ps:List ByteArray}(hL:ps.length=L)(m:L<=4)(h:L<=cap)(hn:(L:Int)<most)(f:n=L)(c0:EB w b 0 (EJ g L cap))(hg:g<w.heap.size)(hcs:∀i s,ps[i]?=some s->EB w g i (.string s)):
  ET 292 #[ptr b,Z most] w λe w'=>∃O,e=.returned O/\V.Row w' w.heap.size O (Hm n ps n)/\DY w w':=by
 have⟨i0,hi,hz0,hz1,hz2⟩:=A1 T8;subst f;have⟨HCS,HL⟩:=FU hcs hL;have hl:=Gv c0;exact tl2
theorem vH(w:Aa)(b:Nat)(most:Int)(m:0<=most)(c0:EB w b 0 (.slice none 0 0)):
  ET 292 #[ptr b,Z most] w λe w'=>∃O,e=.returned O/\V.Row w' w.heap.size O (Hm 0 [] 0)/\DY w w':=by
 have hl:=Gv c0;have HB:Hid (DY w (w.alloc (.cells #[Z 0,.string ⟨#[]⟩] 106))):=F9;have HI:=row_in w w (Ar _) 0 ⟨#[]⟩;by_cases f:most=0
 ·subst f;exact afB
 ·have h:(0:Int)<most:=U;exact afB
theorem vJ(w:Aa)(b:Nat)(most:Int)(K:Ad)(f:List ByteArray)(hm:0<=most)(D:f.length<=4)(h:w.heap[b]?=some (.cells #[K] 333 (0,0)))(B:w.ownsRow 0 9 1 K f.length (strs f)):
  ET 292 #[ptr b,Z most] w λe w'=>∃O,e=.returned O/\V.Row w' w.heap.size O (Hm (f.take most.toNat).length f most.toNat)/\DY w w':=by
 have c0:=EI h 0;rcases B.2 with ⟨rfl,h0⟩|⟨g,cap,cur,rfl,_,hc,y,ab,Q,ad⟩
 ·grind [Hm,vH]
 ·have m:∀i s,f[i]?=some s->w.cell? (Y g i)=some (.string s):=λi s M=>by
   have aa:=GG M;have e1:(strs f)[i]?=some (.string s):=by simp[strs,M]
   grind [World.cell?]
  by_cases hq:(f.length:Int)<most
  ·have:=vG rfl D y hq rfl c0 (Dv hc) m
   grind [Hm]
  ·obtain⟨n,rfl⟩:∃n:Nat,most=(n:Int):=⟨most.toNat,U⟩;have:=oK w b g cap f.length n f rfl D y U c0 (Dv hc) m
   grind
theorem Yn(w:Aa)(F:D9)(log:List R.En)(en:R.En)(b:Nat)(K W:Ad)(h:Fp w F log b K 1 W)(hX:V.Ff w X en.arg)(ha:∃x,en.arg=[x]/\(en.Eo=1->0<=x.1))(y:en.Eo=0\/en.Eo=1):
  ET 290 #[ptr b,Z en.Eo,X] w λe w'=>∃O,e=.returned O/\kz w F log en b K 1 W O (R.Hw 1 log en.Eo en.arg) w':=by
 have⟨x,hx,Q⟩:=ha;rw[hx]at hX;obtain⟨a,cap,rfl,ak,hc⟩:=hX;rcases hc with h0|⟨bb,off,rfl,al,hc⟩
 ·simp at h0
 have⟨c0,c1⟩:=hc 0 x rfl;simp only[Dt,Cz]at c0 c1;have q1:(0:Int)<((1:Nat):Int):=U;generalize hk0:(1:Int)=kd at h;cases h with
 |counter=>cases hk0
 |P9=>cases hk0
 |MZ hF hb hK hKF=>
  have h4:=R.PK log;have f:=ZF log en;have D:R.Tt en.arg 0=x.2:=by rw[hx];rfl
  have B:R.IJ en.arg 0=x.1:=by rw[hx];rfl
  rw[D]at f;rcases y with y|y
  ·have e1:(en.Eo==0)=true:=by simpa using y
   rw[Ay y]at f;have HC:Hid (ET 291 #[ptr b,.string x.2] w λe w'=>∃O,e=.returned O/\QI w b K (R.Fe (log++[en])) O w'):=by
    obtain⟨a,c,rfl⟩:=Fa hK;by_cases hq:(R.Fe log).length<4
    ·rw[f,Ay hq];exact uD w b c a _ x.2 hq hb hK
    ·rw[f,Ao hq];have e4:(R.Fe log).length=4:=U;rw[e4]at hb hK ⊢;exact mU w b c a _ x.2 e4 hb hK
   have HF:Hid (∀O w',QI w b K (R.Fe (log++[en])) O w'->kz w F log en b K 1 (.iface 331 (ptr b)) O (R.Hw 1 log en.Eo en.arg) w'):=λO w' hP=>by
    have hd:R.Hw 1 log en.Eo en.arg=[(((R.Fe (log++[en])).length:Int),⟨#[]⟩)]:=by
     unfold R.Hw;rw[Ao Em,Ay rfl,Ay y,f];unfold R.num;congr 2;by_cases hq:(R.Fe log).length<4
     ·rw[Ay hq];simp;omega
     ·rw[Ao hq];simp;omega
    rw[hd];have⟨K',k1,k2,k3⟩:=hP.cell;refine⟨hP.row,hP.keep,K',.MZ (Aj hF) k1 k2 (λj hj=>?_),?_⟩
    ·rcases k3 with k3|⟨j',M,q1,q2⟩
     ·exact Aj (hKF j (k3 ▸ hj))
     ·rw[M]at hj;cases hj;exact Am ⟨q1,q2⟩
    ·rcases k3 with k3|⟨j',M,q1,q2⟩
     ·exact Aj k3
     ·exact Am ⟨j',M,q1⟩
   clear hb f y hK Q;go_enter func290,ntmps290;go_wp2_with (first|(go_at_call 291;refine HC.mono ?_;rintro e w1 ⟨O,rfl,m⟩;have HW:=Dx m;clear m))
   go_returns;exact⟨_,rfl,HF _ _ (Dw HW)⟩
  ·have e1:(en.Eo==0)=false:=by simp[y]
   rw[Ao U]at f;have ah:=Dv hb;have HC:=Dx (vJ w b x.1 K (R.Fe log) (Q y) h4 hb hK);have HF:Hid (∀O w',V.Row w' w.heap.size O (Hm ((R.Fe log).take x.1.toNat).length (R.Fe log) x.1.toNat)->DY w w'->kz w F log en b K 1 (.iface 331 (ptr b)) O (R.Hw 1 log en.Eo en.arg) w'):=λO w' hR hB=>by
    have hd:R.Hw 1 log en.Eo en.arg=Hm ((R.Fe log).take x.1.toNat).length (R.Fe log) x.1.toNat:=by
     unfold R.Hw;rw[Ao Em,Ay rfl,Ao U,B];rfl
    rw[hd];refine⟨hR,DF.D6 hB _,K,.MZ (Aj hF) ?_ ?_ (λj hj=>Aj (hKF j hj)),Aj rfl⟩
    ·rw[hB.block b ah];exact hb
    ·rw[f];exact ER hK hB
   clear hb f y hK Q;go_enter func290,ntmps290;go_wp2_with (first|(go_at_call 292;refine HC.mono ?_;rintro e w1 ⟨O,rfl,m,aa⟩;have HW:=Dx m;have ae:=Dx aa;clear m aa))
   go_returns;exact⟨_,rfl,HF _ _ HW (Dw ae)⟩
theorem YH(w:Aa)(c0 c1 c2 c3 c4 h:Int)(a1 a2:Af)(n1 k1 n2 k2:Nat):
  D7 134 #[.agg #[Z c0,Z c1,Z c2,Z c3,Z c4],Z h,.slice a1 n1 k1,.slice a2 n2 k2] w (.agg #[Z c0,Z c1,Z c2,Z c3,Z h,.slice a1 n1 k1,.slice a2 n2 k2]) λw'=>DY w w':=by
 have m:Hid (∀e f,DY w ((w.alloc e).alloc f)):=λe f=>F9.alloc Ev _
 go_enter func134,ntmps134;go_wp2;go_returns;exact⟨rfl,m _ _⟩
def yo(y:PR)(r:Ac):PR:={y with DK:=2,Gn:=[],answer:=r,at':=0,El:=0,DW:=0}
theorem dE(w:Aa)(b:Nat)(y:PR)(r:Ac)(h:w.heap[b]?=some (.cells y.cells.toArray 147 (0,0))):
  D7 135 #[ptr b,.string (str r)] w Ep λw'=>w'.heap[b]?=some (.cells (yo y r).cells.toArray 147 (0,0))/\DF (λk=>k=b) w w':=by
 have⟨a0,a1,a2,a3,a4,a5,a6,a7,a8,a9,a10⟩:=X8 h;have z:∀j,w.frozen? (Y b j)=false:=λj=>Eb h
 have hl:=Dv h;have e:Hid (∀W,W=((((((((((w.setCell (Y b 0) (Z y.DJ)).setCell (Y b 1) (Z y.DR)).setCell (Y b 2) (Z y.DZ)).setCell (Y b 3) (Z y.D4)).setCell (Y b 4) (Z y.D5)).setCell (Y b 5) (Z 2)).setCell (Y b 6) (.string ⟨#[]⟩)).setCell (Y b 7) (.string (str r))).setCell (Y b 8) (Z 0)).setCell (Y b 9) (Z 0)).setCell (Y b 10) (Z 0)->W.heap[b]?=some (.cells (yo y r).cells.toArray 147 (0,0))/\DF (λk=>k=b) w W):=λW f=>by
  subst f;refine⟨?_,((((((((((Eg _).trans (Eg _)).trans (Eg _)).trans (Eg _)).trans (Eg _)).trans (Eg _)).trans (Eg _)).trans (Eg _)).trans (Eg _)).trans (Eg _)).trans (Eg _)⟩;have e0:=Ek (off:=0) h (Z y.DJ);have e1:=Ek (off:=1) e0 (Z y.DR);have e2:=Ek (off:=2) e1 (Z y.DZ);have e3:=Ek (off:=3) e2 (Z y.D4);have e4:=Ek (off:=4) e3 (Z y.D5);have e5:=Ek (off:=5) e4 (Z 2);have e6:=Ek (off:=6) e5 (.string ⟨#[]⟩);have e7:=Ek (off:=7) e6 (.string (str r));exact abW
 clear h;go_enter func135,ntmps135;go_wp2;go_returns;exact⟨rfl,e _ rfl⟩
theorem su:(prog.info? 98).map (λi=>(i.zero,i.size,i.bytes))=some (some (.agg #[Z 0,Z 0,Z 0,Z 0,Z 0,.slice none 0 0,.slice none 0 0]),7,88):=EL
theorem aeu:∀args w,(callFunc 133 args).run prog w=.ok (.enter 133 args) w:=λ_ _=>rfl
theorem aev:∀args w,(callFunc 134 args).run prog w=.ok (.enter 134 args) w:=λ_ _=>rfl
theorem mM(w:Aa)(c:Ae)(j:Nat)(u:Ad)(h:c[j]?=some u):(w.alloc (.cells c.toArray 98)).cell? (((EN w 0):Addr).add j)=some u:=by grind [Addr.add_lit,World.cell?_alloc_new]
theorem acV(w:Aa)(T:Ag)(N:Nat)(br:(T=328/\N=287)\/(T=331/\N=290)\/(T=334/\N=294))(s q g u m cap b:Nat)(Q c0 c1 c2 c3 kd:Int)(J9 rb:Ac)(da:Af)(y dc:Nat)(es:Ae)(B1:Value->World->Prop)(B2:Value->Value->World->Prop)(B3:Value->World->Prop)(B4 B5 ab:World->Prop)
  (h6:EB w s 6 (EJ g m cap)) (hu:u<m) (hm:m<=255) (g0:EB w g (u*3) (Z kd)) (q4:EB w q 4 (Z ((u:Int)+1))) (q6:EB w q 6 (.string (str J9)))
  (aa:Hid (∀M,DY w M->ET 133 #[Z kd,.string (str J9)] M λe w'=>∃oa on oc,e=.returned (.tuple #[Z Q,.slice oa on oc])/\B1 (.slice oa on oc) w'))
  (F1:Hid (∀O w',B1 O w'->EB w' g (u*3+1) (.iface T (ptr b))/\ET N #[ptr b,Z Q,O] w' λe h=>∃ra rn rc,e=.returned (.slice ra rn rc)/\B2 O (.slice ra rn rc) h))
  (F2:Hid (∀O R w',B2 O R w'->EB w' g (u*3+2) (.slice da y dc)/\w'.ownsRow 0 98 7 (.slice da y dc) y es/\y<=100000000000/\EB w' q 0 (Z c0)/\EB w' q 1 (Z c1)/\EB w' q 2 (Z c2)/\EB w' q 3 (Z c3)/\EB w' q 4 (Z ((u:Int)+1))/\w'.frozen? (Y g (u*3+2))=false))
  (F3:Hid (∀O R w1 h M wz K' bg,B1 O w1->B2 O R h->DY h M->(M.alloc (.cells #[Z c0,Z c1,Z c2,Z c3,Z Q,O,R] 98)).grownBy wz (Value.slice da y dc).ownBlock->wz.ownsRow 0 98 7 K' (y+1) (es++[Z c0,Z c1,Z c2,Z c3,Z Q,O,R])->(K'.ownBlock=(Value.slice da y dc).ownBlock\/K'.ownBlock=some bg)->h.heap.size<=bg->EB wz g (u*3+2) (.slice da y dc)/\wz.frozen? (Y g (u*3+2))=false/\g<wz.heap.size/\B3 R (wz.setCell (Y g (u*3+2)) K')))
  (F4:Hid (∀R w',B3 R w'->EB w' g (u*3) (Z kd)/\D7 136 #[Z kd,Z Q,R] w' (.string (str rb)) λh=>B4 h))
  (F5:Hid (∀w',B4 w'->D7 135 #[ptr q,.string (str rb)] w' Ep λh=>B5 h))
  (F6:Hid (∀w',B5 w'->D7 137 #[ptr s,ptr q] w' Ep λh=>ab h)):
  D7 83 #[ptr s,ptr q] w Ep λw'=>ab w':=by
 rcases br with ⟨rfl,rfl⟩|⟨rfl,rfl⟩|⟨rfl,rfl⟩;all_goals
  have⟨i0,hi,ba,bb,be⟩:=A1 su;have HV:=Dx (Nc w s g u m cap h6 hu hm);have⟨bt,bz⟩:=KM g0 q4;have HB:Hid (∀n,DY w (w.drewN n)):=λn=>Ed (AA _ _) n
  generalize str J9=SM at *;generalize str rb=SR at *;go_enter func83,ntmps83;go_wp2_with (first|(go_at_call 132;refine cs HV ?_))
  go_region_law (refine FG rfl 133 #[.tmp 19,.tmp 23] #[3,135] rfl aeu #[Z kd,.string SM] rfl _ (aa _ (by first|exact AA _ _|exact HB 1)) ?_;rintro e w1 ⟨oa,on,oc,rfl,ah⟩;have⟨g1,b5⟩:=F1 _ _ ah;have aq:=Dx ah;have aw:=Dx b5;have b6:=Gv g1;clear ah b5;refine⟨_,rfl,?_⟩)
  all_goals
   clear h6 g0 q4 q6 aa HV HB bt bz;go_wp2_with ((first|go_at_call 287|go_at_call 290|go_at_call 294);refine aw.mono ?_;rintro e h ⟨ra,rn,rc,rfl,ak⟩;have⟨d2,ac,c7,k0,k1,k2,k3,k4,z2⟩:=F2 _ _ _ ak;have ar:=Dx ak;have aS:=Dx ac;have b7:=Gv d2;have bX:=Gv k0;clear ak ac aw g1 b6)
   go_region_law (first
    |(refine FG rfl 134 #[.tmp 42,.tmp 43,.tmp 44,.tmp 45] #[145,3,44,44] rfl aev #[.agg #[Z c0,Z c1,Z c2,Z c3,Z ((u:Int)+1)],Z Q,.slice oa on oc,.slice ra rn rc] rfl _ (YH _ c0 c1 c2 c3 ((u:Int)+1) Q oa ra on oc rn rc) ?_;rintro e M ⟨rfl,b4⟩;have f:DY h M:=Mg b4;have d3:EB M g (u*3+2) (.slice da y dc):=(f.cell (p:=(Y g (u*3+2))) b7).trans d2;have av:=Dx f;have aN:=Dx (ER aS f);have ca:=f.size;have bW:g<M.heap.size:=U;clear b4 f;refine⟨_,rfl,?_⟩)
    |(refine FM rfl (.tmp 38) (.tmp 47) 211 rfl 0 98 i0 (.agg #[Z 0,Z 0,Z 0,Z 0,Z 0,.slice none 0 0,.slice none 0 0]) 7 88 underlying211 hi ba bb be rfl Em (.slice da y dc) y es rfl (by exact aN.alloc _) (EN M 0) 1 1 [Z c0,Z c1,Z c2,Z c3,Z Q,.slice oa on oc,.slice ra rn rc] rfl rfl (by exact mM M [Z c0,Z c1,Z c2,Z c3,Z Q,.slice oa on oc,.slice ra rn rc]) Vd JG U U ?_;intro v' wz D B b3;have⟨va,vn,vc,bL⟩:=Ei D;subst bL;have⟨p1,p2,p3,p4⟩:=F3 _ _ _ _ _ _ _ _ aq ar av B D b3 Fy;have az:=Dx p4;clear p4 D B b3))
   all_goals
    have⟨t0,b9⟩:=F4 _ _ (Dw az);have bp:=Dx b9;clear b9 az aq ar av aN aS F1 F2 F3 F4 d2 d3 k0 k1 k2 k3 k4 z2 hi ba bb be p1 p2 p3;go_wp2_with (first
     |(go_at_call 136;refine cm bp λw5 aV=>?_;have H5:=Dx (F5 _ aV);clear aV)
     |(go_at_call 135;refine cm H5 λw6 b1=>?_;have H6:=Dx (F6 _ b1);clear b1)
     |(go_at_call 137;refine cm H6 λw7 b2=>?_;have bj:=Dx b2;clear b2))
    go_returns;exact⟨rfl,bj⟩
theorem Fp.aen(h:Fp w F l b K k W):F b:=by
 cases h<;>assumption
theorem Fp.Xj(h:Fp w F l b K k W):(k=0->W=.iface 328 (ptr b))/\(k=1->W=.iface 331 (ptr b))/\(k=2->W=.iface 334 (ptr b)):=by
 cases h<;>simp
theorem Fp.si(h:Fp w F l b K 0 W):W=.iface 328 (ptr b):=h.Xj.1 rfl
theorem Fp.sj(h:Fp w F l b K 1 W):W=.iface 331 (ptr b):=h.Xj.2.1 rfl
theorem Fp.ac0(h:Fp w F l b K 2 W):W=.iface 334 (ptr b):=h.Xj.2.2 rfl
theorem xT{log:List R.En}{Dz:Int}(h:Fp w F log b K Dz W)(D:∀k,F k->k<w.heap.size)(Q:V.Ff w X en.arg){f t:Ab}{bs:Ac}(m:R.IY Dz en.Eo=some (f,t))(hb:R.Fi f en.arg=some bs)(hl:R.OI Dz log):
  ∃T N,W=.iface T (ptr b)/\((T=328/\N=287)\/(T=331/\N=290)\/(T=334/\N=294))/\ET N #[ptr b,Z en.Eo,X] w λe w'=>∃O,e=.returned O/\kz w F log en b K Dz W O (R.Hw Dz log en.Eo en.arg) w':=by
 have hc:=R.MI log 0 Em;unfold R.IY at m;split at m
 ·rename_i y;cases m;obtain⟨rfl,B⟩:=y
  grind [R.qF,Fp.si,TN,Fp.aen]
 ·split at m
  ·rename_i y;cases m;obtain⟨rfl,B⟩:=y
   grind [R.qD,Fp.si,TN,Fp.aen]
  ·split at m
   ·rename_i y;cases m;obtain⟨rfl,B⟩:=y
    grind [R.jf,Fp.sj,Yn]
   ·split at m
    ·rename_i y;cases m;obtain⟨rfl,B⟩:=y;have⟨x,hx,M⟩:=R.qE hb;exact⟨331,290,h.sj,Am (Aj ⟨rfl,rfl⟩),Yn w F log en b K W h Q ⟨x,hx,λ_=>M.2.1⟩ (Am B)⟩
    ·split at m
     ·rename_i y;cases m;obtain⟨rfl,B⟩:=y;have⟨d,k,a,g1,g2,g3,g4,_⟩:=R.je hb;have:=g3.2.2;exact⟨334,294,h.ac0,Am (Am ⟨rfl,rfl⟩),yM F h D Q ⟨d,k,a,g1,g2.2,U⟩ (λd=>(R.Nz log hl d [] Ev).1)⟩
     ·cases m
theorem Fp.Ub(h:Fp w F l b K k W)(hk:DF E w w')(f:¬E b)(m:∀j,K.ownBlock=some j->¬E j)(hi:∀b cur,F b->w.heap[b]?=some (.cells cur 106 (0,0))->¬E b)(e:∀k,F k->F' k):Fp w' F' l b K k W:=by
 cases h with
 |counter h1 h2 h3=>exact .counter (e _ h1) (hk.at h2 f) h3
 |MZ h1 h2 h3 h4=>exact .MZ (e _ h1) (hk.at h2 f) (hk.row h3 m) (λj y=>e _ (h4 j y))
 |P9 d0 d1 d2 h1 h2 h3 g0 g1 g2=>exact .P9 d0 d1 d2 (e _ h1) (hk.at h2 f) h3 (g0.keep hk hi e) (g1.keep hk hi e) (g2.keep hk hi e)
theorem Yg.Ub{z:R.Sv×MV}(h:Yg w F z)(hk:DF E w w')(M:z.1.Fj=true->¬E z.2.sb)(O:z.1.Fj=true->∀j,z.2.bk.ownBlock=some j->¬E j)(B:∀j,z.2.dn.ownBlock=some j->¬E j)(hi:∀b cur,F b->w.heap[b]?=some (.cells cur 106 (0,0))->¬E b)(e:∀k,F k->F' k):Yg w' F' z:=by
 refine⟨?_,?_,λj D=>e _ (h.own j D)⟩
 ·grind [Yg,Fp.Ub]
 ·have⟨m,e1,e2,e3⟩:=h.log;exact⟨m,e1,hk.row e2 B,λy f=>⟨(e3 y f).1.keep hk hi e,(e3 y f).2.keep hk hi e⟩⟩
def aY(T:Ag):Bool:=T==330 || T==333 || T==337
theorem Fp.blk(h:Fp w F l b K k W):F b/\∃cur T,w.heap[b]?=some (.cells cur T (0,0))/\aY T=true:=by grind [Fp,aY]
theorem NC{B size:Nat}{e:Ag}{v:Ad}{xs:Ae}(h:w.ownsRow B e size v n xs)(hj:v.ownBlock=some j):∃cur,w.heap[j]?=some (.cells cur e (0,0)):=by
 exact ab5
theorem Fp.bkt(h:Fp w F l b K k W)(e:K.ownBlock=some j):F j/\∃cur,w.heap[j]?=some (.cells cur 9 (0,0)):=by
 cases h with
 |counter h1 h2 h3=>rw[h3]at e;cases e
 |MZ h1 h2 h3 h4=>exact⟨h4 j e,NC h3 e⟩
 |P9 d0 d1 d2 h1 h2 h3 g0 g1 g2=>rw[h3]at e;cases e
def Vn(z:R.Sv×MV)(en:R.En)(K' bk':Ad):R.Sv×MV:=({z.1 with log:=z.1.log++[en]},{z.2 with dn:=K',bk:=bk'})
def lM(z:R.Sv×MV)(g:Nat):D9:=λk=>(k=z.2.sb\/z.2.bk.ownBlock=some k)\/(z.2.dn.ownBlock=some k\/k=g)
def TP(T:Ag):Bool:=aY T || T==9 || T==98 || T==213
theorem G9.ju{sv:List R.Sv}{DX:List Int}{DN:List R.Sn}(h:G9 s n nm t F c sv DX DN EF w){z:R.Sv×MV}(hz:t.zs[u]?=some z)(m:z.1.Fj=true)(y:w.heap[g]?=some (.cells cur 213 (0,0)))(k:Nat)(hk:lM z g k):∃cur T,w.heap[k]?=some (.cells cur T (0,0))/\TP T=true:=by
 have e:=h.each z (Ap hz);have f:=e.wk;rw[Ay m]at f;rcases hk with (rfl|hk)|(hk|rfl)
 ·grind [Fp.blk,TP]
 ·have⟨_,cur,q⟩:=f.bkt hk;exact⟨cur,9,q,rfl⟩
 ·have⟨B,_,e2,_⟩:=e.log;have⟨cur,q⟩:=NC e2 hk;exact⟨cur,98,q,rfl⟩
 ·exact⟨cur,213,y,rfl⟩
theorem G9.did{sv:List R.Sv}{DX:List Int}{DN:List R.Sn}{w3:Aa}(h:G9 s n nm t F c sv DX DN EF w)(be:∀k,F k->k<w.heap.size){z:R.Sv×MV}(hz:t.zs[u]?=some z)(ha:z.1.Fj=true)(hK:t.K=EJ g t.zs.length cap)(hg:w.heap[g]?=some (.cells cur 213 (0,0)))(aN:t.zs.length<=cap)(b1:cap<=maxLen)(bi:cur.size=cap*3)(bj:cur.toList.take (t.zs.length*3)=tab Om t.zs)
 {O V f:Ad} {es:List (R.En×Value×Value)} (hk:DF (lM z g) w w3) (bb:w3.heap[g]?=some (.cells (cur.toList.set (u*3+2) K').toArray 213 (0,0))) (hF:∀k,F k->F' k) (hw:Fp w3 F' (z.1.log++[en]) z.2.sb f z.1.Dz z.2.wk) (bz:f.ownBlock=z.2.bk.ownBlock\/∃j,f.ownBlock=some j/\w.heap.size<=j)
  (he:es.map (·.1)=z.1.log) (aS:∀y∈es,Gg w F y.2.1 y.1.arg/\Gg w F y.2.2 y.1.DU) (bf:w3.ownsRow 0 98 7 K' (es.length+1) (tab IQ (es++[(en,O,V)]))) (hO:Gg w3 F' O en.arg) (hV:Gg w3 F' V en.DU) (b9:K'.ownBlock=z.2.dn.ownBlock\/∃j,K'.ownBlock=some j/\w.heap.size<=j/\F' j):
  G9 s n nm {t with zs:=t.zs.set u (Vn z en K' f)} F' c (sv.set u {z.1 with log:=z.1.log++[en]}) DX DN EF w3:=by
 have⟨f1,f2,f3⟩:=h.Fw;have bL:=h.ju hz ha hg;have hs:=h.each z (Ap hz);have ac:=hs.wk;rw[Ay ha]at ac;have al:∀{b:Nat} {cu:Array Value} {T:Ag} {zz:Nat×Nat},w.heap[b]?=some (.cells cu T zz)->TP T=false->¬lM z g b:=λ{b cu T zz} hb hT hE=>by
  all_goals grind
 have hi:∀b cur,F b->w.heap[b]?=some (.cells cur 106 (0,0))->¬lM z g b:=λb cur _ hb=>al hb Em
 have⟨ez,_,b6,_⟩:=hs.log;refine⟨hk.at h.bs (al h.bs Em),?_,?_,λy hy=>?_,λi j a b ak am an k m=>?_,λi j a b ak am an aw az=>?_,λi r hr ab=>?_,h.inj,?_,hF _ f1,hF _ f2,λj hj=>hF _ (f3 j hj)⟩
 ·simp only[map_set];rw[h.zs];rfl
 ·simp only;rw[BG];refine⟨by rw[F8 LZ,BG,BZ],Am ⟨g,cap,_,hK,AV _,bb,aN,b1,by simpa using bi,?_⟩⟩;rw[Wq,bj];exact J6 LZ t.zs u 2 z (Vn z en K' f) _ hz U rfl
 ·have⟨j,hj⟩:=List.getElem?_of_mem hy;rcases XQ hj with ⟨rfl,rfl⟩|⟨aq,aa⟩
  ·refine⟨?_,⟨es++[(en,O,V)],by simp[Vn,he],?_,λy hy=>?_⟩,λj hj=>?_⟩
   ·all_goals grind [Vn]
   ·rw[AJ];exact bf
   ·rcases Bj.1 hy with q|q
    ·exact⟨(aS y q).1.keep hk hi hF,(aS y q).2.keep hk hi hF⟩
    all_goals grind
   ·rcases b9 with q|⟨j',q1,q2,B⟩
    ·exact hF _ (hs.own j (by rw[<-q];exact hj))
    all_goals grind [Vn]
  ·have ad:=h.each y (Ap aa);refine ad.Ub hk (λQ hE=>?_) (λQ k m hE=>?_) (λk m hE=>?_) hi hF
   ·have M:=ad.wk;rw[Ay Q]at M;have⟨_,cu,T,q1,q2⟩:=M.blk;have ab:=(h.ye u j z y hz aa (λe=>aq e.symm) ha Q).1;rcases hE with (e|e)|(e|e)
    ·exact ab e.symm
    ·have⟨_,ah,B⟩:=ac.bkt e;rw[q1]at B;cases B;cases q2
    ·have⟨ah,B⟩:=NC b6 e;rw[q1]at B;cases B;cases q2
    ·rw[e,hg]at q1;cases q1;cases q2
   ·have M:=ad.wk;rw[Ay Q]at M;have⟨_,cu,q1⟩:=M.bkt m;have ab:=(h.ye u j z y hz aa (λe=>aq e.symm) ha Q).2;rcases hE with (e|e)|(e|e)
    ·have⟨_,ah,T,B,q4⟩:=ac.blk;rw[<-e,q1]at B;cases B;cases q4
    all_goals grind [NC]
   ·have⟨ey,_,b5,_⟩:=ad.log;have⟨cu,q1⟩:=NC b5 m;rcases hE with (e|e)|(e|e)
    ·have⟨_,ah,T,B,q4⟩:=ac.blk;rw[<-e,q1]at B;cases B;cases q4
    ·all_goals grind [Fp.bkt]
    ·exact h.dns u j z y hz aa (λe=>aq e.symm) k e m
    ·rw[e,hg]at q1;cases q1
 ·have D:∀{i:Nat} {a:R.Sv×MV},(t.zs.set u (Vn z en K' f))[i]?=some a->∃a0,t.zs[i]?=some a0/\(∀k,a.2.dn.ownBlock=some k->a0.2.dn.ownBlock=some k\/(i=u/\w.heap.size<=k))/\(i≠u->a=a0):=λ{i a} ha=>by
   all_goals grind [Vn]
  intro aV;have⟨a0,p1,p2,p3⟩:=D ak;have⟨b0,p4,p5,p6⟩:=D am;have ra:=(h.each a0 (Ap p1)).own;have rb:=(h.each b0 (Ap p4)).own;rcases p2 k m with q|⟨rfl,q⟩
  ·rcases p5 k aV with q'|⟨rfl,q'⟩
   ·exact h.dns i j a0 b0 p1 p4 an k q q'
   ·have:=be k (ra k q);omega
  all_goals grind
 ·have D:∀{i:Nat} {a:R.Sv×MV},(t.zs.set u (Vn z en K' f))[i]?=some a->∃a0,t.zs[i]?=some a0/\a0.1.Fj=a.1.Fj/\a0.2.sb=a.2.sb/\(∀k,a.2.bk.ownBlock=some k->a0.2.bk.ownBlock=some k\/(i=u/\w.heap.size<=k)):=λ{i a} ha=>by
   all_goals grind [Vn]
  have⟨a0,p1,pa,ps,p2⟩:=D ak;have⟨b0,p4,pb,pt,p5⟩:=D am;rw[<-pa]at aw;rw[<-pb]at az;have b7:=h.ye i j a0 b0 p1 p4 an aw az;refine⟨by rw[<-ps,<-pt];exact b7.1,λk m aV=>?_⟩;have ra:=(h.each a0 (Ap p1)).wk;have rb:=(h.each b0 (Ap p4)).wk;all_goals grind [Fp.bkt]
 ·have⟨y,h1,h2,h3⟩:=h.ln i r hr ab;exact⟨y,hk.at h1 (al h1 Em),h2,hF _ h3⟩
 ·have⟨a,b,hj⟩:=h.EF;refine⟨a,b,hk.at hj (λe=>?_)⟩;all_goals grind
end Go.Proofs.YtblomippkddgiaaGreatDoor
