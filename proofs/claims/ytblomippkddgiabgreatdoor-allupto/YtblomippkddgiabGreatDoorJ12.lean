import Derived.Test.YtblomippkddgiabGreatDoorJ11
set_option maxRecDepth 100000
set_option maxHeartbeats 4000000
namespace Go.Proofs.YtblomippkddgiabGreatDoor
open Go.Proofs.Tryz RowKit
variable {cu cur:Array Value}{T f t:ByteArray}{E F F':D9}{k kind most proc x:Int}{lives:List Int}{l:List R.En}{fl:List R.Fl}{jobs js:List R.Jb}{seen:List R.Sn}{S:List R.Sv}{bs:List UInt8}{L Zq xs:List Value}{A B N N' b cap dc dl g i j m n nm s size u va0 xc xn yc yn:Nat}{xa ya:Option Addr}{p:Pl}{M:R.Bk}{c:R.Cf}{en:R.En}{G:R.Wd}{T' e:TypeId}{K K' O W X bk' lv u0 u1 u2 u3 u4 u5 u6 v v0 v1 v2 v3 v4 v5 v6 z:Value}{w w' w0 w1 w2 w3 wa wz:World}
theorem UZ{α:Type}{f:α->List Value}(a:∀x,(f x).length=n):∀(xs:List α) (k:Nat),(tab f xs).take (k*n)=tab f (xs.take k)
 |[],k=>by simp[tab]
 |x :: xs,0=>by simp[tab]
 |x :: xs,k+1=>by
  have b:=UZ a xs k;simp only[tab,Ci,List.take_succ_cons]at b ⊢;rw[Du,Nat.add_comm,<-a x,List.take_length_add_append,a x,b]
theorem UY{α:Type}{f:α->List Value}(a:∀x,(f x).length=n):∀(xs:List α) (k:Nat),(tab f xs).drop (k*n)=tab f (xs.drop k)
 |[],k=>by simp[tab]
 |x :: xs,0=>by simp[tab]
 |x :: xs,k+1=>by
  have b:=UY a xs k;simp only[tab,Ci,List.drop_succ_cons]at b ⊢;rw[Du,Nat.add_comm,<-a x,List.drop_length_add_append,a x,b]
theorem UX{α:Type}(f:α->List Value)(xs a:List α):tab f (xs++a)=tab f xs++tab f a:=by simp[tab]
theorem Nf{cs:Array Value}(h:Dy w g cur e):Dy (w.setRow g cs) g cs e:=by grind [World.setRow]
theorem NE(w:Aa)(g:Nat)(cs:Array Value):DF (λk=>k=g) w (w.setRow g cs):=by grind [DF,World.setRow]
theorem oX{α:Type}{f:α->List Value}(a:∀x,(f x)=n)(xs:List α)(i:Nat):tab f (xs.eraseIdx i)=(tab f xs).take (i*n)++(tab f xs).drop ((i+1)*n):=by grind [UX,UZ,UY]
theorem ry{T:Ae}{k:Nat}(hk:0<k)(e:L=cap*k)(hn:n<=cap)(a:L.take (n*k)=T)(hi:i<n)(f:Zq=k):
  let C1:=L.take (i*k)++T.drop ((i+1)*k)++L.drop (i*k+(T.drop ((i+1)*k)))
  let C2:=C1.take ((n-1)*k)++Zq++C1.drop ((n-1)*k+k)
  C1=cap*k/\C2=cap*k/\C2.take ((n-1)*k)=T.take (i*k)++T.drop ((i+1)*k)/\T=n*k/\(T.drop ((i+1)*k))=(n-(i+1))*k:=by
 have d:n*k<=cap*k:=BL _ hn;have b:T.length=n*k:=by rw[<-a,Bv];omega
 have c:(i+1)*k<=n*k:=BL _ hi
 grind [Nat.mul_le_mul_right,Nat.sub_mul,List.take_of_length_le]
theorem Jm{P:Program}{b:Array Oper}{o:Oper}{a:Act}{K:Act->World->Prop}{Q:Exit->Act->World->Prop}{E:Prop}(c:o.guard=none)(s x:Operand)(t:Ag)
  (f:o.op=.call {callee:=.builtin .append,args:=#[s,x],argTypes:=#[t,t]}) (v e d:Ad) (w':Aa) (i:a.eval s=v) (k:a.eval x=e)
  (g:(Builtin.append_ #[t,t] o.type #[v,e]).run P w=.ok d w') (h:K (a.put o.dst d) w'):if Region.wanted o (yielded b a.tmps)=true then Oper.wp P o a w K Q else E:=by
 have j:Region.wanted o (yielded b a.tmps)=true:=by simp[Region.wanted,c]
 rw[Ay j];unfold Oper.wp;simp[execOp,f,resolve,invoke,builtin,i,k,g,Result.andThen];exact h
theorem Pj{off:Nat}{t ty:Ag}(i:prog.underlying t=some (.slice e))(j:∀w,(zeroValue e).run prog w=.ok z w)(f:∀u∈z.cells.toList,u.oneCell'=true)(h:Dy w g cur e)(a:off+z.cells<=cur)(c:Nat):
  (Builtin.clear_ #[t] ty #[.slice (Y g off) 1 c]).run prog w=.ok Ep (w.setRow g (cur.toList.take off++z.cells.toList++cur.toList.drop (off+z.cells)).toArray):=by
 have d:(Builtin.zeroCells z.cells 1).toList=z.cells.toList:=by
  apply List.ext_getElem;all_goals grind [Builtin.zeroCells,Nat.mod_eq_of_lt]
 have b:=run_storeCells_at prog g off e z.cells.toList 0 cur w h (by simpa using a) f;simp only[Cz]at b;simp[Builtin.clear_,run_underlying i,j,d,b]
theorem aaZ(w:Aa):(zeroValue 166).run prog w=.ok (.agg #[Z 0,.string ⟨#[]⟩,DI]) w:=EL
theorem zd:∀u∈tab Gp fl,u.oneCell'=true:=by
 intro u hu;have⟨f,_,a⟩:=List.mem_flatMap.1 hu;simp[Gp]at a;rcases a with rfl|rfl|rfl<;>rfl
abbrev I4:List Value:=[Z 0,.string ⟨#[]⟩,.bool false]
theorem yJ(C:Dy w g cur 166)(hn:n=fl)(B:n<=cap)(S:cap<=maxLen)(r:cur=cap*3)(x:cur.toList.take (n*3)=tab Gp fl)(hi:i<n):
  D7 90 #[EJ g n cap,Z i,Z (i+1)] w (EJ g (n-1) cap) λQ=>(∃b,Dy Q g b 166/\b=cap*3/\b.toList.take ((n-1)*3)=tab Gp (fl.eraseIdx i))/\DF (λk=>k=g) w Q:=by
 have⟨i0,D,W,l,X⟩:=A1 dY;have v:=ry (Zq:=I4) (k:=3) Em (by rw[BO];exact r) B x hi I;have⟨H,J,E,r4,F⟩:=v;rw[<-oX JN]at E;obtain⟨y,q⟩:∃y,y=(tab Gp fl).drop ((i+1)*3):=DR;rw[<-q]at H J E F;obtain⟨s,p⟩:∃s,s=cur.toList.take (i*3)++y++cur.toList.drop (i*3+y.length):=DR;rw[<-p]at H J E;obtain⟨o,hW1⟩:∃o,o=w.drew.setRow g s.toArray:=DR;have g1:Dy o g s.toArray 166:=by rw[hW1];exact Nf (w:=w.drew) C
 obtain⟨z,hW2⟩:∃z,z=o.setRow g (s.take ((n-1)*3)++I4++s.drop ((n-1)*3+3)).toArray:=DR;have g2:Dy z g (s.take ((n-1)*3)++I4++s.drop ((n-1)*3+3)).toArray 166:=by rw[hW2];exact Nf g1
 have HK:Hid (DF (λk=>k=g) w z):=by
  exact abH
 have e:Hid (∃b:Array Value,Dy z g b 166/\b.size=cap*3/\b.toList.take ((n-1)*3)=tab Gp (fl.eraseIdx i)):=⟨_,g2,by simpa using J,by simpa using E⟩;have t:∀j u,y[j]?=some u->w.drew.cell? (((Y g ((i+1)*3)):Addr).add j)=some u:=λj u G=>by
  rw[q,Cn,<-x,BI]at G;split at G
  .rw[Bc];have:Dy w.drew g cur 166:=C;simp[World.cell?,this];simpa using G
  .cases G
 have f:∀c,(Builtin.append_ #[108,108] 108 #[EJ g i cap,.slice (some (Y g ((i+1)*3))) (n-(i+1)) c]).run prog w.drew=.ok (EJ g (n-1) cap) o:=λc=>by
  have h:=run_append_room (P:=prog) w.drew 108 108 166 i0 underlying108 D g i cap cur C (Y g ((i+1)*3)) (n-(i+1)) c y (by rw[F,l]) t (λu hu=>zd u (List.mem_of_mem_drop (q ▸ hu))) U (by rw[l,F,r];omega);rw[l]at h;rw[h,hW1,p,show i+(n-(i+1))=n-1 by omega]
 have d:i+1=n->∀a c,(Builtin.append_ #[108,108] 108 #[EJ g i cap,.slice (some a) 0 c]).run prog w.drew=.ok (EJ g (n-1) cap) o:=λhe a c=>by
  have L:=B6.1 (by rw[F,show n-(i+1)=0 by omega]);have h:=run_append_room (P:=prog) w.drew 108 108 166 i0 underlying108 D g i cap cur C a 0 c [] Ev Ev Ev U (by rw[l,r];simp;omega);rw[l]at h;rw[h,hW1,p,L,show i+0=n-1 by omega]
 have hclr:∀ty c,(Builtin.clear_ #[108] ty #[.slice (some (Y g ((n-1)*3))) 1 c]).run prog o=.ok Ep z:=λty c=>by
  have h:=Pj (ty:=ty) (off:=(n-1)*3) underlying108 aaZ (by simp[Value.cells,Value.oneCell']) g1 (by simp[Value.cells,H];omega) c;rw[h,hW2];simp[Value.cells]
 unfold maxLen at S;clear q p hW1 hW2 g1 g2 H J E r4 F t C x r hn;have q1:((i:Int)==i+1)=false:=Fy;obtain⟨m,rfl⟩:∃m,n=m+1:=⟨n-1,U⟩;simp only[Nat.add_sub_cancel,Nat.add_sub_add_right]at f d hclr e ⊢;have T:m+1-m=1:=U;have⟨O,A,HC⟩:=Ll f d hclr;clear f d hclr;have HE:=e;clear e;obtain⟨b1,b2,b3,b4⟩:(i:Int)+1<=((m+1:Nat):Int)/\((m+1:Nat):Int)<=(cap:Int)/\(i:Int)<=cap/\0<=(i:Int)+1:=U;by_cases M:i+1=cap
 .have N:i=m:=U;subst N;subst M;have b7:(i:Int)<=i+1:=U;have b8:i<=i+1:=U;have K:=Dx (A I (Y g 0) 0);clear A O
  delta D7
  go_in
  go_wp2;go_region_law (refine Jm I (.tmp 22) (.tmp 25) 108 I (EJ g i (i+1)) (EJ g 0 0) (EJ g i (i+1)) o I I K ?_)
  exact wK
 .have b5:i<=m:=U;have b6:¬cap=i+1:=U
  delta D7
  go_in
  go_wp2;go_region_law (refine Jm I (.tmp 22) (.tmp 25) 108 I (EJ g i cap) (.slice (some (Y g ((i+1)*3))) (m-i) (cap-(i+1))) (EJ g m cap) o I I (O _) ?_)
  exact wK
theorem afZ(w:Aa):(zeroValue 9).run prog w=.ok (.string ⟨#[]⟩) w:=EL
theorem vZ(l:List ByteArray):∀u∈strs l,u.oneCell'=true:=by
 intro u hu;obtain⟨x,_,rfl⟩:=Cy.1 hu;rfl
theorem qJ{t:List ByteArray}(y:Dy w g cur 9)(hn:t.length=5)(B:5<=cap)(E:cap<=maxLen)(m:cur=cap)(x:cur.toList.take 5=strs t):
  D7 293 #[EJ g 5 cap,Z 0,Z 1] w (EJ g 4 cap) λC=>(∃a,Dy C g a 9/\a=cap/\a.toList.take 4=strs (t.drop 1))/\DF (λk=>k=g) w C:=by
 have⟨i0,A,F,r,G⟩:=A1 jJ;have v:cur.toList.length=cap:=by rw[BO];exact m
 obtain⟨n,d⟩:∃n,n=strs (t.drop 1):=DR;have i:n.length=4:=by rw[d];simp[strs,hn]
 obtain⟨e,f⟩:∃e,e=cur.toList.take 0++n++cur.toList.drop (0+n.length):=DR;have b:e.length=cap:=by rw[f];simp[i,m];omega
 obtain⟨q,hW1⟩:∃q,q=w.drew.setRow g e.toArray:=DR;have g1:Dy q g e.toArray 9:=by rw[hW1];exact Nf (w:=w.drew) y
 obtain⟨s,hW2⟩:∃s,s=q.setRow g (e.take 4++[Value.string ⟨#[]⟩]++e.drop (4+1)).toArray:=DR;have g2:Dy s g (e.take 4++[Value.string ⟨#[]⟩]++e.drop (4+1)).toArray 9:=by rw[hW2];exact Nf g1
 have HK:Hid (DF (λk=>k=g) w s):=by
  exact abH
 have o:e.take 4=n:=by
  rw[f,List.take_zero,Cc,Ch U,A7 U]
 have HE:Hid (∃a:Array Value,Dy s g a 9/\a.size=cap/\a.toList.take 4=strs (t.drop 1)):=by
  refine⟨_,g2,by simp[b];omega,?_⟩;simp only[o,Bs];rw[Ch U,A7 U,d]
 have p:∀j u,n[j]?=some u->w.drew.cell? (((Y g 1):Addr).add j)=some u:=λj u z=>by
  have l:(strs t)[1+j]?=some u:=by
   rw[d]at z;unfold strs at z ⊢;rw[BP,Cn]at z;rw[BP];exact z
  rw[<-x,BI]at l;split at l
  .rw[Bc];have:Dy w.drew g cur 9:=y;simp[World.cell?,this];simpa using l
  .cases l
 have D:Hid (∀c,(Builtin.append_ #[36,36] 36 #[EJ g 0 cap,.slice (some (Y g 1)) 4 c]).run prog w.drew=.ok (EJ g 4 cap) q):=λc=>by
  have h:=run_append_room (P:=prog) w.drew 36 36 9 i0 underlying36 A g 0 cap cur y (Y g 1) 4 c n (by rw[i,r]) p (λu hu=>vZ _ u (d ▸ hu)) U (by rw[r,i,m];omega);rw[r]at h;rw[h,hW1,f]
 have HC:Hid (∀ty c,(Builtin.clear_ #[36] ty #[.slice (some (Y g 4)) 1 c]).run prog q=.ok Ep s):=λty c=>by
  have h:=Pj (ty:=ty) (off:=4) underlying36 afZ (by simp[Value.cells,Value.oneCell']) g1 (by simp[Value.cells,b];omega) c;rw[h,hW2];simp[Value.cells]
 unfold maxLen at E;clear d f hW1 hW2 g1 g2 p y x m hn o b i v;obtain⟨H,J,K,L⟩:(5:Int)<=cap/\¬cap=1/\(1:Int)<=cap/\0<=(cap:Int):=U
 delta D7
 go_in
 go_wp2;go_region_law (refine Jm I (.tmp 22) (.tmp 25) 36 I (EJ g 0 cap) (.slice (some (Y g 1)) 4 (cap-1)) (EJ g 4 cap) q I I (D _) ?_)
 exact wK
theorem ZF(l:List R.En)(e:R.En):R.Fe (l++[e])=if e.g=0 then (if (R.Fe l).length<4 then R.Fe l++[R.Tt e.arg 0] else (R.Fe l++[R.Tt e.arg 0]).drop 1) else R.Fe l:=by
 unfold R.Fe;simp only[List.filter_append,C8];by_cases h:e.g=0
 .rw[Ay h];have e1:List.filter (λe=>decide (e.g=0)) [e]=[e]:=by simp[h]
  rw[e1,Cq,CU];generalize (l.filter λe=>decide (e.g=0)).map (λe=>R.Tt e.arg 0)=out;rw[AJ,A9,CP];by_cases a:out.length<4
  .rw[Ay U,show out.length+1-4=0 by omega,show out.length-4=0 by omega,De,De]
  .rw[Ao U,CY U,CY (by rw[A9];omega),CF];congr 2;omega
 .rw[Ao h];have e1:List.filter (λe=>decide (e.g=0)) [e]=[]:=by simp[h]
  rw[e1,CU,Cb]
structure QI(w:Aa)(b:Nat)(K:Ad)(ps:List ByteArray)(O:Ad)(w':Aa):Prop where
 row:V.Row w' w.heap.size O [((ps.length:Int),⟨#[]⟩)]
 cell:∃K',w'.heap[b]?=some (.cells #[K'] 326 (0,0))/\w'.ownsRow 0 9 1 K' ps.length (strs ps)/\(K'.ownBlock=K.ownBlock\/∃j,K'.ownBlock=some j/\w.heap.size<=j/\j<w'.heap.size)
 keep:DF (λk=>k=b\/K.ownBlock=some k) w w'
theorem ZE{f:List ByteArray}(h:w.heap[b]?=some (.cells #[K] 326 (0,0)))(c:w.ownsRow 0 9 1 K m (strs f))(l:(w.alloc (.cells #[.string T] 9)).grownBy wz K.ownBlock)(i:wz.ownsRow 0 9 1 K' (m+1) (strs f++[.string T]))(j:K'.ownBlock=K.ownBlock\/K'.ownBlock=va0)(o:w<=va0):
  wz.heap[b]?=some (.cells #[K] 326 (0,0))/\(wz.setCell (Y b 0) K').heap[b]?=some (.cells #[K'] 326 (0,0))/\(wz.setCell (Y b 0) K').ownsRow 0 9 1 K' (m+1) (strs (f++[T]))/\DF (λk=>k=b\/K.ownBlock=k) w (wz.setCell (Y b 0) K')/\K'.ownBlock≠b:=by
 have hl:=Dv h;have g:=K5 c h Em;have a:K'.ownBlock≠some b:=by grind
 have d:wz.heap[b]?=some (.cells #[K] 326 (0,0)):=by
  rw[l.block b Fy (λe=>g e.symm)]
  grind [Below.heap_alloc]
 have p:strs (f++[T])=strs f++[.string T]:=by simp[strs]
 refine⟨d,Ek (cs:=[K]) (off:=0) d K',?_,?_,a⟩
 .grind [Jl,Below.heap_setCell]
 .have n:DF (λk=>k=b\/K.ownBlock=some k) w (w.alloc (.cells #[.string T] 9)):=(DF.refl _ w).alloc _
  grind [DF.grown,DF.setCell]
theorem Ur(j:Nat)(u:Ad)(h:([.string T]:Ae)[j]?=u):(w.alloc (.cells #[.string T] 9)).cell? (((EN w 0):Addr).add j)=u:=by grind [Addr.add_lit,World.cell?_alloc_new]
theorem row_in(w Uq:Aa)(a:w<=Uq.heap.size)n(s:Ab):V.Row (Uq.alloc (.cells #[Z n,.string s] 73)) w (EJ Uq 1 1) [(n,s)]:=
 ⟨rfl,Am ⟨Uq.heap.size,1,#[Z n,.string s],rfl,a,AF Uq _,Ar _,Em,rfl,rfl⟩⟩
theorem uD(w:Aa)(b c:Nat)(a:Af)(d:List ByteArray)(T:Ab)(L:d.length<4)(h:Dy w b #[.slice a d c] 326)(l:w.ownsRow 0 9 1 (.slice a d c) d (strs d)):
  ET 291 #[ptr b,.string T] w λe J=>∃O,e=.returned O/\QI w b (.slice a d c) (d++[T]) O J:=by
 have⟨i0,hi,t,u,v⟩:=A1 jJ;have c0:=EI h 0;have K:DJ w b 0:=Eb h;have hl:=Dv h;have z:Hid (∀{i:Aa} {n:Ad} {m:Nat},(w.alloc (.cells #[.string T] 9)).grownBy i (Value.slice a d.length c).ownBlock->i.ownsRow 0 9 1 n (d.length+1) (strs d++[.string T])->(n.ownBlock=(Value.slice a d.length c).ownBlock\/n.ownBlock=some m)->w.heap.size<=m->EB i b 0 (.slice a d.length c)/\DJ i b 0/\b<i.heap.size/\QI w b (.slice a d.length c) (d++[T]) (EJ i.heap.size 1 1) ((i.setCell (Y b 0) n).alloc (.cells #[Z ((d.length:Int)+1),.string ⟨#[]⟩] 73))):=λ{i n m} hg f j hva=>by
  have⟨x,F,G,H,Q⟩:=ZE h l hg f j hva;have r:(i.setCell (Y b 0) n).heap.size=i.heap.size:=Ev;have y:=hg.size;simp only[Cx]at y;have o:(d++[T]).length=d.length+1:=Ev;refine⟨EI x 0,Eb x,Dv x,?_,⟨n,(AL _ _ _ (by rw[r];exact Dv x)).trans F,by rw[o];exact G.alloc _,?_⟩,H.alloc _⟩
  .have:=row_in w (i.setCell (Y b 0) n) (by rw[r];omega) ((d.length:Int)+1) ⟨#[]⟩;rw[r]at this;rw[o];exact this
  .rcases j with e|e
   .exact Aj e
   .refine Am ⟨m,e,hva,?_⟩;have:=(Ba f m e).2;simp;omega
 have D:¬(4:Int)<((d.length+1:Nat):Int):=U;have e4:decide (((d.length+1:Nat):Int) > 4)=false:=Fy;have s:=Dx l;clear h l
 delta ET
 go_in
 go_wp2_with (at_builtin;go_must (refine AQ _ I (.tmp 9) (.tmp 11) 36 I 0 9 i0 (.string ⟨#[]⟩) 1 16 underlying36 hi t u v I Em (.slice a d.length c) d.length (strs d) I (s.alloc _) (EN w 0) 1 1 [.string T] I I (Ur) Vd JG U U ?_))
 intro S i f k p j;have⟨M,N,P,A⟩:=z k f j U;rcases f.2 with ⟨q,_⟩|⟨g,cap,C,E,_⟩
 .exact absurd q p
 subst E;have B:=Dx A;clear A f k j z s c0 K hl p hi t u v;go_wp2;go_returns;exact⟨_,I,B⟩
theorem uC{f:List ByteArray}(x:f.length=4)(h:w.heap[b]?=some (.cells #[K] 326 (0,0)))(u:w.ownsRow 0 9 1 K 4 (strs f))(L:(w.alloc (.cells #[.string T] 9)).grownBy wz K.ownBlock)(t:wz.ownsRow 0 9 1 (EJ g 5 cap) 5 (strs f++[.string T]))(l:g=K.ownBlock\/g=some (w.heap.size+1)):
  EB wz b 0 K/\DJ wz b 0/\b<wz/\D7 293 #[EJ g 5 cap,Z 0,Z 1] (wz.setCell (Y b 0) (EJ g 5 cap)) (EJ g 4 cap) λa=>EB a b 0 (EJ g 5 cap)/\DJ a b 0/\b<a/\QI w b K ((f++[T]).drop 1) (EJ a 1 1) ((a.setCell (Y b 0) (EJ g 4 cap)).alloc (.cells #[Z 4,.string ⟨#[]⟩] 73)):=by
 have⟨H,M,r3,i,r5⟩:=ZE (m:=4) (va0:=w.heap.size+1) (K':=EJ g 5 cap) h u L t l U;have z:g≠b:=λe=>r5 (CG some e)
 have A:=L.size;simp only[Cx]at A;have E:(wz.setCell (Y b 0) (EJ g 5 cap)).heap.size=wz.heap.size:=Ev;refine⟨EI H 0,Eb H,Dv H,?_⟩;rcases r3 with ⟨P,⟨q,_⟩|⟨g',J,N,X,_,hc,Q,s,O,G⟩⟩
 .cases q
 cases X;have r:(f++[T]).length=5:=by simp[x]
 refine(qJ hc r U s U G).mono ?_;rintro e a ⟨rfl,⟨j,y,W,F⟩,hk⟩;have c:a.heap[b]?=some (.cells #[EJ g 5 cap] 326 (0,0)):=by
  rw[hk.block b (Dv M) (λe=>z e.symm)];exact M
 have C:=hk.size;rw[E]at C;have D:((f++[T]).drop 1).length=4:=by simp[x]
 have v:(a.setCell (Y b 0) (EJ g 4 cap)).heap.size=a.heap.size:=Ev;have o:=Dv c;have S:=Dv y;refine⟨I,EI c 0,Eb c,o,⟨?_,⟨EJ g 4 cap,?_,?_,?_⟩,?_⟩⟩
 .grind [row_in]
 .exact(AL _ _ _ (by rw[v];exact o)).trans (Ek (cs:=[EJ g 5 cap]) (off:=0) c _)
 .rw[D];refine⟨by simp[strs,x],Am ⟨g,cap,j,rfl,AV _,?_,U,s,U,by simpa using F⟩⟩
  grind [Below.heap_alloc,Below.heap_setCell]
 .rcases l with e|e
  .exact Aj e
  .cases e;exact Am ⟨w.heap.size+1,I,U,Fy⟩
 .have d:DF (λk=>k=b\/K.ownBlock=some k) w a:=⟨hk.os.trans i.os,hk.tape.trans i.tape,hk.output.trans i.output,Br i.size hk.size,λk n d=>by
   have B:k≠g:=λe=>by
    grind
   rw[hk.block k (Ai n i.size) B];exact i.block k n d⟩
  exact(d.setCell (p:=Y b 0) (Aj (Aj I)) _).alloc _
theorem mU(w:Aa)(b c:Nat)(a:Af)(p:List ByteArray)(T:Ab)(u:p.length=4)(h:Dy w b #[.slice a 4 c] 326)(j:w.ownsRow 0 9 1 (.slice a 4 c) 4 (strs p)):
  ET 291 #[ptr b,.string T] w λe G=>∃O,e=.returned O/\QI w b (.slice a 4 c) ((p++[T]).drop 1) O G:=by
 have⟨i0,hi,m,n,o⟩:=A1 jJ;have c0:=EI h 0;have y:DJ w b 0:=Eb h;have hl:=Dv h;have z:=Dx u;have B:4+1<=maxLen:=Em;have⟨s,k⟩:=FU h j;clear h j u
 delta ET
 go_in
 go_wp2_with (at_builtin;go_must (refine AQ _ I (.tmp 9) (.tmp 11) 36 I 0 9 i0 (.string ⟨#[]⟩) 1 16 underlying36 hi m n o I Em (.slice a 4 c) 4 (strs p) I (k.alloc _) (EN w 0) 1 1 [.string T] I I (Ur) Vd JG U U ?_))
 intro H K f d i l;rcases f.2 with ⟨q,_⟩|⟨g,cap,A,C,_⟩
 .exact absurd q i
 subst C;have⟨D,E,F,x⟩:=uC z s k d f l;have t:=Dx x;clear x f d l k c0 y hl i hi m n o s;go_wp2_with (go_at_call 293;refine cm t ?_;rintro J ⟨d0,y,hl,v⟩;have r:=Dx v;clear v t D E F)
 go_returns;exact⟨_,I,r⟩
def Ik(x:V.It):List Value:=[Z x.1,.string x.2]
def Hm(n:Nat)(ps:List ByteArray)(i:Nat):List V.It:=(n,⟨#[]⟩) :: (ps.take i).map λs=>(0,s)
theorem RZ(n:Nat)(a:List ByteArray)(i:Nat)(s:Ab)(h:a[i]?=s):Hm n a (i+1)=Hm n a i++[(0,s)]:=by grind [Hm,List.take_add_one]
theorem UQ(n:Nat)(a:List ByteArray)(i:Nat)(h:i<=a):(Hm n a i)=i+1:=by simp[Hm,h]
theorem Qc:∀v:List V.It,V.flat v=tab Ik v
 |[]=>rfl
 |x :: v=>by
  have:=Qc v;simp only[tab,Ci]at this ⊢;rw[V.flat,this];rfl
theorem Zw(w:Aa)(T:Ab)(j:Nat)(u:Ad)(h:([Z 0,.string T]:Ae)[j]?=u):(w.alloc (.cells #[Z 0,.string T] 73)).cell? (((EN w 0):Addr).add j)=u:=by grind [Addr.add_lit,World.cell?_alloc_new]
theorem oK(w:Aa)(b g cap L n:Nat)(ps:List ByteArray)(hL:ps=L)(f:L<=4)(c:L<=cap)(d:n<=L)(c0:EB w b 0 (EJ g L cap))(hg:g<w)(hcs:∀i s,ps[i]?=some s->EB w g i (.string s)):
  ET 292 #[ptr b,Z n] w λe a=>∃O,e=.returned O/\V.Row a w O (Hm n ps n)/\DY w a:=by
 have⟨i0,hi,hz0,hz1,hz2⟩:=A1 V.LQ;have⟨HCS,HL⟩:=FU hcs hL;have hl:=Gv c0;have e1:¬(L:Int)<n:=U;exact Lp
theorem vG{L:Nat}{ps:List ByteArray}(hL:ps=L)(f:L<=4)(d:L<=cap)(hn:L<most)(a:n=L)(c0:EB w b 0 (EJ g L cap))(hg:g<w)(hcs:∀i s,ps[i]?=some s->EB w g i (.string s)):
  ET 292 #[ptr b,Z most] w λe c=>∃O,e=.returned O/\V.Row c w O (Hm n ps n)/\DY w c:=by
 have⟨i0,hi,hz0,hz1,hz2⟩:=A1 V.LQ;subst a;have⟨HCS,HL⟩:=FU hcs hL;have hl:=Gv c0;exact Lp
theorem vH(w:Aa)(b:Nat)most(f:0<=most)(c0:EB w b 0 Dz):
  ET 292 #[ptr b,Z most] w λe a=>∃O,e=.returned O/\V.Row a w O (Hm 0 [] 0)/\DY w a:=by
 have hl:=Gv c0;have HB:Hid (DY w (w.alloc (.cells #[Z 0,.string ⟨#[]⟩] 73))):=F9;have HI:=row_in w w (Ar _) 0 ⟨#[]⟩;by_cases c:most=0
 .subst c;exact afB
 .have d:(0:Int)<most:=U;exact afB
theorem vJ(w:Aa)(b:Nat)most(K:Ad)(a:List ByteArray)(v:0<=most)(j:a.length<=4)(h:Dy w b #[K] 326)(f:w.ownsRow 0 9 1 K a (strs a)):
  ET 292 #[ptr b,Z most] w λe l=>∃O,e=.returned O/\V.Row l w O (Hm (a.take most.toNat) a most.toNat)/\DY w l:=by
 have c0:=EI h 0;rcases f.2 with ⟨rfl,u⟩|⟨g,cap,m,rfl,_,hc,d,q,o,t⟩
 .grind [Hm,vH]
 .have c:∀i s,a[i]?=some s->w.cell? (Y g i)=some (.string s):=λi s k=>by
   have p:=GG k;have e1:(strs a)[i]?=some (.string s):=by simp[strs,k]
   grind [World.cell?]
  by_cases r:(a.length:Int)<most
  .have:=vG I j d r I c0 (Dv hc) c
   grind [Hm]
  .obtain⟨n,rfl⟩:∃n:Nat,most=(n:Int):=⟨most.toNat,U⟩;have:=oK w b g cap a.length n a I j d U c0 (Dv hc) c
   grind
theorem Yn(w:Aa)(F:D9)(log:List R.En)(en:R.En)(b:Nat)(K W:Ad)(h:Fp w F log b K 1 W)(B:V.Ff w X en.arg)(N:∃x,en.arg=[x]/\(en.g=1->0<=x.1))(i:en.g=0\/en.g=1):
  ET 290 #[ptr b,Z en.g,X] w λe f=>∃O,e=.returned O/\kz w F log en b K 1 W O (R.Hw 1 log en.g en.arg) f:=by
 have⟨x,A,n⟩:=N;rw[A]at B;obtain⟨a,cap,rfl,C,hc⟩:=B;rcases hc with J|⟨S,off,rfl,D,hc⟩
 .simp at J
 have⟨c0,c1⟩:=hc 0 x I;simp only[Dt,Cz]at c0 c1;have s:(0:Int)<((1:Nat):Int):=U;generalize hk0:(1:Int)=kd at h;cases h with
 |counter=>cases hk0
 |P9=>cases hk0
 |MZ hF hb hK hKF=>
  have L:=R.PK log;have d:=ZF log en;have l:R.Tt en.arg 0=x.2:=by rw[A];rfl
  have k:R.IJ en.arg 0=x.1:=by rw[A];rfl
  rw[l]at d;rcases i with i|i
  .have e1:(en.g==0)=true:=by simpa using i
   rw[Ay i]at d;have t:Hid (ET 291 #[ptr b,.string x.2] w λe f=>∃O,e=.returned O/\QI w b K (R.Fe (log++[en])) O f):=by
    obtain⟨a,c,rfl⟩:=Fa hK;by_cases o:(R.Fe log).length<4
    .rw[d,Ay o];exact uD w b c a _ x.2 o hb hK
    .rw[d,Ao o];have e4:(R.Fe log).length=4:=U;rw[e4]at hb hK ⊢;exact mU w b c a _ x.2 e4 hb hK
   have HF:Hid (∀O f,QI w b K (R.Fe (log++[en])) O f->kz w F log en b K 1 (.iface 324 (ptr b)) O (R.Hw 1 log en.g en.arg) f):=λO f y=>by
    have hd:R.Hw 1 log en.g en.arg=[(((R.Fe (log++[en])).length:Int),⟨#[]⟩)]:=by
     unfold R.Hw;rw[Ao Em,Ay I,Ay i,d];unfold R.num;congr 2;by_cases o:(R.Fe log).length<4
     .rw[Ay o];simp;omega
     .rw[Ao o];simp;omega
    rw[hd];have⟨H,P,k2,p⟩:=y.cell;refine⟨y.row,y.keep,H,.MZ (Aj hF) P k2 (λj q=>?_),?_⟩
    .rcases p with p|⟨E,m,s,G⟩
     .exact Aj (hKF j (p ▸ q))
     .rw[m]at q;cases q;exact Am ⟨s,G⟩
    .rcases p with p|⟨E,m,s,G⟩
     .exact Aj p
     .exact Am ⟨E,m,s⟩
   clear hb d i hK n
   delta ET
   go_in
   go_wp2_with (first|(go_at_call 291;refine t.mono ?_;rintro e Q ⟨O,rfl,g⟩;have u:=Dx g;clear g))
   go_returns;exact⟨_,I,HF _ _ (Dw u)⟩
  .have e1:(en.g==0)=false:=by simp[i]
   rw[Ao U]at d;have z:=Dv hb;have t:=Dx (vJ w b x.1 K (R.Fe log) (n i) L hb hK);have HF:Hid (∀O f,V.Row f w.heap.size O (Hm ((R.Fe log).take x.1.toNat).length (R.Fe log) x.1.toNat)->DY w f->kz w F log en b K 1 (.iface 324 (ptr b)) O (R.Hw 1 log en.g en.arg) f):=λO f M hB=>by
    have hd:R.Hw 1 log en.g en.arg=Hm ((R.Fe log).take x.1.toNat).length (R.Fe log) x.1.toNat:=by
     unfold R.Hw;rw[Ao Em,Ay I,Ao U,k];rfl
    rw[hd];refine⟨M,DF.J hB _,K,.MZ (Aj hF) ?_ ?_ (λj q=>Aj (hKF j q)),Aj I⟩
    .rw[hB.block b z];exact hb
    .rw[d];exact ER hK hB
   clear hb d i hK n
   delta ET
   go_in
   go_wp2_with (first|(go_at_call 292;refine t.mono ?_;rintro e Q ⟨O,rfl,g,r⟩;have u:=Dx g;have v:=Dx r;clear g r))
   go_returns;exact⟨_,I,HF _ _ u (Dw v)⟩
theorem YH(w:Aa)(c0 c1 c2 c3 c4 c:Int)(a1 a2:Af)(n1 k1 n2 k2:Nat):
  D7 163 #[.agg #[Z c0,Z c1,Z c2,Z c3,Z c4],Z c,.slice a1 n1 k1,.slice a2 n2 k2] w (.agg #[Z c0,Z c1,Z c2,Z c3,Z c,.slice a1 n1 k1,.slice a2 n2 k2]) (DY w):=by
 have d:Hid (∀a b,DY w ((w.alloc a).alloc b)):=λa b=>F9.alloc Ev _
 delta D7
 go_in
 go_wp2;go_returns;exact⟨I,d _ _⟩
def yo(y:PR)(r:Ac):PR:={y with d:=2,Q:=[],answer:=r,at':=0,C:=0,e:=0}
theorem dE(w:Aa)(b:Nat)(y:PR)(r:Ac)(h:Dy w b y.cells.toArray 179):
  D7 164 #[ptr b,.string (str r)] w Ep λa=>Dy a b (yo y r).cells.toArray 179/\DF (λk=>k=b) w a:=by
 have⟨a0,a1,a2,a3,a4,a5,a6,a7,a8,a9,GQ⟩:=X8 h;have z:∀j,DJ w b j:=λj=>Eb h
 have hl:=Dv h;have c:Hid (∀W,W=((((((((((w.setCell (Y b 0) (Z y.f)).setCell (Y b 1) (Z y.b)).setCell (Y b 2) (Z y.H)).setCell (Y b 3) (Z y.a)).setCell (Y b 4) (Z y.c)).setCell (Y b 5) (Z 2)).setCell (Y b 6) (.string ⟨#[]⟩)).setCell (Y b 7) (.string (str r))).setCell (Y b 8) (Z 0)).setCell (Y b 9) (Z 0)).setCell (Y b 10) (Z 0)->Dy W b (yo y r).cells.toArray 179/\DF (λk=>k=b) w W):=λW d=>by
  subst d;refine⟨?_,((((((((((Eg _).trans (Eg _)).trans (Eg _)).trans (Eg _)).trans (Eg _)).trans (Eg _)).trans (Eg _)).trans (Eg _)).trans (Eg _)).trans (Eg _)).trans (Eg _)⟩;have e0:=Ek (off:=0) h (Z y.f);have e1:=Ek (off:=1) e0 (Z y.b);have e2:=Ek (off:=2) e1 (Z y.H);have e3:=Ek (off:=3) e2 (Z y.a);have e4:=Ek (off:=4) e3 (Z y.c);have e5:=Ek (off:=5) e4 (Z 2);have e6:=Ek (off:=6) e5 (.string ⟨#[]⟩);have e7:=Ek (off:=7) e6 (.string (str r));exact abW
 clear h
 delta D7
 go_in
 go_wp2;go_returns;exact⟨I,c _ I⟩
theorem su:(prog.info? 45).map (λi=>(i.zero,i.size,i.bytes))=some (some (.agg #[Z 0,Z 0,Z 0,Z 0,Z 0,Dz,Dz]),7,88):=EL
theorem aeu:∀args w,(callFunc 162 args).run prog w=.ok (.enter 162 args) w:=λ_ _=>rfl
theorem aev:∀args w,(callFunc 163 args).run prog w=.ok (.enter 163 args) w:=λ_ _=>rfl
theorem mM(w:Aa)(c:Ae)(j:Nat)(u:Ad)(h:c[j]?=u):(w.alloc (.cells c.toArray 45)).cell? (((EN w 0):Addr).add j)=u:=by grind [Addr.add_lit,World.cell?_alloc_new]
theorem acV(w:Aa)(T:Ag)(N:Nat)(az:(T=320/\N=287)\/(T=324/\N=290)\/(T=327/\N=294))(s q g u m cap b:Nat)(k c0 c1 c2 c3 kd:Int)(z rb:Ac)(t:Af)(f v:Nat)(es:Ae)(B1:Value->World->Prop)(B2:Value->Value->World->Prop)(B3:Value->World->Prop)(B4 B5 o:World->Prop)
  (h6:EB w s 6 (EJ g m cap)) (hu:u<m) (hm:m<=255) (g0:EB w g (u*3) (Z kd)) (q4:EB w q 4 (Z (u+1))) (q6:EB w q 6 (.string (str z)))
  (l:Hid (∀j,DY w j->ET 162 #[Z kd,.string (str z)] j λe a=>∃A on B,e=.returned (.tuple #[Z k,.slice A on B])/\B1 (.slice A on B) a))
  (F1:Hid (∀O a,B1 O a->EB a g (u*3+1) (.iface T (ptr b))/\ET N #[ptr b,Z k,O] a λe d=>∃C E D,e=.returned (.slice C E D)/\B2 O (.slice C E D) d))
  (F2:Hid (∀O R a,B2 O R a->EB a g (u*3+2) (.slice t f v)/\a.ownsRow 0 45 7 (.slice t f v) f es/\f<=100000000000/\EB a q 0 (Z c0)/\EB a q 1 (Z c1)/\EB a q 2 (Z c2)/\EB a q 3 (Z c3)/\EB a q 4 (Z (u+1))/\DJ a g (u*3+2)))
  (F3:Hid (∀O R w1 d j F K' an,B1 O w1->B2 O R d->DY d j->(j.alloc (.cells #[Z c0,Z c1,Z c2,Z c3,Z k,O,R] 45)).grownBy F (Value.slice t f v).ownBlock->F.ownsRow 0 45 7 K' (f+1) (es++[Z c0,Z c1,Z c2,Z c3,Z k,O,R])->(K'.ownBlock=(Value.slice t f v).ownBlock\/K'.ownBlock=some an)->d<=an->EB F g (u*3+2) (.slice t f v)/\DJ F g (u*3+2)/\g<F/\B3 R (F.setCell (Y g (u*3+2)) K')))
  (F4:Hid (∀R a,B3 R a->EB a g (u*3) (Z kd)/\D7 165 #[Z kd,Z k,R] a (.string (str rb)) λd=>B4 d))
  (F5:Hid (∀a,B4 a->D7 164 #[ptr q,.string (str rb)] a Ep λd=>B5 d))
  (F6:Hid (∀a,B5 a->D7 166 #[ptr s,ptr q] a Ep λd=>o d)):
  D7 97 #[ptr s,ptr q] w Ep λa=>o a:=by
 rcases az with ⟨rfl,rfl⟩|⟨rfl,rfl⟩|⟨rfl,rfl⟩;all_goals
  have⟨i0,hi,ah,ak,al⟩:=A1 su;have HV:=Dx (Nc w s g u m cap h6 hu hm);have⟨aN,aS⟩:=KM g0 q4;have HB:Hid (∀n,DY w (w.drewN n)):=λn=>Ed (AA _ _) n
  generalize str z=SM at *;generalize str rb=SR at *
  delta D7
  go_in
  go_wp2_with (first|(go_at_call 38;refine cs HV ?_))
  go_region_law (refine FG I 162 #[.tmp 19,.tmp 23] #[3,125] I aeu #[Z kd,.string SM] I _ (l _ (by first|exact AA _ _|exact HB 1)) ?_;rintro e w1 ⟨A,on,B,rfl,x⟩;have⟨g1,ab⟩:=F1 _ _ x;have G:=Dx x;have K:=Dx ab;have ac:=Gv g1;clear x ab;refine⟨_,I,?_⟩)
  all_goals
   clear h6 g0 q4 q6 l HV HB aN aS;go_wp2_with ((first|go_at_call 287|go_at_call 290|go_at_call 294);refine K.mono ?_;rintro e d ⟨C,E,D,rfl,y⟩;have⟨d2,r,bf,k0,k1,k2,k3,k4,z2⟩:=F2 _ _ _ y;have H:=Dx y;have P:=Dx r;have ad:=Gv d2;have b7:=Gv k0;clear y r K g1 ac)
   go_region_law (first
    |(refine FG rfl 163 #[.tmp 42,.tmp 43,.tmp 44,.tmp 45] #[170,3,37,37] rfl aev #[.agg #[Z c0,Z c1,Z c2,Z c3,Z ((u:Int)+1)],Z k,.slice A on B,.slice C E D] rfl _ (YH _ c0 c1 c2 c3 ((u:Int)+1) k A C on B E D) ?_;rintro e j ⟨rfl,aa⟩;have c:DY d j:=Mg aa;have d3:EB j g (u*3+2) (.slice t f v):=(c.cell (p:=(Y g (u*3+2))) ad).trans d2;have J:=Dx c;have M:=Dx (ER P c);have bi:=c.size;have b6:g<j.heap.size:=U;clear aa c;refine⟨_,rfl,?_⟩)
    |(refine FM rfl (.tmp 38) (.tmp 47) 97 rfl 0 45 i0 (.agg #[Z 0,Z 0,Z 0,Z 0,Z 0,Dz,Dz]) 7 88 underlying97 hi ah ak al rfl Em (.slice t f v) f es rfl (by exact M.alloc _) (EN j 0) 1 1 [Z c0,Z c1,Z c2,Z c3,Z k,.slice A on B,.slice C E D] rfl rfl (by exact mM j [Z c0,Z c1,Z c2,Z c3,Z k,.slice A on B,.slice C E D]) Vd JG U U ?_;intro v' F i h X;have⟨va,vn,vc,aV⟩:=Ei i;subst aV;have⟨p1,p2,p3,p4⟩:=F3 _ _ _ _ _ _ _ _ G H J h i X Fy;have L:=Dx p4;clear p4 i h X))
   all_goals
    have⟨t0,ae⟩:=F4 _ _ (Dw L);have av:=Dx ae;clear ae L G H J M P F1 F2 F3 F4 d2 d3 k0 k1 k2 k3 k4 z2 hi ah ak al p1 p2 p3;go_wp2_with (first
     |(go_at_call 165;refine cm av λw5 Q=>?_;have H5:=Dx (F5 _ Q);clear Q)
     |(go_at_call 164;refine cm H5 λw6 S=>?_;have H6:=Dx (F6 _ S);clear S)
     |(go_at_call 166;refine cm H6 λw7 W=>?_;have ar:=Dx W;clear W))
    go_returns;exact⟨I,ar⟩
theorem Fp.aen(h:Fp w F l b K k W):F b:=by
 cases h<;>assumption
theorem Fp.Xj(h:Fp w F l b K k W):(k=0->W=.iface 320 (ptr b))/\(k=1->W=.iface 324 (ptr b))/\(k=2->W=.iface 327 (ptr b)):=by
 cases h<;>simp
theorem Fp.si(h:Fp w F l b K 0 W):W=.iface 320 (ptr b):=h.Xj.1 rfl
theorem Fp.sj(h:Fp w F l b K 1 W):W=.iface 324 (ptr b):=h.Xj.2.1 rfl
theorem Fp.ac0(h:Fp w F l b K 2 W):W=.iface 327 (ptr b):=h.Xj.2.2 rfl
theorem xT{log:List R.En}(h:Fp w F log b K kind W)(j:∀k,F k->k<w)(m:V.Ff w X en.arg)(c:R.IY kind en.g=(f,t))(n:R.Fi f en.arg=bs)(hl:R.OI kind log):
  ∃T N,W=.iface T (ptr b)/\((T=320/\N=287)\/(T=324/\N=290)\/(T=327/\N=294))/\ET N #[ptr b,Z en.g,X] w λe p=>∃O,e=.returned O/\kz w F log en b K kind W O (R.Hw kind log en.g en.arg) p:=by
 have hc:=R.MI log 0 Em;unfold R.IY at c;split at c
 .rename_i g;cases c;obtain⟨rfl,i⟩:=g
  grind [R.qF,Fp.si,TN,Fp.aen]
 .split at c
  .rename_i g;cases c;obtain⟨rfl,i⟩:=g
   grind [R.qD,Fp.si,TN,Fp.aen]
  .split at c
   .rename_i g;cases c;obtain⟨rfl,i⟩:=g
    grind [R.jf,Fp.sj,Yn]
   .split at c
    .rename_i g;cases c;obtain⟨rfl,i⟩:=g;have⟨x,o,l⟩:=R.qE n;exact⟨324,290,h.sj,Am (Aj ⟨I,I⟩),Yn w F log en b K W h m ⟨x,o,λ_=>l.2.1⟩ (Am i)⟩
    .split at c
     .rename_i g;cases c;obtain⟨rfl,i⟩:=g;have⟨d,k,a,g1,g2,g3,g4,_⟩:=R.je n;have:=g3.2.2;exact⟨327,294,h.ac0,Am (Am ⟨I,I⟩),yM F h j m ⟨d,k,a,g1,g2.2,U⟩ (λd=>(R.Nz log hl d [] Ev).1)⟩
     .cases c
theorem Fp.Ub(h:Fp w F l b K k W)(hk:DF E w w')(d:¬E b)(e:∀j,K.ownBlock=some j->¬E j)(hi:∀b c,F b->Dy w b c 73->¬E b)(a:∀k,F k->F' k):Fp w' F' l b K k W:=by
 cases h with
 |counter h1 h2 h3=>exact .counter (a _ h1) (hk.at h2 d) h3
 |MZ h1 h2 h3 h4=>exact .MZ (a _ h1) (hk.at h2 d) (hk.row h3 e) (λj f=>a _ (h4 j f))
 |P9 d0 d1 d2 h1 h2 h3 g0 g1 g2=>exact .P9 d0 d1 d2 (a _ h1) (hk.at h2 d) h3 (g0.keep hk hi a) (g1.keep hk hi a) (g2.keep hk hi a)
theorem Yg.Ub{z:R.Sv×MV}(h:Yg w F z)(hk:DF E w w')(i:z.1.T=true->¬E z.2.sb)(l:z.1.T=true->∀j,z.2.bk.ownBlock=some j->¬E j)(f:∀j,z.2.dn.ownBlock=some j->¬E j)(hi:∀b a,F b->Dy w b a 73->¬E b)(c:∀k,F k->F' k):Yg w' F' z:=by
 refine⟨?_,?_,λj g=>c _ (h.own j g)⟩
 .grind [Yg,Fp.Ub]
 .have⟨e,e1,e2,e3⟩:=h.log;exact⟨e,e1,hk.row e2 f,λy d=>⟨(e3 y d).1.keep hk hi c,(e3 y d).2.keep hk hi c⟩⟩
def aY(T:Ag):Bool:=T==323 || T==326 || T==329
theorem Fp.blk(h:Fp w F l b K k W):F b/\∃a T,Dy w b a T/\aY T=true:=by grind [Fp,aY]
theorem NC(h:w.ownsRow B e size v n xs)(hj:v.ownBlock=j):∃cur,Dy w j cur e:=by
 exact ab5
theorem Fp.bkt(h:Fp w F l b K k W)(a:K.ownBlock=j):F j/\∃c,Dy w j c 9:=by
 cases h with
 |counter h1 h2 h3=>rw[h3]at a;cases a
 |MZ h1 h2 h3 h4=>exact⟨h4 j a,NC h3 a⟩
 |P9 d0 d1 d2 h1 h2 h3 g0 g1 g2=>rw[h3]at a;cases a
def Vn(z:R.Sv×MV)(en:R.En)(K' bk':Ad):R.Sv×MV:=({z.1 with log:=z.1.log++[en]},{z.2 with dn:=K',bk:=bk'})
def lM(z:R.Sv×MV)(g:Nat):D9:=λk=>(k=z.2.sb\/z.2.bk.ownBlock=k)\/(z.2.dn.ownBlock=k\/k=g)
def TP(T:Ag):Bool:=aY T || T==9 || T==45 || T==99
theorem G9.ju{t:SP}{sv:List R.Sv}(h:G9 s n nm t F c sv lives seen jobs w){z:R.Sv×MV}(hz:t.zs[u]?=z)(d:z.1.T=true)(e:Dy w g cur 99)(k:Nat)(hk:lM z g k):∃cur T,Dy w k cur T/\TP T=true:=by
 have a:=h.each z (Ap hz);have b:=a.wk;rw[Ay d]at b;rcases hk with (rfl|hk)|(hk|rfl)
 .grind [Fp.blk,TP]
 .have⟨_,cur,q⟩:=b.bkt hk;exact⟨cur,9,q,I⟩
 .have⟨f,_,e2,_⟩:=a.log;have⟨cur,q⟩:=NC e2 hk;exact⟨cur,45,q,I⟩
 .exact⟨cur,99,e,I⟩
theorem G9.did{t:SP}{sv:List R.Sv}(h:G9 s n nm t F c sv lives seen jobs w)(aq:∀k,F k->k<w){z:R.Sv×MV}(hz:t.zs[u]?=z)(N:z.1.T=true)(hK:t.K=EJ g t.zs cap)(hg:w.heap[g]?=some (.cells cur 99 (0,0)))(X:t.zs<=cap)(ac:cap<=maxLen)(av:cur=cap*3)(aw:cur.toList.take (t.zs*3)=tab Om t.zs)
 {V:Ad} {Q:List (R.En×Value×Value)} (hk:DF (lM z g) w w3) (ao:w3.heap[g]?=some (.cells (cur.toList.set (u*3+2) K').toArray 99 (0,0))) (C:∀k,F k->F' k) (hw:Fp w3 F' (z.1.log++[en]) z.2.sb bk' z.1.J z.2.wk) (aN:bk'.ownBlock=z.2.bk.ownBlock\/∃j,bk'.ownBlock=some j/\w<=j)
  (he:Q.map (·.1)=z.1.log) (aa:∀y∈Q,Gg w F y.2.1 y.1.arg/\Gg w F y.2.2 y.1.D) (ar:w3.ownsRow 0 45 7 K' (Q+1) (tab IQ (Q++[(en,O,V)]))) (hO:Gg w3 F' O en.arg) (hV:Gg w3 F' V en.D) (am:K'.ownBlock=z.2.dn.ownBlock\/∃j,K'.ownBlock=some j/\w<=j/\F' j):
  G9 s n nm {t with zs:=t.zs.set u (Vn z en K' bk')} F' c (sv.set u {z.1 with log:=z.1.log++[en]}) lives seen jobs w3:=by
 have⟨f1,f2,f3⟩:=h.A;have aS:=h.ju hz N hg;have hs:=h.each z (Ap hz);have A:=hs.wk;rw[Ay N]at A;have G:∀{b:Nat} {P:Array Value} {T:Ag} {zz:Nat×Nat},w.heap[b]?=some (.cells P T zz)->TP T=false->¬lM z g b:=λ{b P T zz} hb hT M=>by
  all_goals grind
 have hi:∀b cur,F b->w.heap[b]?=some (.cells cur 73 (0,0))->¬lM z g b:=λb cur _ hb=>G hb Em
 have⟨ez,_,ak,_⟩:=hs.log;refine⟨hk.at h.bs (G h.bs Em),?_,?_,λy hy=>?_,λi j a b E H J k f=>?_,λi j a b E H J S W=>?_,λi r hr x=>?_,h.inj,?_,C _ f1,C _ f2,λj K=>C _ (f3 j K)⟩
 .simp only[map_set];rw[h.zs];rfl
 .simp only;rw[BG];refine⟨by rw[F8 LZ,BG,BZ],Am ⟨g,cap,_,hK,AV _,ao,X,ac,by simpa using av,?_⟩⟩;rw[Wq,aw];exact J6 LZ t.zs u 2 z (Vn z en K' bk') _ hz U I
 .have⟨j,K⟩:=List.getElem?_of_mem hy;rcases XQ K with ⟨rfl,rfl⟩|⟨L,v⟩
  .refine⟨?_,⟨Q++[(en,O,V)],by simp[Vn,he],?_,λy hy=>?_⟩,λj K=>?_⟩
   .all_goals grind [Vn]
   .rw[AJ];exact ar
   .rcases Bj.1 hy with q|q
    .exact⟨(aa y q).1.keep hk hi C,(aa y q).2.keep hk hi C⟩
    all_goals grind
   .rcases am with q|⟨j',l,q2,d⟩
    .exact C _ (hs.own j (by rw[<-q];exact K))
    all_goals grind [Vn]
  .have B:=h.each y (Ap v);refine B.Ub hk (λp M=>?_) (λp k f M=>?_) (λk f M=>?_) hi C
   .have o:=B.wk;rw[Ay p]at o;have⟨_,P,T,l,q2⟩:=o.blk;have x:=(h.e u j z y hz v (λe=>L e.symm) N p).1;rcases M with (e|e)|(e|e)
    .exact x e.symm
    .have⟨_,D,d⟩:=A.bkt e
     delta Dy at d
     rw[l]at d;cases d;cases q2
    .have⟨D,d⟩:=NC ak e
     delta Dy at d
     rw[l]at d;cases d;cases q2
    .delta Dy at l
     rw[e,hg]at l;cases l;cases q2
   .have o:=B.wk;rw[Ay p]at o;have⟨_,P,l⟩:=o.bkt f;have x:=(h.e u j z y hz v (λe=>L e.symm) N p).2;rcases M with (e|e)|(e|e)
    .have⟨_,D,T,d,q4⟩:=A.blk
     delta Dy at d
     rw[<-e,l]at d;cases d;cases q4
    all_goals grind [NC]
   .have⟨ey,_,ah,_⟩:=B.log;have⟨P,l⟩:=NC ah f;rcases M with (e|e)|(e|e)
    .have⟨_,D,T,d,q4⟩:=A.blk
     delta Dy at d
     rw[<-e,l]at d;cases d;cases q4
    .all_goals grind [Fp.bkt]
    .exact h.dns u j z y hz v (λe=>L e.symm) k e f
    .delta Dy at l
     rw[e,hg]at l;cases l
 .have m:∀{i:Nat} {a:R.Sv×MV},(t.zs.set u (Vn z en K' bk'))[i]?=some a->∃a0,t.zs[i]?=some a0/\(∀k,a.2.dn.ownBlock=some k->a0.2.dn.ownBlock=some k\/(i=u/\w.heap.size<=k))/\(i≠u->a=a0):=λ{i a} N=>by
   all_goals grind [Vn]
  intro ab;have⟨a0,p1,p2,p3⟩:=m E;have⟨b0,p4,p5,p6⟩:=m H;have ra:=(h.each a0 (Ap p1)).own;have rb:=(h.each b0 (Ap p4)).own;rcases p2 k f with q|⟨rfl,q⟩
  .rcases p5 k ab with q'|⟨rfl,q'⟩
   .exact h.dns i j a0 b0 p1 p4 J k q q'
   .have:=aq k (ra k q);omega
  all_goals grind
 .have m:∀{i:Nat} {a:R.Sv×MV},(t.zs.set u (Vn z en K' bk'))[i]?=some a->∃a0,t.zs[i]?=some a0/\a0.1.T=a.1.T/\a0.2.sb=a.2.sb/\(∀k,a.2.bk.ownBlock=some k->a0.2.bk.ownBlock=some k\/(i=u/\w.heap.size<=k)):=λ{i a} N=>by
   all_goals grind [Vn]
  have⟨a0,p1,pa,ps,p2⟩:=m E;have⟨b0,p4,pb,pt,p5⟩:=m H;rw[<-pa]at S;rw[<-pb]at W;have al:=h.e i j a0 b0 p1 p4 J S W;refine⟨by rw[<-ps,<-pt];exact al.1,λk f ab=>?_⟩;have ra:=(h.each a0 (Ap p1)).wk;have rb:=(h.each b0 (Ap p4)).wk;all_goals grind [Fp.bkt]
 .have⟨y,h1,h2,h3⟩:=h.ln i r hr x;exact⟨y,hk.at h1 (G h1 Em),h2,C _ h3⟩
 .have⟨a,b,K⟩:=h.d;refine⟨a,b,hk.at K (λe=>?_)⟩;all_goals grind
namespace R
theorem Oq:∀(N:Nat) (l:List Nat),l.Nodup->(∀x∈l,x<N)->l.length<=N
 |0,[],_,_=>Ar _
 |0,x :: l,_,h=>absurd (h x Ev) U
 |N+1,l,hn,h=>by
  by_cases b:N∈l
  .have c:=Oq N (l.erase N) (hn.erase N) (λx a=>by
    have q:=(hn.mem_erase_iff).1 a;have:=h x q.2;omega)
   have d:=List.length_erase_of_mem b;have f:=List.length_pos_of_mem b;omega
  .have c:=Oq N l hn (λx a=>by
    have:=h x a;have:x≠N:=λe=>b (e ▸ a)
    omega)
   omega
def code(e:En):Nat:=((e.f.toNat*256+e.b.toNat)*3+e.H.toNat)*1000+e.a.toNat
theorem Inv.Xo{M:Bk}{G:Wd}(h:Inv M G){s:Sv}(t:G.a[n]?=s):s.log.length<=3000000:=by
 have hl:=h.lg n s t;have g:=h.wf.cf;unfold GA at g;have f:∀e∈s.log,(0<=e.f/\e.f<=2)/\(1<=e.b/\e.b<=255)/\(0<=e.H/\e.H<=2)/\1<=e.a/\e.a<=999:=λe j=>by
  have⟨d,D,g1,_⟩:=(hl.each e j).some;have⟨i,c,k,l,w,o,y,v,z,A,B,C,_⟩:=(h.bk _ d g1).2;have hi:=GG o;have hk:=GG v;have hc:=h.wf.cl i c o;have p:=h.wf.a;have q:=hc.a;have r:=hc.b
  grind [Oc]
 have m:(s.log.map code).Nodup:=by
  rw[List.Nodup,List.pairwise_map];refine hl.ord.imp_of_mem (λ{a b} ha hb' hab e=>?_);have p:=f a ha;have q:=f b hb';unfold code at e;have r:=hab U U U;omega
 have:=Oq 2400000 _ m (λx u=>by
  obtain⟨e,j,rfl⟩:=Cy.1 u;have:=f e j;unfold code;omega)
 rw[AX]at this;omega
end R
theorem sW{s:R.Sv}(a:S[u]?=s)(l:List R.En)(k:Nat):((S.set u {s with log:=l})[k]?).map (·.J)=(S[k]?).map (·.J):=by grind
theorem mD{s:R.Sv}(a:G.a[u]?=s){c:R.Cl}:GY (Hu G (G.a.set u {s with log:=l}) G.C G.J G.d) c x=GY G c x:=by
 unfold GY GU;show (if x∈c.d then some ((((G.a.set u {s with log:=l})[(x-1).toNat]?).map (·.J)).getD 0) else none)=_;rw[sW a]
theorem adf(h:R.Wf G){s:R.Sv}(b:G.a[u]?=s):R.Wf (Hu G (G.a.set u {s with log:=l}) G.C G.J G.d):=by
 refine⟨h.cf,h.a,λi c hc=>⟨(h.cl i c hc).a,(h.cl i c hc).b,λx a=>?_,(h.cl i c hc).H⟩,h.X,h.b,by simpa using h.sv,λy d=>?_,h.nm,h.st,h.nd,λx a=>?_⟩
 .have:=(h.cl i c hc).d x a;simpa using this
 all_goals grind [R.Wf]
theorem jw(kind:Int)(l:List R.En)a(arg:List R.It):R.Hw kind l a arg≠[]:=by grind [R.Hw]
theorem qG{arg:List R.It}(b:R.IY kind proc=(f,t))(a:R.Fi f arg=bs):arg≠[]:=by grind [R.IY,R.qF,R.qD,R.jf,R.qE,R.je]
theorem yO{T:Ag}(h:TP T=true):TJ T=false:=by
 simp only[TP,aY,Bool.or_eq_true,beq_iff_eq]at h;rcases h with (((((h|h)|h)|h)|h)|h)<;>rw[h]<;>rfl
theorem LW.agd(h:LW p F G w1){s:R.Sv}(hs:G.a[n]?=s)(ha:s.T=true){z:R.Sv×MV}(hz:p.t.zs[n]?=z)(b2:z.1=s)(hK:p.t.K=EJ g p.t.zs cap)(r:w1.heap[g]?=some (.cells cur 99 (0,0)))(k2:w1.cell? (Y g (n*3+2))=z.2.dn)(S:p.t.zs<=cap)(ad:cap<=maxLen)(aS:cur=cap*3)(aV:cur.toList.take (p.t.zs*3)=tab Om p.t.zs)
  {A:List (R.En×Value×Value)} (he:A.map (·.1)=s.log) (ah:w1.ownsRow 0 45 7 z.2.dn A (tab IQ A)) (ar:∀y∈A,Gg w1 F y.2.1 y.1.arg/\Gg w1 F y.2.2 y.1.D)
 (hB:B<=w1) {Zq:Ad} {o:Obj} (hO:V.Row w1 B O en.arg) (av:en.arg≠[]) (ae:en.D≠[]) (E:kz w1 F s.log en z.2.sb z.2.bk s.J z.2.wk Zq en.D w2) (P:DY w2 wa) (ab:(wa.alloc o).grownBy wz z.2.dn.ownBlock) (C:wz.ownsRow 0 45 7 K' (A+1) (tab IQ A++IQ (en,O,Zq))) (N:K'.ownBlock=z.2.dn.ownBlock\/K'.ownBlock=va0) (bj:w2<=va0):
  wz.cell? (Y g (n*3+2))=z.2.dn/\wz.frozen? (Y g (n*3+2))=false/\g<wz/\∃t,t.ql=p.t.ql/\t.K=p.t.K/\t.zs=p.t.zs.length/\LW {p with t:=t} (λk=>F k\/(B<=k/\k<wz)) (Hu G (G.a.set n {s with log:=s.log++[en]}) G.C G.J G.d) (wz.setCell (Y g (n*3+2)) K')/\DF (lM z g) w1 (wz.setCell (Y g (n*3+2)) K')/\V.Ff (wz.setCell (Y g (n*3+2)) K') Zq en.D/\(wz.setCell (Y g (n*3+2)) K').cell? (Y g (n*3))=Z s.J:=by
 subst b2;have al:=h.a.ju hz ha r;have bf:=Dv r;have bi:=E.keep.size;have bg:=P.size;have aN:=ab.size;simp only[Cx]at aN;have az:(wz.setCell (Y g (n*3+2)) K').heap.size=wz.heap.size:=Ev;have⟨f,_,_⟩:=(⟨(h.a.each z (Ap hz)).wk,BR,BR⟩:_/\True/\True);rw[Ay ha]at f;have aq:¬(g=z.2.sb\/z.2.bk.ownBlock=some g):=by
  rintro (e|e)
  .have⟨_,d,T,a,m⟩:=f.blk
   delta Dy at a
   rw[<-e,r]at a;cases a;cases m
  .have⟨_,d,a⟩:=f.bkt e
   delta Dy at a
   rw[r]at a;cases a
 have X:=E.keep.at r aq;have l:∀k,z.2.dn.ownBlock=some k->∃d,w1.heap[k]?=some (.cells d 45 (0,0))/\w2.heap[k]?=some (.cells d 45 (0,0)):=λk hk=>by
  have⟨d,q⟩:=NC ah hk;refine⟨d,q,E.keep.at q ?_⟩;rintro (e|e)
  .have⟨_,J,T,a,m⟩:=f.blk
   delta Dy at a
   rw[<-e,q]at a;cases a;cases m
  .have⟨_,J,a⟩:=f.bkt e
   delta Dy at a
   rw[q]at a;cases a
 have kA:=((DF.J P _).alloc _).grown ab (λk hk=>Aj hk);have w:wz.heap[g]?=some (.cells cur 99 (0,0)):=kA.at X (λe=>by
  have⟨d,q,_⟩:=l g e;rw[r]at q;cases q)
 have kB:=DF.setCell (F:=λk=>z.2.dn.ownBlock=some k\/k=g) (p:=(Y g (n*3+2))) (kA.mono (λk _ e=>Aj e)) (Aj (Am I)) K';have k3:=(E.keep.mono (λk _ e=>Aj e)).trans (kB.mono (λk _ e=>Am e));have ac:=h.lt;have hF:∀k,F k->(λk=>F k\/(B<=k/\k<wz.heap.size)) k:=λk hk=>Aj hk
 have u:∀{b:Nat} {d:Array Value} {T:Ag},w2.heap[b]?=some (.cells d T (0,0))->T≠45->T≠99->¬(z.2.dn.ownBlock=some b\/b=g):=λ{b d T} v h1 h2 K=>by
  rcases K with e|e
  .have⟨_,_,q⟩:=l b e;rw[v]at q;cases q;exact h1 I
  .rw[e,X]at v;cases v;exact h2 I
 have⟨H,D,Q⟩:=E.a;have b1:Fp (wz.setCell (Y g (n*3+2)) K') (λk=>F k\/(B<=k/\k<wz.heap.size)) (z.1.log++[en]) z.2.sb H z.1.J z.2.wk:=by
  refine D.Ub kB ?_ (λj hj=>?_) (λb d _ v=>u v Em Em) (λk hk=>?_)
  .have⟨_,d,T,a,m⟩:=D.blk;refine u a (λe=>?_) (λe=>?_)
   .rw[e]at m;cases m
   .rw[e]at m;cases m
  .have⟨_,d,a⟩:=D.bkt hj;exact u a Em Em
  .rcases hk with hk|hk
   .exact Aj hk
   .exact Am ⟨U,U⟩
 have⟨o1,o2⟩:=ND hO av;have⟨r1,r2⟩:=ND E.row ae;have ao:Gg (wz.setCell (Y g (n*3+2)) K') (λk=>F k\/(B<=k/\k<wz.heap.size)) O en.arg:=o1.keep k3 (λb d _ v K=>by
  have⟨J,T,a,m⟩:=al b K
  delta Dy at a
  rw[v]at a;cases a;cases m) (λk hk=>by
   have:=o2 k hk;exact Am ⟨U,U⟩)
 have M:Gg (wz.setCell (Y g (n*3+2)) K') (λk=>F k\/(B<=k/\k<wz.heap.size)) Zq en.D:=r1.keep kB (λb d _ v=>u v Em Em) (λk hk=>by
   have:=r2 k hk;exact Am ⟨U,U⟩)
 have an:K'.ownBlock≠some g:=λe=>by
  rcases N with q|q
  .rw[e]at q;have⟨d,a,_⟩:=l g q.symm;rw[r]at a;cases a
  .rw[e]at q;cases q;omega
 have aw:(wz.setCell (Y g (n*3+2)) K').ownsRow 0 45 7 K' (A.length+1) (tab IQ (A++[(en,O,Zq)])):=by
  rw[Jn];exact Jl C (λj hj=>AU _ _ _ _ (λe=>an (by rw[hj];exact CG some e)))
 have aa:=Ek (cs:=cur.toList) (off:=n*3+2) w K';have W:K'.ownBlock=z.2.dn.ownBlock\/∃j,K'.ownBlock=some j/\w1.heap.size<=j/\(λk=>F k\/(B<=k/\k<wz.heap.size)) j:=by
  rcases N with q|q
  .exact Aj q
  .have:=(Ba C va0 q).2;exact Am ⟨va0,q,U,Am ⟨U,this⟩⟩
 have ak:=h.a.did ac hz ha hK r S ad aS aV k3 aa hF b1 Q he ar aw ao M W;have hL:=h.OW ak k3 (λb K=>by
  have⟨d,T,a,m⟩:=al b K;exact Aj ⟨d,T,_,a,yO m⟩) hF (λk hk=>by
   rw[az];rcases hk with hk|hk
   .have:=ac k hk;omega
   .exact hk.2) (adf h.wf hs) h.g (λi c _ x=>mD hs)
 have e2:wz.cell? (Y g (n*3+2))=some z.2.dn:=by
  rw[<-k2];simp[World.cell?,w,r]
 have⟨gg,cc,d,L,be,_,b4,_⟩:=h.a.PG hz;rw[hK]at L;cases L;refine⟨e2,Eb w,Dv w,{p.t with zs:=p.t.zs.set n (Vn z en K' H)},I,I,Ev,hL,k3,M.J,?_⟩;have e3:(wz.setCell (Y g (n*3+2)) K').cell? (Y g (n*3))=w1.cell? (Y g (n*3)):=by
  simp[World.cell?,aa,r]
 rw[e3];exact b4
theorem xK{T:Ag}{x:Ad}(h:(T=320/\N=287)\/(T=324/\N=290)\/(T=327/\N=294))(a:(T'=320/\N'=287)\/(T'=324/\N'=290)\/(T'=327/\N'=294))(e:Value.iface T x=Value.iface T' x):N'=N:=by grind
theorem kz.quiet{out:List R.It}(g:Fp w1 F l b K kind W)(c:kz w1 F l en b K kind W O out w2){k:Nat}{T:Ag}{a:Nat×Nat}(hk:w1.heap[k]?=some (.cells cu T a))(d:aY T=false)(f:T≠9):w2.heap[k]?=some (.cells cu T a):=by
 refine c.keep.at hk ?_;rintro (e|e);all_goals grind [Fp.blk,Fp.bkt]
structure pY(p:Pl)(F:D9)(w:Aa)(G:R.Wd)(t:SP)(F':D9)(w':Aa):Prop where
 lw:LW {p with t:=t} F' G w'
 a:D8 F F' w w'
 ql:t.ql=p.t.ql
theorem LW.done{p:Pl}(h:LW p F G w)(ht:JI w)(ba:¬F 0)(hI:R.Inv M G){i:Nat}(hi:i<9)(h2:(R.EZ G i).d=2):
  D7 97 #[ptr p.s,ptr (p.t.ql i)] w Ep λw'=>NM p F w (R.Oa G i) w':=by
 obtain⟨d,n,s,rb,hd⟩:=hI.W9 hi h2;rw[hd.eq h2];generalize R.EZ G i=r at hd h2 ⊢;have ao:=hI.Lr hi hd h2;obtain⟨y,C,cy⟩:=h.q hd.J hd.ne;obtain⟨z,hz,c7⟩:=Rv h.a.zs hd.sv;subst c7;obtain⟨g,cap,co,hK,hg,bb,k0,k1,k2,av,aS,bV,bW⟩:=h.a.PG hz;have ae:=h.a.each z (Ap hz);obtain⟨es,he,x,az⟩:=ae.log;have ah:=ae.wk;rw[Ay hd.T]at ah;have cC:es.length<=3000000:=by
  have:=hI.Xo hd.sv
  grind
 obtain⟨da,dc,S⟩:=Fa x;have bt:=h.wf.e z.1 (Ap hd.sv);have bz:R.OI z.1.J z.1.log:=λe he=>by
  obtain⟨d',cP,g1,g2,g3,g4,g5,g6⟩:=((hI.lg n z.1 hd.sv).each e he).some;have hcd':=(hI.bk _ d' g1).1;have hk':R.NQ G.a d'.c=z.1.J:=by
   rw[g2];unfold R.NQ;rw[show ((n:Int)+1-1).toNat=n by omega,hd.sv];rfl
  exact abZ
 obtain⟨en,b⟩:∃en,en=R.Gx G i r d z.1:=DR;have aa:en.g=d.g:=by rw[b];rfl
 have W:en.arg=d.arg:=by rw[b];rfl
 have ab:en.D=R.Hw z.1.J z.1.log d.g d.arg:=by rw[b];rfl
 have aV:en.arg≠[]:=by rw[W];exact qG hd.sig hd.cd.bs
 have b1:en.D≠[]:=by rw[ab];exact jw _ _ _ _
 have hY:=X8 C.blk;obtain⟨T,N,hT,aq⟩:∃T N,z.2.wk=.iface T (ptr z.2.sb)/\((T=320/\N=287)\/(T=324/\N=290)\/(T=327/\N=294)):=by grind [Fp.Xj]
 have hzl:p.t.zs.length=G.a.length:=by rw[<-h.a.zs,AX]
 have ca:=h.wf.sv;have h6:w.cell? (Y p.s 6)=some (EJ g p.t.zs.length cap):=by
  exact kt
 have q4:w.cell? ⟨p.t.ql i,4,none⟩=some (Z ((n:Int)+1)):=by
  rw[hY.a4,C.rel.c,hd.ok.c,hd.c]
 have q6:w.cell? ⟨p.t.ql i,6,none⟩=some (.string (str d.h)):=by
  rw[hY.a6,C.rel.Q (Am h2),hd.ok.C h2]
 have hE:∀k,lM z g k->F k:=λk hk=>by
  rcases hk with (rfl|hk)|(hk|rfl)
  .exact ah.blk.1
  .exact(ah.bkt hk).1
  .exact ae.own k hk
  .exact bb
 let G1:=Hu G (G.a.set n {z.1 with log:=z.1.log++[en]}) G.C G.J G.d
 let r':R.Sn:={r with d:=3,D:=rb,at':=0}
 have be:R.Lr G i r d n z.1 rb=R.EA G1 i r':=by grind [R.Lr,R.EA]
 rw[be]at ao ⊢;refine acV w T N aq p.s (p.t.ql i) g n p.t.zs.length cap z.2.sb d.g en.f en.b en.H en.a z.1.J d.h rb da es.length dc (tab IQ es)
  (λO A=>V.Row A w.heap.size O en.arg/\DY w A)
  (λO B w2=>∃A,V.Row A w.heap.size O en.arg/\DY w A/\kz A F z.1.log en z.2.sb z.2.bk z.1.J z.2.wk B en.D w2)
  (λB w3=>∃t l,pY p F w G1 t l w3/\V.Ff w3 B en.D/\w3.cell? (Y g (n*3))=some (Z z.1.J))
  (λw4=>∃t l,pY p F w G1 t l w4)
  (λw5=>∃t l y5,pY p F w (R.EA G1 i r') t l w5/\Yd {p with t:=t} (R.EA G1 i r') w5 i r' y5)
  (λw6=>NM p F w (R.JF (R.EA G1 i r') i) w6) h6 (GG hz) U k0 q4 q6 ?_ ?_ ?_ ?_ ?_ ?_ ?_
 .intro wa Q;refine(Vp z.1.J d.g d.a d.to hd.sig d.bs (by have:=R.Nq hd.cd.bs;omega) d.arg (R.Kq hd.cd.bs) wa (ht.h Q)).mono ?_;rintro e w' ⟨⟨O,rfl,P⟩,m⟩;obtain⟨oa,on,oc,rfl⟩:=Ei P;rw[W];exact⟨oa,on,oc,I,V.GL P Q.size,Q.trans ⟨m.os,m.tape,m.output,m.size,λk hk=>m.block k (Ai hk Q.size)⟩⟩
 .rintro O A ⟨P,a⟩;have J:=h.h a;have c:=(J.a.each z (Ap hz)).wk;rw[Ay hd.T]at c;refine⟨((a.cell (p:=(Y g (n*3+1))) (Dv hg)).trans k1).trans (by rw[hT]),?_⟩;obtain⟨T',N',e1,e2,hC⟩:=xT (en:=en) c J.lt (X:=O) (ND P aV).1.J (f:=d.a) (t:=d.to) (bs:=d.bs) (by rw[aa];exact hd.sig) (by rw[W];exact hd.cd.bs) bz;rw[hT]at e1;obtain rfl:=xK aq e2 e1;rw[aa]at hC;refine hC.mono ?_;rintro e w2 ⟨B,rfl,K⟩;obtain⟨ra,rn,rc,rfl⟩:=Ei K.row
  grind
 .rintro O B w2 ⟨A,P,a,K⟩;have J:=h.h a;have c:=(J.a.each z (Ap hz)).wk;rw[Ay hd.T]at c;have bp:=(a.block g (Dv hg)).trans hg;have cD:=K.quiet c bp I Em;have u:=X8 (K.quiet c ((a.block _ (Dv C.blk)).trans C.blk) I Em);have b2:=ER x a;have bU:w2.ownsRow 0 45 7 z.2.dn es.length (tab IQ es):=Jl b2 (λj hj=>by
   obtain⟨cu,q⟩:=NC b2 hj;rw[K.quiet c q I Em,q])
  have e2:w2.cell? (Y g (n*3+2))=some z.2.dn:=by grind [World.cell?]
  rw[S]at e2 bU;have c0:y.f=en.f:=by rw[C.rel.f,b];rfl
  have c1:y.b=en.b:=by rw[C.rel.b,b];rfl
  have c2:y.H=en.H:=by rw[C.rel.H,b];rfl
  have c3:y.a=en.a:=by rw[C.rel.a,b];rfl
  have c4:y.c=(n:Int)+1:=by rw[C.rel.c,hd.ok.c,hd.c]
  have a0:=u.a0;have a1:=u.a1;have a2:=u.a2;have a3:=u.a3;have a4:=u.a4
  grind [Eb]
 .rintro O B cR w2 wa wz K' cQ _ ⟨A,P,a,K⟩ bj aw H ar bX;have J:=h.h a;have ce:=J.a.each z (Ap hz);have aN:∀y∈es,Gg A F y.2.1 y.1.arg/\Gg A F y.2.2 y.1.D:=λy hy=>⟨(az y hy).1.keep (DF.J a (λ_=>False)) (λ_ _ _ _ q=>q) (λ_ q=>q),(az y hy).2.keep (DF.J a (λ_=>False)) (λ_ _ _ _ q=>q) (λ_ q=>q)⟩
  rw[<-S]at aw ar;have E:IQ (en,O,B)=[Z en.f,Z en.b,Z en.H,Z en.a,Z d.g,O,B]:=by rw[<-aa];rfl
  rw[<-E]at H;obtain⟨p1,p2,p3,t,ql,_,_,hL,bq,L,ac⟩:=J.agd hd.sv hd.T hz rfl hK ((a.block g (Dv hg)).trans hg) ((a.cell (p:=(Y g (n*3+2))) (Dv hg)).trans k2) av aS bV bW he (ER x a) aN a.size P aV b1 K bj aw H ar bX;rw[S]at p1;refine⟨p1,p2,p3,t,_,⟨hL,⟨(DF.J a F).trans (bq.mono (λk _ e=>hE k e)),λk hk=>?_⟩,ql⟩,L,ac⟩
  grind
 .rintro B w3 ⟨t,l,hB,L,ac⟩;refine⟨ac,(Rt z.1.J d.g d.a d.to hd.sig B en.D w3 (ht.H hB.a.H ba) L (by rw[ab];exact(by grind [R.PK,R.Hw,R.Nz]))).mono ?_⟩;rintro e w4 ⟨hw,Q⟩;have o:=hd.El;rw[<-ab]at o;have h0:=R.JK o;rcases hw with ⟨_,rfl⟩|⟨q,_⟩
  .unfold R.Fi at o;rw[Ay h0]at o;cases o;exact⟨I,t,l,hB.lw.h Q,hB.a.trans (D8.J l Q),hB.ql⟩
  .exact absurd h0 q
 .rintro w4 ⟨t,l,hB⟩;obtain⟨y4,ad,ct⟩:=hB.lw.q (i:=i) (r:=r) hd.J hd.ne;have bg:Dy w4 (p.t.ql i) y4.cells.toArray 179:=by
   have:=ad.blk;rw[show ({p with t:=t}:Pl).t.ql=p.t.ql from hB.ql]at this;exact this
  refine cm (dE w4 (p.t.ql i) y4 rb bg) ?_;rintro w5 ⟨bi,br⟩;have b3:r.g=false:=by
   cases hr:r.g with
   |false=>rfl
   |true=>
    have:=(h.g.sn i r hd.J).g hr;omega
  have v:=ad.rel;have hrel:PT i (G1.C.getD (i / 3) 0) r' (yo y4 rb):=⟨v.f,v.b,v.H,v.a,v.c,I,λq=>(by rcases q with q|q<;>cases q),λ_=>⟨I,I⟩,(by show (0:Int)=if r.g=true then r.C else 0;rw[b3];rfl),λq=>(by rw[show r'.g=r.g from rfl,b3]at q;cases q)⟩;have bS:R.Tm (G1.C.getD (i / 3) 0) r':=ao.ws.sn i r' (by
   show (G.J.set i r')[i]?=some r';rw[Bf];simp[(GG hd.J)])
  obtain⟨l5,q5,c8⟩:=hB.lw.Oy ad (r':=r') (y':=yo y4 rb) hd.ne (by rw[show ({p with t:=t}:Pl).t.ql=p.t.ql from hB.ql];exact br) (by rw[show ({p with t:=t}:Pl).t.ql=p.t.ql from hB.ql];exact bi) hrel bS;exact⟨I,t,l,_,⟨l5,hB.a.trans c8,hB.ql⟩,q5⟩
 .rintro w5 ⟨t,l,y5,hB,bT⟩;have:=hB.lw.tell bT I;rw[show ({p with t:=t}:Pl).t.ql=p.t.ql from hB.ql]at this;refine cm this ?_;rintro w6 ⟨b9,hL,hW⟩;exact⟨I,t,b9,hL,hB.a.trans hW⟩
structure R7(p:Pl)(F:D9)(G:R.Wd)(w:Aa)(M:R.Bk)(js:List R.Jb)(w1:Aa):Prop where
 lw:LW p F {G with d:=js} w1
 a:D8 F F w w1
 inv:R.Inv M {G with d:=js}
 eq:R.FQ G=R.Hy G js
structure E0(p:Pl)(F:D9)(G:R.Wd)(w:Aa)(M:R.Bk)(j:R.Jb)(js:List R.Jb)(w1:Aa):Prop where
 lw:LW p F {G with d:=js} w1
 a:D8 F F w w1
 inv:R.Inv M {G with d:=js}
 eq:R.FQ G=R.Hy G (j :: js)
 jb:(0<=j.f/\j.f<=2)/\(0<=j.H/\j.H<=2)
 c:∃d,M ⟨j.f,j.b,j.H,j.a⟩=some d/\j.c=d.c
theorem YO(j:R.Jb)(js:List R.Jb):(((j :: js).map Xn).toArray).extract 1 (((j :: js).map Xn).toArray)=(js.map Xn).toArray:=by
 apply Array.toList_inj.1;rw[Array.toList_extract];simp[List.extract];exact A7 Ev
def jo(b:Nat)(w:Aa):Nat:=match w.heap[b]? with
 |some (.chan _ buf _ _ _ _)=>buf.size
 |_=>0
theorem E0.h{j:R.Jb}(h:E0 p F G w M j js w1)(a:DY w1 w2):E0 p F G w M j js w2:=⟨h.lw.h a,h.a.trans (D8.J F a),h.inv,h.eq,h.jb,h.c⟩
theorem LW.serve(h:LW p F G w)(ht:JI w)(W:¬F 0)(hI:R.Inv M G):
  D7 56 #[ptr p.s] w (Z (R.FQ G).1) λT=>NM p F w (R.FQ G).2 T:=by
 refine(gQ w p.s (R7 p F G w M) (E0 p F G w M) (λj js u=>E0 p F G w M j js u/\R.Km G j) (λT=>(R.FQ G).1=19/\NM p F w (R.FQ G).2 T) (λT=>(R.FQ G).1=0/\NM p F w (R.FQ G).2 T) (jo p.t.jc) G.d ⟨h,D8.refl F w,hI,I⟩ ?_ ?_ ?_ ?_ ?_).mono ?_
 .intro js u m;have⟨a,b,hj⟩:=m.lw.a.d;unfold jo;rw[hj];simp
 .intro u m;have⟨a,b,hj⟩:=m.lw.a.d;refine cm (XX u p.s p.t.jc _ a b (EI m.lw.a.bs 19) hj) λw2 H=>?_
  refine⟨I,λwa n=>?_⟩;rw[m.eq];have aa:=H.trans ⟨n.os,n.tape,n.output,n.size,λk hk=>n.block k (Ai hk H.size)⟩;exact⟨I,p.t,F,m.lw.h aa,m.a.trans (D8.J F aa)⟩
 .intro j js u m;have⟨a,b,hj⟩:=m.lw.a.d;refine cm (XY u p.s p.t.jc _ a b _ j.f j.b j.H j.a j.c (EI m.lw.a.bs 19) hj Ev (by simp[Xn])) ?_;rintro w2 ⟨am,hk⟩;refine⟨I,λwa n=>?_⟩;have K:∀x∈js,x∈j :: js:=λx hx=>BQ _ hx
  have X:R.Inv M {G with d:=js}:=m.inv.QZ (js:=js) (by
   have:=m.inv.ws.jl;simp at this;show (js.length:Int)<=G.c.d;omega) (λx hx=>⟨m.inv.ws.jb x (K x hx),m.inv.jb x (K x hx)⟩)
  have⟨l2,aq⟩:=m.lw.Qh (js:=js) hk ⟨a,b+1,by rw[am,YO]⟩ X.ws;have hB:E0 p F G w M j js w2:=⟨l2,m.a.trans aq,X,m.eq,m.inv.ws.jb j (Co),m.inv.jb j (Co)⟩;exact hB.h n
 .intro j js u hB;obtain⟨c,o⟩:∃c:Nat,j.f=(c:Int):=⟨j.f.toNat,by have:=hB.jb;omega⟩;obtain⟨f,z⟩:∃f:Nat,j.H=(f:Int):=⟨j.H.toNat,by have:=hB.jb;omega⟩;have h3:c<3:=by have:=hB.jb;omega
  have C:f<3:=by have:=hB.jb;omega
  have N:10+c*3+f=10+(3*c+f):=U;have v:u.cell? (Y p.s (10+c*3+f))=some (Gh p.t G.J (3*c+f)):=by
   rw[N];exact E7 hB.lw.a.bs (Ox p.t G.J p.n p.nm G.c G.C (i:=3*c+f) U)
  have D:3*c+f<9:=U;have l:=hB.inv.A D;have an:R.EZ {G with d:=js} (3*c+f)=R.EZ G (3*c+f):=rfl;rw[an]at l;have E:3*j.f.toNat+j.H.toNat=3*c+f:=by rw[o,z];simp
  have s:R.Km G j↔(R.EZ G (3*c+f)).d=2/\(R.EZ G (3*c+f)).a=j.a/\G.C.getD c 0=j.b:=by
   unfold R.Km;rw[E,o];simp
  rw[o,z];generalize R.EZ G (3*c+f)=r at l s;have ad:¬R.Km G j->R.FQ G=R.Hy G js:=λhn=>by
   rw[hB.eq];simp only[R.Hy];rw[Ao hn]
  by_cases O:r.a=0
  .have hz:=(hB.inv.ws.sn _ r l).zero O;have hc:Gh p.t G.J (3*c+f)=.pointer none:=by
    unfold Gh;rw[show G.J[3*c+f]?=some r from l];simp[O]
   rw[hc]at v;have hn:¬R.Km G j:=λq=>by
    have:=(s.1 q).1;rw[hz]at this;cases this
   refine cm (pJ u p.s c f j.b j.a j.c h3 C v) λw2 H=>?_
   have g:=hB.h H;exact⟨H,Aj ⟨I,g.lw,g.a,g.inv,ad hn⟩⟩
  .have hc:Gh p.t G.J (3*c+f)=ptr (p.t.ql (3*c+f)):=by
    unfold Gh;rw[show G.J[3*c+f]?=some r from l];simp[O]
   rw[hc]at v;have⟨y,hq,_⟩:=hB.lw.q (i:=3*c+f) (r:=r) l O;have S:=X8 hq.blk;have A:=hq.rel;have B:(3*c+f) / 3=c:=U;have L:(3*c+f) % 3=f:=U;have d0:=S.a0;have d2:=S.a2;rw[A.f,B]at d0;rw[A.H,L]at d2;refine cm (iN u p.s (p.t.ql (3*c+f)) c f j.b j.a j.c y.b y.a y.c y.d h3 C v d0 S.a1 d2 S.a3 S.a4 S.a5) λw2 H=>?_
   have g:=hB.h H;refine⟨H,?_⟩;have J:(y.b=j.b/\y.a=j.a/\y.c=j.c/\y.d=1)↔R.Km G j:=by
    rw[s,A.b,A.a,A.c,A.d,B];constructor
    .rintro ⟨q1,q2,q3,q4⟩;exact⟨U,q2,q1⟩
    .rintro ⟨q1,q2,q3⟩;refine⟨q3,q2,?_,U⟩;have⟨d,hd⟩:=hB.inv.sn _ r l O;have⟨d',ab,hu⟩:=hB.c;have:=hd.Q;rw[B,L]at this;rw[o,z,<-q2,<-q3]at ab;have e:=this.symm.trans ab;cases e;rw[hd.c,hu]
   by_cases Q:R.Km G j
   .right;exact⟨by rw[decide_eq_true (J.2 Q)],g,Q⟩
   .left;exact⟨by rw[decide_eq_false (λq=>Q (J.1 q))],g.lw,g.a,g.inv,ad Q⟩
 .rintro j js u ⟨hB,Q⟩;obtain⟨c,o⟩:∃c:Nat,j.f=(c:Int):=⟨j.f.toNat,by have:=hB.jb;omega⟩;obtain⟨f,z⟩:∃f:Nat,j.H=(f:Int):=⟨j.H.toNat,by have:=hB.jb;omega⟩;have h3:c<3:=by have:=hB.jb;omega
  have C:f<3:=by have:=hB.jb;omega
  have N:10+c*3+f=10+(3*c+f):=U;have E:3*j.f.toNat+j.H.toNat=3*c+f:=by rw[o,z];simp
  have D:3*c+f<9:=U;have P:(R.EZ {G with d:=js} (3*c+f)).d=2:=by
   have:=Q.1;rw[E]at this;exact this
  have l:=hB.inv.A D;have O:(R.EZ {G with d:=js} (3*c+f)).a≠0:=λe=>by
   rw[(hB.inv.ws.sn _ _ l).zero e]at P;cases P
  have v:u.cell? (Y p.s (10+c*3+f))=some (ptr (p.t.ql (3*c+f))):=by
   rw[N];have:=E7 hB.lw.a.bs (Ox p.t G.J p.n p.nm G.c G.C (i:=3*c+f) U);rw[this];unfold Gh;rw[show G.J[3*c+f]?=some _ from l];simp only[Bw];rw[Ao O]
  refine⟨c,f,_,o,z,h3,C,v,?_⟩;have ak:DY u u.drew:=⟨I,I,I,Ar _,λ_ _=>rfl⟩;have g:=hB.h ak;refine cm (g.lw.done (ht.H g.a.H W) W g.inv D P) ?_;rintro w2 ⟨t,F',hL,hW⟩;have al:R.FQ G=(0,R.Oa {G with d:=js} (3*c+f)):=by
   rw[hB.eq];simp only[R.Hy];rw[Ay Q,E]
  rw[al];exact⟨I,I,t,F',hL,g.a.trans hW⟩
 .rintro e T (⟨rfl,h1,P⟩|⟨rfl,h1,P⟩)
  .exact⟨by rw[h1],P⟩
  .exact⟨by rw[h1],P⟩
theorem LW.adD(h:LW p F G w)(c:JI w)(a:¬F 0)(b:R.Inv M G):
  D7 30 #[ptr p.x] w (Z (R.FQ G).1) λe=>NM p F w (R.FQ G).2 e:=by
 have x1:=EI h.bx 1;have f:=Dx (h.serve c a b);generalize R.FQ G=Zq at *;clear h c b
 delta D7
 go_in
 go_wp2_with (go_at_call 56;refine cm f λe d=>?_;have g:=Dx d;clear d)
 go_returns;exact⟨I,g⟩
theorem Uk(w:Aa)(s m:Nat)(a:Af)(cap:Nat)u(b:EB w s 6 (.slice a m cap)):D7 37 #[ptr s,Z u] w (.bool (decide (1<=u/\u<=m))) (DY w):=by
 refine cs (Uj w s m a cap u b) ?_;exact⟨I,AA _ _⟩
theorem ade(w:Aa)(s m:Nat)(a:Af)(cap:Nat)u(e:EB w s 6 (.slice a m cap))(hu:¬(1<=u/\u<=(m:Int))):
  D7 20 #[ptr s,Z u] w (.tuple #[Z 0,Z 9]) (DY w):=by
 have H:=Uk w s m a cap u e;rw[decide_eq_false hu]at H;have d:=Dx H;clear H hu
 delta D7
 go_in
 go_wp2_with (go_at_call 37;refine cm d λf b=>?_;have c:=Dx b;clear b)
 go_returns;exact⟨I,c⟩
theorem zw(w:Aa)(s g m cap u:Nat)(i:Af)(d j:Nat)(e:EB w s 6 (EJ g m cap))(hu:u<m)(t:m<=255)(k:EB w g (u*3+2) (.slice i d j)):
  D7 20 #[ptr s,Z (u+1)] w (.tuple #[Z d,Z 0]) (DY w):=by
 have H:=Uk w s m (some (Y g 0)) cap ((u:Int)+1) e;rw[decide_eq_true U]at H;have q:=Dx H;have⟨h,f⟩:=KM e k;have r:Hid (∀a,DY w a->EB a g (u*3+2) (.slice i d j)/\D7 38 #[ptr s,Z ((u:Int)+1)] a (.pointer (some (Y g (u*3)))) λv=>v=a):=λa l=>⟨(l.cell (p:=(Y g (u*3+2))) f).trans k,Nc a s g u m cap ((l.cell (p:=Y s 6) h).trans e) hu t⟩
 clear H
 delta D7
 go_in
 go_wp2_with (first
  |(go_at_call 37;refine cm q λa b=>?_;have⟨d2,n⟩:=r a b;have o:=Dx b;have c:=Dx n;clear b n)
  |(go_at_call 38;refine cs c ?_))
 go_returns;exact⟨I,o⟩
theorem LW.ae8(h:LW p F G w)u:
  D7 20 #[ptr p.s,Z u] w (.tuple #[Z (R.MJ G u).1,Z (R.MJ G u).2]) (DY w):=by
 have hzl:p.t.zs.length=G.a.length:=by rw[<-h.a.zs,AX]
 have f:=h.wf.sv;unfold R.MJ;by_cases d:R.LY G u
 .rw[Ay d];unfold R.LY at d;obtain⟨n,rfl⟩:∃n:Nat,u=(n:Int)+1:=⟨(u-1).toNat,U⟩;have hn:n<G.a.length:=U;have m:=Ah hn;have⟨z,hz,o⟩:=Rv h.a.zs m;have⟨g,cap,i,hK,t,l,k0,v,k2,_⟩:=h.a.PG hz;have⟨j,s,b,_⟩:=(h.a.each z (Ap hz)).log;have⟨q,r,e⟩:=Fa b;rw[e]at k2;have k:EB w p.s 6 (EJ g p.t.zs.length cap):=by
   exact kt
  have hl:(R.Ol G ((n:Int)+1)).length=j.length:=by grind [R.Ol]
  grind [zw]
 .rw[Ao d];unfold R.LY at d;have⟨a,c,hK⟩:=Fa h.a.Q;have k:EB w p.s 6 (.slice a p.t.zs.length c):=by
   exact kt
  grind [ade]
theorem LW.log(h:LW p F G w)u:
  D7 9 #[ptr p.x,Z u] w (.tuple #[Z (R.MJ G u).1,Z (R.MJ G u).2]) (DY w):=by
 have x1:=EI h.bx 1;have b:=Dx (h.ae8 u);generalize R.MJ G u=Zq at *;clear h
 delta D7
 go_in
 go_wp2_with (go_at_call 20;refine cm b λd a=>?_;have c:=Dx a;clear a)
 go_returns;exact⟨I,c⟩
def jy:List Value:=[Z 0,Z 0,Z 0,Z 0,Z 0,.slice none 0 0,.slice none 0 0]
abbrev adE(w:Aa)(b:Nat)(v0 v1 v2 v3 v4 v5 v6:Ad):World:=((((((w.setCell (Y b 0) v0).setCell (Y b 1) v1).setCell (Y b 2) v2).setCell (Y b 3) v3).setCell (Y b 4) v4).setCell (Y b 5) v5).setCell (Y b 6) v6
structure JX(w0:Aa)(b:Nat)(v0 v1 v2 v3 v4 v5 v6:Ad)(W:Aa):Prop where
 c0:W.cell? (Y b 0)=some v0
 c1:W.cell? (Y b 1)=some v1
 c2:W.cell? (Y b 2)=some v2
 c3:W.cell? (Y b 3)=some v3
 c4:W.cell? (Y b 4)=some v4
 c5:W.cell? (Y b 5)=some v5
 c6:W.cell? (Y b 6)=some v6
 z:∀j,W.frozen? (Y b j)=false
 keep:DF (λk=>k=b) w0 W
theorem PD{W:Aa}(h:Dy W b #[v0,v1,v2,v3,v4,v5,v6] 45)(hk:DF (λk=>k=b) w0 W):JX w0 b v0 v1 v2 v3 v4 v5 v6 W:=
 ⟨EI h 0,EI h 1,EI h 2,EI h 3,EI h 4,EI h 5,EI h 6,λ_=>Eb h,hk⟩
theorem vB(h:Dy w b #[u0,u1,u2,u3,u4,u5,u6] 45):Dy (adE w b v0 v1 v2 v3 v4 v5 v6) b #[v0,v1,v2,v3,v4,v5,v6] 45:=by
 have e0:=Ek (cs:=[u0,u1,u2,u3,u4,u5,u6]) (off:=0) h v0;have e1:=Ek (off:=1) e0 v1;have e2:=Ek (off:=2) e1 v2;have e3:=Ek (off:=3) e2 v3;have e4:=Ek (off:=4) e3 v4;have e5:=Ek (off:=5) e4 v5;exact Ek (off:=6) e5 v6
theorem SQ(h:Dy w b #[u0,u1,u2,u3,u4,u5,u6] 45)(a c d e f g i:Ad):JX w b a c d e f g i (adE w b a c d e f g i):=PD (vB h) ((((((((Eg _).trans (Eg _)).trans (Eg _)).trans (Eg _)).trans (Eg _)).trans (Eg _)).trans (Eg _)))
theorem QL{W:Aa}(b:DY w w1)(hk:DF (λk=>k=w) w1 W):DY w W:=b.trans ⟨hk.os,hk.tape,hk.output,hk.size,λk a=>hk.block k (Ai a b.size) U⟩
theorem Xc(a:Below (w.alloc (.cells jy.toArray 45)) (w.alloc (.cells jy.toArray 45)) w1):Dy w1 w #[Z 0,Z 0,Z 0,Z 0,Z 0,Dz,Dz] 45/\DY w w1:=
 ⟨(a.block _ Ev).trans (AF w _),F9.trans ⟨a.os,a.tape,a.output,a.size,λk hk=>a.block k Fy⟩⟩
theorem rK{u n er:Int}(h:∀a,DY w a->D7 20 #[ptr s,Z u] a (.tuple #[Z n,Z er]) (DY a))(hno:er≠0\/k<0\/n<=k):
  D7 21 #[ptr s,Z u,Z k] w (.tuple #[.agg jy.toArray,Z 9]) (DY w):=by
 have HL:=Dx (h (w.alloc (.cells jy.toArray 45)) F9);clear h;by_cases b:er=0
 .subst b;by_cases c:k<0
  .exact adL
  .have d:n<=k:=U;have e:¬k<n:=U;exact adL
 .have e1:(er != 0)=true:=by simpa using b
  exact adL
theorem lP{lb k:Nat}{n:Int}{y z A B C:Int}(P Q:Value->World->Prop)(hn:k<n)(hk:k<dl)
  (d2:EB w g (u*3+2) (EJ lb dl dc)) (e0:EB w lb (k*7) (Z y)) (e1:EB w lb (k*7+1) (Z z)) (e2:EB w lb (k*7+2) (Z A)) (e3:EB w lb (k*7+3) (Z B)) (e4:EB w lb (k*7+4) (Z C)) (e5:EB w lb (k*7+5) (.slice xa xn xc)) (e6:EB w lb (k*7+6) (.slice ya yn yc))
  (H:∀d,DY w d->D7 20 #[ptr s,Z (u+1)] d (.tuple #[Z n,Z 0]) (DY d))
  (o:∀d,DY w d->D7 38 #[ptr s,Z (u+1)] d (.pointer (Y g (u*3))) λm=>m=d)
  (HA:∀d,DY w d->ET 39 #[.slice xa xn xc] d λe m=>(∃h l i,e=.returned (.slice h l i)/\(∀wb,DF (λk=>w<=k/\k<d) m wb->P (.slice h l i) wb)/\∀j,(Value.slice h l i).ownBlock=some j->d<=j/\j<m)/\DY d m)
  (HB:∀d,DY w d->ET 39 #[.slice ya yn yc] d λe m=>(∃h l i,e=.returned (.slice h l i)/\(∀wb,DF (λk=>w<=k/\k<d) m wb->Q (.slice h l i) wb)/\∀j,(Value.slice h l i).ownBlock=some j->d<=j/\j<m)/\DY d m):
  ET 21 #[ptr s,Z (u+1),Z k] w λe m=>∃X Yq,e=.returned (.tuple #[.agg #[Z y,Z z,Z A,Z B,Z C,X,Yq],Z 0])/\P X m/\Q Yq m/\DY w m/\∀j,X.ownBlock=some j->Yq.ownBlock≠j:=by
 have HL:=Dx (H (w.alloc (.cells jy.toArray 45)) F9);have⟨HV,HA,HB⟩:=Ll o HA HB;have⟨av,f⟩:=KM d2 e0;obtain⟨q0,q1,q2,q3⟩:¬(k:Int)<0/\¬n<=(k:Int)/\0<=(k:Int)/\(k:Int)<dl:=U;have HC:Hid (∀a,DY w a->EB a g (u*3+2) (EJ lb dl dc)/\EB a lb (k*7) (Z y)/\EB a lb (k*7+1) (Z z)/\EB a lb (k*7+2) (Z A)/\EB a lb (k*7+3) (Z B)/\EB a lb (k*7+4) (Z C)/\EB a lb (k*7+5) (.slice xa xn xc)/\EB a lb (k*7+6) (.slice ya yn yc)):=λa q=>
  ⟨(q.cell (p:=Y g _) av).trans d2,(q.cell (p:=Y lb _) f).trans e0,(q.cell (p:=Y lb _) f).trans e1,(q.cell (p:=Y lb _) f).trans e2,(q.cell (p:=Y lb _) f).trans e3,(q.cell (p:=Y lb _) f).trans e4,(q.cell (p:=Y lb _) f).trans e5,(q.cell (p:=Y lb _) f).trans e6⟩
 clear H o d2 e0 e1 e2 e3 e4 e5 e6
 delta ET
 go_in
 go_wp2_with (first
  |(go_at_call 20;refine cm HL λa aa=>?_;have⟨b1,b4⟩:=Xc aa;have ar:=Dv b1;have HX:=Dx b1;have ah:=Dx b4;have N:=Dx (HV a b4);have⟨d2,e0,e1,e2,e3,e4,e5,e6⟩:=HC a b4;clear aa b4 b1)
  |(go_at_call 38;refine cs N ?_))
 have aw:=ar;have t:DY w (a.alloc (.cells #[Z y,Z z,Z A,Z B,Z C,.slice xa xn xc,.slice ya yn yc] 45)):=ah.alloc U _;refine(HA _ t).mono ?_;rintro e F ⟨⟨h,l,i,rfl,hP,hX⟩,c⟩;have b2:=(c.block _ Ev).trans (AF a _);have r2:=((c.block w.heap.size Fy).trans (AL _ _ _ aw)).trans (Dw HX);have⟨f0,f1,f2,f3,f4,f5,f6,fz,_⟩:=PD b2 (DF.refl _ F);have bf:=Dv b2;have v:DY w (F.setCell (EN a 5) (.slice h l i)):=by
  have hk:DF (λk=>k=a.heap.size) F (F.setCell (EN a 5) (.slice h l i)):=Eg _;have h1:=t.trans ⟨c.os,c.tape,c.output,c.size,λk hk=>c.block k Fy⟩;exact h1.trans ⟨hk.os,hk.tape,hk.output,hk.size,λk aq=>hk.block k (Ai aq h1.size) U⟩
 have⟨HP,O,J,L⟩:=bE hP hX b2 r2;have⟨M,K,S⟩:=Ll c.size (HB _ v) v;clear hP hX b2 r2 c v t HA HB HC HV N HL HX d2 e0 e1 e2 e3 e4 e5 e6;go_wp2_with fail
 refine K.mono ?_;rintro e G ⟨⟨D,sn,E,rfl,hQ,hY⟩,b⟩;have al:Hid (∀j,(Value.slice h l i).ownBlock=some j->(Value.slice D sn E).ownBlock≠some j):=λj q1 q2=>by
  have h1:=O j q1;have h2:=hY j q2;simp only[Dr]at h2;omega
 clear hY O;have T:w.heap.size≠a.heap.size:=U;have aN:=b.size;simp only[Dr]at aN;have b3:=(b.block _ Fy).trans (Ek (cs:=[Z y,Z z,Z A,Z B,Z C,.slice xa xn xc,.slice ya yn yc]) (off:=5) J _);have r3:=((b.block w.heap.size Fy).trans (AU _ _ _ _ T)).trans (Dw L);have r4:=(AU G (EN a 6) (.slice D sn E) w.heap.size T).trans r3;clear f0 f1 f2 f3 f4 f5 f6 fz;have⟨f0,f1,f2,f3,f4,f5,f6,fz,_⟩:=PD b3 (DF.refl _ G);have⟨g0,g1,g2,g3,g4,g5,g6,gz,_⟩:=PD r3 (DF.refl _ G);have bg:=Dv b3;have b5:=Dv r3;have r:DF (λk=>k=a.heap.size) G (G.setCell (EN a 6) (.slice D sn E)):=Eg _;have HF:Hid (∀W,DF (λk=>k=w.heap.size) (G.setCell (EN a 6) (.slice D sn E)) W->P (.slice h l i) W/\Q (.slice D sn E) W/\DY w W):=λW hW=>by
  have x:=(r.mono (λk _ e=>Am e)).trans (hW.mono (λk _ e=>Aj e));have az:=Dw M;simp only[Cx]at az;refine⟨HP W ?_,hQ W (x.mono (λk _ e=>by simp only[Dr];omega)),?_⟩
  .have ka:DF (λk=>w.heap.size<=k/\k<(a.alloc (.cells #[Z y,Z z,Z A,Z B,Z C,.slice xa xn xc,.slice ya yn yc] 45)).heap.size) F (F.setCell (EN a 5) (.slice h l i)):=(Eg _).mono (λk _ e=>by simp only[Cx];have:k=a.heap.size:=e;omega);exact(ka.trans (DF.J b _)).trans (x.mono (λk _ e=>by simp only[Cx];omega))
  .have h3:=S.trans ⟨b.os,b.tape,b.output,b.size,λk hk=>b.block k Fy⟩;exact h3.trans ⟨x.os,x.tape,x.output,x.size,λk hk=>x.block k U U⟩
 have ak:=Dx r4;clear r4 b3 r3 hQ b K S r HP J L M;go_wp2;refine EE _ (SQ ak (Z y) (Z z) (Z A) (Z B) (Z C) (.slice h l i) (.slice D sn E)) ?_;rintro W ⟨m0,m1,m2,m3,m4,m5,m6,mz,mk⟩;have HK:=Dx mk;clear mk;go_wp2
 (try simp only[Exit.inBlock,Exit.then])
 refine Bm (by simp[results,results21,go_sem,m0,m1,m2,m3,m4,m5,m6];try rfl) I ?_;have⟨z1,z2,z3⟩:=HF W (Dw HK);exact⟨_,_,I,z1,z2,z3,al⟩
theorem ki(h:w.ownsRow A e size v n xs)(hB:B<=A):w.ownsRow B e size v n xs:=by
 refine⟨h.1,?_⟩;rcases h.2 with q|⟨g,cap,a,b,c,d⟩
 .exact Aj q
 .exact Am ⟨g,cap,a,b,Br hB c,d⟩
theorem TB:∀(a:List Bool) (v:List V.It),a.length=v.length->v.length<=(V.Et a v).length
 |[],[],_=>Ar _
 |[],_ :: _,h=>by simp at h
 |_ :: _,[],h=>by simp at h
 |k :: a,x :: v,h=>by
  have c:=TB a v (by simpa using h);have b:1<=(V.KL k x).length:=by
   cases k
   .exact Nat.le_of_ble_eq_true I
   .simp[V.KL,V.EU]
  simp only[V.Et,AJ,A4];omega
theorem yQ{g:Nat->Nat}{f p:Nat}{v:List V.It}{a:List Bool}(b:V.Hg g f p v=some (a,[])):a=v.length:=by
 have⟨c,d⟩:=V.Hs _ _ _ _ _ _ b
 grind [List.length_drop]
theorem KQ{v:List R.It}(h:R.Fi t v=bs):v.length<=70:=by
 have⟨hc,d,c,a,b⟩:=V.JO (R.JK h)
 grind [TB,yQ]
def bH(o:Option R.En)(w:Aa)(e:Ending)(w':Aa):Prop:=(match o with
 |none=>e=.returned (.tuple #[.agg jy.toArray,.int .i64 9])
 |some x=>∃X Yq,e=.returned (.tuple #[.agg #[.int .i64 x.f,.int .i64 x.b,.int .i64 x.H,.int .i64 x.a,.int .i64 x.g,X,Yq],.int .i64 0])/\V.Row w' w.heap.size X x.arg/\V.Row w' w.heap.size Yq x.D/\∀j,X.ownBlock=some j->Yq.ownBlock≠some j)/\Below w.heap.size w w'
theorem VM{v:List R.It}(hn:v.length<=1000)(h:∀a,DY w a->Gg a F (.slice xa xn xc) v):
  ∀a,DY w a->ET 39 #[.slice xa xn xc] a λe g=>(∃b d c,e=.returned (.slice b d c)/\(∀m,DF (λk=>w<=k/\k<a) g m->V.Row m w (.slice b d c) v)/\∀j,(Value.slice b d c).ownBlock=some j->a<=j/\j<g)/\DY a g:=by
 intro a n;refine(Yx (h a n) hn).mono ?_;rintro e g ⟨⟨O,rfl,f,_⟩,i⟩;obtain⟨b,d,c,rfl⟩:=Ei f;refine⟨⟨b,d,c,I,λm hk=>?_,λj l=>Ba f j l⟩,i⟩;have:=hk.row f (λj l q=>by have:=(Ba f j l).1;omega);exact ki this n.size
theorem LW.adC(h:LW p F G w)(W:R.Inv M G)(u k:Int):
  ET 21 #[ptr p.s,Z u,Z k] w (bH (R.Fq G u k) w):=by
 have D:∀f,DY w f->D7 20 #[ptr p.s,Z u] f (.tuple #[Z (R.MJ G u).1,Z (R.MJ G u).2]) (DY f):=λf r=>(h.h r).ae8 u
 have no:((R.MJ G u).2≠0\/k<0\/(R.MJ G u).1<=k)->R.Fq G u k=none->ET 21 #[ptr p.s,Z u,Z k] w (bH (R.Fq G u k) w):=λh1 h2=>by
  rw[h2];exact rK D h1
 have hzl:p.t.zs.length=G.a.length:=by rw[<-h.a.zs,AX]
 have S:=h.wf.sv;by_cases hm:R.LY G u
 .by_cases hk:0<=k/\k<((R.Ol G u).length:Int)
  .have O:=hm;unfold R.LY at O;obtain⟨n,rfl⟩:∃n:Nat,u=(n:Int)+1:=⟨(u-1).toNat,U⟩;obtain⟨j,rfl⟩:∃j:Nat,k=(j:Int):=⟨k.toNat,U⟩;have hn:n<G.a.length:=U;have hs:=Ah hn;have⟨z,hz,aq⟩:=Rv h.a.zs hs;have⟨g,cap,C,hK,hg,al,k0,k1,k2,_⟩:=h.a.PG hz;have⟨o,he,x,t⟩:=(h.a.each z (Ap hz)).log;have K:R.Ol G ((n:Int)+1)=o.map (·.1):=by all_goals grind [R.Ol]
   rw[K,AX]at hk;have m:j<o.length:=U;have s:=Ah m;have i:=CK m;generalize o[j]=y at s i;have H:R.Fq G ((n:Int)+1) (j:Int)=some y.1:=by all_goals grind [R.Fq]
   have L:R.MJ G ((n:Int)+1)=((o.length:Int),0):=by all_goals grind [R.MJ]
   rw[L]at D;rw[H];have J:y.1∈G.a[n].log:=by all_goals grind
   have⟨d,rb,d1,d2,d3,d4,d5,d6⟩:=((W.lg n _ hs).each y.1 J).some;have f1:y.1.arg.length<=1000:=by
    rw[d4];have:=KQ (W.bk _ _ d1).1.bs;omega
   have f2:y.1.D.length<=1000:=by
    have:=KQ d5;omega
   rcases x.2 with ⟨_,h0⟩|⟨lb,dc,A,E,_,ao,aa,_,_,P⟩
   .omega
   .have q:∀c,c<7->A[j*7+c]?=(IQ y)[c]?:=λc hc=>by
     rw[<-Jh Pz o j c y s hc,<-P,BI,Ay U];simp
    have cl:∀c v,c<7->(IQ y)[c]?=some v->w.cell? (Y lb (j*7+c))=some v:=λc v hc hv=>by
     all_goals grind [World.cell?]
    have a:∀{X:Ad} {l:List R.It},Gg w F X l->∃xa xn xc,X=.slice xa xn xc:=λQ=>by
     rcases Q with ⟨_,rfl⟩|⟨b,off,cap,C,_,rfl,_⟩;all_goals grind
    have⟨i1,i2⟩:=t y i;have e5:=cl 5 _ U I;have e6:=cl 6 _ U I;have⟨xa,xn,xc,hX⟩:=a i1;have⟨ya,yn,yc,hY⟩:=a i2;rw[hX]at i1 e5;rw[hY]at i2 e6;rw[E]at k2;have keep:∀{X:Ad} {l:List R.It},Gg w F X l->∀f,DY w f->Gg f F X l:=λQ f r=>Q.keep (DF.J r (λ_=>False)) (λ_ _ _ _ q=>q) (λ_ q=>q)
    have T:w.cell? (Y p.s 6)=some (EJ g p.t.zs.length cap):=by
     exact kt
    have N:=Gv T;refine(lP (λX B=>V.Row B w.heap.size X y.1.arg) (λX B=>V.Row B w.heap.size X y.1.D) U m k2 (cl 0 _ U I) (cl 1 _ U I) (cl 2 _ U I) (cl 3 _ U I) (cl 4 _ U I) e5 e6 D (λf r=>Nc f p.s g n p.t.zs.length cap ((r.cell (p:=Y p.s 6) N).trans T) U U) (VM f1 (keep i1)) (VM f2 (keep i2))).mono ?_;rintro e B ⟨X,Yq,rfl,r1,r2,r3,r4⟩;exact⟨⟨X,Yq,I,r1,r2,r4⟩,r3⟩
  all_goals grind [R.MJ,R.Fq]
 all_goals grind [R.MJ,R.Fq]
theorem LW.entry(h:LW p F G w)(H:R.Inv M G)(u k:Int):
  ET 10 #[ptr p.x,Z u,Z k] w (bH (R.Fq G u k) w):=by
 have x1:=EI h.bx 1;have aa:=Gv x1;have y:=Dx ((h.h ((AA _ _).alloc (Ar _) (.cells jy.toArray 45))).adC H u k);generalize R.Fq G u k=Zq at *;clear h H;cases Zq with
 |none=>
  have c:Hid (D7 21 #[ptr p.s,Z u,Z k] (w.alloc (.cells jy.toArray 45)) (.tuple #[.agg #[Z 0,Z 0,Z 0,Z 0,Z 0,Dz,Dz],Z 9]) λq=>Below (w.alloc (.cells jy.toArray 45)).heap.size (w.alloc (.cells jy.toArray 45)) q):=Dw y;clear y
  delta ET
  go_in
  go_wp2_with (go_at_call 21;refine cm c λA a=>?_;have⟨b,r⟩:=Xc a;have⟨N,P,Q,S,T,f5,f6,fz,_⟩:=PD b (DF.refl _ A);have D:=Dv b;have C:=Dx b;have B:=Dx r;clear a r b)
  refine EE _ (SQ C (Z 0) (Z 0) (Z 0) (Z 0) (Z 0) Dz Dz) ?_;rintro W ⟨g0,g1,g2,g3,g4,g5,g6,gz,s⟩;have t:=Dx s;clear s;go_wp2
  (try simp only[Exit.inBlock,Exit.then])
  refine Bm (by simp[results,results10,go_sem,g0,g1,g2,g3,g4,g5,g6];try rfl) I ?_;exact⟨I,QL B (Dw t)⟩
 |some x=>
  have c:Hid (ET 21 #[ptr p.s,Z u,Z k] (w.alloc (.cells jy.toArray 45)) λe q=>(∃d g f i m l,e=.returned (.tuple #[.agg #[Z x.f,Z x.b,Z x.H,Z x.a,Z x.g,.slice d g f,.slice i m l],Z 0])/\V.Row q (w.heap.size+1) (.slice d g f) x.arg/\V.Row q (w.heap.size+1) (.slice i m l) x.D/\∀j,(Value.slice d g f).ownBlock=some j->(Value.slice i m l).ownBlock≠some j)/\Below (w.alloc (.cells jy.toArray 45)).heap.size (w.alloc (.cells jy.toArray 45)) q):=by
   refine y.mono ?_;rintro e q ⟨⟨X,Yq,rfl,n,o,z⟩,hb⟩;rw[show (w.alloc (.cells jy.toArray 45)).heap.size=w.heap.size+1 by simp]at n o;obtain⟨d,g,f,rfl⟩:=Ei n;obtain⟨i,m,l,rfl⟩:=Ei o;exact⟨⟨d,g,f,i,m,l,I,n,o,z⟩,hb⟩
  clear y
  delta ET
  go_in
  go_wp2_with (go_at_call 21;refine c.mono ?_;rintro e A ⟨⟨d,g,f,i,m,l,rfl,n,o,z⟩,a⟩;have⟨b,r⟩:=Xc a;have⟨N,P,Q,S,T,f5,f6,fz,_⟩:=PD b (DF.refl _ A);have D:=Dv b;have C:=Dx b;have B:=Dx r;have J:=Dx n;have K:=Dx o;have L:=Dx z;clear a r b n o z)
  refine EE _ (SQ C (Z x.f) (Z x.b) (Z x.H) (Z x.a) (Z x.g) (.slice d g f) (.slice i m l)) ?_;rintro W ⟨g0,g1,g2,g3,g4,g5,g6,gz,s⟩;have t:=Dx s;have E:Hid (∀{O:Ad} {v:List V.It},V.Row A (w.heap.size+1) O v->V.Row W w.heap.size O v):=λ{O v} hR=>ki (t.row hR (λj hj e=>by have:=(Ba hR j hj).1;omega)) U
  clear s;go_wp2
  (try simp only[Exit.inBlock,Exit.then])
  refine Bm (by simp[results,results10,go_sem,g0,g1,g2,g3,g4,g5,g6];try rfl) I ?_;exact⟨⟨_,_,I,E (Dw J),E (Dw K),L⟩,QL B (Dw t)⟩
theorem jK(h:R.Inv M G):∀(i:Nat) (c:R.Cl) (k:Nat) (l:R.Ln),G.b[i]?=c->c.a[k]?=l->l.D.length<=1000:=λi c k l hc hl=>by
 by_cases b:l.d=2
 .have⟨d,e,g,_,a,f⟩:=(h.ln i c k l hc hl).done b;rw[f];have:=KQ a.bytes;omega
 .rw[(h.ln i c k l hc hl).none b];simp
theorem vW(h:R.Inv M G)(cl li:Int):(R.KI G cl li).2.2.1.length<=1000:=by
 unfold R.KI
 grind [R.Ia,R.Vm,jK]
theorem Vh{z:Nat->Option Obj}{B:List Tw}{L:List V.Kp}(h:Hn w0 z b N B L lv K w){t:Tw}(hi:B[i]?=t){o:LD}(hk:o.J=12)(hL:L.length<=1000000000000):
  D7 74 #[ptr b,t.val,o.val] w DC λd=>∃u r,Hn w0 z b N B u lv r d/\u=L.length+1:=by
 have hm:=Ap hi;have⟨v,E,F,hx,D,S⟩:=Jc (h.tw t hm) o;have h1:=h.h F;have⟨M,Q⟩:=D.bd.iv;have A:=vW Q o.a o.b;have⟨ua,un,uc,x,y⟩:=D.r.status o.a o.b;have G:∀j,V.OY b L K j->j<v.heap.size:=λj H=>h1.lt j (Aj H)
 generalize hSt:R.KI t.G o.a o.b=St at *;have⟨st,sq,c,er⟩:=St;simp only at A x y;refine(oS w v b t o hk st sq er ua un uc (λn on p P=>DY v P/\P.ownsRow v.heap.size 73 2 (.slice n on p) c.length (V.flat c))
  (λd=>∃u r,Hn w0 z b N B u lv r d/\u.length=L.length+1) E hx (Dv h.bo.cell) ?_ ?_ ?_ ?_)
 .have T:=D.l.status (jK Q) o.a o.b;rw[hSt]at T;refine T.mono ?_;rintro e P ⟨⟨O,rfl,g⟩,a⟩;have⟨n,on,p,C⟩:=Ei g;subst C;exact⟨n,on,p,I,a,a,g⟩
 .rintro n on p X d ⟨a,_⟩ l;exact y d (a.trans (l.mono a.size))
 .rintro n on p X d ⟨a,g⟩ l;exact V.UI d _ _ c (V.KW (ER g l)) (x.J.h (a.trans (l.mono a.size))) U
 .rintro n on p X d ⟨a,g⟩ l;have m:=a.trans (l.mono a.size);have C:=g.lt;refine cm (V.VG v d b L lv K _ c (h1.bo.h m) m (ER g l) hL U G) ?_;rintro ah ⟨r,k,hB,W⟩;refine⟨I,λq aa J=>W.H.block q J (λf=>?_),L++[k],r,(h1.h m).J (λj H=>?_) hB W,Ev⟩
  .have:=a.size
   grind
  .have h2:=(C j H).1;exact abr
end Go.Proofs.YtblomippkddgiabGreatDoor
