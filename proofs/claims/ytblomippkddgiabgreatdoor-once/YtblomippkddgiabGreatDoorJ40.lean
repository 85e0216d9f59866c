import Derived.Test.YtblomippkddgiabGreatDoorJ39
set_option maxRecDepth 100000
set_option maxHeartbeats 2000000
namespace Go.Proofs.YtblomippkddgiabGreatDoor
open Go.RowKit
variable {cur:Array Value}{T:ByteArray}{b cap g n:Nat}{e:TypeId}{K:Value}{w wz:World}
theorem Qy{w1 w2:World}{F:Aq}{log:List R.En}{en:R.En}{dn:Nat}{O Z:Value}{d0 d1 d2:Value}{out:List R.It}(hF:F b)(hb:w.heap[b]?=some (.cells #[d0,d1,d2] 329 (0,0)))(hK:K=.slice none 0 0)(h0:IW w F d0 (R.Fq log 0 []))(h1:IW w F d1 (R.Fq log 1 []))(h2:IW w F d2 (R.Fq log 2 []))(ao:dn<3)(ad:R.IY en.arg 0=(dn:Int))(ae:Below w.heap.size w w1)
  (hC:(en.arg.drop 2=[]/\∃a,O=.slice a 0 0)\/BF w1 (fun k=>w.heap.size<=k/\k<w1.heap.size) O (en.arg.drop 2)) (ab:Below w1.heap.size (w1.setCell ⟨b,dn,none⟩ O) w2) (ag:V.Row w2 w.heap.size Z out):Did w F log en b K 2 (.iface 327 (ptr b)) Z out w2:=by
 have am:=lt_of_block hb;have ap:=ae.size;have an:=ab.size;simp only[World.size_setCell]at an;have al:Af (fun k=>k=b) w (w1.setCell ⟨b,dn,none⟩ O):=(Af.Al ae _).trans (Ah _);have ai:Af (fun k=>k=b) (w1.setCell ⟨b,dn,none⟩ O) w2:=⟨ab.os,ab.tape,ab.output,ab.size,fun k hk _=>ab.block k (by simpa using hk)⟩;have hk:Af (fun k=>k=b) w w2:=al.trans ai;have ah:w1.heap[b]?=some (.cells #[d0,d1,d2] 329 (0,0)):=by rw[ae.block b am];exact hb
 have aa:w2.heap[b]?=some (.cells ([d0,d1,d2].set dn O).toArray 329 (0,0)):=by
  rw[ab.block b (by omega)];exact Ai (cs:=[d0,d1,d2]) (off:=dn) ah O
 have ac:∀{Y:Value} {l:List R.It},IW w F Y l->IW w2 (fun k=>F k\/(w.heap.size<=k/\k<w2.heap.size)) Y l:=fun h=>h.keep hk (fun k aj ak af e=>by
  subst e;rw[hb]at af;cases af) (fun _ q=>Or.inl q)
 have hO:IW w2 (fun k=>F k\/(w.heap.size<=k/\k<w2.heap.size)) O (en.arg.drop 2):=by
  rcases hC with hC|hC
  ·exact Or.inl hC
  ·refine Or.inr (hC.keep (E:=fun k=>k=b) ((Ah _).trans ai) (fun k aj ak af e=>?_) (fun k q=>Or.inr ⟨q.1,by omega⟩));subst e;omega
 refine⟨ag,hk.mono (fun k _ e=>Or.inl e),K,?_,Or.inl rfl⟩;have l0:=KA log en 0 [];have l1:=KA log en 1 [];have l2:=KA log en 2 [];rw[ad]at l0 l1 l2;have hd:dn=0\/dn=1\/dn=2:=by omega
 rcases hd with rfl|rfl|rfl
 ·rw[if_pos (by decide)]at l0;rw[if_neg (by decide)]at l1 l2;exact .Jo O d1 d2 (Or.inl hF) aa hK (by rw[l0];exact hO) (by rw[l1];exact ac h1) (by rw[l2];exact ac h2)
 ·rw[if_neg (by decide)]at l0 l2;rw[if_pos (by decide)]at l1;exact .Jo d0 O d2 (Or.inl hF) aa hK (by rw[l0];exact ac h0) (by rw[l1];exact hO) (by rw[l2];exact ac h2)
 ·rw[if_neg (by decide)]at l0 l1;rw[if_pos (by decide)]at l2;exact .Jo d0 d1 O (Or.inl hF) aa hK (by rw[l0];exact ac h0) (by rw[l1];exact ac h1) (by rw[l2];exact hO)
theorem abp(w U:World)(hU:w.heap.size<=U.heap.size)(n m:Int)(s t:ByteArray):V.Row (U.alloc (.cells #[.int .i64 n,.string s,.int .i64 m,.string t] 73)) w.heap.size (.slice (some ⟨U.heap.size,0,none⟩) 2 2) [(n,s),(m,t)]:=by
 refine⟨rfl,Or.inr ⟨U.heap.size,2,#[.int .i64 n,.string s,.int .i64 m,.string t],rfl,hU,?_,Nat.le_refl _,by decide,rfl,rfl⟩⟩;exact heap_alloc_new U _
theorem aax(w:World)(F:Aq)(log:List R.En)(en:R.En)(b:Nat)(K W:Value)(h:Works w F log b K 2 W)(ay:∀k,F k->k<w.heap.size){X:Value}(hX:V.Items w X en.arg)(ha:∃d k rest,en.arg=d :: k :: rest/\(0<=d.1/\d.1<=2)/\rest.length<=3)(ax:∀d,(R.Fq log d []).length<=3):
  Calls Tryz.prog 294 #[ptr b,.int .i64 en.proc,X] w fun e w'=>∃O,e=.returned O/\Did w F log en b K 2 W O (R.Cu 2 log en.proc en.arg) w':=by
 obtain⟨d,k,rest,hx,hd,hr⟩:=ha;have hn:en.arg.length=rest.length+2:=by rw[hx];rfl
 obtain⟨a,cap,rfl,ae,hc⟩:=hX;rcases hc with h0|⟨bb,off,rfl,aj,hc⟩
 ·rw[hx]at h0;cases h0
 obtain⟨c0,_⟩:=hc 0 d (by rw[hx];rfl);simp only[Nat.zero_mul,Nat.add_zero]at c0;obtain⟨dn,aq⟩:∃dn:Nat,d.1=(dn:Int):=⟨d.1.toNat,by omega⟩;rw[aq]at c0;have aa:R.IY en.arg 0=(dn:Int):=by rw[hx,<-aq];rfl
 generalize hk0:(2:Int)=kd at h;cases h with
 |counter=>cases hk0
 |FJ=>cases hk0
 |Jo d0 d1 d2 hF hb hK g0 g1 g2=>
  have aC:=lt_of_block hb;obtain⟨D,l,hD,ao,hl⟩:∃D l,w.cell? ⟨b,dn,none⟩=some D/\IW w F D l/\l=R.Fq log (dn:Int) []:=by
   have aw:dn=0\/dn=1\/dn=2:=by omega
   rcases aw with rfl|rfl|rfl
   ·exact⟨d0,_,cell_of hb 0 _ rfl,g0,rfl⟩
   ·exact⟨d1,_,cell_of hb 1 _ rfl,g1,rfl⟩
   ·exact⟨d2,_,cell_of hb 2 _ rfl,g2,rfl⟩
  have am:=ax (dn:Int);rw[<-hl]at am;have ag:en.arg.drop 2=rest:=by rw[hx];rfl
  have an:Hid (∀wa,Below w.heap.size w wa->Calls Tryz.prog 39 #[.slice (some ⟨bb,if cap=2 then off else off+4,none⟩) (en.arg.length-2) (cap-2)] wa fun e w'=>(∃ra rn rc,e=.returned (.slice ra rn rc)/\((en.arg.drop 2=[]/\∃a,Value.slice ra rn rc=.slice a 0 0)\/BF w' (fun k=>w.heap.size<=k/\k<w'.heap.size) (.slice ra rn rc) (en.arg.drop 2)))/\Below wa.heap.size wa w'):=fun wa ac=>by
   rw[ag];have e0:en.arg.length-2=rest.length:=by omega
   rw[e0];cases hre:rest with
   |nil=>
    refine(SG wa bb _ (cap-2)).mono ?_;rintro e w' ⟨⟨a,rfl⟩,ai⟩;exact⟨⟨a,0,0,rfl,Or.inl ⟨rfl,a,rfl⟩⟩,ai⟩
   |cons r0 rs=>
    rw[<-hre];have av:¬cap=2:=by
     have:1<=rest.length:=by rw[hre];simp
     omega
    rw[if_neg av];refine(MA wa bb (off+4) (cap-2) rest (by omega) (fun j x aA=>?_) (Nat.lt_of_lt_of_le aj ac.size)).mono ?_
    ·obtain⟨p1,p2⟩:=hc (j+2) x (by rw[hx];exact aA);have e1:off+(j+2)*2=off+4+j*2:=by omega
     rw[e1]at p1 p2;exact⟨(ac.cell (p:=⟨bb,_,none⟩) aj).trans p1,(ac.cell (p:=⟨bb,_,none⟩) aj).trans p2⟩
    ·rintro e w' ⟨⟨O,rfl,ab,_⟩,ai⟩;obtain⟨ra,rn,rc,hO⟩:=Ar ab;subst hO;obtain⟨q1,q2⟩:=Nn ab (by rw[hre];simp);refine⟨⟨ra,rn,rc,rfl,Or.inr (q1.keep (Af.refl (fun _=>False) w') (fun _ _ _ _ q=>q) (fun k hk=>?_))⟩,ai⟩;have:=q2 k hk;have:=ac.size;omega
  have af:R.Cu 2 log en.proc en.arg=if l.length=0 then [R.num 0,R.num 0] else R.num 1 :: R.num l.length :: l:=by
   unfold R.Cu;rw[if_neg (by decide),if_neg (by decide),aa,<-hl]
  rw[af];by_cases ah:l=[]
  ·subst ah;have az:∃da dc,D=.slice da 0 dc:=by
    rcases ao with ⟨_,a,rfl⟩|al
    ·exact⟨_,_,rfl⟩
    ·rcases al with ⟨_,rfl⟩|⟨_,_,_,_,q,_⟩
     ·exact⟨_,_,rfl⟩
     ·exact absurd rfl q
   obtain⟨da,dc,rfl⟩:=az;simp only[List.length_nil,if_true];refine Td w b dn bb off en.arg.length cap dc da en.proc (by omega) (by omega) ae c0 hD (open_list hb) (fun O _ w'=>(en.arg.drop 2=[]/\∃a,O=.slice a 0 0)\/BF w' (fun k=>w.heap.size<=k/\k<w'.heap.size) O (en.arg.drop 2)) _ an ?_;rintro O wa w1 ac ad hC;have e2:(w1.setCell ⟨b,dn,none⟩ O).heap.size=w1.heap.size:=by simp
   refine Qy hF hb hK g0 g1 g2 (by omega) aa ad hC ((Below.refl _ _).alloc (by rw[e2];exact Nat.le_refl _) _) ?_;have:=abp w (w1.setCell ⟨b,dn,none⟩ O) (by rw[e2];exact ad.size) 0 0 ⟨#[]⟩ ⟨#[]⟩;rw[e2]at this;exact this
  ·rcases ao with ⟨q,_⟩|al
   ·exact absurd q ah
   ·rcases al with ⟨q,_⟩|⟨lb,lo,dc,aB,_,rfl,_,ar,ak,ap⟩
    ·exact absurd q ah
    ·rw[if_neg (fun q=>ah (List.length_eq_zero_iff.1 q))];refine VJ w b dn bb off en.arg.length cap lb lo dc l en.proc (by omega) (by omega) ae ah (by omega) c0 hD (open_list hb) (ay lb ar) (AZ ak hb (by decide)) (fun j x hx=>⟨by simp[World.cell?,ak,(ap j x hx).1],by simp[World.cell?,ak,(ap j x hx).2]⟩) (fun O _ w'=>(en.arg.drop 2=[]/\∃a,O=.slice a 0 0)\/BF w' (fun k=>w.heap.size<=k/\k<w'.heap.size) O (en.arg.drop 2)) _ an ?_;rintro O wa w1 R w2 ac ad hC ab au;exact Qy hF hb hK g0 g1 g2 (by omega) aa ad hC au (V.EU ab ad.size)
theorem RQ{α:Type}{f:α->List Value}(hf:∀x,(f x).length=n):∀(xs:List α) (k:Nat),(tab f xs).take (k*n)=tab f (xs.take k)
 |[],k=>by simp[tab]
 |x :: xs,0=>by simp[tab]
 |x :: xs,k+1=>by
  have ih:=RQ hf xs k;simp only[tab,List.flatMap_cons,List.take_succ_cons]at ih ⊢;rw[Nat.succ_mul,Nat.add_comm,<-hf x,List.take_length_add_append,hf x,ih]
theorem RO{α:Type}{f:α->List Value}(hf:∀x,(f x).length=n):∀(xs:List α) (k:Nat),(tab f xs).drop (k*n)=tab f (xs.drop k)
 |[],k=>by simp[tab]
 |x :: xs,0=>by simp[tab]
 |x :: xs,k+1=>by
  have ih:=RO hf xs k;simp only[tab,List.flatMap_cons,List.drop_succ_cons]at ih ⊢;rw[Nat.succ_mul,Nat.add_comm,<-hf x,List.drop_length_add_append,hf x,ih]
theorem Um{α:Type}(f:α->List Value)(xs ys:List α):tab f (xs++ys)=tab f xs++tab f ys:=by simp[tab]
theorem IR{cs:Array Value}(h:w.heap[g]?=some (.cells cur e (0,0))):(w.setRow g cs).heap[g]?=some (.cells cs e (0,0)):=by
 simp[World.setRow,Array.getElem?_modify,h]
theorem E6(w:World)(g:Nat)(cs:Array Value):Af (fun k=>k=g) w (w.setRow g cs):=by
 refine⟨rfl,rfl,rfl,by simp[World.setRow],fun k _ hn=>?_⟩;simp only[World.setRow,Array.getElem?_modify];rw[if_neg (fun e=>hn e.symm)]
theorem Xc{α:Type}{f:α->List Value}(hf:∀x,(f x).length=n)(xs:List α)(i:Nat):tab f (xs.eraseIdx i)=(tab f xs).take (i*n)++(tab f xs).drop ((i+1)*n):=by
 rw[List.eraseIdx_eq_take_drop_succ,Um,RQ hf,RO hf]
theorem XY{L T Z:List Value}{k i:Nat}(hk:0<k)(hL:L.length=cap*k)(hn:n<=cap)(hT:L.take (n*k)=T)(hi:i<n)(hZ:Z.length=k):
  let C1:=L.take (i*k)++T.drop ((i+1)*k)++L.drop (i*k+(T.drop ((i+1)*k)).length)
  let C2:=C1.take ((n-1)*k)++Z++C1.drop ((n-1)*k+k)
  C1.length=cap*k/\C2.length=cap*k/\C2.take ((n-1)*k)=T.take (i*k)++T.drop ((i+1)*k)/\T.length=n*k/\(T.drop ((i+1)*k)).length=(n-(i+1))*k:=by
 have ai:n*k<=cap*k:=Nat.mul_le_mul_right _ hn;have ac:T.length=n*k:=by rw[<-hT,List.length_take];omega
 have ah:(i+1)*k<=n*k:=Nat.mul_le_mul_right _ hi;have ad:(i+1)*k=i*k+k:=Nat.succ_mul i k;have ae:(n-1)*k+k=n*k:=by rw[<-Nat.succ_mul];congr 1;omega
 have hd:(T.drop ((i+1)*k)).length=(n-(i+1))*k:=by rw[List.length_drop,ac,Nat.sub_mul]
 have ag:(n-(i+1))*k=n*k-(i+1)*k:=Nat.sub_mul _ _ _;have af:T.take (i*k)=L.take (i*k):=by rw[<-hT,List.take_take,Nat.min_eq_left (by omega)]
 intro C1 C2;have ab:C1.length=cap*k:=by
  simp only[C1,List.length_append,List.length_take,List.length_drop,hL,hd]at *;omega
 have aa:C1.take ((n-1)*k)=L.take (i*k)++T.drop ((i+1)*k):=by
  simp only[C1];rw[List.take_append_of_le_length (by rw[List.length_append,List.length_take,hd,hL];omega)];apply List.take_of_length_le;rw[List.length_append,List.length_take,hd,hL];omega
 refine⟨ab,?_,?_,ac,hd⟩
 ·simp only[C2,List.length_append,List.length_take,List.length_drop,ab,hZ];omega
 ·simp only[C2];rw[List.append_assoc,List.take_append_of_le_length (by rw[List.length_take,ab];omega),List.take_take,Nat.min_self,aa,af]
theorem EY{P:Program}{aa:Array Oper}{o:Oper}{a:Act}{K:Act->World->Prop}{Q:Exit->Act->World->Prop}{E:Prop}(ab:o.guard=none)(s x:Operand)(t:TypeId)
  (ho:o.op=.call {callee:=.builtin .append,args:=#[s,x],argTypes:=#[t,t]}) (v xv v':Value) (w':World) (hs:a.eval s=v) (hx:a.eval x=xv)
  (hr:(Builtin.append_ #[t,t] o.type #[v,xv]).run P w=.ok v' w') (h:K (a.put o.dst v') w'):if Region.wanted o (yielded aa a.tmps)=true then Oper.wp P o a w K Q else E:=by
 have hw:Region.wanted o (yielded aa a.tmps)=true:=by simp[Region.wanted,ab]
 rw[if_pos hw];unfold Oper.wp;simp[execOp,ho,resolve,invoke,builtin,hs,hx,hr,Result.andThen];exact h
theorem Jd{off:Nat}{t ty:TypeId}{z:Value}(ht:Tryz.prog.underlying t=some (.slice e))(hv:∀w,(zeroValue e).run Tryz.prog w=.ok z w)(h1:∀u∈z.cells.toList,u.oneCell'=true)(hg:w.heap[g]?=some (.cells cur e (0,0)))(aa:off+z.cells.size<=cur.size)(c:Nat):
  (Builtin.clear_ #[t] ty #[.slice (some ⟨g,off,none⟩) 1 c]).run Tryz.prog w=.ok (.tuple #[]) (w.setRow g (cur.toList.take off++z.cells.toList++cur.toList.drop (off+z.cells.size)).toArray):=by
 have ac:(Builtin.zeroCells z.cells 1).toList=z.cells.toList:=by
  apply List.ext_getElem
  ·simp[Builtin.zeroCells]
  ·intro i h1 h2;have:i<z.cells.size:=by simpa using h2
   simp[Builtin.zeroCells,Nat.mod_eq_of_lt this,getElem!_pos,this]
 have ab:=run_storeCells_at Tryz.prog g off e z.cells.toList 0 cur w hg (by simpa using aa) h1;simp only[Nat.add_zero]at ab;simp[Builtin.clear_,run_underlying ht,hv,ac,ab]
theorem abF(w:World):(zeroValue 166).run Tryz.prog w=.ok (.agg #[.int .i64 0,.string ⟨#[]⟩,.bool false]) w:=by kernel_rfl
theorem aaQ{fl:List R.Fl}:∀u∈tab BB fl,u.oneCell'=true:=by
 intro u hu;obtain⟨f,_,hf⟩:=List.mem_flatMap.1 hu;simp[BB]at hf;rcases hf with rfl|rfl|rfl<;>rfl
abbrev zfl:List Value:=[.int .i64 0,.string ⟨#[]⟩,.bool false]
theorem aav(w:World)(g n cap i:Nat)(ad:Array Value)(fl:List R.Fl)(hg:w.heap[g]?=some (.cells ad 166 (0,0)))(hn:n=fl.length)(ao:n<=cap)(hm:cap<=maxLen)(an:ad.size=cap*3)(ap:ad.toList.take (n*3)=tab BB fl)(hi:i<n):
  Calls Tryz.prog 90 #[.slice (some ⟨g,0,none⟩) n cap,.int .i64 (i:Int),.int .i64 ((i:Int)+1)] w fun e w'=>e=.returned (.slice (some ⟨g,0,none⟩) (n-1) cap)/\(∃aa:Array Value,w'.heap[g]?=some (.cells aa 166 (0,0))/\aa.size=cap*3/\aa.toList.take ((n-1)*3)=tab BB (fl.eraseIdx i))/\Af (fun k=>k=g) w w':=by
 obtain⟨i0,ar,az,aj,aA⟩:=info_parts Tx;have ah:=XY (Z:=zfl) (k:=3) (by decide) (by rw[Array.length_toList];exact an) ao ap hi rfl;obtain⟨r1,r2,r3,r4,r5⟩:=ah;rw[<-Xc DK]at r3;obtain⟨NW,al⟩:∃NW,NW=(tab BB fl).drop ((i+1)*3):=⟨_,rfl⟩;rw[<-al]at r1 r2 r3 r5;obtain⟨C1,ak⟩:∃C1,C1=ad.toList.take (i*3)++NW++ad.toList.drop (i*3+NW.length):=⟨_,rfl⟩;rw[<-ak]at r1 r2 r3;obtain⟨W1,ag⟩:∃W1,W1=w.drew.setRow g C1.toArray:=⟨_,rfl⟩;have g1:W1.heap[g]?=some (.cells C1.toArray 166 (0,0)):=by rw[ag];exact IR (w:=w.drew) hg
 obtain⟨W2,am⟩:∃W2,W2=W1.setRow g (C1.take ((n-1)*3)++zfl++C1.drop ((n-1)*3+3)).toArray:=⟨_,rfl⟩;have g2:W2.heap[g]?=some (.cells (C1.take ((n-1)*3)++zfl++C1.drop ((n-1)*3+3)).toArray 166 (0,0)):=by rw[am];exact IR g1
 have HK:Hid (Af (fun k=>k=g) w W2):=by
  rw[am,ag];have k0:Af (fun k=>k=g) w w.drew:=(Af.refl _ w).drew;exact(k0.trans (E6 _ _ _)).trans (E6 _ _ _)
 have ae:Hid (∃aa:Array Value,W2.heap[g]?=some (.cells aa 166 (0,0))/\aa.size=cap*3/\aa.toList.take ((n-1)*3)=tab BB (fl.eraseIdx i)):=⟨_,g2,by simpa using r2,by simpa using r3⟩;have ai:∀j u,NW[j]?=some u->w.drew.cell? ((⟨g,(i+1)*3,none⟩:Addr).add j)=some u:=fun j u hj=>by
  rw[al,List.getElem?_drop,<-ap,List.getElem?_take]at hj;split at hj
  ·rw[Addr.add_lit];have:w.drew.heap[g]?=some (.cells ad 166 (0,0)):=hg;simp[World.cell?,this];simpa using hj
  ·cases hj
 have af:∀c,(Builtin.append_ #[108,108] 108 #[.slice (some ⟨g,0,none⟩) i cap,.slice (some ⟨g,(i+1)*3,none⟩) (n-(i+1)) c]).run Tryz.prog w.drew=.ok (.slice (some ⟨g,0,none⟩) (n-1) cap) W1:=fun c=>by
  have h:=run_append_room (P:=Tryz.prog) w.drew 108 108 166 i0 Tryz.underlying108 ar g i cap ad hg ⟨g,(i+1)*3,none⟩ (n-(i+1)) c NW (by rw[r5,aj]) ai (fun u hu=>aaQ u (List.mem_of_mem_drop (al ▸ hu))) (by omega) (by rw[aj,r5,an];omega);rw[aj]at h;rw[h,ag,ak,show i+(n-(i+1))=n-1 by omega]
 have ab:i+1=n->∀a c,(Builtin.append_ #[108,108] 108 #[.slice (some ⟨g,0,none⟩) i cap,.slice (some a) 0 c]).run Tryz.prog w.drew=.ok (.slice (some ⟨g,0,none⟩) (n-1) cap) W1:=fun he a c=>by
  have av:NW=[]:=List.length_eq_zero_iff.1 (by rw[r5,show n-(i+1)=0 by omega]);have h:=run_append_room (P:=Tryz.prog) w.drew 108 108 166 i0 Tryz.underlying108 ar g i cap ad hg a 0 c [] (by simp) (by simp) (by simp) (by omega) (by rw[aj,an];simp;omega);rw[aj]at h;rw[h,ag,ak,av,show i+0=n-1 by omega]
 have ac:∀ty c,(Builtin.clear_ #[108] ty #[.slice (some ⟨g,(n-1)*3,none⟩) 1 c]).run Tryz.prog W1=.ok (.tuple #[]) W2:=fun ty c=>by
  have h:=Jd (ty:=ty) (off:=(n-1)*3) Tryz.underlying108 abF (by simp[Value.cells,Value.oneCell']) g1 (by simp[Value.cells,r1];omega) c;rw[h,am];simp[Value.cells]
 unfold maxLen at hm;clear al ak ag am g1 g2 r1 r2 r3 r4 r5 ai hg ap an hn;have q1:((i:Int)==(i:Int)+1)=false:=by simp;omega
 obtain⟨m,rfl⟩:∃m,n=m+1:=⟨n-1,by omega⟩;simp only[Nat.add_sub_cancel,Nat.add_sub_add_right]at af ab ac ae ⊢;have ay:m+1-m=1:=by omega
 have HA:=Ac af;have aq:=Ac ab;have HC:=Ac ac;clear af ab ac;have HE:Hid (∃aa:Array Value,W2.heap[g]?=some (.cells aa 166 (0,0))/\aa.size=cap*3/\aa.toList.take (m*3)=tab BB (fl.eraseIdx i)):=ae;clear ae;have b1:(i:Int)+1<=((m+1:Nat):Int):=by omega
 have b2:((m+1:Nat):Int)<=(cap:Int):=by omega
 have b3:(i:Int)<=(cap:Int):=by omega
 have b4:(0:Int)<=(i:Int)+1:=by omega
 by_cases aw:i+1=cap
 ·have ax:i=m:=by omega
  subst ax;subst aw;have b7:(i:Int)<=(i:Int)+1:=by omega
  have b8:i<=i+1:=by omega
  have au:=Ac ((Aa aq) rfl ⟨g,0,none⟩ 0);clear aq HA;go_enter Tryz.func90,Tryz.ntmps90;go_wp2;go_region_law (refine EY rfl (.tmp 22) (.tmp 25) 108 rfl (.slice (some ⟨g,0,none⟩) i (i+1)) (.slice (some ⟨g,0,none⟩) 0 0) (.slice (some ⟨g,0,none⟩) i (i+1)) W1 rfl rfl (Aa au) ?_)
  all_goals
   have ac:=(Aa HC);go_wp2
   go_ret
   exact⟨rfl,Aa HE,Aa HK⟩
 ·have b5:i<=m:=by omega
  have b6:¬cap=i+1:=by omega
  go_enter Tryz.func90,Tryz.ntmps90;go_wp2;go_region_law (refine EY rfl (.tmp 22) (.tmp 25) 108 rfl (.slice (some ⟨g,0,none⟩) i cap) (.slice (some ⟨g,(i+1)*3,none⟩) (m-i) (cap-(i+1))) (.slice (some ⟨g,0,none⟩) m cap) W1 rfl rfl ((Aa HA) _) ?_)
  all_goals
   have ac:=(Aa HC);go_wp2
   go_ret
   exact⟨rfl,Aa HE,Aa HK⟩
theorem Ym:(Tryz.prog.info? 9).map (fun i=>(i.zero,i.size,i.bytes))=some (some (.string ⟨#[]⟩),1,16):=by kernel_rfl
theorem ael(w:World):(zeroValue 9).run Tryz.prog w=.ok (.string ⟨#[]⟩) w:=by kernel_rfl
theorem ZW(l:List ByteArray):∀u∈strs l,u.oneCell'=true:=by
 intro u hu;obtain⟨x,_,rfl⟩:=List.mem_map.1 hu;rfl
theorem XI(w:World)(g cap:Nat)(ab:Array Value)(ps:List ByteArray)(hg:w.heap[g]?=some (.cells ab 9 (0,0)))(hn:ps.length=5)(ap:5<=cap)(hm:cap<=maxLen)(al:ab.size=cap)(ao:ab.toList.take 5=strs ps):
  Calls Tryz.prog 293 #[.slice (some ⟨g,0,none⟩) 5 cap,.int .i64 0,.int .i64 1] w fun e w'=>e=.returned (.slice (some ⟨g,0,none⟩) 4 cap)/\(∃aa:Array Value,w'.heap[g]?=some (.cells aa 9 (0,0))/\aa.size=cap/\aa.toList.take 4=strs (ps.drop 1))/\Af (fun k=>k=g) w w':=by
 obtain⟨i0,ar,au,an,av⟩:=info_parts Ym;have am:ab.toList.length=cap:=by rw[Array.length_toList];exact al
 obtain⟨NW,ae⟩:∃NW,NW=strs (ps.drop 1):=⟨_,rfl⟩;have ah:NW.length=4:=by rw[ae];simp[strs,hn]
 obtain⟨C1,ag⟩:∃C1,C1=ab.toList.take 0++NW++ab.toList.drop (0+NW.length):=⟨_,rfl⟩;have ac:C1.length=cap:=by rw[ag];simp[ah,al];omega
 obtain⟨W1,ai⟩:∃W1,W1=w.drew.setRow g C1.toArray:=⟨_,rfl⟩;have g1:W1.heap[g]?=some (.cells C1.toArray 9 (0,0)):=by rw[ai];exact IR (w:=w.drew) hg
 obtain⟨W2,aj⟩:∃W2,W2=W1.setRow g (C1.take 4++[Value.string ⟨#[]⟩]++C1.drop (4+1)).toArray:=⟨_,rfl⟩;have g2:W2.heap[g]?=some (.cells (C1.take 4++[Value.string ⟨#[]⟩]++C1.drop (4+1)).toArray 9 (0,0)):=by rw[aj];exact IR g1
 have HK:Hid (Af (fun k=>k=g) w W2):=by
  rw[aj,ai];have k0:Af (fun k=>k=g) w w.drew:=(Af.refl _ w).drew;exact(k0.trans (E6 _ _ _)).trans (E6 _ _ _)
 have ad:C1.take 4=NW:=by
  rw[ag,List.take_zero,List.nil_append,List.take_append_of_le_length (by omega),List.take_of_length_le (by omega)]
 have HE:Hid (∃aa:Array Value,W2.heap[g]?=some (.cells aa 9 (0,0))/\aa.size=cap/\aa.toList.take 4=strs (ps.drop 1)):=by
  refine⟨_,g2,by simp[ac];omega,?_⟩;simp only[ad,List.append_assoc];rw[List.take_append_of_le_length (by omega),List.take_of_length_le (by omega),ae]
 have af:∀j u,NW[j]?=some u->w.drew.cell? ((⟨g,1,none⟩:Addr).add j)=some u:=fun j u hj=>by
  have ak:(strs ps)[1+j]?=some u:=by
   rw[ae]at hj;unfold strs at hj ⊢;rw[List.getElem?_map,List.getElem?_drop]at hj;rw[List.getElem?_map];exact hj
  rw[<-ao,List.getElem?_take]at ak;split at ak
  ·rw[Addr.add_lit];have:w.drew.heap[g]?=some (.cells ab 9 (0,0)):=hg;simp[World.cell?,this];simpa using ak
  ·cases ak
 have HA:Hid (∀c,(Builtin.append_ #[36,36] 36 #[.slice (some ⟨g,0,none⟩) 0 cap,.slice (some ⟨g,1,none⟩) 4 c]).run Tryz.prog w.drew=.ok (.slice (some ⟨g,0,none⟩) 4 cap) W1):=fun c=>by
  have h:=run_append_room (P:=Tryz.prog) w.drew 36 36 9 i0 Tryz.underlying36 ar g 0 cap ab hg ⟨g,1,none⟩ 4 c NW (by rw[ah,an]) af (fun u hu=>ZW _ u (ae ▸ hu)) (by omega) (by rw[an,ah,al];omega);rw[an]at h;rw[h,ai,ag]
 have HC:Hid (∀ty c,(Builtin.clear_ #[36] ty #[.slice (some ⟨g,4,none⟩) 1 c]).run Tryz.prog W1=.ok (.tuple #[]) W2):=fun ty c=>by
  have h:=Jd (ty:=ty) (off:=4) Tryz.underlying36 ael (by simp[Value.cells,Value.oneCell']) g1 (by simp[Value.cells,ac];omega) c;rw[h,aj];simp[Value.cells]
 unfold maxLen at hm;clear ae ag ai aj g1 g2 af hg ao al hn ad ac ah am;have b1:(5:Int)<=(cap:Int):=by omega
 have b2:¬cap=1:=by omega
 have b3:(1:Int)<=(cap:Int):=by omega
 have b4:(0:Int)<=(cap:Int):=by omega
 go_enter Tryz.func293,Tryz.ntmps293;go_wp2;go_region_law (refine EY rfl (.tmp 22) (.tmp 25) 36 rfl (.slice (some ⟨g,0,none⟩) 0 cap) (.slice (some ⟨g,1,none⟩) 4 (cap-1)) (.slice (some ⟨g,0,none⟩) 4 cap) W1 rfl rfl ((Aa HA) _) ?_)
 all_goals
  have aq:=(Aa HC);go_wp2
  go_ret
  exact⟨rfl,Aa HE,Aa HK⟩
theorem Rn(l:List R.En)(e:R.En):R.BG (l++[e])=if e.proc=0 then (if (R.BG l).length<4 then R.BG l++[R.Vp e.arg 0] else (R.BG l++[R.Vp e.arg 0]).drop 1) else R.BG l:=by
 unfold R.BG;simp only[List.filter_append,List.map_append];by_cases h:e.proc=0
 ·rw[if_pos h];have e1:List.filter (fun e=>decide (e.proc=0)) [e]=[e]:=by simp[h]
  rw[e1,List.map_cons,List.map_nil];generalize (l.filter fun e=>decide (e.proc=0)).map (fun e=>R.Vp e.arg 0)=out;rw[List.length_append,List.length_drop,List.length_singleton];by_cases h4:out.length<4
  ·rw[if_pos (by omega),show out.length+1-4=0 by omega,show out.length-4=0 by omega,List.drop_zero,List.drop_zero]
  ·rw[if_neg (by omega),List.drop_append_of_le_length (by omega),List.drop_append_of_le_length (by rw[List.length_drop];omega),List.drop_drop];congr 2;omega
 ·rw[if_neg h];have e1:List.filter (fun e=>decide (e.proc=0)) [e]=[]:=by simp[h]
  rw[e1,List.map_nil,List.append_nil]
structure Ko(w:World)(b:Nat)(K:Value)(ps:List ByteArray)(O:Value)(w':World):Prop where
 row:V.Row w' w.heap.size O [((ps.length:Int),⟨#[]⟩)]
 cell:∃K',w'.heap[b]?=some (.cells #[K'] 326 (0,0))/\w'.ownsRow 0 9 1 K' ps.length (strs ps)/\(K'.ownBlock=K.ownBlock\/∃j,K'.ownBlock=some j/\w.heap.size<=j/\j<w'.heap.size)
 keep:Af (fun k=>k=b\/K.ownBlock=some k) w w'
theorem Rm{m va0:Nat}{K':Value}{ps:List ByteArray}(h:w.heap[b]?=some (.cells #[K] 326 (0,0)))(ac:w.ownsRow 0 9 1 K m (strs ps))(hg:(w.alloc (.cells #[.string T] 9)).grownBy wz K.ownBlock)(ab:wz.ownsRow 0 9 1 K' (m+1) (strs ps++[.string T]))(af:K'.ownBlock=K.ownBlock\/K'.ownBlock=some va0)(ai:w.heap.size<=va0):
  wz.heap[b]?=some (.cells #[K] 326 (0,0))/\(wz.setCell ⟨b,0,none⟩ K').heap[b]?=some (.cells #[K'] 326 (0,0))/\(wz.setCell ⟨b,0,none⟩ K').ownsRow 0 9 1 K' (m+1) (strs (ps++[T]))/\Af (fun k=>k=b\/K.ownBlock=some k) w (wz.setCell ⟨b,0,none⟩ K')/\K'.ownBlock≠some b:=by
 have hl:=lt_of_block h;have ad:K.ownBlock≠some b:=AV ac h (by decide);have aa:K'.ownBlock≠some b:=by
  rcases af with e|e
  ·rw[e];exact ad
  ·rw[e];intro q;cases q;omega
 have ae:wz.heap[b]?=some (.cells #[K] 326 (0,0)):=by
  rw[hg.block b (by simp;omega) (fun e=>ad e.symm)];exact(Below.heap_alloc _ _ _ hl).trans h
 have hs:strs (ps++[T])=strs ps++[.string T]:=by simp[strs]
 refine⟨ae,Ai (cs:=[K]) (off:=0) ae K',?_,?_,aa⟩
 ·rw[hs];exact Fy ab (fun g ag=>Below.heap_setCell _ _ _ _ (fun e=>aa (by rw[ag];exact congrArg some e)))
 ·have ah:Af (fun k=>k=b\/K.ownBlock=some k) w (w.alloc (.cells #[.string T] 9)):=(Af.refl _ w).alloc _;exact(ah.grown hg (fun k hk=>Or.inl (Or.inr hk))).setCell (p:=⟨b,0,none⟩) (Or.inl (Or.inl rfl)) _
theorem Rf(w:World)(T:ByteArray)(j:Nat)(u:Value)(h:([.string T]:List Value)[j]?=some u):(w.alloc (.cells #[.string T] 9)).cell? ((⟨w.heap.size,0,none⟩:Addr).add j)=some u:=by
 rw[Addr.add_lit,Nat.zero_add,World.cell?_alloc_new w _ _ j,<-List.getElem?_toArray]at *;exact h
theorem row_in(w U:World)(hU:w.heap.size<=U.heap.size)(n:Int)(s:ByteArray):V.Row (U.alloc (.cells #[.int .i64 n,.string s] 73)) w.heap.size (.slice (some ⟨U.heap.size,0,none⟩) 1 1) [(n,s)]:=
 ⟨rfl,Or.inr ⟨U.heap.size,1,#[.int .i64 n,.string s],rfl,hU,heap_alloc_new U _,Nat.le_refl _,by decide,rfl,rfl⟩⟩
theorem Zj(w:World)(b c:Nat)(a:Option Addr)(ps:List ByteArray)(T:ByteArray)(h4:ps.length<4)(h:w.heap[b]?=some (.cells #[.slice a ps.length c] 326 (0,0)))(ac:w.ownsRow 0 9 1 (.slice a ps.length c) ps.length (strs ps)):
  Calls Tryz.prog 291 #[ptr b,.string T] w fun e w'=>∃O,e=.returned O/\Ko w b (.slice a ps.length c) (ps++[T]) O w':=by
 obtain⟨i0,hi,ai,aj,ak⟩:=info_parts Ym;have c0:w.cell? ⟨b,0,none⟩=some (.slice a ps.length c):=cell_of h 0 _ rfl;have z0:w.frozen? ⟨b,0,none⟩=false:=open_list h;have hl:=lt_of_block h;have HP:Hid (∀{wz:World} {K':Value} {va0:Nat},(w.alloc (.cells #[.string T] 9)).grownBy wz (Value.slice a ps.length c).ownBlock->wz.ownsRow 0 9 1 K' (ps.length+1) (strs ps++[.string T])->(K'.ownBlock=(Value.slice a ps.length c).ownBlock\/K'.ownBlock=some va0)->w.heap.size<=va0->wz.cell? ⟨b,0,none⟩=some (.slice a ps.length c)/\wz.frozen? ⟨b,0,none⟩=false/\b<wz.heap.size/\Ko w b (.slice a ps.length c) (ps++[T]) (.slice (some ⟨wz.heap.size,0,none⟩) 1 1) ((wz.setCell ⟨b,0,none⟩ K').alloc (.cells #[.int .i64 ((ps.length:Int)+1),.string ⟨#[]⟩] 73))):=fun {wz K' va0} hg aa ad hva=>by
  obtain⟨r1,r2,r3,r4,r5⟩:=Rm h ac hg aa ad hva;have ag:(wz.setCell ⟨b,0,none⟩ K').heap.size=wz.heap.size:=by simp
  have al:=hg.size;simp only[World.size_alloc]at al;have ae:(ps++[T]).length=ps.length+1:=by simp
  refine⟨cell_of r1 0 _ rfl,open_list r1,lt_of_block r1,?_,⟨K',(Below.heap_alloc _ _ _ (by rw[ag];exact lt_of_block r1)).trans r2,by rw[ae];exact r3.alloc _,?_⟩,r4.alloc _⟩
  ·have:=row_in w (wz.setCell ⟨b,0,none⟩ K') (by rw[ag];omega) ((ps.length:Int)+1) ⟨#[]⟩;rw[ag]at this;rw[ae];exact this
  ·rcases ad with e|e
   ·exact Or.inl e
   ·refine Or.inr ⟨va0,e,hva,?_⟩;have:=(World.ownsRow.lt aa va0 e).2;simp;omega
 have an:¬(4:Int)<((ps.length+1:Nat):Int):=by omega
 have e4:decide (((ps.length+1:Nat):Int) > 4)=false:=by simp;omega
 have ah:=Ac ac;clear h ac;go_enter Tryz.func291,Tryz.ntmps291;go_wp2_with (at_builtin;go_must (refine wpList_append_own_at _ rfl (.tmp 9) (.tmp 11) 36 rfl 0 9 i0 (.string ⟨#[]⟩) 1 16 Tryz.underlying36 hi ai aj ak rfl (by decide) (.slice a ps.length c) ps.length (strs ps) rfl ((Aa ah).alloc _) ⟨w.heap.size,0,none⟩ 1 1 [.string T] rfl rfl (Rf w T) (by simp[Value.oneCell']) (by unfold maxLen;omega) (by omega) (by omega) ?_))
 intro v' wz aa ab af ad;obtain⟨p1,p2,p3,p4⟩:=(Aa HP) ab aa ad (by omega);rcases aa.2 with ⟨q,_⟩|⟨g,cap,am,hv,_⟩
 ·exact absurd q af
 subst hv;have HQ:=Ac p4;clear p4 aa ab ad HP ah c0 z0 hl af hi ai aj ak;go_wp2;go_returns;exact⟨_,rfl,Aa HQ⟩
theorem Zi{ps:List ByteArray}(h4:ps.length=4)(h:w.heap[b]?=some (.cells #[K] 326 (0,0)))(ah:w.ownsRow 0 9 1 K 4 (strs ps))(hg:(w.alloc (.cells #[.string T] 9)).grownBy wz K.ownBlock)(ag:wz.ownsRow 0 9 1 (.slice (some ⟨g,0,none⟩) 5 cap) 5 (strs ps++[.string T]))(ae:some g=K.ownBlock\/some g=some (w.heap.size+1)):
  wz.cell? ⟨b,0,none⟩=some K/\wz.frozen? ⟨b,0,none⟩=false/\b<wz.heap.size/\Calls Tryz.prog 293 #[.slice (some ⟨g,0,none⟩) 5 cap,.int .i64 0,.int .i64 1] (wz.setCell ⟨b,0,none⟩ (.slice (some ⟨g,0,none⟩) 5 cap)) fun e w'=>e=.returned (.slice (some ⟨g,0,none⟩) 4 cap)/\w'.cell? ⟨b,0,none⟩=some (.slice (some ⟨g,0,none⟩) 5 cap)/\w'.frozen? ⟨b,0,none⟩=false/\b<w'.heap.size/\Ko w b K ((ps++[T]).drop 1) (.slice (some ⟨w'.heap.size,0,none⟩) 1 1) ((w'.setCell ⟨b,0,none⟩ (.slice (some ⟨g,0,none⟩) 4 cap)).alloc (.cells #[.int .i64 4,.string ⟨#[]⟩] 73)):=by
 obtain⟨r1,r2,r3,r4,r5⟩:=Rm (m:=4) (va0:=w.heap.size+1) (K':=.slice (some ⟨g,0,none⟩) 5 cap) h ah hg ag ae (by omega);have aj:g≠b:=fun e=>r5 (congrArg some e)
 have aq:=hg.size;simp only[World.size_alloc]at aq;have aw:(wz.setCell ⟨b,0,none⟩ (.slice (some ⟨g,0,none⟩) 5 cap)).heap.size=wz.heap.size:=by simp
 refine⟨cell_of r1 0 _ rfl,open_list r1,lt_of_block r1,?_⟩;rcases r3 with ⟨aA,⟨q,_⟩|⟨g',ao,ap,hv,_,hc,aB,an,az,ay⟩⟩
 ·cases q
 cases hv;have af:(ps++[T]).length=5:=by simp[h4]
 refine(XI _ g cap ap (ps++[T]) hc af (by omega) an (by omega) ay).mono ?_;rintro e w' ⟨rfl,⟨ad,ai,aC,ax⟩,hk⟩;have ac:w'.heap[b]?=some (.cells #[.slice (some ⟨g,0,none⟩) 5 cap] 326 (0,0)):=by
  rw[hk.block b (lt_of_block r2) (fun e=>aj e.symm)];exact r2
 have au:=hk.size;rw[aw]at au;have al:((ps++[T]).drop 1).length=4:=by simp[h4]
 have aa:(w'.setCell ⟨b,0,none⟩ (.slice (some ⟨g,0,none⟩) 4 cap)).heap.size=w'.heap.size:=by simp
 have am:=lt_of_block ac;have av:=lt_of_block ai;refine⟨rfl,cell_of ac 0 _ rfl,open_list ac,am,⟨?_,⟨.slice (some ⟨g,0,none⟩) 4 cap,?_,?_,?_⟩,?_⟩⟩
 ·have:=row_in w (w'.setCell ⟨b,0,none⟩ (.slice (some ⟨g,0,none⟩) 4 cap)) (by rw[aa];omega) 4 ⟨#[]⟩;rw[aa]at this;rw[al];exact this
 ·exact(Below.heap_alloc _ _ _ (by rw[aa];exact am)).trans (Ai (cs:=[.slice (some ⟨g,0,none⟩) 5 cap]) (off:=0) ac _)
 ·rw[al];refine⟨by simp[strs,h4],Or.inr ⟨g,cap,ad,rfl,Nat.zero_le _,?_,by omega,an,by omega,by simpa using ax⟩⟩;exact((Below.heap_alloc _ _ _ (by rw[aa];exact av)).trans (Below.heap_setCell _ _ _ _ aj)).trans ai
 ·rcases ae with e|e
  ·exact Or.inl e
  ·cases e;exact Or.inr ⟨w.heap.size+1,rfl,by omega,by simp;omega⟩
 ·have ab:Af (fun k=>k=b\/K.ownBlock=some k) w w':=⟨hk.os.trans r4.os,hk.tape.trans r4.tape,hk.output.trans r4.output,Nat.le_trans r4.size hk.size,fun k ak ab=>by
   have ar:k≠g:=fun e=>by
    subst e;rcases ae with q|q
    ·exact ab (Or.inr q.symm)
    ·cases q;omega
   rw[hk.block k (Nat.lt_of_lt_of_le ak r4.size) ar];exact r4.block k ak ab⟩
  exact(ab.setCell (p:=⟨b,0,none⟩) (Or.inl (Or.inl rfl)) _).alloc _
end Go.Proofs.YtblomippkddgiabGreatDoor
