import Derived.Test.YtblomippkddgiaaGreatDoorK37
set_option maxRecDepth 100000
set_option maxHeartbeats 2000000
namespace Go.Proofs.YtblomippkddgiaaGreatDoor
open Go.RowKit
theorem OU{w w1 w2:World}{F:Aq}{log:List R.En}{en:R.En}{b dn:Nat}{K O Z:Value}{d0 d1 d2:Value}{out:List R.It}(hF:F b)(hb:w.heap[b]?=some (.cells #[d0,d1,d2] 337 (0,0)))(hK:K=.slice none 0 0)(h0:Ir w F d0 (R.E3 log 0 []))(h1:Ir w F d1 (R.E3 log 1 []))(h2:Ir w F d2 (R.E3 log 2 []))(hdn:dn<3)(harg:R.Iv en.arg 0=(dn:Int))(hb1:Below w.heap.size w w1)
  (hC:(en.arg.drop 2=[]/\∃a,O=.slice a 0 0)\/BD w1 (fun k=>w.heap.size<=k/\k<w1.heap.size) O (en.arg.drop 2)) (hb2:Below w1.heap.size (w1.setCell ⟨b,dn,none⟩ O) w2) (hrow:V.Row w2 w.heap.size Z out):Did w F log en b K 2 (.iface 334 (ptr b)) Z out w2:=by
 have hlb:=lt_of_block hb;have hs1:=hb1.size;have hs2:=hb2.size;simp only[World.size_setCell]at hs2;have hk1:Af (fun k=>k=b) w (w1.setCell ⟨b,dn,none⟩ O):=(Af.Aj hb1 _).trans (Am _);have hkB:Af (fun k=>k=b) (w1.setCell ⟨b,dn,none⟩ O) w2:=⟨hb2.os,hb2.tape,hb2.output,hb2.size,fun k hk _=>hb2.block k (by simpa using hk)⟩;have hk:Af (fun k=>k=b) w w2:=hk1.trans hkB;have hw1b:w1.heap[b]?=some (.cells #[d0,d1,d2] 337 (0,0)):=by rw[hb1.block b hlb];exact hb
 have hcell:w2.heap[b]?=some (.cells ([d0,d1,d2].set dn O).toArray 337 (0,0)):=by
  rw[hb2.block b (by omega)];exact Ak (cs:=[d0,d1,d2]) (off:=dn) hw1b O
 have hdr:∀{Y:Value} {l:List R.It},Ir w F Y l->Ir w2 (fun k=>F k\/(w.heap.size<=k/\k<w2.heap.size)) Y l:=fun h=>h.keep hk (fun k cur hFk hck e=>by
  subst e;rw[hb]at hck;cases hck) (fun _ q=>Or.inl q)
 have hO:Ir w2 (fun k=>F k\/(w.heap.size<=k/\k<w2.heap.size)) O (en.arg.drop 2):=by
  rcases hC with hC|hC
  ·exact Or.inl hC
  ·refine Or.inr (hC.keep (E:=fun k=>k=b) ((Am _).trans hkB) (fun k cur hFk hck e=>?_) (fun k q=>Or.inr ⟨q.1,by omega⟩));subst e;omega
 refine⟨hrow,hk.mono (fun k _ e=>Or.inl e),K,?_,Or.inl rfl⟩;have l0:=JQ log en 0 [];have l1:=JQ log en 1 [];have l2:=JQ log en 2 [];rw[harg]at l0 l1 l2;have hd:dn=0\/dn=1\/dn=2:=by omega
 rcases hd with rfl|rfl|rfl
 ·rw[if_pos (by decide)]at l0;rw[if_neg (by decide)]at l1 l2;exact .IP O d1 d2 (Or.inl hF) hcell hK (by rw[l0];exact hO) (by rw[l1];exact hdr h1) (by rw[l2];exact hdr h2)
 ·rw[if_neg (by decide)]at l0 l2;rw[if_pos (by decide)]at l1;exact .IP d0 O d2 (Or.inl hF) hcell hK (by rw[l0];exact hdr h0) (by rw[l1];exact hO) (by rw[l2];exact hdr h2)
 ·rw[if_neg (by decide)]at l0 l1;rw[if_pos (by decide)]at l2;exact .IP d0 d1 O (Or.inl hF) hcell hK (by rw[l0];exact hdr h0) (by rw[l1];exact hdr h1) (by rw[l2];exact hO)
theorem ZH(w U:World)(hU:w.heap.size<=U.heap.size)(n m:Int)(s t:ByteArray):V.Row (U.alloc (.cells #[.int .i64 n,.string s,.int .i64 m,.string t] 106)) w.heap.size (.slice (some ⟨U.heap.size,0,none⟩) 2 2) [(n,s),(m,t)]:=by
 refine⟨rfl,Or.inr ⟨U.heap.size,2,#[.int .i64 n,.string s,.int .i64 m,.string t],rfl,hU,?_,Nat.le_refl _,by decide,rfl,rfl⟩⟩;exact heap_alloc_new U _
theorem YQ(w:World)(F:Aq)(log:List R.En)(en:R.En)(b:Nat)(K W:Value)(h:Works w F log b K 2 W)(hlt:∀k,F k->k<w.heap.size){X:Value}(hX:V.Items w X en.arg)(ha:∃d k rest,en.arg=d :: k :: rest/\(0<=d.1/\d.1<=2)/\rest.length<=3)(hll:∀d,(R.E3 log d []).length<=3):
  Calls Tryz.prog 294 #[ptr b,.int .i64 en.proc,X] w fun e w'=>∃O,e=.returned O/\Did w F log en b K 2 W O (R.Cs 2 log en.proc en.arg) w':=by
 obtain⟨d,k,rest,hx,hd,hr⟩:=ha;have hn:en.arg.length=rest.length+2:=by rw[hx];rfl
 obtain⟨a,cap,rfl,hcap,hc⟩:=hX;rcases hc with h0|⟨bb,off,rfl,hbb,hc⟩
 ·rw[hx]at h0;cases h0
 obtain⟨c0,_⟩:=hc 0 d (by rw[hx];rfl);simp only[Nat.zero_mul,Nat.add_zero]at c0;obtain⟨dn,hdn⟩:∃dn:Nat,d.1=(dn:Int):=⟨d.1.toNat,by omega⟩;rw[hdn]at c0;have hargN:R.Iv en.arg 0=(dn:Int):=by rw[hx,<-hdn];rfl
 generalize hk0:(2:Int)=kd at h;cases h with
 |counter=>cases hk0
 |Fh=>cases hk0
 |IP d0 d1 d2 hF hb hK g0 g1 g2=>
  have hlb:=lt_of_block hb;obtain⟨D,l,hD,hDr,hl⟩:∃D l,w.cell? ⟨b,dn,none⟩=some D/\Ir w F D l/\l=R.E3 log (dn:Int) []:=by
   have hdd:dn=0\/dn=1\/dn=2:=by omega
   rcases hdd with rfl|rfl|rfl
   ·exact⟨d0,_,cell_of hb 0 _ rfl,g0,rfl⟩
   ·exact⟨d1,_,cell_of hb 1 _ rfl,g1,rfl⟩
   ·exact⟨d2,_,cell_of hb 2 _ rfl,g2,rfl⟩
  have hll':=hll (dn:Int);rw[<-hl]at hll';have hdrop:en.arg.drop 2=rest:=by rw[hx];rfl
  have H74:Hid (∀wa,Below w.heap.size w wa->Calls Tryz.prog 74 #[.slice (some ⟨bb,if cap=2 then off else off+4,none⟩) (en.arg.length-2) (cap-2)] wa fun e w'=>(∃ra rn rc,e=.returned (.slice ra rn rc)/\((en.arg.drop 2=[]/\∃a,Value.slice ra rn rc=.slice a 0 0)\/BD w' (fun k=>w.heap.size<=k/\k<w'.heap.size) (.slice ra rn rc) (en.arg.drop 2)))/\Below wa.heap.size wa w'):=fun wa hba=>by
   rw[hdrop];have e0:en.arg.length-2=rest.length:=by omega
   rw[e0];cases hre:rest with
   |nil=>
    refine(Q5 wa bb _ (cap-2)).mono ?_;rintro e w' ⟨⟨a,rfl⟩,hb'⟩;exact⟨⟨a,0,0,rfl,Or.inl ⟨rfl,a,rfl⟩⟩,hb'⟩
   |cons r0 rs=>
    rw[<-hre];have hc2:¬cap=2:=by
     have:1<=rest.length:=by rw[hre];simp
     omega
    rw[if_neg hc2];refine(K5 wa bb (off+4) (cap-2) rest (by omega) (fun j x hxj=>?_) (Nat.lt_of_lt_of_le hbb hba.size)).mono ?_
    ·obtain⟨p1,p2⟩:=hc (j+2) x (by rw[hx];exact hxj);have e1:off+(j+2)*2=off+4+j*2:=by omega
     rw[e1]at p1 p2;exact⟨(hba.cell (p:=⟨bb,_,none⟩) hbb).trans p1,(hba.cell (p:=⟨bb,_,none⟩) hbb).trans p2⟩
    ·rintro e w' ⟨⟨O,rfl,hrow,_⟩,hb'⟩;obtain⟨ra,rn,rc,hO⟩:=Ar hrow;subst hO;obtain⟨q1,q2⟩:=LJ hrow (by rw[hre];simp);refine⟨⟨ra,rn,rc,rfl,Or.inr (q1.keep (Af.refl (fun _=>False) w') (fun _ _ _ _ q=>q) (fun k hk=>?_))⟩,hb'⟩;have:=q2 k hk;have:=hba.size;omega
  have hdoes:R.Cs 2 log en.proc en.arg=if l.length=0 then [R.num 0,R.num 0] else R.num 1 :: R.num l.length :: l:=by
   unfold R.Cs;rw[if_neg (by decide),if_neg (by decide),hargN,<-hl]
  rw[hdoes];by_cases hl0:l=[]
  ·subst hl0;have hsh:∃da dc,D=.slice da 0 dc:=by
    rcases hDr with ⟨_,a,rfl⟩|hit
    ·exact⟨_,_,rfl⟩
    ·rcases hit with ⟨_,rfl⟩|⟨_,_,_,_,q,_⟩
     ·exact⟨_,_,rfl⟩
     ·exact absurd rfl q
   obtain⟨da,dc,rfl⟩:=hsh;simp only[List.length_nil,if_true];refine Rh w b dn bb off en.arg.length cap dc da en.proc (by omega) (by omega) hcap c0 hD (open_list hb) (fun O _ w'=>(en.arg.drop 2=[]/\∃a,O=.slice a 0 0)\/BD w' (fun k=>w.heap.size<=k/\k<w'.heap.size) O (en.arg.drop 2)) _ H74 ?_;rintro O wa w1 hba hb1 hC;have e2:(w1.setCell ⟨b,dn,none⟩ O).heap.size=w1.heap.size:=by simp
   refine OU hF hb hK g0 g1 g2 (by omega) hargN hb1 hC ((Below.refl _ _).alloc (by rw[e2];exact Nat.le_refl _) _) ?_;have:=ZH w (w1.setCell ⟨b,dn,none⟩ O) (by rw[e2];exact hb1.size) 0 0 ⟨#[]⟩ ⟨#[]⟩;rw[e2]at this;exact this
  ·rcases hDr with ⟨q,_⟩|hit
   ·exact absurd q hl0
   ·rcases hit with ⟨q,_⟩|⟨lb,lo,dc,cur,_,rfl,_,hFl,hcl,hcs⟩
    ·exact absurd q hl0
    ·rw[if_neg (fun q=>hl0 (List.length_eq_zero_iff.1 q))];refine Ul w b dn bb off en.arg.length cap lb lo dc l en.proc (by omega) (by omega) hcap hl0 (by omega) c0 hD (open_list hb) (hlt lb hFl) (Bi hcl hb (by decide)) (fun j x hx=>⟨by simp[World.cell?,hcl,(hcs j x hx).1],by simp[World.cell?,hcl,(hcs j x hx).2]⟩) (fun O _ w'=>(en.arg.drop 2=[]/\∃a,O=.slice a 0 0)\/BD w' (fun k=>w.heap.size<=k/\k<w'.heap.size) O (en.arg.drop 2)) _ H74 ?_;rintro O wa w1 R w2 hba hb1 hC hrow hb2;exact OU hF hb hK g0 g1 g2 (by omega) hargN hb1 hC hb2 (V.EF hrow hb1.size)
theorem Qu{α:Type}{f:α->List Value}{n:Nat}(hf:∀x,(f x).length=n):∀(xs:List α) (k:Nat),(tab f xs).take (k*n)=tab f (xs.take k)
 |[],k=>by simp[tab]
 |x :: xs,0=>by simp[tab]
 |x :: xs,k+1=>by
  have ih:=Qu hf xs k;simp only[tab,List.flatMap_cons,List.take_succ_cons]at ih ⊢;rw[Nat.succ_mul,Nat.add_comm,<-hf x,List.take_length_add_append,hf x,ih]
theorem Qt{α:Type}{f:α->List Value}{n:Nat}(hf:∀x,(f x).length=n):∀(xs:List α) (k:Nat),(tab f xs).drop (k*n)=tab f (xs.drop k)
 |[],k=>by simp[tab]
 |x :: xs,0=>by simp[tab]
 |x :: xs,k+1=>by
  have ih:=Qt hf xs k;simp only[tab,List.flatMap_cons,List.drop_succ_cons]at ih ⊢;rw[Nat.succ_mul,Nat.add_comm,<-hf x,List.drop_length_add_append,hf x,ih]
theorem Sw{α:Type}(f:α->List Value)(xs ys:List α):tab f (xs++ys)=tab f xs++tab f ys:=by simp[tab]
theorem Ip{w:World}{g:Nat}{cur cs:Array Value}{e:TypeId}(h:w.heap[g]?=some (.cells cur e (0,0))):(w.setRow g cs).heap[g]?=some (.cells cs e (0,0)):=by
 simp[World.setRow,Array.getElem?_modify,h]
theorem ES(w:World)(g:Nat)(cs:Array Value):Af (fun k=>k=g) w (w.setRow g cs):=by
 refine⟨rfl,rfl,rfl,by simp[World.setRow],fun k _ hn=>?_⟩;simp only[World.setRow,Array.getElem?_modify];rw[if_neg (fun e=>hn e.symm)]
theorem Vm{α:Type}{f:α->List Value}{n:Nat}(hf:∀x,(f x).length=n)(xs:List α)(i:Nat):tab f (xs.eraseIdx i)=(tab f xs).take (i*n)++(tab f xs).drop ((i+1)*n):=by
 rw[List.eraseIdx_eq_take_drop_succ,Sw,Qu hf,Qt hf]
theorem V7{L T Z:List Value}{n cap k i:Nat}(hk:0<k)(hL:L.length=cap*k)(hn:n<=cap)(hT:L.take (n*k)=T)(hi:i<n)(hZ:Z.length=k):
  let C1:=L.take (i*k)++T.drop ((i+1)*k)++L.drop (i*k+(T.drop ((i+1)*k)).length)
  let C2:=C1.take ((n-1)*k)++Z++C1.drop ((n-1)*k+k)
  C1.length=cap*k/\C2.length=cap*k/\C2.take ((n-1)*k)=T.take (i*k)++T.drop ((i+1)*k)/\T.length=n*k/\(T.drop ((i+1)*k)).length=(n-(i+1))*k:=by
 have hnk:n*k<=cap*k:=Nat.mul_le_mul_right _ hn;have hTl:T.length=n*k:=by rw[<-hT,List.length_take];omega
 have hik:(i+1)*k<=n*k:=Nat.mul_le_mul_right _ hi;have hik':(i+1)*k=i*k+k:=Nat.succ_mul i k;have hnk':(n-1)*k+k=n*k:=by rw[<-Nat.succ_mul];congr 1;omega
 have hd:(T.drop ((i+1)*k)).length=(n-(i+1))*k:=by rw[List.length_drop,hTl,Nat.sub_mul]
 have hd':(n-(i+1))*k=n*k-(i+1)*k:=Nat.sub_mul _ _ _;have hti:T.take (i*k)=L.take (i*k):=by rw[<-hT,List.take_take,Nat.min_eq_left (by omega)]
 intro C1 C2;have hC1:C1.length=cap*k:=by
  simp only[C1,List.length_append,List.length_take,List.length_drop,hL,hd]at *;omega
 have hhead:C1.take ((n-1)*k)=L.take (i*k)++T.drop ((i+1)*k):=by
  simp only[C1];rw[List.take_append_of_le_length (by rw[List.length_append,List.length_take,hd,hL];omega)];apply List.take_of_length_le;rw[List.length_append,List.length_take,hd,hL];omega
 refine⟨hC1,?_,?_,hTl,hd⟩
 ·simp only[C2,List.length_append,List.length_take,List.length_drop,hC1,hZ];omega
 ·simp only[C2];rw[List.append_assoc,List.take_append_of_le_length (by rw[List.length_take,hC1];omega),List.take_take,Nat.min_self,hhead,hti]
theorem EL{P:Program}{ops:Array Oper}{o:Oper}{a:Act}{w:World}{K:Act->World->Prop}{Q:Exit->Act->World->Prop}{E:Prop}(hgd:o.guard=none)(s x:Operand)(t:TypeId)
  (ho:o.op=.call {callee:=.builtin .append,args:=#[s,x],argTypes:=#[t,t]}) (v xv v':Value) (w':World) (hs:a.eval s=v) (hx:a.eval x=xv)
  (hr:(Builtin.append_ #[t,t] o.type #[v,xv]).run P w=.ok v' w') (h:K (a.put o.dst v') w'):if Region.wanted o (yielded ops a.tmps)=true then Oper.wp P o a w K Q else E:=by
 have hw:Region.wanted o (yielded ops a.tmps)=true:=by simp[Region.wanted,hgd]
 rw[if_pos hw];unfold Oper.wp;simp[execOp,ho,resolve,invoke,builtin,hs,hx,hr,Result.andThen];exact h
theorem ID{w:World}{g off:Nat}{cur:Array Value}{t e ty:TypeId}{z:Value}(ht:Tryz.prog.underlying t=some (.slice e))(hv:∀w,(zeroValue e).run Tryz.prog w=.ok z w)(h1:∀u∈z.cells.toList,u.oneCell'=true)(hg:w.heap[g]?=some (.cells cur e (0,0)))(hfit:off+z.cells.size<=cur.size)(c:Nat):
  (Builtin.clear_ #[t] ty #[.slice (some ⟨g,off,none⟩) 1 c]).run Tryz.prog w=.ok (.tuple #[]) (w.setRow g (cur.toList.take off++z.cells.toList++cur.toList.drop (off+z.cells.size)).toArray):=by
 have hzc:(Builtin.zeroCells z.cells 1).toList=z.cells.toList:=by
  apply List.ext_getElem
  ·simp[Builtin.zeroCells]
  ·intro i h1 h2;have:i<z.cells.size:=by simpa using h2
   simp[Builtin.zeroCells,Nat.mod_eq_of_lt this,getElem!_pos,this]
 have hst:=run_storeCells_at Tryz.prog g off e z.cells.toList 0 cur w hg (by simpa using hfit) h1;simp only[Nat.add_zero]at hst;simp[Builtin.clear_,run_underlying ht,hv,hzc,hst]
theorem ZX(w:World):(zeroValue 122).run Tryz.prog w=.ok (.agg #[.int .i64 0,.string ⟨#[]⟩,.bool false]) w:=by kernel_rfl
theorem Za{fl:List R.Fl}:∀u∈tab C6 fl,u.oneCell'=true:=by
 intro u hu;obtain⟨f,_,hf⟩:=List.mem_flatMap.1 hu;simp[C6]at hf;rcases hf with rfl|rfl|rfl<;>rfl
abbrev zfl:List Value:=[.int .i64 0,.string ⟨#[]⟩,.bool false]
theorem YO(w:World)(g n cap i:Nat)(cur:Array Value)(fl:List R.Fl)(hg:w.heap[g]?=some (.cells cur 122 (0,0)))(hn:n=fl.length)(hcap:n<=cap)(hm:cap<=maxLen)(hsz:cur.size=cap*3)(htk:cur.toList.take (n*3)=tab C6 fl)(hi:i<n):
  Calls Tryz.prog 84 #[.slice (some ⟨g,0,none⟩) n cap,.int .i64 (i:Int),.int .i64 ((i:Int)+1)] w fun e w'=>e=.returned (.slice (some ⟨g,0,none⟩) (n-1) cap)/\(∃cur':Array Value,w'.heap[g]?=some (.cells cur' 122 (0,0))/\cur'.size=cap*3/\cur'.toList.take ((n-1)*3)=tab C6 (fl.eraseIdx i))/\Af (fun k=>k=g) w w':=by
 obtain⟨i0,hi0,hz0,hz1,hz2⟩:=info_parts Wy;have hrows:=V7 (Z:=zfl) (k:=3) (by decide) (by rw[Array.length_toList];exact hsz) hcap htk hi rfl;obtain⟨r1,r2,r3,r4,r5⟩:=hrows;rw[<-Vm IU]at r3;obtain⟨NW,hNW⟩:∃NW,NW=(tab C6 fl).drop ((i+1)*3):=⟨_,rfl⟩;rw[<-hNW]at r1 r2 r3 r5;obtain⟨C1,hC1⟩:∃C1,C1=cur.toList.take (i*3)++NW++cur.toList.drop (i*3+NW.length):=⟨_,rfl⟩;rw[<-hC1]at r1 r2 r3;obtain⟨W1,hW1⟩:∃W1,W1=w.drew.setRow g C1.toArray:=⟨_,rfl⟩;have g1:W1.heap[g]?=some (.cells C1.toArray 122 (0,0)):=by rw[hW1];exact Ip (w:=w.drew) hg
 obtain⟨W2,hW2⟩:∃W2,W2=W1.setRow g (C1.take ((n-1)*3)++zfl++C1.drop ((n-1)*3+3)).toArray:=⟨_,rfl⟩;have g2:W2.heap[g]?=some (.cells (C1.take ((n-1)*3)++zfl++C1.drop ((n-1)*3+3)).toArray 122 (0,0)):=by rw[hW2];exact Ip g1
 have HK:Hid (Af (fun k=>k=g) w W2):=by
  rw[hW2,hW1];have k0:Af (fun k=>k=g) w w.drew:=(Af.refl _ w).drew;exact(k0.trans (ES _ _ _)).trans (ES _ _ _)
 have HEND:Hid (∃cur':Array Value,W2.heap[g]?=some (.cells cur' 122 (0,0))/\cur'.size=cap*3/\cur'.toList.take ((n-1)*3)=tab C6 (fl.eraseIdx i)):=⟨_,g2,by simpa using r2,by simpa using r3⟩;have hsrc:∀j u,NW[j]?=some u->w.drew.cell? ((⟨g,(i+1)*3,none⟩:Addr).add j)=some u:=fun j u hj=>by
  rw[hNW,List.getElem?_drop,<-htk,List.getElem?_take]at hj;split at hj
  ·rw[Addr.add_lit];have:w.drew.heap[g]?=some (.cells cur 122 (0,0)):=hg;simp[World.cell?,this];simpa using hj
  ·cases hj
 have happ:∀c,(Builtin.append_ #[111,111] 111 #[.slice (some ⟨g,0,none⟩) i cap,.slice (some ⟨g,(i+1)*3,none⟩) (n-(i+1)) c]).run Tryz.prog w.drew=.ok (.slice (some ⟨g,0,none⟩) (n-1) cap) W1:=fun c=>by
  have h:=run_append_room (P:=Tryz.prog) w.drew 111 111 122 i0 Tryz.underlying111 hi0 g i cap cur hg ⟨g,(i+1)*3,none⟩ (n-(i+1)) c NW (by rw[r5,hz1]) hsrc (fun u hu=>Za u (List.mem_of_mem_drop (hNW ▸ hu))) (by omega) (by rw[hz1,r5,hsz];omega);rw[hz1]at h;rw[h,hW1,hC1,show i+(n-(i+1))=n-1 by omega]
 have happ0:i+1=n->∀a c,(Builtin.append_ #[111,111] 111 #[.slice (some ⟨g,0,none⟩) i cap,.slice (some a) 0 c]).run Tryz.prog w.drew=.ok (.slice (some ⟨g,0,none⟩) (n-1) cap) W1:=fun he a c=>by
  have hN0:NW=[]:=List.length_eq_zero_iff.1 (by rw[r5,show n-(i+1)=0 by omega]);have h:=run_append_room (P:=Tryz.prog) w.drew 111 111 122 i0 Tryz.underlying111 hi0 g i cap cur hg a 0 c [] (by simp) (by simp) (by simp) (by omega) (by rw[hz1,hsz];simp;omega);rw[hz1]at h;rw[h,hW1,hC1,hN0,show i+0=n-1 by omega]
 have hclr:∀ty c,(Builtin.clear_ #[111] ty #[.slice (some ⟨g,(n-1)*3,none⟩) 1 c]).run Tryz.prog W1=.ok (.tuple #[]) W2:=fun ty c=>by
  have h:=ID (ty:=ty) (off:=(n-1)*3) Tryz.underlying111 ZX (by simp[Value.cells,Value.oneCell']) g1 (by simp[Value.cells,r1];omega) c;rw[h,hW2];simp[Value.cells]
 unfold maxLen at hm;clear hNW hC1 hW1 hW2 g1 g2 r1 r2 r3 r4 r5 hsrc hg htk hsz hn;have q1:((i:Int)==(i:Int)+1)=false:=by simp;omega
 obtain⟨m,rfl⟩:∃m,n=m+1:=⟨n-1,by omega⟩;simp only[Nat.add_sub_cancel,Nat.add_sub_add_right]at happ happ0 hclr HEND ⊢;have hm1:m+1-m=1:=by omega
 have HA:=Ab happ;have HA0:=Ab happ0;have HC:=Ab hclr;clear happ happ0 hclr;have HE:Hid (∃cur':Array Value,W2.heap[g]?=some (.cells cur' 122 (0,0))/\cur'.size=cap*3/\cur'.toList.take (m*3)=tab C6 (fl.eraseIdx i)):=HEND;clear HEND;have b1:(i:Int)+1<=((m+1:Nat):Int):=by omega
 have b2:((m+1:Nat):Int)<=(cap:Int):=by omega
 have b3:(i:Int)<=(cap:Int):=by omega
 have b4:(0:Int)<=(i:Int)+1:=by omega
 by_cases hcp:i+1=cap
 ·have him:i=m:=by omega
  subst him;subst hcp;have b7:(i:Int)<=(i:Int)+1:=by omega
  have b8:i<=i+1:=by omega
  have HA1:=Ab ((Aa HA0) rfl ⟨g,0,none⟩ 0);clear HA0 HA;go_enter Tryz.func84,Tryz.ntmps84;go_wp2;go_region_law (refine EL rfl (.tmp 22) (.tmp 25) 111 rfl (.slice (some ⟨g,0,none⟩) i (i+1)) (.slice (some ⟨g,0,none⟩) 0 0) (.slice (some ⟨g,0,none⟩) i (i+1)) W1 rfl rfl (Aa HA1) ?_)
  all_goals
   have hclr:=(Aa HC);go_wp2
   go_ret
   exact⟨rfl,Aa HE,Aa HK⟩
 ·have b5:i<=m:=by omega
  have b6:¬cap=i+1:=by omega
  go_enter Tryz.func84,Tryz.ntmps84;go_wp2;go_region_law (refine EL rfl (.tmp 22) (.tmp 25) 111 rfl (.slice (some ⟨g,0,none⟩) i cap) (.slice (some ⟨g,(i+1)*3,none⟩) (m-i) (cap-(i+1))) (.slice (some ⟨g,0,none⟩) m cap) W1 rfl rfl ((Aa HA) _) ?_)
  all_goals
   have hclr:=(Aa HC);go_wp2
   go_ret
   exact⟨rfl,Aa HE,Aa HK⟩
theorem Wx:(Tryz.prog.info? 9).map (fun i=>(i.zero,i.size,i.bytes))=some (some (.string ⟨#[]⟩),1,16):=by kernel_rfl
theorem acy(w:World):(zeroValue 9).run Tryz.prog w=.ok (.string ⟨#[]⟩) w:=by kernel_rfl
theorem Yi(l:List ByteArray):∀u∈strs l,u.oneCell'=true:=by
 intro u hu;obtain⟨x,_,rfl⟩:=List.mem_map.1 hu;rfl
theorem VR(w:World)(g cap:Nat)(cur:Array Value)(ps:List ByteArray)(hg:w.heap[g]?=some (.cells cur 9 (0,0)))(hn:ps.length=5)(hcap:5<=cap)(hm:cap<=maxLen)(hsz:cur.size=cap)(htk:cur.toList.take 5=strs ps):
  Calls Tryz.prog 293 #[.slice (some ⟨g,0,none⟩) 5 cap,.int .i64 0,.int .i64 1] w fun e w'=>e=.returned (.slice (some ⟨g,0,none⟩) 4 cap)/\(∃cur':Array Value,w'.heap[g]?=some (.cells cur' 9 (0,0))/\cur'.size=cap/\cur'.toList.take 4=strs (ps.drop 1))/\Af (fun k=>k=g) w w':=by
 obtain⟨i0,hi0,hz0,hz1,hz2⟩:=info_parts Wx;have hlen:cur.toList.length=cap:=by rw[Array.length_toList];exact hsz
 obtain⟨NW,hNW⟩:∃NW,NW=strs (ps.drop 1):=⟨_,rfl⟩;have hNl:NW.length=4:=by rw[hNW];simp[strs,hn]
 obtain⟨C1,hC1⟩:∃C1,C1=cur.toList.take 0++NW++cur.toList.drop (0+NW.length):=⟨_,rfl⟩;have hC1l:C1.length=cap:=by rw[hC1];simp[hNl,hsz];omega
 obtain⟨W1,hW1⟩:∃W1,W1=w.drew.setRow g C1.toArray:=⟨_,rfl⟩;have g1:W1.heap[g]?=some (.cells C1.toArray 9 (0,0)):=by rw[hW1];exact Ip (w:=w.drew) hg
 obtain⟨W2,hW2⟩:∃W2,W2=W1.setRow g (C1.take 4++[Value.string ⟨#[]⟩]++C1.drop (4+1)).toArray:=⟨_,rfl⟩;have g2:W2.heap[g]?=some (.cells (C1.take 4++[Value.string ⟨#[]⟩]++C1.drop (4+1)).toArray 9 (0,0)):=by rw[hW2];exact Ip g1
 have HK:Hid (Af (fun k=>k=g) w W2):=by
  rw[hW2,hW1];have k0:Af (fun k=>k=g) w w.drew:=(Af.refl _ w).drew;exact(k0.trans (ES _ _ _)).trans (ES _ _ _)
 have hC14:C1.take 4=NW:=by
  rw[hC1,List.take_zero,List.nil_append,List.take_append_of_le_length (by omega),List.take_of_length_le (by omega)]
 have HE:Hid (∃cur':Array Value,W2.heap[g]?=some (.cells cur' 9 (0,0))/\cur'.size=cap/\cur'.toList.take 4=strs (ps.drop 1)):=by
  refine⟨_,g2,by simp[hC1l];omega,?_⟩;simp only[hC14,List.append_assoc];rw[List.take_append_of_le_length (by omega),List.take_of_length_le (by omega),hNW]
 have hsrc:∀j u,NW[j]?=some u->w.drew.cell? ((⟨g,1,none⟩:Addr).add j)=some u:=fun j u hj=>by
  have hj':(strs ps)[1+j]?=some u:=by
   rw[hNW]at hj;unfold strs at hj ⊢;rw[List.getElem?_map,List.getElem?_drop]at hj;rw[List.getElem?_map];exact hj
  rw[<-htk,List.getElem?_take]at hj';split at hj'
  ·rw[Addr.add_lit];have:w.drew.heap[g]?=some (.cells cur 9 (0,0)):=hg;simp[World.cell?,this];simpa using hj'
  ·cases hj'
 have HA:Hid (∀c,(Builtin.append_ #[222,222] 222 #[.slice (some ⟨g,0,none⟩) 0 cap,.slice (some ⟨g,1,none⟩) 4 c]).run Tryz.prog w.drew=.ok (.slice (some ⟨g,0,none⟩) 4 cap) W1):=fun c=>by
  have h:=run_append_room (P:=Tryz.prog) w.drew 222 222 9 i0 Tryz.underlying222 hi0 g 0 cap cur hg ⟨g,1,none⟩ 4 c NW (by rw[hNl,hz1]) hsrc (fun u hu=>Yi _ u (hNW ▸ hu)) (by omega) (by rw[hz1,hNl,hsz];omega);rw[hz1]at h;rw[h,hW1,hC1]
 have HC:Hid (∀ty c,(Builtin.clear_ #[222] ty #[.slice (some ⟨g,4,none⟩) 1 c]).run Tryz.prog W1=.ok (.tuple #[]) W2):=fun ty c=>by
  have h:=ID (ty:=ty) (off:=4) Tryz.underlying222 acy (by simp[Value.cells,Value.oneCell']) g1 (by simp[Value.cells,hC1l];omega) c;rw[h,hW2];simp[Value.cells]
 unfold maxLen at hm;clear hNW hC1 hW1 hW2 g1 g2 hsrc hg htk hsz hn hC14 hC1l hNl hlen;have b1:(5:Int)<=(cap:Int):=by omega
 have b2:¬cap=1:=by omega
 have b3:(1:Int)<=(cap:Int):=by omega
 have b4:(0:Int)<=(cap:Int):=by omega
 go_enter Tryz.func293,Tryz.ntmps293;go_wp2;go_region_law (refine EL rfl (.tmp 22) (.tmp 25) 222 rfl (.slice (some ⟨g,0,none⟩) 0 cap) (.slice (some ⟨g,1,none⟩) 4 (cap-1)) (.slice (some ⟨g,0,none⟩) 4 cap) W1 rfl rfl ((Aa HA) _) ?_)
 all_goals
  have hclr:=(Aa HC);go_wp2
  go_ret
  exact⟨rfl,Aa HE,Aa HK⟩
theorem P7(l:List R.En)(e:R.En):R.Br (l++[e])=if e.proc=0 then (if (R.Br l).length<4 then R.Br l++[R.TT e.arg 0] else (R.Br l++[R.TT e.arg 0]).drop 1) else R.Br l:=by
 unfold R.Br;simp only[List.filter_append,List.map_append];by_cases h:e.proc=0
 ·rw[if_pos h];have e1:List.filter (fun e=>decide (e.proc=0)) [e]=[e]:=by simp[h]
  rw[e1,List.map_cons,List.map_nil];generalize (l.filter fun e=>decide (e.proc=0)).map (fun e=>R.TT e.arg 0)=out;rw[List.length_append,List.length_drop,List.length_singleton];by_cases h4:out.length<4
  ·rw[if_pos (by omega),show out.length+1-4=0 by omega,show out.length-4=0 by omega,List.drop_zero,List.drop_zero]
  ·rw[if_neg (by omega),List.drop_append_of_le_length (by omega),List.drop_append_of_le_length (by rw[List.length_drop];omega),List.drop_drop];congr 2;omega
 ·rw[if_neg h];have e1:List.filter (fun e=>decide (e.proc=0)) [e]=[]:=by simp[h]
  rw[e1,List.map_nil,List.append_nil]
end Go.Proofs.YtblomippkddgiaaGreatDoor
