import Derived.Test.YtblomippkddgiabGreatDoorJ38
import Derived.Test.YtblomippkddgiabGreatDoorJ29
set_option maxRecDepth 100000
set_option maxHeartbeats 2000000
namespace Go.Proofs.YtblomippkddgiabGreatDoor
open Go.RowKit
variable {T:ByteArray}{b g:Nat}{K:Value}{w wz:World}
theorem EY{P:Program}{aa:Array Oper}{o:Oper}{a:Act}{K:Act->World->Prop}{Q:Exit->Act->World->Prop}{E:Prop}(ab:o.guard=none)(s x:Operand)(t:TypeId)
  (ho:o.op=.call {callee:=.builtin .append,args:=#[s,x],argTypes:=#[t,t]}) (v xv v':Value) (w':World) (hs:a.eval s=v) (hx:a.eval x=xv)
  (hr:(Builtin.append_ #[t,t] o.type #[v,xv]).run P w=.ok v' w') (h:K (a.put o.dst v') w'):if Region.wanted o (yielded aa a.tmps)=true then Oper.wp P o a w K Q else E:=by
 have hw:Region.wanted o (yielded aa a.tmps)=true:=by simp[Region.wanted,ab]
 rw[if_pos hw];unfold Oper.wp;simp[execOp,ho,resolve,invoke,builtin,hs,hx,hr,Result.andThen];exact h
theorem Jd{off:Nat}{aa:Array Value}{t e ty:TypeId}{z:Value}(ht:Tryz.prog.underlying t=some (.slice e))(hv:∀w,(zeroValue e).run Tryz.prog w=.ok z w)(h1:∀u∈z.cells.toList,u.oneCell'=true)(hg:w.heap[g]?=some (.cells aa e (0,0)))(ab:off+z.cells.size<=aa.size)(c:Nat):
  (Builtin.clear_ #[t] ty #[.slice (some ⟨g,off,none⟩) 1 c]).run Tryz.prog w=.ok (.tuple #[]) (w.setRow g (aa.toList.take off++z.cells.toList++aa.toList.drop (off+z.cells.size)).toArray):=by
 have ad:(Builtin.zeroCells z.cells 1).toList=z.cells.toList:=by
  apply List.ext_getElem
  ·simp[Builtin.zeroCells]
  ·intro i h1 h2;have:i<z.cells.size:=by simpa using h2
   simp[Builtin.zeroCells,Nat.mod_eq_of_lt this,getElem!_pos,this]
 have ac:=run_storeCells_at Tryz.prog g off e z.cells.toList 0 aa w hg (by simpa using ab) h1;simp only[aha]at ac;simp[Builtin.clear_,run_underlying ht,hv,ad,ac]
theorem abF(w:World):(zeroValue 166).run Tryz.prog w=.ok (.agg #[.int .i64 0,.string ⟨#[]⟩,.bool false]) w:=by kernel_rfl
theorem aaQ{fl:List R.Fl}:∀u∈tab BB fl,u.oneCell'=true:=by
 intro u hu;obtain⟨f,_,hf⟩:=ag3.1 hu;simp[BB]at hf;rcases hf with rfl|rfl|rfl<;>rfl
abbrev zfl:List Value:=[.int .i64 0,.string ⟨#[]⟩,.bool false]
theorem aav(w:World)(g n cap i:Nat)(ad:Array Value)(fl:List R.Fl)(hg:w.heap[g]?=some (.cells ad 166 (0,0)))(hn:n=fl.length)(ao:n<=cap)(hm:cap<=maxLen)(an:ad.size=cap*3)(ap:ad.toList.take (n*3)=tab BB fl)(hi:i<n):
  Calls Tryz.prog 90 #[.slice (some ⟨g,0,none⟩) n cap,.int .i64 (i:Int),.int .i64 ((i:Int)+1)] w fun e w'=>e=.returned (.slice (some ⟨g,0,none⟩) (n-1) cap)/\(∃aa:Array Value,w'.heap[g]?=some (.cells aa 166 (0,0))/\aa.size=cap*3/\aa.toList.take ((n-1)*3)=tab BB (fl.eraseIdx i))/\Af (fun k=>k=g) w w':=by
 obtain⟨i0,ar,az,aj,aA⟩:=info_parts Tx;have ah:=XY (Z:=zfl) (k:=3) (by decide) (by rw[agG];exact an) ao ap hi rfl;obtain⟨r1,r2,r3,r4,r5⟩:=ah;rw[<-Xc DK]at r3;obtain⟨NW,al⟩:∃NW,NW=(tab BB fl).drop ((i+1)*3):=⟨_,rfl⟩;rw[<-al]at r1 r2 r3 r5;obtain⟨C1,ak⟩:∃C1,C1=ad.toList.take (i*3)++NW++ad.toList.drop (i*3+NW.length):=⟨_,rfl⟩;rw[<-ak]at r1 r2 r3;obtain⟨W1,ag⟩:∃W1,W1=w.drew.setRow g C1.toArray:=⟨_,rfl⟩;have g1:W1.heap[g]?=some (.cells C1.toArray 166 (0,0)):=by rw[ag];exact IR (w:=w.drew) hg
 obtain⟨W2,am⟩:∃W2,W2=W1.setRow g (C1.take ((n-1)*3)++zfl++C1.drop ((n-1)*3+3)).toArray:=⟨_,rfl⟩;have g2:W2.heap[g]?=some (.cells (C1.take ((n-1)*3)++zfl++C1.drop ((n-1)*3+3)).toArray 166 (0,0)):=by rw[am];exact IR g1
 have HK:Hid (Af (fun k=>k=g) w W2):=by
  rw[am,ag];have k0:Af (fun k=>k=g) w w.drew:=(Af.refl _ w).drew;exact(k0.trans (E6 _ _ _)).trans (E6 _ _ _)
 have ae:Hid (∃aa:Array Value,W2.heap[g]?=some (.cells aa 166 (0,0))/\aa.size=cap*3/\aa.toList.take ((n-1)*3)=tab BB (fl.eraseIdx i)):=⟨_,g2,by simpa using r2,by simpa using r3⟩;have ai:∀j u,NW[j]?=some u->w.drew.cell? ((⟨g,(i+1)*3,none⟩:Addr).add j)=some u:=fun j u hj=>by
  rw[al,agP,<-ap,af7]at hj;split at hj
  ·rw[Addr.add_lit];have:w.drew.heap[g]?=some (.cells ad 166 (0,0)):=hg;simp[World.cell?,this];simpa using hj
  ·cases hj
 have af:∀c,(Builtin.append_ #[108,108] 108 #[.slice (some ⟨g,0,none⟩) i cap,.slice (some ⟨g,(i+1)*3,none⟩) (n-(i+1)) c]).run Tryz.prog w.drew=.ok (.slice (some ⟨g,0,none⟩) (n-1) cap) W1:=fun c=>by
  have h:=run_append_room (P:=Tryz.prog) w.drew 108 108 166 i0 Tryz.underlying108 ar g i cap ad hg ⟨g,(i+1)*3,none⟩ (n-(i+1)) c NW (by rw[r5,aj]) ai (fun u hu=>aaQ u (List.mem_of_mem_drop (al ▸ hu))) (by omega) (by rw[aj,r5,an];omega);rw[aj]at h;rw[h,ag,ak,show i+(n-(i+1))=n-1 by omega]
 have ab:i+1=n->∀a c,(Builtin.append_ #[108,108] 108 #[.slice (some ⟨g,0,none⟩) i cap,.slice (some a) 0 c]).run Tryz.prog w.drew=.ok (.slice (some ⟨g,0,none⟩) (n-1) cap) W1:=fun he a c=>by
  have av:NW=[]:=agL.1 (by rw[r5,show n-(i+1)=0 by omega]);have h:=run_append_room (P:=Tryz.prog) w.drew 108 108 166 i0 Tryz.underlying108 ar g i cap ad hg a 0 c [] (by simp) (by simp) (by simp) (by omega) (by rw[aj,an];simp;omega);rw[aj]at h;rw[h,ag,ak,av,show i+0=n-1 by omega]
 have ac:∀ty c,(Builtin.clear_ #[108] ty #[.slice (some ⟨g,(n-1)*3,none⟩) 1 c]).run Tryz.prog W1=.ok (.tuple #[]) W2:=fun ty c=>by
  have h:=Jd (ty:=ty) (off:=(n-1)*3) Tryz.underlying108 abF (by simp[Value.cells,Value.oneCell']) g1 (by simp[Value.cells,r1];omega) c;rw[h,am];simp[Value.cells]
 unfold maxLen at hm;clear al ak ag am g1 g2 r1 r2 r3 r4 r5 ai hg ap an hn;have q1:((i:Int)==(i:Int)+1)=false:=by simp;omega
 obtain⟨m,rfl⟩:∃m,n=m+1:=⟨n-1,by omega⟩;simp only[Nat.add_sub_cancel,Nat.add_sub_add_right]at af ab ac ae ⊢;have ay:m+1-m=1:=by omega
 have HA:=Ac af;have aq:=Ac ab;have HC:=Ac ac;clear af ab ac;have HE:Hid (∃aa:Array Value,W2.heap[g]?=some (.cells aa 166 (0,0))/\aa.size=cap*3/\aa.toList.take (m*3)=tab BB (fl.eraseIdx i)):=ae;clear ae;have b1:(i:Int)+1<=((m+1:Nat):Int):=by omega
 have b2:((m+1:Nat):Int)<=(cap:Int):=by omega
 have b3:(i:Int)<=(cap:Int):=by omega
 have b4:(0:Int)<=(i:Int)+1:=by omega
 by_cases aw:i+1=cap
 ·have ax:i=m:=by omega
  subst ax;subst aw;have b7:(i:Int)<=(i:Int)+1:=by omega
  have b8:i<=i+1:=by omega
  have au:=Ac ((Aa aq) rfl ⟨g,0,none⟩ 0);clear aq HA;go_enter Tryz.func90,Tryz.ntmps90;go_wp2;go_region_law (refine EY rfl (.tmp 22) (.tmp 25) 108 rfl (.slice (some ⟨g,0,none⟩) i (i+1)) (.slice (some ⟨g,0,none⟩) 0 0) (.slice (some ⟨g,0,none⟩) i (i+1)) W1 rfl rfl (Aa au) ?_)
  all_goals
   have ac:=(Aa HC);go_wp2
   go_ret
   exact⟨rfl,Aa HE,Aa HK⟩
 ·have b5:i<=m:=by omega
  have b6:¬cap=i+1:=by omega
  go_enter Tryz.func90,Tryz.ntmps90;go_wp2;go_region_law (refine EY rfl (.tmp 22) (.tmp 25) 108 rfl (.slice (some ⟨g,0,none⟩) i cap) (.slice (some ⟨g,(i+1)*3,none⟩) (m-i) (cap-(i+1))) (.slice (some ⟨g,0,none⟩) m cap) W1 rfl rfl ((Aa HA) _) ?_)
  all_goals
   have ac:=(Aa HC);go_wp2
   go_ret
   exact⟨rfl,Aa HE,Aa HK⟩
theorem Ym:(Tryz.prog.info? 9).map (fun i=>(i.zero,i.size,i.bytes))=some (some (.string ⟨#[]⟩),1,16):=by kernel_rfl
theorem ael(w:World):(zeroValue 9).run Tryz.prog w=.ok (.string ⟨#[]⟩) w:=by kernel_rfl
theorem ZW(l:List ByteArray):∀u∈strs l,u.oneCell'=true:=by
 intro u hu;obtain⟨x,_,rfl⟩:=agE.1 hu;rfl
theorem XI(w:World)(g cap:Nat)(ab:Array Value)(ps:List ByteArray)(hg:w.heap[g]?=some (.cells ab 9 (0,0)))(hn:ps.length=5)(ap:5<=cap)(hm:cap<=maxLen)(al:ab.size=cap)(ao:ab.toList.take 5=strs ps):
  Calls Tryz.prog 293 #[.slice (some ⟨g,0,none⟩) 5 cap,.int .i64 0,.int .i64 1] w fun e w'=>e=.returned (.slice (some ⟨g,0,none⟩) 4 cap)/\(∃aa:Array Value,w'.heap[g]?=some (.cells aa 9 (0,0))/\aa.size=cap/\aa.toList.take 4=strs (ps.drop 1))/\Af (fun k=>k=g) w w':=by
 obtain⟨i0,ar,au,an,av⟩:=info_parts Ym;have am:ab.toList.length=cap:=by rw[agG];exact al
 obtain⟨NW,ae⟩:∃NW,NW=strs (ps.drop 1):=⟨_,rfl⟩;have ah:NW.length=4:=by rw[ae];simp[strs,hn]
 obtain⟨C1,ag⟩:∃C1,C1=ab.toList.take 0++NW++ab.toList.drop (0+NW.length):=⟨_,rfl⟩;have ac:C1.length=cap:=by rw[ag];simp[ah,al];omega
 obtain⟨W1,ai⟩:∃W1,W1=w.drew.setRow g C1.toArray:=⟨_,rfl⟩;have g1:W1.heap[g]?=some (.cells C1.toArray 9 (0,0)):=by rw[ai];exact IR (w:=w.drew) hg
 obtain⟨W2,aj⟩:∃W2,W2=W1.setRow g (C1.take 4++[Value.string ⟨#[]⟩]++C1.drop (4+1)).toArray:=⟨_,rfl⟩;have g2:W2.heap[g]?=some (.cells (C1.take 4++[Value.string ⟨#[]⟩]++C1.drop (4+1)).toArray 9 (0,0)):=by rw[aj];exact IR g1
 have HK:Hid (Af (fun k=>k=g) w W2):=by
  rw[aj,ai];have k0:Af (fun k=>k=g) w w.drew:=(Af.refl _ w).drew;exact(k0.trans (E6 _ _ _)).trans (E6 _ _ _)
 have ad:C1.take 4=NW:=by
  rw[ag,List.take_zero,agO,agp (by omega),af6 (by omega)]
 have HE:Hid (∃aa:Array Value,W2.heap[g]?=some (.cells aa 9 (0,0))/\aa.size=cap/\aa.toList.take 4=strs (ps.drop 1)):=by
  refine⟨_,g2,by simp[ac];omega,?_⟩;simp only[ad,agk];rw[agp (by omega),af6 (by omega),ae]
 have af:∀j u,NW[j]?=some u->w.drew.cell? ((⟨g,1,none⟩:Addr).add j)=some u:=fun j u hj=>by
  have ak:(strs ps)[1+j]?=some u:=by
   rw[ae]at hj;unfold strs at hj ⊢;rw[afW,agP]at hj;rw[afW];exact hj
  rw[<-ao,af7]at ak;split at ak
  ·rw[Addr.add_lit];have:w.drew.heap[g]?=some (.cells ab 9 (0,0)):=hg;simp[World.cell?,this];simpa using ak
  ·cases ak
 have HA:Hid (∀c,(Builtin.append_ #[36,36] 36 #[.slice (some ⟨g,0,none⟩) 0 cap,.slice (some ⟨g,1,none⟩) 4 c]).run Tryz.prog w.drew=.ok (.slice (some ⟨g,0,none⟩) 4 cap) W1):=fun c=>by
  have h:=run_append_room (P:=Tryz.prog) w.drew 36 36 9 i0 Tryz.underlying36 ar g 0 cap ab hg ⟨g,1,none⟩ 4 c NW (by rw[ah,an]) af (fun u hu=>ZW _ u (ae ▸ hu)) (by omega) (by rw[an,ah,al];omega);rw[an]at h;rw[h,ai,ag]
 have HC:Hid (∀ty c,(Builtin.clear_ #[36] ty #[.slice (some ⟨g,4,none⟩) 1 c]).run Tryz.prog W1=.ok (.tuple #[]) W2):=fun ty c=>by
  have h:=Jd (ty:=ty) (off:=4) Tryz.underlying36 ael (by simp[Value.cells,Value.oneCell']) g1 (by simp[Value.cells,ac];omega) c;rw[h,aj];simp[Value.cells]
 unfold maxLen at hm;clear ae ag ai aj g1 g2 af hg ao al hn ad ac ah am;have b1:(5:Int)<=(cap:Int):=by omega
 have b2:¬cap=1:=by omega
 have b3:(1:Int)<=(cap:Int):=by omega
 have b4:(0:Int)<=(cap:Int):=by omega
 go_enter Tryz.func293,Tryz.ntmps293;go_wp2;go_region_law (refine EY rfl (.tmp 22) (.tmp 25) 36 rfl (.slice (some ⟨g,0,none⟩) 0 cap) (.slice (some ⟨g,1,none⟩) 4 (cap-1)) (.slice (some ⟨g,0,none⟩) 4 cap) W1 rfl rfl ((Aa HA) _) ?_)
 all_goals
  have aq:=(Aa HC);go_wp2
  go_ret
  exact⟨rfl,Aa HE,Aa HK⟩
theorem Rn(l:List R.En)(e:R.En):R.BG (l++[e])=if e.proc=0 then (if (R.BG l).length<4 then R.BG l++[R.Vp e.arg 0] else (R.BG l++[R.Vp e.arg 0]).drop 1) else R.BG l:=by
 unfold R.BG;simp only[List.filter_append,agw];by_cases h:e.proc=0
 ·rw[if_pos h];have e1:List.filter (fun e=>decide (e.proc=0)) [e]=[e]:=by simp[h]
  rw[e1,agD,agV];generalize (l.filter fun e=>decide (e.proc=0)).map (fun e=>R.Vp e.arg 0)=out;rw[afS,agf,agA];by_cases h4:out.length<4
  ·rw[if_pos (by omega),show out.length+1-4=0 by omega,show out.length-4=0 by omega,List.drop_zero,List.drop_zero]
  ·rw[if_neg (by omega),agT (by omega),agT (by rw[agf];omega),List.drop_drop];congr 2;omega
 ·rw[if_neg h];have e1:List.filter (fun e=>decide (e.proc=0)) [e]=[]:=by simp[h]
  rw[e1,agV,agv]
structure Ko(w:World)(b:Nat)(K:Value)(ps:List ByteArray)(O:Value)(w':World):Prop where
 row:V.Row w' w.heap.size O [((ps.length:Int),⟨#[]⟩)]
 cell:∃K',w'.heap[b]?=some (.cells #[K'] 326 (0,0))/\w'.ownsRow 0 9 1 K' ps.length (strs ps)/\(K'.ownBlock=K.ownBlock\/∃j,K'.ownBlock=some j/\w.heap.size<=j/\j<w'.heap.size)
 keep:Af (fun k=>k=b\/K.ownBlock=some k) w w'
theorem Rm{m va0:Nat}{K':Value}{ps:List ByteArray}(h:w.heap[b]?=some (.cells #[K] 326 (0,0)))(ac:w.ownsRow 0 9 1 K m (strs ps))(hg:(w.alloc (.cells #[.string T] 9)).grownBy wz K.ownBlock)(ab:wz.ownsRow 0 9 1 K' (m+1) (strs ps++[.string T]))(af:K'.ownBlock=K.ownBlock\/K'.ownBlock=some va0)(ai:w.heap.size<=va0):
  wz.heap[b]?=some (.cells #[K] 326 (0,0))/\(wz.setCell ⟨b,0,none⟩ K').heap[b]?=some (.cells #[K'] 326 (0,0))/\(wz.setCell ⟨b,0,none⟩ K').ownsRow 0 9 1 K' (m+1) (strs (ps++[T]))/\Af (fun k=>k=b\/K.ownBlock=some k) w (wz.setCell ⟨b,0,none⟩ K')/\K'.ownBlock≠some b:=by
 have hl:=lt_of_block h;have ad:K.ownBlock≠some b:=AV ac h (by decide);have aa:K'.ownBlock≠some b:=by
  rcases af with e|e
  ·rw[e];exact ad
  ·rw[e];intro q;cases q;omega
 have ae:wz.heap[b]?=some (.cells #[K] 326 (0,0)):=by
  rw[hg.block b (by simp;omega) (fun e=>ad e.symm)];exact(Below.heap_alloc _ _ _ hl).trans h
 have hs:strs (ps++[T])=strs ps++[.string T]:=by simp[strs]
 refine⟨ae,Ai (cs:=[K]) (off:=0) ae K',?_,?_,aa⟩
 ·rw[hs];exact Fy ab (fun g ag=>Below.heap_setCell _ _ _ _ (fun e=>aa (by rw[ag];exact congrArg some e)))
 ·have ah:Af (fun k=>k=b\/K.ownBlock=some k) w (w.alloc (.cells #[.string T] 9)):=(Af.refl _ w).alloc _;exact(ah.grown hg (fun k hk=>afJ (afM hk))).setCell (p:=⟨b,0,none⟩) (afJ (afJ rfl)) _
theorem Rf(w:World)(T:ByteArray)(j:Nat)(u:Value)(h:([.string T]:List Value)[j]?=some u):(w.alloc (.cells #[.string T] 9)).cell? ((⟨w.heap.size,0,none⟩:Addr).add j)=some u:=by
 rw[Addr.add_lit,agn,World.cell?_alloc_new w _ _ j,<-agj]at *;exact h
theorem row_in(w U:World)(hU:w.heap.size<=U.heap.size)(n:Int)(s:ByteArray):V.Row (U.alloc (.cells #[.int .i64 n,.string s] 73)) w.heap.size (.slice (some ⟨U.heap.size,0,none⟩) 1 1) [(n,s)]:=
 ⟨rfl,afM ⟨U.heap.size,1,#[.int .i64 n,.string s],rfl,hU,heap_alloc_new U _,afI _,by decide,rfl,rfl⟩⟩
theorem Zj(w:World)(b c:Nat)(a:Option Addr)(ps:List ByteArray)(T:ByteArray)(h4:ps.length<4)(h:w.heap[b]?=some (.cells #[.slice a ps.length c] 326 (0,0)))(ac:w.ownsRow 0 9 1 (.slice a ps.length c) ps.length (strs ps)):
  Calls Tryz.prog 291 #[ptr b,.string T] w fun e w'=>∃O,e=.returned O/\Ko w b (.slice a ps.length c) (ps++[T]) O w':=by
 obtain⟨i0,hi,ai,aj,ak⟩:=info_parts Ym;have c0:w.cell? ⟨b,0,none⟩=some (.slice a ps.length c):=cell_of h 0 _ rfl;have z0:w.frozen? ⟨b,0,none⟩=false:=open_list h;have hl:=lt_of_block h;have HP:Hid (∀{wz:World} {K':Value} {va0:Nat},(w.alloc (.cells #[.string T] 9)).grownBy wz (Value.slice a ps.length c).ownBlock->wz.ownsRow 0 9 1 K' (ps.length+1) (strs ps++[.string T])->(K'.ownBlock=(Value.slice a ps.length c).ownBlock\/K'.ownBlock=some va0)->w.heap.size<=va0->wz.cell? ⟨b,0,none⟩=some (.slice a ps.length c)/\wz.frozen? ⟨b,0,none⟩=false/\b<wz.heap.size/\Ko w b (.slice a ps.length c) (ps++[T]) (.slice (some ⟨wz.heap.size,0,none⟩) 1 1) ((wz.setCell ⟨b,0,none⟩ K').alloc (.cells #[.int .i64 ((ps.length:Int)+1),.string ⟨#[]⟩] 73))):=fun {wz K' va0} hg aa ad hva=>by
  obtain⟨r1,r2,r3,r4,r5⟩:=Rm h ac hg aa ad hva;have ag:(wz.setCell ⟨b,0,none⟩ K').heap.size=wz.heap.size:=by simp
  have al:=hg.size;simp only[World.size_alloc]at al;have ae:(ps++[T]).length=ps.length+1:=by simp
  refine⟨cell_of r1 0 _ rfl,open_list r1,lt_of_block r1,?_,⟨K',(Below.heap_alloc _ _ _ (by rw[ag];exact lt_of_block r1)).trans r2,by rw[ae];exact r3.alloc _,?_⟩,r4.alloc _⟩
  ·have:=row_in w (wz.setCell ⟨b,0,none⟩ K') (by rw[ag];omega) ((ps.length:Int)+1) ⟨#[]⟩;rw[ag]at this;rw[ae];exact this
  ·rcases ad with e|e
   ·exact afJ e
   ·refine afM ⟨va0,e,hva,?_⟩;have:=(World.ownsRow.lt aa va0 e).2;simp;omega
 have an:¬(4:Int)<((ps.length+1:Nat):Int):=by omega
 have e4:decide (((ps.length+1:Nat):Int) > 4)=false:=by simp;omega
 have ah:=Ac ac;clear h ac;go_enter Tryz.func291,Tryz.ntmps291;go_wp2_with (at_builtin;go_must (refine wpList_append_own_at _ rfl (.tmp 9) (.tmp 11) 36 rfl 0 9 i0 (.string ⟨#[]⟩) 1 16 Tryz.underlying36 hi ai aj ak rfl (by decide) (.slice a ps.length c) ps.length (strs ps) rfl ((Aa ah).alloc _) ⟨w.heap.size,0,none⟩ 1 1 [.string T] rfl rfl (Rf w T) (by simp[Value.oneCell']) (by unfold maxLen;omega) (by omega) (by omega) ?_))
 intro v' wz aa ab af ad;obtain⟨p1,p2,p3,p4⟩:=(Aa HP) ab aa ad (by omega);rcases aa.2 with ⟨q,_⟩|⟨g,cap,am,hv,_⟩
 ·exact absurd q af
 subst hv;have HQ:=Ac p4;clear p4 aa ab ad HP ah c0 z0 hl af hi ai aj ak;go_wp2;go_returns;exact⟨_,rfl,Aa HQ⟩
theorem Zi{cap:Nat}{ps:List ByteArray}(h4:ps.length=4)(h:w.heap[b]?=some (.cells #[K] 326 (0,0)))(ah:w.ownsRow 0 9 1 K 4 (strs ps))(hg:(w.alloc (.cells #[.string T] 9)).grownBy wz K.ownBlock)(ag:wz.ownsRow 0 9 1 (.slice (some ⟨g,0,none⟩) 5 cap) 5 (strs ps++[.string T]))(ae:some g=K.ownBlock\/some g=some (w.heap.size+1)):
  wz.cell? ⟨b,0,none⟩=some K/\wz.frozen? ⟨b,0,none⟩=false/\b<wz.heap.size/\Calls Tryz.prog 293 #[.slice (some ⟨g,0,none⟩) 5 cap,.int .i64 0,.int .i64 1] (wz.setCell ⟨b,0,none⟩ (.slice (some ⟨g,0,none⟩) 5 cap)) fun e w'=>e=.returned (.slice (some ⟨g,0,none⟩) 4 cap)/\w'.cell? ⟨b,0,none⟩=some (.slice (some ⟨g,0,none⟩) 5 cap)/\w'.frozen? ⟨b,0,none⟩=false/\b<w'.heap.size/\Ko w b K ((ps++[T]).drop 1) (.slice (some ⟨w'.heap.size,0,none⟩) 1 1) ((w'.setCell ⟨b,0,none⟩ (.slice (some ⟨g,0,none⟩) 4 cap)).alloc (.cells #[.int .i64 4,.string ⟨#[]⟩] 73)):=by
 obtain⟨r1,r2,r3,r4,r5⟩:=Rm (m:=4) (va0:=w.heap.size+1) (K':=.slice (some ⟨g,0,none⟩) 5 cap) h ah hg ag ae (by omega);have aj:g≠b:=fun e=>r5 (congrArg some e)
 have aq:=hg.size;simp only[World.size_alloc]at aq;have aw:(wz.setCell ⟨b,0,none⟩ (.slice (some ⟨g,0,none⟩) 5 cap)).heap.size=wz.heap.size:=by simp
 refine⟨cell_of r1 0 _ rfl,open_list r1,lt_of_block r1,?_⟩;rcases r3 with ⟨aA,⟨q,_⟩|⟨g',ao,ap,hv,_,hc,aB,an,az,ay⟩⟩
 ·cases q
 cases hv;have af:(ps++[T]).length=5:=by simp[h4]
 refine(XI _ g cap ap (ps++[T]) hc af (by omega) an (by omega) ay).mono ?_;rintro e w' ⟨rfl,⟨ad,ai,aC,ax⟩,hk⟩;have ac:w'.heap[b]?=some (.cells #[.slice (some ⟨g,0,none⟩) 5 cap] 326 (0,0)):=by
  rw[hk.block b (lt_of_block r2) (fun e=>aj e.symm)];exact r2
 have au:=hk.size;rw[aw]at au;have al:((ps++[T]).drop 1).length=4:=by simp[h4]
 have aa:(w'.setCell ⟨b,0,none⟩ (.slice (some ⟨g,0,none⟩) 4 cap)).heap.size=w'.heap.size:=by simp
 have am:=lt_of_block ac;have av:=lt_of_block ai;refine⟨rfl,cell_of ac 0 _ rfl,open_list ac,am,⟨?_,⟨.slice (some ⟨g,0,none⟩) 4 cap,?_,?_,?_⟩,?_⟩⟩
 ·have:=row_in w (w'.setCell ⟨b,0,none⟩ (.slice (some ⟨g,0,none⟩) 4 cap)) (by rw[aa];omega) 4 ⟨#[]⟩;rw[aa]at this;rw[al];exact this
 ·exact(Below.heap_alloc _ _ _ (by rw[aa];exact am)).trans (Ai (cs:=[.slice (some ⟨g,0,none⟩) 5 cap]) (off:=0) ac _)
 ·rw[al];refine⟨by simp[strs,h4],afM ⟨g,cap,ad,rfl,af8 _,?_,by omega,an,by omega,by simpa using ax⟩⟩;exact((Below.heap_alloc _ _ _ (by rw[aa];exact av)).trans (Below.heap_setCell _ _ _ _ aj)).trans ai
 ·rcases ae with e|e
  ·exact afJ e
  ·cases e;exact afM ⟨w.heap.size+1,rfl,by omega,by simp;omega⟩
 ·have ab:Af (fun k=>k=b\/K.ownBlock=some k) w w':=⟨hk.os.trans r4.os,hk.tape.trans r4.tape,hk.output.trans r4.output,agM r4.size hk.size,fun k ak ab=>by
   have ar:k≠g:=fun e=>by
    subst e;rcases ae with q|q
    ·exact ab (afM q.symm)
    ·cases q;omega
   rw[hk.block k (afT ak r4.size) ar];exact r4.block k ak ab⟩
  exact(ab.setCell (p:=⟨b,0,none⟩) (afJ (afJ rfl)) _).alloc _
theorem aeJ:∀args w,(callFunc 293 args).run Tryz.prog w=.ok (.enter 293 args) w:=fun _ _=>rfl
theorem Wo(w:World)(b c:Nat)(a:Option Addr)(ps:List ByteArray)(T:ByteArray)(h4:ps.length=4)(h:w.heap[b]?=some (.cells #[.slice a 4 c] 326 (0,0)))(ad:w.ownsRow 0 9 1 (.slice a 4 c) 4 (strs ps)):
  Calls Tryz.prog 291 #[ptr b,.string T] w fun e w'=>∃O,e=.returned O/\Ko w b (.slice a 4 c) ((ps++[T]).drop 1) O w':=by
 obtain⟨i0,hi,ag,ah,ai⟩:=info_parts Ym;have c0:w.cell? ⟨b,0,none⟩=some (.slice a 4 c):=cell_of h 0 _ rfl;have z0:w.frozen? ⟨b,0,none⟩=false:=open_list h;have hl:=lt_of_block h;have H4:=Ac h4;have al:4+1<=maxLen:=by decide
 have H0:=Ac h;have ae:=Ac ad;clear h ad h4;go_enter Tryz.func291,Tryz.ntmps291;go_wp2_with (at_builtin;go_must (refine wpList_append_own_at _ rfl (.tmp 9) (.tmp 11) 36 rfl 0 9 i0 (.string ⟨#[]⟩) 1 16 Tryz.underlying36 hi ag ah ai rfl (by decide) (.slice a 4 c) 4 (strs ps) rfl ((Aa ae).alloc _) ⟨w.heap.size,0,none⟩ 1 1 [.string T] rfl rfl (Rf w T) (by simp[Value.oneCell']) (by unfold maxLen;omega) (by omega) (by omega) ?_))
 intro v' wz ab aa ac af;rcases ab.2 with ⟨q,_⟩|⟨g,cap,ak,hv,_⟩
 ·exact absurd q ac
 subst hv;obtain⟨p1,p2,p3,p4⟩:=Zi (Aa H4) (Aa H0) (Aa ae) aa ab af;have HQ:=Ac p4;clear p4 ab aa af ae c0 z0 hl ac hi ag ah ai H0;go_wp2_with (go_at_call 293;refine(Aa HQ).mono ?_;rintro e w3 ⟨rfl,d0,z0,hl,hp⟩;have aj:=Ac hp;clear hp HQ p1 p2 p3)
 go_returns;exact⟨_,rfl,Aa aj⟩
def Cj(n:Nat)(ps:List ByteArray)(i:Nat):List V.It:=((n:Int),⟨#[]⟩) :: (ps.take i).map fun s=>(0,s)
theorem Lt(n:Nat)(ps:List ByteArray)(i:Nat)(s:ByteArray)(h:ps[i]?=some s):Cj n ps (i+1)=Cj n ps i++[(0,s)]:=by
 unfold Cj;rw[agH,h];simp
theorem Nv(n:Nat)(ps:List ByteArray)(i:Nat)(h:i<=ps.length):(Cj n ps i).length=i+1:=by simp[Cj,h]
theorem JY:∀v:List V.It,V.flat v=tab Dp v
 |[]=>rfl
 |x :: v=>by
  have:=JY v;simp only[tab,agI]at this ⊢;rw[V.flat,this];rfl
theorem Rh(w:World)(T:ByteArray)(j:Nat)(u:Value)(h:([.int .i64 0,.string T]:List Value)[j]?=some u):(w.alloc (.cells #[.int .i64 0,.string T] 73)).cell? ((⟨w.heap.size,0,none⟩:Addr).add j)=some u:=by
 rw[Addr.add_lit,agn,World.cell?_alloc_new w _ _ j,<-agj]at *;exact h
theorem WY(w:World)(b g cap L n:Nat)(ps:List ByteArray)(hL:ps.length=L)(h5:L<=4)(aw:L<=cap)(az:n<=L)(c0:w.cell? ⟨b,0,none⟩=some (.slice (some ⟨g,0,none⟩) L cap))(hg:g<w.heap.size)(ah:∀i s,ps[i]?=some s->w.cell? ⟨g,i,none⟩=some (.string s)):
  Calls Tryz.prog 292 #[ptr b,.int .i64 (n:Int)] w fun e w'=>∃O,e=.returned O/\V.Row w' w.heap.size O (Cj n ps n)/\Below w.heap.size w w':=by
 obtain⟨i0,hi,ar,au,av⟩:=info_parts Tw;have aj:=Ac ah;have HL:=Ac hL;have hl:=lt_of_cell c0;have e1:¬(L:Int)<(n:Int):=by omega
 have g1:(n:Int)<=(cap:Int):=by omega
 have g2:(0:Int)<=(n:Int):=by omega
 have HS:Hid ((w.alloc (.cells #[.int .i64 (n:Int),.string ⟨#[]⟩] 73)).ownsRow w.heap.size 73 2 (.slice (some ⟨w.heap.size,0,none⟩) 1 1) (0+1) (tab Dp (Cj n ps 0))):=
  World.ownsRow_lit (base:=w.heap.size) (e:=73) (size:=2) w #[.int .i64 (n:Int),.string ⟨#[]⟩] 1 (afI _) (by unfold maxLen;omega) rfl
 have HB:Hid (Below w.heap.size w (w.alloc (.cells #[.int .i64 (n:Int),.string ⟨#[]⟩] 73))):=(Below.refl _ _).alloc (afI _) _;clear ah hL;go_enter Tryz.func292,Tryz.ntmps292;go_wp2;go_loopw [6,26] (fun lv iv wr=>∃i:Nat,i<=n/\iv=.int .i64 i/\wr.ownsRow w.heap.size 73 2 lv (i+1) (tab Dp (Cj n ps i))/\Below w.heap.size w wr) (fun _ iv _=>n-(intOf iv).toNat)
 case atStart=>exact⟨0,af8 _,rfl,Aa HS,Aa HB⟩
 case round=>
  obtain⟨i,ax,rfl,aa,ac⟩:=hrel;by_cases ay:i<n
  ·have aq:=ac.size;obtain⟨s,hs⟩:∃s,ps[i]?=some s:=⟨ps[i]'(by have:=Aa HL;omega),afH _⟩;have d0:wr.cell? ⟨g,i,none⟩=some (.string s):=(ac.cell (p:=⟨g,i,none⟩) hg).trans ((Aa aj) i s hs);have ad:=fun q=>World.ownsRow.lt aa q
   obtain⟨la,lc,ag⟩:=AX aa;subst ag;have am:=Ac aa;have af:=Ac ac;have ak:=Ac ad;have an:=Ac hs;clear aa ac ad hs;go_wp2_with (at_builtin;go_must (refine wpList_append_own_at _ rfl (.tmp 30) (.tmp 33) 37 rfl w.heap.size 73 i0 (.agg #[.int .i64 0,.string ⟨#[]⟩]) 2 24 Tryz.underlying37 hi ar au av rfl (by decide) (.slice la (i+1) lc) (i+1) (tab Dp (Cj n ps i)) rfl (by exact(Aa am).alloc _) ⟨_,0,none⟩ 1 1 [.int .i64 0,.string s] rfl rfl (by exact Rh _ _) (by simp[Value.oneCell']) (by unfold maxLen;omega) (by omega) (by simp;omega) ?_;intro v' wz ae ab ap ao))
   have al:Hid (wz.ownsRow w.heap.size 73 2 v' (i+1+1) (tab Dp (Cj n ps (i+1)))):=by
    rw[Lt n ps i s (Aa an),EV];exact ae
   have ai:=Ac (((Aa af).alloc aq _).grown ab (by simp;omega) (fun q hq=>((Aa ak) q hq).1));clear ae ab ao;go_wp2;go_roundw
   case rel=>exact⟨i+1,by omega,by go_num,Aa al,Aa ai⟩
   case measure=>simp[intOf];omega
  ·obtain rfl:i=n:=by omega
   obtain⟨la,lc,ag⟩:=AX aa;have HI:Hid (V.Row wr w.heap.size u6 (Cj i ps i)):=by
    unfold V.Row;rw[Nv i ps i (by have:=Aa HL;omega),JY];exact aa
   have af:=Ac ac;subst ag;clear aa ac;go_wp2;go_returns;exact⟨_,rfl,Aa HI,Aa af⟩
theorem ZN(w:World)(b g cap L n:Nat)(most:Int)(ps:List ByteArray)(hL:ps.length=L)(h5:L<=4)(ax:L<=cap)(hn:(L:Int)<most)(ap:n=L)(c0:w.cell? ⟨b,0,none⟩=some (.slice (some ⟨g,0,none⟩) L cap))(hg:g<w.heap.size)(ah:∀i s,ps[i]?=some s->w.cell? ⟨g,i,none⟩=some (.string s)):
  Calls Tryz.prog 292 #[ptr b,.int .i64 most] w fun e w'=>∃O,e=.returned O/\V.Row w' w.heap.size O (Cj n ps n)/\Below w.heap.size w w':=by
 obtain⟨i0,hi,au,av,aw⟩:=info_parts Tw;subst ap;have aj:=Ac ah;have HL:=Ac hL;have hl:=lt_of_cell c0;have g1:(n:Int)<=(cap:Int):=by omega
 have g2:(0:Int)<=(n:Int):=by omega
 have HS:Hid ((w.alloc (.cells #[.int .i64 (n:Int),.string ⟨#[]⟩] 73)).ownsRow w.heap.size 73 2 (.slice (some ⟨w.heap.size,0,none⟩) 1 1) (0+1) (tab Dp (Cj n ps 0))):=
  World.ownsRow_lit (base:=w.heap.size) (e:=73) (size:=2) w #[.int .i64 (n:Int),.string ⟨#[]⟩] 1 (afI _) (by unfold maxLen;omega) rfl
 have HB:Hid (Below w.heap.size w (w.alloc (.cells #[.int .i64 (n:Int),.string ⟨#[]⟩] 73))):=(Below.refl _ _).alloc (afI _) _;clear ah hL;go_enter Tryz.func292,Tryz.ntmps292;go_wp2;go_loopw [6,26] (fun lv iv wr=>∃i:Nat,i<=n/\iv=.int .i64 i/\wr.ownsRow w.heap.size 73 2 lv (i+1) (tab Dp (Cj n ps i))/\Below w.heap.size w wr) (fun _ iv _=>n-(intOf iv).toNat)
 case atStart=>exact⟨0,af8 _,rfl,Aa HS,Aa HB⟩
 case round=>
  obtain⟨i,ay,rfl,aa,ac⟩:=hrel;by_cases az:i<n
  ·have ar:=ac.size;obtain⟨s,hs⟩:∃s,ps[i]?=some s:=⟨ps[i]'(by have:=Aa HL;omega),afH _⟩;have d0:wr.cell? ⟨g,i,none⟩=some (.string s):=(ac.cell (p:=⟨g,i,none⟩) hg).trans ((Aa aj) i s hs);have ad:=fun q=>World.ownsRow.lt aa q
   obtain⟨la,lc,ag⟩:=AX aa;subst ag;have am:=Ac aa;have af:=Ac ac;have ak:=Ac ad;have an:=Ac hs;clear aa ac ad hs;go_wp2_with (at_builtin;go_must (refine wpList_append_own_at _ rfl (.tmp 30) (.tmp 33) 37 rfl w.heap.size 73 i0 (.agg #[.int .i64 0,.string ⟨#[]⟩]) 2 24 Tryz.underlying37 hi au av aw rfl (by decide) (.slice la (i+1) lc) (i+1) (tab Dp (Cj n ps i)) rfl (by exact(Aa am).alloc _) ⟨_,0,none⟩ 1 1 [.int .i64 0,.string s] rfl rfl (by exact Rh _ _) (by simp[Value.oneCell']) (by unfold maxLen;omega) (by omega) (by simp;omega) ?_;intro v' wz ae ab aq ao))
   have al:Hid (wz.ownsRow w.heap.size 73 2 v' (i+1+1) (tab Dp (Cj n ps (i+1)))):=by
    rw[Lt n ps i s (Aa an),EV];exact ae
   have ai:=Ac (((Aa af).alloc ar _).grown ab (by simp;omega) (fun q hq=>((Aa ak) q hq).1));clear ae ab ao;go_wp2;go_roundw
   case rel=>exact⟨i+1,by omega,by go_num,Aa al,Aa ai⟩
   case measure=>simp[intOf];omega
  ·obtain rfl:i=n:=by omega
   obtain⟨la,lc,ag⟩:=AX aa;have HI:Hid (V.Row wr w.heap.size u6 (Cj i ps i)):=by
    unfold V.Row;rw[Nv i ps i (by have:=Aa HL;omega),JY];exact aa
   have af:=Ac ac;subst ag;clear aa ac;go_wp2;go_returns;exact⟨_,rfl,Aa HI,Aa af⟩
end Go.Proofs.YtblomippkddgiabGreatDoor
