import Derived.Test.YtblomippkddgiaaGreatDoorJ44
import Derived.Test.YtblomippkddgiaaGreatDoorJ17
import Derived.Test.YtblomippkddgiaaGreatDoorJ33
import Derived.Test.YtblomippkddgiaaGreatDoorJ13
set_option maxRecDepth 100000
set_option maxHeartbeats 2000000
namespace Go.Proofs.YtblomippkddgiaaGreatDoor
open Go.RowKit
theorem aoL:(Tryz.prog.info? 9).map (fun i=>(i.zero,i.size,i.bytes))=some (some (.string ⟨#[]⟩),1,16):=by kernel_rfl
theorem aqp(w:World):(zeroValue 9).run Tryz.prog w=.ok (.string ⟨#[]⟩) w:=by kernel_rfl
theorem amc(l:List ByteArray):∀u∈strs l,u.oneCell'=true:=by
 intro u hu
 obtain⟨x,_,rfl⟩:=List.mem_map.1 hu
 rfl
theorem anJ(w:World)(g cap:Nat)(cur:Array Value)(ps:List ByteArray)(hg:w.heap[g]?=some (.cells cur 9 (0,0)))(hn:ps.length=5)(hcap:5≤cap)(hm:cap≤maxLen)(hsz:cur.size=cap)(htk:cur.toList.take 5=strs ps) :
  Calls Tryz.prog 293 #[.slice (some ⟨g,0,none⟩) 5 cap,.int .i64 0,.int .i64 1] w fun e w'=>e=.returned (.slice (some ⟨g,0,none⟩) 4 cap)∧(∃cur':Array Value,w'.heap[g]?=some (.cells cur' 9 (0,0))∧cur'.size=cap∧cur'.toList.take 4=strs (ps.drop 1))∧Keeps (fun k=>k=g) w w':=by
 obtain⟨i0,hi0,hz0,hz1,hz2⟩:=info_parts aoL
 have hlen:cur.toList.length=cap:=by rw[Array.length_toList];exact hsz
 obtain⟨NW,hNW⟩:∃NW,NW=strs (ps.drop 1):=⟨_,rfl⟩
 have hNl:NW.length=4:=by rw[hNW];simp[strs,hn]
 obtain⟨C1,hC1⟩:∃C1,C1=cur.toList.take 0++NW++cur.toList.drop (0+NW.length):=⟨_,rfl⟩
 have hC1l:C1.length=cap:=by rw[hC1];simp[hNl,hsz];omega
 obtain⟨W1,hW1⟩:∃W1,W1=w.drew.setRow g C1.toArray:=⟨_,rfl⟩
 have g1:W1.heap[g]?=some (.cells C1.toArray 9 (0,0)):=by rw[hW1];exact acI (w:=w.drew) hg
 obtain⟨W2,hW2⟩:∃W2,W2=W1.setRow g (C1.take 4++[Value.string ⟨#[]⟩]++C1.drop (4+1)).toArray:=⟨_,rfl⟩
 have g2:W2.heap[g]?=some (.cells (C1.take 4++[Value.string ⟨#[]⟩]++C1.drop (4+1)).toArray 9 (0,0)):=by rw[hW2];exact acI g1
 have HK:Hid (Keeps (fun k=>k=g) w W2):=by
  rw[hW2,hW1]
  have k0:Keeps (fun k=>k=g) w w.drew:=(Keeps.refl _ w).drew
  exact(k0.trans (aby _ _ _)).trans (aby _ _ _)
 have hC14:C1.take 4=NW:=by
  rw[hC1,List.take_zero,List.nil_append,List.take_append_of_le_length (by omega),List.take_of_length_le (by omega)]
 have HE:Hid (∃cur':Array Value,W2.heap[g]?=some (.cells cur' 9 (0,0))∧cur'.size=cap∧cur'.toList.take 4=strs (ps.drop 1)):=by
  refine⟨_,g2,by simp[hC1l];omega,?_⟩
  simp only[hC14,List.append_assoc]
  rw[List.take_append_of_le_length (by omega),List.take_of_length_le (by omega),hNW]
 have hsrc:∀j u,NW[j]?=some u→w.drew.cell? ((⟨g,1,none⟩:Addr).add j)=some u:=fun j u hj=>by
  have hj':(strs ps)[1+j]?=some u:=by
   rw[hNW]at hj
   unfold strs at hj ⊢
   rw[List.getElem?_map,List.getElem?_drop]at hj
   rw[List.getElem?_map]
   exact hj
  rw[←htk,List.getElem?_take]at hj'
  split at hj'
  ·rw[Addr.add_lit]
   have:w.drew.heap[g]?=some (.cells cur 9 (0,0)):=hg
   simp[World.cell?,this]
   simpa using hj'
  ·cases hj'
 have HA:Hid (∀c,(Builtin.append_ #[222,222] 222 #[.slice (some ⟨g,0,none⟩) 0 cap,.slice (some ⟨g,1,none⟩) 4 c]).run Tryz.prog w.drew=.ok (.slice (some ⟨g,0,none⟩) 4 cap) W1):=fun c=>by
  have h:=run_append_room (P:=Tryz.prog) w.drew 222 222 9 i0 Tryz.underlying222 hi0 g 0 cap cur hg ⟨g,1,none⟩ 4 c NW (by rw[hNl,hz1]) hsrc (fun u hu=>amc _ u (hNW ▸ hu)) (by omega) (by rw[hz1,hNl,hsz];omega)
  rw[hz1]at h
  rw[h,hW1,hC1]
 have HC:Hid (∀ty c,(Builtin.clear_ #[222] ty #[.slice (some ⟨g,4,none⟩) 1 c]).run Tryz.prog W1=.ok (.tuple #[]) W2):=fun ty c=>by
  have h:=acJ (ty:=ty) (off:=4) Tryz.underlying222 aqp (by simp[Value.cells,Value.oneCell']) g1 (by simp[Value.cells,hC1l];omega) c
  rw[h,hW2]
  simp[Value.cells]
 unfold maxLen at hm
 clear hNW hC1 hW1 hW2 g1 g2 hsrc hg htk hsz hn hC14 hC1l hNl hlen
 have b1:(5:Int)≤(cap:Int):=by omega
 have b2:¬cap=1:=by omega
 have b3:(1:Int)≤(cap:Int):=by omega
 have b4:(0:Int)≤(cap:Int):=by omega
 go_enter Tryz.func293,Tryz.ntmps293
 go_wp2
 go_region_law (refine abr rfl (.tmp 22) (.tmp 25) 222 rfl (.slice (some ⟨g,0,none⟩) 0 cap) (.slice (some ⟨g,1,none⟩) 4 (cap-1)) (.slice (some ⟨g,0,none⟩) 4 cap) W1 rfl rfl ((unhide HA) _) ?_)
 all_goals
  have hclr:=(unhide HC)
  go_wp2
  go_ret
  exact⟨rfl,unhide HE,unhide HK⟩
theorem agY(l:List R.En)(e:R.En):R.postedP (l++[e])=if e.proc=0 then (if (R.postedP l).length<4 then R.postedP l++[R.argS e.arg 0] else (R.postedP l++[R.argS e.arg 0]).drop 1) else R.postedP l:=by
 unfold R.postedP
 simp only[List.filter_append,List.map_append]
 by_cases h:e.proc=0
 ·rw[if_pos h]
  have e1:List.filter (fun e=>decide (e.proc=0)) [e]=[e]:=by simp[h]
  rw[e1,List.map_cons,List.map_nil]
  generalize (l.filter fun e=>decide (e.proc=0)).map (fun e=>R.argS e.arg 0)=out
  rw[List.length_append,List.length_drop,List.length_singleton]
  by_cases h4:out.length<4
  ·rw[if_pos (by omega),show out.length+1-4=0 by omega,show out.length-4=0 by omega,List.drop_zero,List.drop_zero]
  ·rw[if_neg (by omega),List.drop_append_of_le_length (by omega),List.drop_append_of_le_length (by rw[List.length_drop];omega),List.drop_drop]
   congr 2
   omega
 ·rw[if_neg h]
  have e1:List.filter (fun e=>decide (e.proc=0)) [e]=[]:=by simp[h]
  rw[e1,List.map_nil,List.append_nil]
structure Posted(w:World)(b:Nat)(K:Value)(ps:List ByteArray)(O:Value)(w':World):Prop where
 row:V.Row w' w.heap.size O [((ps.length:Int),⟨#[]⟩)]
 cell:∃K',w'.heap[b]?=some (.cells #[K'] 333 (0,0))∧w'.ownsRow 0 9 1 K' ps.length (strs ps)∧(K'.ownBlock=K.ownBlock∨∃j,K'.ownBlock=some j∧w.heap.size≤j∧j<w'.heap.size)
 keep:Keeps (fun k=>k=b∨K.ownBlock=some k) w w'
theorem ahY{w wz:World}{b m va0:Nat}{K K':Value}{ps:List ByteArray}{T:ByteArray}(h:w.heap[b]?=some (.cells #[K] 333 (0,0)))(hrow:w.ownsRow 0 9 1 K m (strs ps))(hg:(w.alloc (.cells #[.string T] 9)).grownBy wz K.ownBlock)(hown:wz.ownsRow 0 9 1 K' (m+1) (strs ps++[.string T]))(hat:K'.ownBlock=K.ownBlock∨K'.ownBlock=some va0)(hva:w.heap.size≤va0) :
  wz.heap[b]?=some (.cells #[K] 333 (0,0))∧(wz.setCell ⟨b,0,none⟩ K').heap[b]?=some (.cells #[K'] 333 (0,0))∧(wz.setCell ⟨b,0,none⟩ K').ownsRow 0 9 1 K' (m+1) (strs (ps++[T]))∧Keeps (fun k=>k=b∨K.ownBlock=some k) w (wz.setCell ⟨b,0,none⟩ K')∧K'.ownBlock≠some b:=by
 have hl:=lt_of_block h
 have hnK:K.ownBlock≠some b:=aao hrow h (by decide)
 have hnK':K'.ownBlock≠some b:=by
  rcases hat with e|e
  ·rw[e];exact hnK
  ·rw[e]
   intro q
   cases q
   omega
 have hzb:wz.heap[b]?=some (.cells #[K] 333 (0,0)):=by
  rw[hg.block b (by simp;omega) (fun e=>hnK e.symm)]
  exact(Below.heap_alloc _ _ _ hl).trans h
 have hs:strs (ps++[T])=strs ps++[.string T]:=by simp[strs]
 refine⟨hzb,aad (cs:=[K]) (off:=0) hzb K',?_,?_,hnK'⟩
 ·rw[hs]
  exact acj hown (fun g hg'=>Below.heap_setCell _ _ _ _ (fun e=>hnK' (by rw[hg'];exact congrArg some e)))
 ·have hk0:Keeps (fun k=>k=b∨K.ownBlock=some k) w (w.alloc (.cells #[.string T] 9)):=(Keeps.refl _ w).alloc _
  exact(hk0.grown hg (fun k hk=>Or.inl (Or.inr hk))).setCell (p:=⟨b,0,none⟩) (Or.inl (Or.inl rfl)) _
theorem ah1(w:World)(T:ByteArray)(j:Nat)(u:Value)(h:([.string T]:List Value)[j]?=some u):(w.alloc (.cells #[.string T] 9)).cell? ((⟨w.heap.size,0,none⟩:Addr).add j)=some u:=by
 rw[Addr.add_lit,Nat.zero_add,World.cell?_alloc_new w _ _ j,←List.getElem?_toArray]at *
 exact h
theorem ako(w U:World)(hU:w.heap.size≤U.heap.size)(n:Int)(s:ByteArray):V.Row (U.alloc (.cells #[.int .i64 n,.string s] 106)) w.heap.size (.slice (some ⟨U.heap.size,0,none⟩) 1 1) [(n,s)]:=
 ⟨rfl,Or.inr ⟨U.heap.size,1,#[.int .i64 n,.string s],rfl,hU,heap_alloc_new U _,Nat.le_refl _,by decide,rfl,rfl⟩⟩
theorem amD(w:World)(b c:Nat)(a:Option Addr)(ps:List ByteArray)(T:ByteArray)(h4:ps.length<4)(h:w.heap[b]?=some (.cells #[.slice a ps.length c] 333 (0,0)))(hrow:w.ownsRow 0 9 1 (.slice a ps.length c) ps.length (strs ps)) :
  Calls Tryz.prog 291 #[ptr b,.string T] w fun e w'=>∃O,e=.returned O∧Posted w b (.slice a ps.length c) (ps++[T]) O w':=by
 obtain⟨i0,hi,hz0,hz1,hz2⟩:=info_parts aoL
 have c0:w.cell? ⟨b,0,none⟩=some (.slice a ps.length c):=aaa h 0 _ rfl
 have z0:w.frozen? ⟨b,0,none⟩=false:=aac h
 have hl:=lt_of_block h
 have HP:Hid (∀{wz:World} {K':Value} {va0:Nat},(w.alloc (.cells #[.string T] 9)).grownBy wz (Value.slice a ps.length c).ownBlock→wz.ownsRow 0 9 1 K' (ps.length+1) (strs ps++[.string T])→(K'.ownBlock=(Value.slice a ps.length c).ownBlock∨K'.ownBlock=some va0)→w.heap.size≤va0→wz.cell? ⟨b,0,none⟩=some (.slice a ps.length c)∧wz.frozen? ⟨b,0,none⟩=false∧b<wz.heap.size∧Posted w b (.slice a ps.length c) (ps++[T]) (.slice (some ⟨wz.heap.size,0,none⟩) 1 1) ((wz.setCell ⟨b,0,none⟩ K').alloc (.cells #[.int .i64 ((ps.length:Int)+1),.string ⟨#[]⟩] 106))):=fun {wz K' va0} hg hown hat hva=>by
  obtain⟨r1,r2,r3,r4,r5⟩:=ahY h hrow hg hown hat hva
  have hsz:(wz.setCell ⟨b,0,none⟩ K').heap.size=wz.heap.size:=by simp
  have hgs:=hg.size
  simp only[World.size_alloc]at hgs
  have hlen:(ps++[T]).length=ps.length+1:=by simp
  refine⟨aaa r1 0 _ rfl,aac r1,lt_of_block r1,?_,⟨K',(Below.heap_alloc _ _ _ (by rw[hsz];exact lt_of_block r1)).trans r2,by rw[hlen];exact r3.alloc _,?_⟩,r4.alloc _⟩
  ·have:=ako w (wz.setCell ⟨b,0,none⟩ K') (by rw[hsz];omega) ((ps.length:Int)+1) ⟨#[]⟩
   rw[hsz]at this
   rw[hlen]
   exact this
  ·rcases hat with e|e
   ·exact Or.inl e
   ·refine Or.inr ⟨va0,e,hva,?_⟩
    have:=(World.ownsRow.lt hown va0 e).2
    simp
    omega
 have hg4:¬(4:Int)<((ps.length+1:Nat):Int):=by omega
 have e4:decide (((ps.length+1:Nat):Int) > 4)=false:=by simp;omega
 have HRW:=aab hrow
 clear h hrow
 go_enter Tryz.func291,Tryz.ntmps291
 go_wp2_with (at_builtin;go_must (refine wpList_append_own_at _ rfl (.tmp 9) (.tmp 11) 222 rfl 0 9 i0 (.string ⟨#[]⟩) 1 16 Tryz.underlying222 hi hz0 hz1 hz2 rfl (by decide) (.slice a ps.length c) ps.length (strs ps) rfl ((unhide HRW).alloc _) ⟨w.heap.size,0,none⟩ 1 1 [.string T] rfl rfl (ah1 w T) (by simp[Value.oneCell']) (by unfold maxLen;omega) (by omega) (by omega) ?_))
 intro v' wz hown hgrow hnil hat
 obtain⟨p1,p2,p3,p4⟩:=(unhide HP) hgrow hown hat (by omega)
 rcases hown.2 with ⟨q,_⟩|⟨g,cap,cur,hv,_⟩
 ·exact absurd q hnil
 subst hv
 have HQ:=aab p4
 clear p4 hown hgrow hat HP HRW c0 z0 hl hnil hi hz0 hz1 hz2
 go_wp2
 go_returns
 exact⟨_,rfl,unhide HQ⟩
theorem amE{w wz:World}{b g cap:Nat}{K:Value}{ps:List ByteArray}{T:ByteArray}(h4:ps.length=4)(h:w.heap[b]?=some (.cells #[K] 333 (0,0)))(hrow:w.ownsRow 0 9 1 K 4 (strs ps))(hg:(w.alloc (.cells #[.string T] 9)).grownBy wz K.ownBlock)(hown:wz.ownsRow 0 9 1 (.slice (some ⟨g,0,none⟩) 5 cap) 5 (strs ps++[.string T]))(hat:some g=K.ownBlock∨some g=some (w.heap.size+1)) :
  wz.cell? ⟨b,0,none⟩=some K∧wz.frozen? ⟨b,0,none⟩=false∧b<wz.heap.size∧Calls Tryz.prog 293 #[.slice (some ⟨g,0,none⟩) 5 cap,.int .i64 0,.int .i64 1] (wz.setCell ⟨b,0,none⟩ (.slice (some ⟨g,0,none⟩) 5 cap)) fun e w'=>e=.returned (.slice (some ⟨g,0,none⟩) 4 cap)∧w'.cell? ⟨b,0,none⟩=some (.slice (some ⟨g,0,none⟩) 5 cap)∧w'.frozen? ⟨b,0,none⟩=false∧b<w'.heap.size∧Posted w b K ((ps++[T]).drop 1) (.slice (some ⟨w'.heap.size,0,none⟩) 1 1) ((w'.setCell ⟨b,0,none⟩ (.slice (some ⟨g,0,none⟩) 4 cap)).alloc (.cells #[.int .i64 4,.string ⟨#[]⟩] 106)):=by
 obtain⟨r1,r2,r3,r4,r5⟩:=ahY (m:=4) (va0:=w.heap.size+1) (K':=.slice (some ⟨g,0,none⟩) 5 cap) h hrow hg hown hat (by omega)
 have hgb:g≠b:=fun e=>r5 (congrArg some e)
 have hgs:=hg.size
 simp only[World.size_alloc]at hgs
 have hsz:(wz.setCell ⟨b,0,none⟩ (.slice (some ⟨g,0,none⟩) 5 cap)).heap.size=wz.heap.size:=by simp
 refine⟨aaa r1 0 _ rfl,aac r1,lt_of_block r1,?_⟩
 rcases r3 with ⟨hl3,⟨q,_⟩|⟨g',cap',cur,hv,_,hc,hle,hmx,hcs,htk⟩⟩
 ·cases q
 cases hv
 have hlen:(ps++[T]).length=5:=by simp[h4]
 refine(anJ _ g cap cur (ps++[T]) hc hlen (by omega) hmx (by omega) htk).mono ?_
 rintro e w' ⟨rfl,⟨cur',hc',hs',ht'⟩,hk⟩
 have hwb:w'.heap[b]?=some (.cells #[.slice (some ⟨g,0,none⟩) 5 cap] 333 (0,0)):=by
  rw[hk.block b (lt_of_block r2) (fun e=>hgb e.symm)]
  exact r2
 have hks:=hk.size
 rw[hsz]at hks
 have hl4:((ps++[T]).drop 1).length=4:=by simp[h4]
 have hsz2:(w'.setCell ⟨b,0,none⟩ (.slice (some ⟨g,0,none⟩) 4 cap)).heap.size=w'.heap.size:=by simp
 have hlb:=lt_of_block hwb
 have hlg:=lt_of_block hc'
 refine⟨rfl,aaa hwb 0 _ rfl,aac hwb,hlb,⟨?_,⟨.slice (some ⟨g,0,none⟩) 4 cap,?_,?_,?_⟩,?_⟩⟩
 ·have:=ako w (w'.setCell ⟨b,0,none⟩ (.slice (some ⟨g,0,none⟩) 4 cap)) (by rw[hsz2];omega) 4 ⟨#[]⟩
  rw[hsz2]at this
  rw[hl4]
  exact this
 ·exact(Below.heap_alloc _ _ _ (by rw[hsz2];exact hlb)).trans (aad (cs:=[.slice (some ⟨g,0,none⟩) 5 cap]) (off:=0) hwb _)
 ·rw[hl4]
  refine⟨by simp[strs,h4],Or.inr ⟨g,cap,cur',rfl,Nat.zero_le _,?_,by omega,hmx,by omega,by simpa using ht'⟩⟩
  exact((Below.heap_alloc _ _ _ (by rw[hsz2];exact hlg)).trans (Below.heap_setCell _ _ _ _ hgb)).trans hc'
 ·rcases hat with e|e
  ·exact Or.inl e
  ·cases e
   exact Or.inr ⟨w.heap.size+1,rfl,by omega,by simp;omega⟩
 ·have hk2:Keeps (fun k=>k=b∨K.ownBlock=some k) w w':=⟨hk.os.trans r4.os,hk.tape.trans r4.tape,hk.output.trans r4.output,Nat.le_trans r4.size hk.size,fun k hk1 hk2=>by
   have hkg:k≠g:=fun e=>by
    subst e
    rcases hat with q|q
    ·exact hk2 (Or.inr q.symm)
    ·cases q
     omega
   rw[hk.block k (Nat.lt_of_lt_of_le hk1 r4.size) hkg]
   exact r4.block k hk1 hk2⟩
  exact(hk2.setCell (p:=⟨b,0,none⟩) (Or.inl (Or.inl rfl)) _).alloc _
theorem akF(w:World)(b c:Nat)(a:Option Addr)(ps:List ByteArray)(T:ByteArray)(h4:ps.length=4)(h:w.heap[b]?=some (.cells #[.slice a 4 c] 333 (0,0)))(hrow:w.ownsRow 0 9 1 (.slice a 4 c) 4 (strs ps)) :
  Calls Tryz.prog 291 #[ptr b,.string T] w fun e w'=>∃O,e=.returned O∧Posted w b (.slice a 4 c) ((ps++[T]).drop 1) O w':=by
 obtain⟨i0,hi,hz0,hz1,hz2⟩:=info_parts aoL
 have c0:w.cell? ⟨b,0,none⟩=some (.slice a 4 c):=aaa h 0 _ rfl
 have z0:w.frozen? ⟨b,0,none⟩=false:=aac h
 have hl:=lt_of_block h
 have H4:=aab h4
 have hn1:4+1≤maxLen:=by decide
 have H0:=aab h
 have HRW:=aab hrow
 clear h hrow h4
 go_enter Tryz.func291,Tryz.ntmps291
 go_wp2_with (at_builtin;go_must (refine wpList_append_own_at _ rfl (.tmp 9) (.tmp 11) 222 rfl 0 9 i0 (.string ⟨#[]⟩) 1 16 Tryz.underlying222 hi hz0 hz1 hz2 rfl (by decide) (.slice a 4 c) 4 (strs ps) rfl ((unhide HRW).alloc _) ⟨w.heap.size,0,none⟩ 1 1 [.string T] rfl rfl (ah1 w T) (by simp[Value.oneCell']) (by unfold maxLen;omega) (by omega) (by omega) ?_))
 intro v' wz hown hgrow hnil hat
 rcases hown.2 with ⟨q,_⟩|⟨g,cap,cur,hv,_⟩
 ·exact absurd q hnil
 subst hv
 obtain⟨p1,p2,p3,p4⟩:=amE (unhide H4) (unhide H0) (unhide HRW) hgrow hown hat
 have HQ:=aab p4
 clear p4 hown hgrow hat HRW c0 z0 hl hnil hi hz0 hz1 hz2 H0
 go_wp2_with (go_at_call 293;refine(unhide HQ).mono ?_;rintro e w3 ⟨rfl,d0,z0,hl,hp⟩;have HQ2:=aab hp;clear hp HQ p1 p2 p3)
 go_returns
 exact⟨_,rfl,unhide HQ2⟩
def aaL(n:Nat)(ps:List ByteArray)(i:Nat):List V.It:=((n:Int),⟨#[]⟩) :: (ps.take i).map fun s=>(0,s)
theorem adU(n:Nat)(ps:List ByteArray)(i:Nat)(s:ByteArray)(h:ps[i]?=some s):aaL n ps (i+1)=aaL n ps i++[(0,s)]:=by
 unfold aaL
 rw[List.take_add_one,h]
 simp
theorem aeH(n:Nat)(ps:List ByteArray)(i:Nat)(h:i≤ps.length):(aaL n ps i).length=i+1:=by simp[aaL,h]
theorem adI:∀v:List V.It,V.flat v=tab abd v
 |[]=>rfl
 |x :: v=>by
  have:=adI v
  simp only[tab,List.flatMap_cons]at this ⊢
  rw[V.flat,this]
  rfl
theorem ah0(w:World)(T:ByteArray)(j:Nat)(u:Value)(h:([.int .i64 0,.string T]:List Value)[j]?=some u):(w.alloc (.cells #[.int .i64 0,.string T] 106)).cell? ((⟨w.heap.size,0,none⟩:Addr).add j)=some u:=by
 rw[Addr.add_lit,Nat.zero_add,World.cell?_alloc_new w _ _ j,←List.getElem?_toArray]at *
 exact h
theorem aj7(w:World)(b g cap L n:Nat)(ps:List ByteArray)(hL:ps.length=L)(h5:L≤4)(hLc:L≤cap)(hnL:n≤L)(c0:w.cell? ⟨b,0,none⟩=some (.slice (some ⟨g,0,none⟩) L cap))(hg:g<w.heap.size)(hcs:∀i s,ps[i]?=some s→w.cell? ⟨g,i,none⟩=some (.string s)) :
  Calls Tryz.prog 292 #[ptr b,.int .i64 (n:Int)] w fun e w'=>∃O,e=.returned O∧V.Row w' w.heap.size O (aaL n ps n)∧Below w.heap.size w w':=by
 obtain⟨i0,hi,hz0,hz1,hz2⟩:=info_parts ak6
 have HCS:=aab hcs
 have HL:=aab hL
 have hl:=lt_of_cell c0
 have e1:¬(L:Int)<(n:Int):=by omega
 have g1:(n:Int)≤(cap:Int):=by omega
 have g2:(0:Int)≤(n:Int):=by omega
 have HS:Hid ((w.alloc (.cells #[.int .i64 (n:Int),.string ⟨#[]⟩] 106)).ownsRow w.heap.size 106 2 (.slice (some ⟨w.heap.size,0,none⟩) 1 1) (0+1) (tab abd (aaL n ps 0))):=
  World.ownsRow_lit (base:=w.heap.size) (e:=106) (size:=2) w #[.int .i64 (n:Int),.string ⟨#[]⟩] 1 (Nat.le_refl _) (by unfold maxLen;omega) rfl
 have HB:Hid (Below w.heap.size w (w.alloc (.cells #[.int .i64 (n:Int),.string ⟨#[]⟩] 106))):=(Below.refl _ _).alloc (Nat.le_refl _) _
 clear hcs hL
 go_enter Tryz.func292,Tryz.ntmps292
 go_wp2
 go_loopw [6,26] (fun lv iv wr=>∃i:Nat,i≤n∧iv=.int .i64 i∧wr.ownsRow w.heap.size 106 2 lv (i+1) (tab abd (aaL n ps i))∧Below w.heap.size w wr) (fun _ iv _=>n-(intOf iv).toNat)
 case atStart=>exact⟨0,Nat.zero_le _,rfl,unhide HS,unhide HB⟩
 case round=>
  obtain⟨i,hin,rfl,hrow,hbl⟩:=hrel
  by_cases hlt:i<n
  ·have hsz:=hbl.size
   obtain⟨s,hs⟩:∃s,ps[i]?=some s:=⟨ps[i]'(by have:=unhide HL;omega),List.getElem?_eq_getElem _⟩
   have d0:wr.cell? ⟨g,i,none⟩=some (.string s):=(hbl.cell (p:=⟨g,i,none⟩) hg).trans ((unhide HCS) i s hs)
   have hlts:=fun q=>World.ownsRow.lt hrow q
   obtain⟨la,lc,hls⟩:=aas hrow
   subst hls
   have HRW:=aab hrow
   have HBL:=aab hbl
   have HLT:=aab hlts
   have HSS:=aab hs
   clear hrow hbl hlts hs
   go_wp2_with (at_builtin;go_must (refine wpList_append_own_at _ rfl (.tmp 30) (.tmp 33) 44 rfl w.heap.size 106 i0 (.agg #[.int .i64 0,.string ⟨#[]⟩]) 2 24 Tryz.underlying44 hi hz0 hz1 hz2 rfl (by decide) (.slice la (i+1) lc) (i+1) (tab abd (aaL n ps i)) rfl (by exact(unhide HRW).alloc _) ⟨_,0,none⟩ 1 1 [.int .i64 0,.string s] rfl rfl (by exact ah0 _ _) (by simp[Value.oneCell']) (by unfold maxLen;omega) (by omega) (by simp;omega) ?_;intro v' wz hown hgrow hnil hat))
   have HRN:Hid (wz.ownsRow w.heap.size 106 2 v' (i+1+1) (tab abd (aaL n ps (i+1)))):=by
    rw[adU n ps i s (unhide HSS),abQ]
    exact hown
   have HBN:=aab (((unhide HBL).alloc hsz _).grown hgrow (by simp;omega) (fun q hq=>((unhide HLT) q hq).1))
   clear hown hgrow hat
   go_wp2
   go_roundw
   case rel=>exact⟨i+1,by omega,by go_num,unhide HRN,unhide HBN⟩
   case measure=>simp[intOf];omega
  ·obtain rfl:i=n:=by omega
   obtain⟨la,lc,hls⟩:=aas hrow
   have HI:Hid (V.Row wr w.heap.size u6 (aaL i ps i)):=by
    unfold V.Row
    rw[aeH i ps i (by have:=unhide HL;omega),adI]
    exact hrow
   have HBL:=aab hbl
   subst hls
   clear hrow hbl
   go_wp2
   go_returns
   exact⟨_,rfl,unhide HI,unhide HBL⟩
theorem amk(w:World)(b g cap L n:Nat)(most:Int)(ps:List ByteArray)(hL:ps.length=L)(h5:L≤4)(hLc:L≤cap)(hn:(L:Int)<most)(hnL:n=L)(c0:w.cell? ⟨b,0,none⟩=some (.slice (some ⟨g,0,none⟩) L cap))(hg:g<w.heap.size)(hcs:∀i s,ps[i]?=some s→w.cell? ⟨g,i,none⟩=some (.string s)) :
  Calls Tryz.prog 292 #[ptr b,.int .i64 most] w fun e w'=>∃O,e=.returned O∧V.Row w' w.heap.size O (aaL n ps n)∧Below w.heap.size w w':=by
 obtain⟨i0,hi,hz0,hz1,hz2⟩:=info_parts ak6
 subst hnL
 have HCS:=aab hcs
 have HL:=aab hL
 have hl:=lt_of_cell c0
 have g1:(n:Int)≤(cap:Int):=by omega
 have g2:(0:Int)≤(n:Int):=by omega
 have HS:Hid ((w.alloc (.cells #[.int .i64 (n:Int),.string ⟨#[]⟩] 106)).ownsRow w.heap.size 106 2 (.slice (some ⟨w.heap.size,0,none⟩) 1 1) (0+1) (tab abd (aaL n ps 0))):=
  World.ownsRow_lit (base:=w.heap.size) (e:=106) (size:=2) w #[.int .i64 (n:Int),.string ⟨#[]⟩] 1 (Nat.le_refl _) (by unfold maxLen;omega) rfl
 have HB:Hid (Below w.heap.size w (w.alloc (.cells #[.int .i64 (n:Int),.string ⟨#[]⟩] 106))):=(Below.refl _ _).alloc (Nat.le_refl _) _
 clear hcs hL
 go_enter Tryz.func292,Tryz.ntmps292
 go_wp2
 go_loopw [6,26] (fun lv iv wr=>∃i:Nat,i≤n∧iv=.int .i64 i∧wr.ownsRow w.heap.size 106 2 lv (i+1) (tab abd (aaL n ps i))∧Below w.heap.size w wr) (fun _ iv _=>n-(intOf iv).toNat)
 case atStart=>exact⟨0,Nat.zero_le _,rfl,unhide HS,unhide HB⟩
 case round=>
  obtain⟨i,hin,rfl,hrow,hbl⟩:=hrel
  by_cases hlt:i<n
  ·have hsz:=hbl.size
   obtain⟨s,hs⟩:∃s,ps[i]?=some s:=⟨ps[i]'(by have:=unhide HL;omega),List.getElem?_eq_getElem _⟩
   have d0:wr.cell? ⟨g,i,none⟩=some (.string s):=(hbl.cell (p:=⟨g,i,none⟩) hg).trans ((unhide HCS) i s hs)
   have hlts:=fun q=>World.ownsRow.lt hrow q
   obtain⟨la,lc,hls⟩:=aas hrow
   subst hls
   have HRW:=aab hrow
   have HBL:=aab hbl
   have HLT:=aab hlts
   have HSS:=aab hs
   clear hrow hbl hlts hs
   go_wp2_with (at_builtin;go_must (refine wpList_append_own_at _ rfl (.tmp 30) (.tmp 33) 44 rfl w.heap.size 106 i0 (.agg #[.int .i64 0,.string ⟨#[]⟩]) 2 24 Tryz.underlying44 hi hz0 hz1 hz2 rfl (by decide) (.slice la (i+1) lc) (i+1) (tab abd (aaL n ps i)) rfl (by exact(unhide HRW).alloc _) ⟨_,0,none⟩ 1 1 [.int .i64 0,.string s] rfl rfl (by exact ah0 _ _) (by simp[Value.oneCell']) (by unfold maxLen;omega) (by omega) (by simp;omega) ?_;intro v' wz hown hgrow hnil hat))
   have HRN:Hid (wz.ownsRow w.heap.size 106 2 v' (i+1+1) (tab abd (aaL n ps (i+1)))):=by
    rw[adU n ps i s (unhide HSS),abQ]
    exact hown
   have HBN:=aab (((unhide HBL).alloc hsz _).grown hgrow (by simp;omega) (fun q hq=>((unhide HLT) q hq).1))
   clear hown hgrow hat
   go_wp2
   go_roundw
   case rel=>exact⟨i+1,by omega,by go_num,unhide HRN,unhide HBN⟩
   case measure=>simp[intOf];omega
  ·obtain rfl:i=n:=by omega
   obtain⟨la,lc,hls⟩:=aas hrow
   have HI:Hid (V.Row wr w.heap.size u6 (aaL i ps i)):=by
    unfold V.Row
    rw[aeH i ps i (by have:=unhide HL;omega),adI]
    exact hrow
   have HBL:=aab hbl
   subst hls
   clear hrow hbl
   go_wp2
   go_returns
   exact⟨_,rfl,unhide HI,unhide HBL⟩
theorem amj(w:World)(b:Nat)(most:Int)(hm:0≤most)(c0:w.cell? ⟨b,0,none⟩=some (.slice none 0 0)) :
  Calls Tryz.prog 292 #[ptr b,.int .i64 most] w fun e w'=>∃O,e=.returned O∧V.Row w' w.heap.size O (aaL 0 [] 0)∧Below w.heap.size w w':=by
 have hl:=lt_of_cell c0
 have HB:Hid (Below w.heap.size w (w.alloc (.cells #[.int .i64 0,.string ⟨#[]⟩] 106))):=(Below.refl _ _).alloc (Nat.le_refl _) _
 have HI:Hid (V.Row (w.alloc (.cells #[.int .i64 0,.string ⟨#[]⟩] 106)) w.heap.size (.slice (some ⟨w.heap.size,0,none⟩) 1 1) (aaL 0 [] 0)):=ako w w (Nat.le_refl _) 0 ⟨#[]⟩
 by_cases h0:most=0
 ·subst h0
  go_enter Tryz.func292,Tryz.ntmps292
  go_wp2
  go_loopw [6,26] (fun lv iv wr=>lv=.slice (some ⟨w.heap.size,0,none⟩) 1 1∧iv=.int .i64 0∧wr=w.alloc (.cells #[.int .i64 0,.string ⟨#[]⟩] 106)) (fun _ _ _=>0)
  case atStart=>exact⟨rfl,rfl,rfl⟩
  case round=>
   obtain⟨rfl,rfl,rfl⟩:=hrel
   go_wp2
   go_returns
   exact⟨_,rfl,unhide HI,unhide HB⟩
 ·have h1:(0:Int)<most:=by omega
  go_enter Tryz.func292,Tryz.ntmps292
  go_wp2
  go_loopw [6,26] (fun lv iv wr=>lv=.slice (some ⟨w.heap.size,0,none⟩) 1 1∧iv=.int .i64 0∧wr=w.alloc (.cells #[.int .i64 0,.string ⟨#[]⟩] 106)) (fun _ _ _=>0)
  case atStart=>exact⟨rfl,rfl,rfl⟩
  case round=>
   obtain⟨rfl,rfl,rfl⟩:=hrel
   go_wp2
   go_returns
   exact⟨_,rfl,unhide HI,unhide HB⟩
theorem ami(w:World)(b:Nat)(most:Int)(K:Value)(ps:List ByteArray)(hm:0≤most)(h4:ps.length≤4)(h:w.heap[b]?=some (.cells #[K] 333 (0,0)))(hrow:w.ownsRow 0 9 1 K ps.length (strs ps)) :
  Calls Tryz.prog 292 #[ptr b,.int .i64 most] w fun e w'=>∃O,e=.returned O∧V.Row w' w.heap.size O (aaL (ps.take most.toNat).length ps most.toNat)∧Below w.heap.size w w':=by
 have c0:w.cell? ⟨b,0,none⟩=some K:=aaa h 0 _ rfl
 rcases hrow.2 with ⟨rfl,h0⟩|⟨g,cap,cur,rfl,_,hc,hle,hmx,hcs,htk⟩
 ·obtain rfl:=List.eq_nil_of_length_eq_zero h0
  have:=amj w b most hm c0
  unfold aaL at this ⊢
  simpa using this
 ·have hget:∀i s,ps[i]?=some s→w.cell? ⟨g,i,none⟩=some (.string s):=fun i s hs=>by
   have hil:=(List.getElem?_eq_some_iff.1 hs).1
   have e1:(strs ps)[i]?=some (.string s):=by simp[strs,hs]
   rw[←htk,List.getElem?_take,if_pos (by omega)]at e1
   simp[World.cell?,hc]
   simpa using e1
  by_cases hq:(ps.length:Int)<most
  ·have:=amk w b g cap ps.length ps.length most ps rfl h4 hle hq rfl c0 (lt_of_block hc) hget
   have e2:ps.take most.toNat=ps:=List.take_of_length_le (by omega)
   have e3:aaL (ps.take most.toNat).length ps most.toNat=aaL ps.length ps ps.length:=by
    unfold aaL
    rw[e2,List.take_length]
   rw[e3]
   exact this
  ·obtain⟨n,rfl⟩:∃n:Nat,most=(n:Int):=⟨most.toNat,by omega⟩
   have:=aj7 w b g cap ps.length n ps rfl h4 hle (by omega) c0 (lt_of_block hc) hget
   have e3:(ps.take n).length=n:=by rw[List.length_take];omega
   simp only[Int.toNat_natCast,e3]
   exact this
theorem ain(w:World)(F:aai)(log:List R.En)(en:R.En)(b:Nat)(K W:Value)(h:Works w F log b K 1 W){X:Value}(hX:V.Items w X en.arg)(ha:∃x,en.arg=[x]∧(en.proc=1→0≤x.1))(hp:en.proc=0∨en.proc=1) :
  Calls Tryz.prog 290 #[ptr b,.int .i64 en.proc,X] w fun e w'=>∃O,e=.returned O∧Did w F log en b K 1 W O (R.doesP 1 log en.proc en.arg) w':=by
 obtain⟨x,hx,hx0⟩:=ha
 rw[hx]at hX
 obtain⟨a,cap,rfl,hcap,hc⟩:=hX
 rcases hc with h0|⟨bb,off,rfl,hlt',hc⟩
 ·simp at h0
 obtain⟨c0,c1⟩:=hc 0 x rfl
 simp only[Nat.zero_mul,Nat.add_zero]at c0 c1
 have q1:(0:Int)<((1:Nat):Int):=by omega
 generalize hk0:(1:Int)=kd at h
 cases h with
 |counter=>cases hk0
 |desk=>cases hk0
 |board hF hb hK hKF=>
  have h4:=R.posted_len log
  have hsn:=agY log en
  have hargS:R.argS en.arg 0=x.2:=by rw[hx];rfl
  have hargN:R.argN en.arg 0=x.1:=by rw[hx];rfl
  rw[hargS]at hsn
  rcases hp with hp|hp
  ·have e1:(en.proc==0)=true:=by simpa using hp
   rw[if_pos hp]at hsn
   have HC:Hid (Calls Tryz.prog 291 #[ptr b,.string x.2] w fun e w'=>∃O,e=.returned O∧Posted w b K (R.postedP (log++[en])) O w'):=by
    obtain⟨a,c,rfl⟩:=aas hK
    by_cases hq:(R.postedP log).length<4
    ·rw[hsn,if_pos hq]
     exact amD w b c a _ x.2 hq hb hK
    ·rw[hsn,if_neg hq]
     have e4:(R.postedP log).length=4:=by omega
     rw[e4]at hb hK ⊢
     exact akF w b c a _ x.2 e4 hb hK
   have HF:Hid (∀O w',Posted w b K (R.postedP (log++[en])) O w'→Did w F log en b K 1 (.iface 331 (ptr b)) O (R.doesP 1 log en.proc en.arg) w'):=fun O w' hP=>by
    have hd:R.doesP 1 log en.proc en.arg=[(((R.postedP (log++[en])).length:Int),⟨#[]⟩)]:=by
     unfold R.doesP
     rw[if_neg (by decide),if_pos rfl,if_pos hp,hsn]
     unfold R.num
     congr 2
     by_cases hq:(R.postedP log).length<4
     ·rw[if_pos hq]
      simp
      omega
     ·rw[if_neg hq]
      simp
      omega
    rw[hd]
    obtain⟨K',k1,k2,k3⟩:=hP.cell
    refine⟨hP.row,hP.keep,K',.board (Or.inl hF) k1 k2 (fun j hj=>?_),?_⟩
    ·rcases k3 with k3|⟨j',hj',q1,q2⟩
     ·exact Or.inl (hKF j (k3 ▸ hj))
     ·rw[hj']at hj
      cases hj
      exact Or.inr ⟨q1,q2⟩
    ·rcases k3 with k3|⟨j',hj',q1,q2⟩
     ·exact Or.inl k3
     ·exact Or.inr ⟨j',hj',q1⟩
   clear hb hsn hp hK hx0
   go_enter Tryz.func290,Tryz.ntmps290
   go_wp2_with (first|(go_at_call 291;refine(unhide HC).mono ?_;rintro e w1 ⟨O,rfl,hw1⟩;have HW:=aab hw1;clear hw1))
   go_returns
   exact⟨_,rfl,(unhide HF) _ _ (unhide HW)⟩
  ·have e1:(en.proc==0)=false:=by simp[hp]
   rw[if_neg (by omega)]at hsn
   have hlb:=lt_of_block hb
   have HC:=aab (ami w b x.1 K (R.postedP log) (hx0 hp) h4 hb hK)
   have HF:Hid (∀O w',V.Row w' w.heap.size O (aaL ((R.postedP log).take x.1.toNat).length (R.postedP log) x.1.toNat)→Below w.heap.size w w'→Did w F log en b K 1 (.iface 331 (ptr b)) O (R.doesP 1 log en.proc en.arg) w'):=fun O w' hR hB=>by
    have hd:R.doesP 1 log en.proc en.arg=aaL ((R.postedP log).take x.1.toNat).length (R.postedP log) x.1.toNat:=by
     unfold R.doesP
     rw[if_neg (by decide),if_pos rfl,if_neg (by omega),hargN]
     rfl
    rw[hd]
    refine⟨hR,Keeps.ofBelow hB _,K,.board (Or.inl hF) ?_ ?_ (fun j hj=>Or.inl (hKF j hj)),Or.inl rfl⟩
    ·rw[hB.block b hlb]
     exact hb
    ·rw[hsn]
     exact aav hK hB
   clear hb hsn hp hK hx0
   go_enter Tryz.func290,Tryz.ntmps290
   go_wp2_with (first|(go_at_call 292;refine(unhide HC).mono ?_;rintro e w1 ⟨O,rfl,hw1,hw2⟩;have HW:=aab hw1;have HW2:=aab hw2;clear hw1 hw2))
   go_returns
   exact⟨_,rfl,(unhide HF) _ _ (unhide HW) (unhide HW2)⟩
end Go.Proofs.YtblomippkddgiaaGreatDoor
