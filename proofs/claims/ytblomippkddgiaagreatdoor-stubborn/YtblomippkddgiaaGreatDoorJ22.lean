import Derived.Test.YtblomippkddgiaaGreatDoorJ21
import Derived.Test.YtblomippkddgiaaGreatDoorJ09
set_option maxRecDepth 100000
set_option maxHeartbeats 4000000
namespace Go.Proofs.YtblomippkddgiaaGreatDoor
open Go.RowKit
theorem anl(w:World)(b:Nat)(s:List UInt8)(a:Int)(hs:s.length≤1000)(h7:w.cell? ⟨b,7,none⟩=some (.string (str s)))(h8:w.cell? ⟨b,8,none⟩=some (.int .i64 a)) :
  Calls Tryz.prog 198 #[ptr b] w fun e w'=>e=.returned (.bool (decide (a=R.piecesP s-1)))∧Below w.heap.size w w':=by
 have HP:=aab (fun w=>aaP s w (by omega))
 have hn:0≤R.piecesP s∧R.piecesP s≤1000:=by unfold R.piecesP;omega
 generalize str s=SM at *
 generalize R.piecesP s=N at *
 have hsub:IntKind.i64.wrap (N-1)=N-1:=by rw[IntKind.wrap_i64];omega
 go_enter Tryz.func198,Tryz.ntmps198
 go_wp2_with fail
 go_region_held3 (fun w'=>w'.cell? ⟨b,7,none⟩=some (.string SM)∧w'.cell? ⟨b,8,none⟩=some (.int .i64 a)) (go_keep) (first
  |(go_at_call 187;refine((unhide HP) _).mono ?_;rintro e w1 ⟨rfl,hw1⟩;rw[hw1];clear hw1))
 all_goals
  go_wp2
  go_ret
  exact⟨by
   have:(a==N-1)=decide (a=N-1):=by rw[Bool.eq_iff_iff];simp
   rw[this]
   rfl,(Below.refl _ _).drew⟩
theorem ahE(w:World)(s b:Nat)(rt tr:Int)(last:Bool)(P1 P2 Post:World→Prop)
  (H1:Hid (Calls Tryz.prog 123 #[ptr s,ptr b] w fun e w'=>e=.returned (.tuple #[])∧P1 w'))
  (H2:Hid (∀w',P1 w'→Calls Tryz.prog 198 #[ptr b] w' fun e w''=>e=.returned (.bool last)∧P2 w''))
  (H3:Hid (∀w',P2 w'→w'.cell? ⟨s,2,none⟩=some (.int .i64 rt)∧w'.cell? ⟨s,3,none⟩=some (.int .i64 tr)∧(∃x,w'.cell? ⟨b,9,none⟩=some (.int .i64 x))∧(∃x,w'.cell? ⟨b,10,none⟩=some (.int .i64 x))∧w'.frozen? ⟨b,9,none⟩=false∧w'.frozen? ⟨b,10,none⟩=false∧¬s=b))
  (HL:Hid (last=true→∀w',P2 w'→Post (w'.setCell ⟨b,9,none⟩ (.int .i64 0))))
  (HM:Hid (last=false→∀w',P2 w'→Post ((w'.drew.setCell ⟨b,9,none⟩ (.int .i64 rt)).setCell ⟨b,10,none⟩ (.int .i64 tr)))) :
  Calls Tryz.prog 137 #[ptr s,ptr b] w fun e w'=>e=.returned (.tuple #[])∧Post w':=by
 go_enter Tryz.func137,Tryz.ntmps137
 go_wp2_with (first|(go_at_call 123;refine(unhide H1).mono ?_;rintro e w1 ⟨rfl,hw1⟩;have HC:=aab ((unhide H2) w1 hw1)))
 refine(unhide HC).mono ?_
 rintro e w2 ⟨rfl,hw2⟩
 obtain⟨s2,s3,⟨x9,b9⟩,⟨x10,b10⟩,z9,z10,hsb⟩:=(unhide H3) w2 hw2
 have hlb:=lt_of_cell b9
 have hls:=lt_of_cell s2
 have hbs:¬b=s:=fun e=>hsb e.symm
 have HX:=aab hw2
 clear HC hw2
 cases last with
 |true=>
  have HP:=aab ((unhide HL) rfl w2 (unhide HX))
  go_wp2
  go_returns
  exact⟨rfl,unhide HP⟩
 |false=>
  have HP:=aab ((unhide HM) rfl w2 (unhide HX))
  go_wp2
  go_region
  all_goals
   go_wp2
   go_returns
   exact⟨rfl,unhide HP⟩
theorem ab1(G:R.Wd)(i:Nat):(R.sendResultP G i).seen=G.seen:=by unfold R.sendResultP;rw[R.sendP_seen]
theorem aaN(G:R.Wd)(i:Nat):(R.sendResultP G i).lives=G.lives:=by unfold R.sendResultP;rw[R.sendP_lives]
theorem adm(G:R.Wd)(i:Nat):(R.sendResultP G i).c=G.c:=by unfold R.sendResultP;rw[R.sendP_c']
theorem LW.ne_sq{p:Pl}{F:aai}{G:R.Wd}{w:World}(h:LW p F G w){i:Nat}{r:R.Sn}{y:SLn}(hq:QAt p G w i r y):¬p.s=p.t.ql i:=ne_tag h.srv.bs hq.blk (by decide)
theorem LW.tell{p:Pl}{F:aai}{G:R.Wd}{w:World}(h:LW p F G w){i:Nat}{r:R.Sn}{y:SLn}(hq:QAt p G w i r y)(h3:r.state=3) :
  Calls Tryz.prog 137 #[ptr p.s,ptr (p.t.ql i)] w fun e w'=>e=.returned (.tuple #[])∧∃F',LW p F' (R.tellP G i) w'∧Went F F' w w':=by
 have hs:=h.cold.sn i r hq.seen
 obtain⟨b1,b2,b3,b4⟩:=hs.ans h3
 have hcf:=h.wf.cf
 unfold R.okCf at hcf
 have hsn:(R.sendResultP G i).seen[i]?=some r:=by rw[ab1];exact hq.seen
 have etell:R.tellP G i=R.setSeen (R.sendResultP G i) i {r with timed:=decide (8*r.at'+8<(r.result.length:Int)),wait:=G.c.retry,tries:=G.c.tries}:=by
  unfold R.tellP
  simp only
  rw[R.seenP_some hsn]
 rw[etell]
 have turn:∀(F':aai) (w1 w':World) (y1 y':SLn),LW p F' (R.sendResultP G i) w1→Went F F' w w1→QAt p (R.sendResultP G i) w1 i r y1→Keeps (fun b=>b=p.t.ql i) w1 w'→w'.heap[p.t.ql i]?=some (.cells y'.cells.toArray 147 (0,0))→SnRel i (G.lives.getD (i / 3) 0) {r with timed:=decide (8*r.at'+8<(r.result.length:Int)),wait:=G.c.retry,tries:=G.c.tries} y'→∃F',LW p F' (R.setSeen (R.sendResultP G i) i {r with timed:=decide (8*r.at'+8<(r.result.length:Int)),wait:=G.c.retry,tries:=G.c.tries}) w'∧Went F F' w w':=fun F' w1 w' y1 y' k1 k2 k3 k4 k5 k6=>by
  obtain⟨q1,_,q2⟩:=k1.qturn (r':={r with timed:=decide (8*r.at'+8<(r.result.length:Int)),wait:=G.c.retry,tries:=G.c.tries}) (y':=y') k3 hq.ne k4 k5 (by rw[aaN];exact k6) (by
   rw[aaN]
   exact⟨fun e=>absurd e hq.ne,hs.seq,hs.some,hs.gath,hs.wait,hs.ans,fun _=>⟨h3,by simp only;omega,by simp only;omega⟩⟩)
  exact⟨F',q1,k2.trans q2⟩
 refine ahE w p.s (p.t.ql i) G.c.retry G.c.tries (decide (r.at'=R.piecesP r.result-1)) (fun w'=>∃F',LW p F' (R.sendResultP G i) w'∧Went F F' w w') (fun w'=>∃F',LW p F' (R.sendResultP G i) w'∧Went F F' w w') _ (h.sendPieceS hq h3) ?_ ?_ ?_ ?_
 ·rintro w1 ⟨F1,k1,k2⟩
  obtain⟨y1,g1,_⟩:=k1.q hsn hq.ne
  obtain⟨_,_,_,_,_,_,_,c7,c8,_,_⟩:=yAt g1.blk
  obtain⟨ean,eat⟩:=g1.rel.ans h3
  rw[ean]at c7
  rw[eat]at c8
  refine(anl w1 _ r.result r.at' (by omega) c7 c8).mono ?_
  rintro e w2 ⟨rfl,hb⟩
  exact⟨rfl,F1,k1.below hb,k2.trans (Went.ofBelow F1 hb)⟩
 ·rintro w1 ⟨F1,k1,k2⟩
  obtain⟨y1,g1,_⟩:=k1.q hsn hq.ne
  obtain⟨_,_,_,_,_,_,_,_,_,c9,c10⟩:=yAt g1.blk
  have s2:=k1.srv.cell 2 _ rfl
  have s3:=k1.srv.cell 3 _ rfl
  rw[adm]at s2 s3
  exact⟨s2,s3,⟨_,c9⟩,⟨_,c10⟩,aac g1.blk,aac g1.blk,k1.ne_sq g1⟩
 ·rintro hl w1 ⟨F1,k1,k2⟩
  have hl:r.at'=R.piecesP r.result-1:=by simpa using hl
  obtain⟨y1,g1,_⟩:=k1.q hsn hq.ne
  have hrel:=g1.rel
  rw[aaN]at hrel
  have hf:decide (8*r.at'+8<(r.result.length:Int))=false:=by
   rw[decide_eq_false_iff_not,R.piece_last]
   omega
  refine turn F1 w1 _ y1 {y1 with wait:=0} k1 k2 g1 (keeps_one _) (y_store g1.blk rfl) ⟨hrel.client,hrel.life,hrel.line,hrel.seq,hrel.uid,hrel.state,hrel.asked,hrel.ans,?_,?_⟩
  ·simp[hf]
  ·simp[hf]
 ·rintro hl w1 ⟨F1,k1,k2⟩
  have hl:¬r.at'=R.piecesP r.result-1:=by simpa using hl
  have hbd:Below w1.heap.size w1 w1.drew:=(Below.refl _ _).drew
  have k1':=k1.below hbd
  obtain⟨y1,g1,_⟩:=k1'.q hsn hq.ne
  have hrel:=g1.rel
  rw[aaN]at hrel
  have hf:decide (8*r.at'+8<(r.result.length:Int))=true:=by
   rw[decide_eq_true_iff,R.piece_last]
   omega
  refine turn F1 w1.drew _ y1 {y1 with wait:=G.c.retry,tries:=G.c.tries} k1' (k2.trans (Went.ofBelow F1 hbd)) g1 ((keeps_one _).trans (keeps_one _)) ?_ ⟨hrel.client,hrel.life,hrel.line,hrel.seq,hrel.uid,hrel.state,hrel.asked,hrel.ans,?_,?_⟩
  ·exact y_store (y:={y1 with wait:=G.c.retry}) (y_store g1.blk rfl) rfl
  ·simp[hf]
  ·simp
theorem aiC(w:World)(s b:Nat)(wt tr rt:Int)(Post:World→Prop)(s2:w.cell? ⟨s,2,none⟩=some (.int .i64 rt))(a9:w.cell? ⟨b,9,none⟩=some (.int .i64 wt))(a10:w.cell? ⟨b,10,none⟩=some (.int .i64 tr))(z9:w.frozen? ⟨b,9,none⟩=false)(z10:w.frozen? ⟨b,10,none⟩=false)(hne:¬s=b)(hwt:1≤wt∧wt≤8)(htr:0≤tr∧tr≤6)
  (HA:Hid (1<wt∨tr=0→Post (w.setCell ⟨b,9,none⟩ (.int .i64 (wt-1)))))
  (HC:Hid (wt=1→0<tr→Calls Tryz.prog 123 #[ptr s,ptr b] (((w.setCell ⟨b,9,none⟩ (.int .i64 (wt-1))).setCell ⟨b,10,none⟩ (.int .i64 (tr-1))).setCell ⟨b,9,none⟩ (.int .i64 rt)) fun e w'=>e=.returned (.tuple #[])∧Post w')) :
  Calls Tryz.prog 72 #[ptr s,ptr b] w fun e w'=>e=.returned (.tuple #[])∧Post w':=by
 have e1:IntKind.i64.wrap (wt-1)=wt-1:=by rw[IntKind.wrap_i64];omega
 have e2:IntKind.i64.wrap (tr-1)=tr-1:=by rw[IntKind.wrap_i64];omega
 have hne':¬b=s:=fun e=>hne e.symm
 have hl1:=lt_of_cell s2
 have hl2:=lt_of_cell a9
 by_cases h1:1<wt
 ·have q1:0<wt-1:=by omega
  have HP:=aab ((unhide HA) (Or.inl h1))
  clear HA HC
  go_enter Tryz.func72,Tryz.ntmps72
  go_wp2
  refine aaO 0 rfl ?_
  go_wp2
  refine abB ?_
  go_wp2
  go_returns
  exact⟨rfl,unhide HP⟩
 ·have hw1:wt=1:=by omega
  by_cases h2:tr=0
  ·have HP:=aab ((unhide HA) (Or.inr h2))
   clear HA HC
   subst hw1 h2
   go_enter Tryz.func72,Tryz.ntmps72
   go_wp2
   refine aaO 0 rfl ?_
   go_wp2
   refine abB ?_
   go_wp2
   go_returns
   exact⟨rfl,unhide HP⟩
  ·have h3:0<tr:=by omega
   have HP:=aab ((unhide HC) hw1 h3)
   clear HA HC
   subst hw1
   go_enter Tryz.func72,Tryz.ntmps72
   go_wp2
   refine aaO 0 rfl ?_
   go_wp2
   go_step3
   refine⟨rfl,?_⟩
   show Code.wp Tryz.prog _ _ _ _
   go_wp2_with (first|(go_at_call 123;refine(unhide HP).mono ?_;rintro e w3 ⟨rfl,hw3⟩))
   refine ad9 ?_
   go_wp2
   go_returns
   exact⟨rfl,hw3⟩
theorem LW.waitS{p:Pl}{F:aai}{G:R.Wd}{w:World}(h:LW p F G w){i:Nat}{r:R.Sn}{y:SLn}(hq:QAt p G w i r y)(ht:r.timed=true) :
  Calls Tryz.prog 72 #[ptr p.s,ptr (p.t.ql i)] w fun e w'=>e=.returned (.tuple #[])∧∃F',LW p F' (R.tickSeen G i) w'∧Went F F' w w':=by
 have hs:=h.cold.sn i r hq.seen
 obtain⟨t1,t3,t4⟩:=hs.timed ht
 have hrel:=hq.rel
 have ew:y.wait=r.wait:=by rw[hrel.wait,if_pos ht]
 have et:=hrel.tries ht
 have hcf:=h.wf.cf
 unfold R.okCf at hcf
 obtain⟨_,_,_,_,_,_,_,_,_,c9,c10⟩:=yAt hq.blk
 rw[ew]at c9
 rw[et]at c10
 have z:∀{r':R.Sn},r'.seq=r.seq→(r'.seq=0→r'=R.sn0):=fun e q=>absurd (e ▸ q) hq.ne
 have etick:R.tickSeen G i=if 1<r.wait then R.setSeen G i {r with wait:=r.wait-1} else if r.tries=0 then R.setSeen G i {r with wait:=r.wait-1,timed:=false} else R.sendResultP (R.setSeen G i {r with wait:=G.c.retry,tries:=r.tries-1}) i:=by
  unfold R.tickSeen
  simp only
  rw[R.seenP_some hq.seen,if_neg (by simp[ht])]
 rw[etick]
 refine aiC w p.s (p.t.ql i) r.wait r.tries G.c.retry _ (h.srv.cell 2 _ rfl) c9 c10 (aac hq.blk) (aac hq.blk) (h.ne_sq hq) t3 t4 ?_ ?_
 ·intro hx
  by_cases h1:1<r.wait
  ·rw[if_pos h1]
   obtain⟨q1,_,q2⟩:=h.qturn (r':={r with wait:=r.wait-1}) (y':={y with wait:=r.wait-1}) hq hq.ne (keeps_one _) (y_store (j:=9) (v:=.int .i64 (r.wait-1)) hq.blk rfl) ⟨hrel.client,hrel.life,hrel.line,hrel.seq,hrel.uid,hrel.state,hrel.asked,hrel.ans,by simp[ht],hrel.tries⟩ ⟨z rfl,hs.seq,hs.some,hs.gath,hs.wait,hs.ans,fun _=>⟨t1,by simp only;omega,t4⟩⟩
   exact⟨F,q1,q2⟩
  ·have h2:r.tries=0:=by omega
   rw[if_neg h1,if_pos h2]
   obtain⟨q1,_,q2⟩:=h.qturn (r':={r with wait:=r.wait-1,timed:=false}) (y':={y with wait:=r.wait-1}) hq hq.ne (keeps_one _) (y_store (j:=9) (v:=.int .i64 (r.wait-1)) hq.blk rfl) ⟨hrel.client,hrel.life,hrel.line,hrel.seq,hrel.uid,hrel.state,hrel.asked,hrel.ans,by simp only[if_neg (show ¬(false:Bool)=true by decide)];omega,by simp⟩ ⟨z rfl,hs.seq,hs.some,hs.gath,hs.wait,hs.ans,by simp⟩
   exact⟨F,q1,q2⟩
 ·intro h1 h2
  rw[if_neg (by omega),if_neg (by omega)]
  obtain⟨q1,q0,q2⟩:=h.qturn (r':={r with wait:=G.c.retry,tries:=r.tries-1}) (y':={y with wait:=G.c.retry,tries:=r.tries-1}) hq hq.ne (((keeps_one _).trans (keeps_one _)).trans (keeps_one _)) (y_store (j:=9) (v:=.int .i64 G.c.retry) (y:={y with wait:=r.wait-1,tries:=r.tries-1}) (y_store (j:=10) (v:=.int .i64 (r.tries-1)) (y:={y with wait:=r.wait-1}) (y_store (j:=9) (v:=.int .i64 (r.wait-1)) hq.blk rfl) rfl) rfl) ⟨hrel.client,hrel.life,hrel.line,hrel.seq,hrel.uid,hrel.state,hrel.asked,hrel.ans,by simp[ht],by simp⟩ ⟨z rfl,hs.seq,hs.some,hs.gath,hs.wait,hs.ans,fun _=>⟨t1,by simp only;omega,by simp only;omega⟩⟩
  refine(q1.sendPieceS q0 t1).mono ?_
  rintro e w' ⟨rfl,F',g1,g2⟩
  exact⟨rfl,F',g1,q2.trans g2⟩
theorem aiG(w:World)(s n:Nat)(bs:Nat→Nat)(J:Value→Nat→World→Prop)(hn:n≤9)
  (H71:Hid (Calls Tryz.prog 71 #[ptr s] w fun e w'=>∃O,e=.returned O∧J O 0 w'))
  (HS:Hid (∀O k wr,J O k wr→∃a c,O=.slice a n c))
  (HR:Hid (∀O k wr,k<n→J O k wr→∃g c,O=.slice (some ⟨g,0,none⟩) n c∧wr.cell? ⟨g,k,none⟩=some (ptr (bs k))∧∃x,wr.cell? ⟨bs k,9,none⟩=some (.int .i64 x)∧(0<x→Calls Tryz.prog 72 #[ptr s,ptr (bs k)] wr fun e w'=>e=.returned (.tuple #[])∧J O (k+1) w')∧(¬0<x→J O (k+1) wr))) :
  Calls Tryz.prog 37 #[ptr s] w fun e w'=>e=.returned (.tuple #[])∧∃O,J O n w':=by
 go_enter Tryz.func37,Tryz.ntmps37
 go_wp2_with fail
 refine(unhide H71).mono ?_
 rintro e w1 ⟨O,rfl,hJ⟩
 obtain⟨a,c,hO⟩:=(unhide HS) O 0 w1 hJ
 subst hO
 have H0:=aab hJ
 clear hJ
 go_wp2
 go_loopw [7] (fun iv wr=>∃k:Nat,k≤n∧iv=.int .i64 k∧J (.slice a n c) k wr) (fun iv _=>n-(intOf iv).toNat)
 case atStart=>exact⟨0,Nat.zero_le _,rfl,unhide H0⟩
 case round=>
  obtain⟨k,hk,rfl,hJ⟩:=hrel
  by_cases hlt:k<n
  ·obtain⟨g,c',hO,hcell,x,hx,hyes,hno⟩:=(unhide HR) _ k wr hlt hJ
   cases hO
   have HY:=aab hyes
   have HN:=aab hno
   clear hyes hno hJ
   by_cases h1:0<x
   ·have HC:=aab ((unhide HY) h1)
    go_wp2_with (first|(go_at_call 72;refine(unhide HC).mono ?_;rintro e w3 ⟨rfl,hw3⟩))
    go_roundw
    case rel=>exact⟨k+1,by omega,by go_num,hw3⟩
    case measure=>simp[intOf];omega
   ·have HI:=aab ((unhide HN) (by omega))
    go_wp2
    go_roundw
    case rel=>exact⟨k+1,by omega,by go_num,unhide HI⟩
    case measure=>simp[intOf];omega
  ·obtain rfl:k=n:=by omega
   have HI:=aab hJ
   clear hJ
   go_wp2
   go_returns
   exact⟨rfl,_,unhide HI⟩
def tickC(G:R.Wd)(i n:Nat):R.Wd:=(List.range n).foldl (fun (G:R.Wd) (k:Nat)=>R.tickLine G (i:Int) (k:Int)) G
theorem abq(G:R.Wd)(i n:Nat):tickC G i (n+1)=R.tickLine (tickC G i n) i n:=by
 simp[tickC,List.range_succ]
theorem agQ(G:R.Wd)(to:Int)(p:Pk):(R.sendP G to p).c=G.c:=by unfold R.sendP;split <;> rfl
theorem aa4(G:R.Wd)(to:Int)(p:Pk):(R.sendP G to p).clients=G.clients:=by unfold R.sendP;split <;> rfl
theorem aiA(G:R.Wd)(i k:Nat):(R.tickLine G i k).c=G.c:=by
 unfold R.tickLine R.sendPieceP R.probeP
 simp only
 repeat' split
 all_goals first|rfl|(rw[agQ];rfl)
theorem agI(G:R.Wd)(i n:Nat):(tickC G i n).c=G.c:=by
 induction n with
 |zero=>rfl
 |succ n ih=>rw[abq,aiA,ih]
theorem abO{G:R.Wd}{i k:Nat}{l:R.Ln}(hl:R.lineP G i k=l)(h:¬l.state=1):R.tickLine G i k=G:=by
 unfold R.tickLine
 simp only[hl]
 rw[if_pos h]
def tickW(G:R.Wd)(n:Nat):R.Wd:=(List.range n).foldl (fun (G:R.Wd) (i:Nat)=>YtblomippkddgiaaGreatDoor.tickC G i G.c.lines.toNat) G
theorem ace(G:R.Wd)(n:Nat):tickW G (n+1)=YtblomippkddgiaaGreatDoor.tickC (tickW G n) n (tickW G n).c.lines.toNat:=by
 simp[tickW,List.range_succ]
theorem aob(G:R.Wd)(n:Nat):(tickW G n).c=G.c:=by
 induction n with
 |zero=>rfl
 |succ n ih=>rw[ace,agI,ih]
theorem adl(G:R.Wd):R.tickLines G=tickW G G.clients.length:=rfl
theorem ajS(w:World)(cb lb nl:Nat)(I:Nat→World→Prop)(h0:I 0 w)(hc:Hid (∀k wr,I k wr→wr.cell? ⟨cb,3,none⟩=some (.slice (some ⟨lb,0,none⟩) nl nl)))
  (hr:Hid (∀k wr,k<nl→I k wr→∃st,wr.cell? ⟨lb,k*10,none⟩=some (.int .i64 st)∧(st=1→Calls Tryz.prog 70 #[ptr cb,.int .i64 (k:Int)] wr fun e w'=>e=.returned (.tuple #[])∧I (k+1) w')∧(¬st=1→I (k+1) wr))) (hn:nl≤1000) :
  Calls Tryz.prog 36 #[ptr cb] w fun e w'=>e=.returned (.tuple #[])∧I nl w':=by
 have b3:=(unhide hc) 0 w h0
 have H0:=aab h0
 clear h0
 go_enter Tryz.func36,Tryz.ntmps36
 go_wp2
 go_loopw [8] (fun iv wr=>∃k:Nat,k≤nl∧iv=.int .i64 k∧I k wr) (fun iv _=>nl-(intOf iv).toNat)
 case atStart=>exact⟨0,Nat.zero_le _,rfl,unhide H0⟩
 case round=>
  obtain⟨k,hk,rfl,hI⟩:=hrel
  have d3:=(unhide hc) k wr hI
  by_cases hlt:k<nl
  ·obtain⟨st,hst,hyes,hno⟩:=(unhide hr) k wr hlt hI
   have HY:=aab hyes
   have HN:=aab hno
   clear hyes hno
   by_cases h1:st=1
   ·have HC:=aab ((unhide HY) h1)
    subst h1
    go_wp2_with (first|(go_at_call 70;refine(unhide HC).mono ?_;rintro e w3 ⟨rfl,hw3⟩))
    go_roundw
    case rel=>exact⟨k+1,by omega,by go_num,hw3⟩
    case measure=>simp[intOf];omega
   ·have e1:(st==1)=false:=by simpa using h1
    have HI:=aab ((unhide HN) h1)
    go_wp2
    go_roundw
    case rel=>exact⟨k+1,by omega,by go_num,unhide HI⟩
    case measure=>simp[intOf];omega
  ·obtain rfl:k=nl:=by omega
   go_wp2
   go_returns
   exact⟨rfl,hI⟩
theorem aiz(w:World)(x sv cs n cap:Nat)(cb:Nat→Nat)(I:Nat→World→Prop)(Post:World→Prop)(h0:I 0 w)(hx:w.cell? ⟨x,2,none⟩=some (.slice (some ⟨cs,0,none⟩) n cap))
  (hr:Hid (∀i wr,i<n→I i wr→wr.cell? ⟨cs,i,none⟩=some (ptr (cb i))∧Calls Tryz.prog 36 #[ptr (cb i)] wr fun e w'=>e=.returned (.tuple #[])∧I (i+1) w')) (hn:n≤1000)
  (hs:Hid (∀wr,I n wr→wr.cell? ⟨x,1,none⟩=some (ptr sv)∧Calls Tryz.prog 37 #[ptr sv] wr fun e w'=>e=.returned (.tuple #[])∧Post w')) :
  Calls Tryz.prog 15 #[ptr x] w fun e w'=>e=.returned (.tuple #[])∧Post w':=by
 have H0:=aab h0
 clear h0
 go_enter Tryz.func15,Tryz.ntmps15
 go_wp2
 go_loopw [9] (fun iv wr=>∃k:Nat,k≤n∧iv=.int .i64 k∧I k wr) (fun iv _=>n-(intOf iv).toNat)
 case atStart=>exact⟨0,Nat.zero_le _,rfl,unhide H0⟩
 case round=>
  obtain⟨k,hk,rfl,hI⟩:=hrel
  by_cases hlt:k<n
  ·obtain⟨hst,hC⟩:=(unhide hr) k wr hlt hI
   have HC:=aab hC
   clear hC
   go_wp2_with (first|(go_at_call 36;refine(unhide HC).mono ?_;rintro e w3 ⟨rfl,hw3⟩))
   go_roundw
   case rel=>exact⟨k+1,by omega,by go_num,hw3⟩
   case measure=>simp[intOf];omega
  ·obtain rfl:k=n:=by omega
   obtain⟨hst,hC⟩:=(unhide hs) wr hI
   have HC:=aab hC
   clear hC
   go_wp2_with (first|(go_at_call 37;refine(unhide HC).mono ?_;rintro e w3 ⟨rfl,hw3⟩))
   go_returns
   exact⟨rfl,hw3⟩
theorem LW.tickC{p:Pl}{F:aai}{G:R.Wd}{w:World}(h:LW p F G w){i:Nat}(hi:i<G.clients.length) :
  Calls Tryz.prog 36 #[ptr (p.cb i)] w fun e w'=>e=.returned (.tuple #[])∧∃F',LW p F' (YtblomippkddgiaaGreatDoor.tickC G i G.c.lines.toNat) w'∧Went F F' w w':=by
 have get:∀{F':aai} {n:Nat} {wr:World},LW p F' (YtblomippkddgiaaGreatDoor.tickC G i n) wr→∃c,(YtblomippkddgiaaGreatDoor.tickC G i n).clients[i]?=some c∧c.lines.length=G.c.lines.toNat:=fun {F' n wr} hw=>by
  have e1:=hw.wf.ncl
  have e0:=h.wf.ncl
  rw[agI,←e0]at e1
  have hlt:i<(YtblomippkddgiaaGreatDoor.tickC G i n).clients.length:=by omega
  refine⟨_,List.getElem?_eq_getElem hlt,?_⟩
  have:=(hw.wf.cl i _ (List.getElem?_eq_getElem hlt)).lines
  rw[agI]at this
  omega
 have hlb:∀{F':aai} {n:Nat} {wr:World},LW p F' (YtblomippkddgiaaGreatDoor.tickC G i n) wr→wr.cell? ⟨p.cb i,3,none⟩=some (.slice (some ⟨p.lb i,0,none⟩) G.c.lines.toNat G.c.lines.toNat):=fun {F' n wr} hw=>by
  obtain⟨c,hc,hl⟩:=get hw
  have:=(ail hw hc).a3
  rw[hl]at this
  exact this
 have hcf:=h.wf.cf
 unfold R.okCf at hcf
 refine ajS w (p.cb i) (p.lb i) G.c.lines.toNat (fun n wr=>∃F',LW p F' (YtblomippkddgiaaGreatDoor.tickC G i n) wr∧Went F F' w wr) ⟨F,h,Went.refl F w⟩ ?_ ?_ (by omega)
 ·rintro k wr ⟨F',hw,_⟩
  exact hlb hw
 ·rintro k wr hk ⟨F',hw,hwt⟩
  obtain⟨c,hc,hl⟩:=get hw
  have hlk:c.lines[k]?=some (c.lines[k]'(by omega)):=List.getElem?_eq_getElem (by omega)
  obtain⟨xs,x,hL,hR,hx,hx1,hla,_⟩:=hw.line hc hlk
  refine⟨x.state,hla.a0,fun h1=>?_,fun h1=>?_⟩
  ·refine(hw.wait hc hlk (by rw[←hx1.state];exact h1)).mono ?_
   rintro e w' ⟨rfl,F'',q1,q2⟩
   exact⟨rfl,F'',by rw[abq];exact q1,hwt.trans q2⟩
  ·refine⟨F',?_,hwt⟩
   rw[abq,abO (R.lineP_some hc hlk) (by rw[←hx1.state];exact h1)]
   exact hw
def alX(seen:List R.Sn)(i:Nat):Bool:=decide (((seen[i]?).getD R.sn0).seq≠0)
def idx(seen:List R.Sn):List Nat:=(List.range 9).filter (alX seen)
theorem agU(t:SP)(seen:List R.Sn)(n:Nat):afg (qf t seen) n=((List.range n).filter (alX seen)).map fun i=>ptr (t.ql i):=by
 induction n with
 |zero=>rfl
 |succ n ih=>
  rw[ad1,ih,List.range_succ,List.filter_append,List.map_append]
  unfold qf
  by_cases h:((seen[n]?).getD R.sn0).seq=0
  ·simp[h,alX]
  ·simp[h,alX]
theorem ahW(t:SP)(seen:List R.Sn):afg (qf t seen) 9=(idx seen).map fun i=>ptr (t.ql i):=agU t seen 9
theorem ak7(seen:List R.Sn):(idx seen).Nodup:=(List.nodup_range).filter _
theorem aoP(seen:List R.Sn):(idx seen).length≤9:=by
 have:=List.length_filter_le (alX seen) (List.range 9)
 rw[List.length_range]at this
 exact this
theorem adV(G:R.Wd){j i:Nat}(h:i≠j)(r:R.Sn):(R.setSeen G j r).seen[i]?=G.seen[i]?:=by
 unfold R.setSeen
 simp only
 rw[List.getElem?_set,if_neg (fun e=>h e.symm)]
theorem act(G:R.Wd)(j:Nat):(R.tickSeen G j).lives=G.lives∧(R.tickSeen G j).c=G.c∧∀i,i≠j→(R.tickSeen G j).seen[i]?=G.seen[i]?:=by
 unfold R.tickSeen
 simp only
 repeat' split
 ·exact⟨rfl,rfl,fun i _=>rfl⟩
 ·exact⟨rfl,rfl,fun i hi=>adV G hi _⟩
 ·exact⟨rfl,rfl,fun i hi=>adV G hi _⟩
 ·exact⟨by rw[aaN];rfl,by rw[adm];rfl,fun i hi=>by rw[ab1];exact adV G hi _⟩
theorem afL:∀(l:List Nat) (G:R.Wd),(l.foldl R.tickSeen G).lives=G.lives∧(l.foldl R.tickSeen G).c=G.c∧∀i,i ∉ l→(l.foldl R.tickSeen G).seen[i]?=G.seen[i]?
 |[],G=>⟨rfl,rfl,fun _ _=>rfl⟩
 |j :: l,G=>by
  obtain⟨a1,a2,a3⟩:=afL l (R.tickSeen G j)
  obtain⟨b1,b2,b3⟩:=act G j
  rw[List.foldl_cons]
  refine⟨a1.trans b1,a2.trans b2,fun i hi=>?_⟩
  simp only[List.mem_cons,not_or]at hi
  exact(a3 i hi.2).trans (b3 i hi.1)
theorem adM{seen:List R.Sn}(hz:∀(i:Nat) (r:R.Sn),seen[i]?=some r→r.seq=0→r=R.sn0):∀(l:List Nat) (G:R.Wd),l.Nodup→(∀i∈l,G.seen[i]?=seen[i]?)→l.foldl R.tickSeen G=(l.filter (alX seen)).foldl R.tickSeen G
 |[],G,_,_=>rfl
 |j :: l,G,hn,hs=>by
  rw[List.nodup_cons]at hn
  rw[List.foldl_cons,List.filter_cons]
  by_cases h:alX seen j=true
  ·rw[if_pos h,List.foldl_cons]
   refine adM hz l (R.tickSeen G j) hn.2 (fun i hi=>?_)
   rw[(act G j).2.2 i (fun e=>hn.1 (e ▸ hi))]
   exact hs i (List.mem_cons_of_mem _ hi)
  ·rw[if_neg h]
   have h0:R.seenP G j=R.sn0:=by
    unfold R.seenP
    rw[hs j List.mem_cons_self]
    have h:((seen[j]?).getD R.sn0).seq=0:=by simpa [alX] using h
    cases hr:seen[j]? with
    |none=>rfl
    |some r=>
     rw[hr]at h
     rw[hz j r hr (by simpa using h)]
     rfl
   have e:R.tickSeen G j=G:=by
    unfold R.tickSeen
    simp only
    rw[h0,if_pos (show R.sn0.timed=false from rfl)]
   rw[e]
   exact adM hz l G hn.2 (fun i hi=>hs i (List.mem_cons_of_mem _ hi))
theorem ae0{α β:Type}(f:α→β→α)(a:α)(l:List β)(k:Nat)(x:β)(h:l[k]?=some x):(l.take (k+1)).foldl f a=f ((l.take k).foldl f a) x:=by
 rw[List.take_add_one,h]
 simp
theorem LW.tickS{p:Pl}{F:aai}{G:R.Wd}{w:World}(h:LW p F G w) :
  Calls Tryz.prog 37 #[ptr p.s] w fun e w'=>e=.returned (.tuple #[])∧∃F',LW p F' ((List.range 9).foldl R.tickSeen G) w'∧Went F F' w w':=by
 have hfold:(List.range 9).foldl R.tickSeen G=(idx G.seen).foldl R.tickSeen G:=adM (seen:=G.seen) (fun i r hr h0=>(h.cold.sn i r hr).zero h0) (List.range 9) G List.nodup_range (fun _ _=>rfl)
 rw[hfold]
 have hlen:=aoP G.seen
 refine(aiG w p.s (idx G.seen).length (fun k=>p.t.ql ((idx G.seen).getD k 0)) (fun O k wr=>∃F',LW p F' (((idx G.seen).take k).foldl R.tickSeen G) wr∧Went F F' w wr∧wr.ownsRow w.heap.size 143 1 O (idx G.seen).length ((idx G.seen).map fun i=>ptr (p.t.ql i))∧∀j,O.ownBlock=some j→¬F' j) hlen ?_ ?_ ?_).mono ?_
 ·refine h.srv.rem.mono ?_
  rintro e w1 ⟨O,rfl,hrow,hb⟩
  rw[ahW,List.length_map]at hrow
  refine⟨O,rfl,F,h.below hb,Went.ofBelow F hb,hrow,fun j hj hF=>?_⟩
  have h1:=((World.ownsRow.lt hrow) j hj).1
  have h2:=h.lt j hF
  omega
 ·rintro O k wr ⟨F',_,_,hrow,_⟩
  exact aas hrow
 ·rintro O k wr hk ⟨F',hw,hwt,hrow,hap⟩
  have hik:(idx G.seen)[k]?=some ((idx G.seen)[k]):=List.getElem?_eq_getElem hk
  have hgd:(idx G.seen).getD k 0=(idx G.seen)[k]:=by rw[List.getD_eq_getElem?_getD,hik];rfl
  rw[hgd]
  generalize hi:(idx G.seen)[k]=i at hik
  have hmem:i∈idx G.seen:=List.mem_of_getElem? hik
  have hin:alX G.seen i=true:=(List.mem_filter.1 hmem).2
  have hi9:i<9:=by simpa using (List.mem_filter.1 hmem).1
  have hr:G.seen[i]?=some (R.seenP G i):=by
   have hl:i<G.seen.length:=by rw[h.cold.sl];exact hi9
   rw[R.seenP_some (List.getElem?_eq_getElem hl)]
   exact List.getElem?_eq_getElem hl
  have hne:(R.seenP G i).seq≠0:=by
   have:((G.seen[i]?).getD R.sn0).seq≠0:=by simpa [alX] using hin
   exact this
  have hnot:i ∉ (idx G.seen).take k:=fun hm=>by
   obtain⟨j,hj⟩:=List.mem_iff_getElem?.1 hm
   rw[List.getElem?_take]at hj
   split at hj
   ·have hjk:j=k:=by
     have hjl:=(List.getElem?_eq_some_iff.1 hj).1
     exact(List.getElem?_inj hjl (ak7 G.seen)).1 (hj.trans hik.symm)
    omega
   ·cases hj
  have hr':(((idx G.seen).take k).foldl R.tickSeen G).seen[i]?=some (R.seenP G i):=by rw[(afL _ G).2.2 i hnot];exact hr
  obtain⟨y,hq,_⟩:=hw.q hr' hne
  obtain⟨_,_,_,_,_,_,_,_,_,c9,_⟩:=yAt hq.blk
  have hs:=hw.cold.sn i _ hr'
  rcases hrow.2 with ⟨_,h0⟩|⟨g,cap,cur,rfl,_,hg,_,_,hsz,htk⟩
  ·omega
  ·refine⟨g,cap,rfl,?_,y.wait,c9,fun hx=>?_,fun hx=>?_⟩
   ·have:((idx G.seen).map fun i=>ptr (p.t.ql i))[k]?=some (ptr (p.t.ql i)):=by rw[List.getElem?_map,hik];rfl
    rw[←htk,List.getElem?_take,if_pos (by omega)]at this
    simp[World.cell?,hg]
    simpa using this
   ·have ht:(R.seenP G i).timed=true:=by
     have:=hq.rel.wait
     cases e:(R.seenP G i).timed with
     |true=>rfl
     |false=>rw[e]at this;simp at this;omega
    refine(hw.waitS hq ht).mono ?_
    rintro e w' ⟨rfl,F'',g1,g2⟩
    refine⟨rfl,F'',?_,hwt.trans g2,g2.keeps.row hrow (fun j hj=>hap j hj),fun j hj hF=>?_⟩
    ·rw[ae0 R.tickSeen G _ k i hik]
     exact g1
    ·have hlt:=((World.ownsRow.lt hrow) j hj).2
     rcases g2.fresh j hF with q|q
     ·exact hap j hj q
     ·omega
   ·have ht:(R.seenP G i).timed=false:=by
     have:=hq.rel.wait
     cases e:(R.seenP G i).timed with
     |false=>rfl
     |true=>
      rw[e]at this
      have:=(hs.timed e).2.1
      simp at *
      omega
    refine⟨F',?_,hwt,hrow,hap⟩
    rw[ae0 R.tickSeen G _ k i hik]
    have e:R.tickSeen (((idx G.seen).take k).foldl R.tickSeen G) i=((idx G.seen).take k).foldl R.tickSeen G:=by
     generalize ((idx G.seen).take k).foldl R.tickSeen G=K at hr'
     unfold R.tickSeen
     simp only
     rw[R.seenP_some hr',if_pos ht]
    rw[e]
    exact hw
 ·rintro e w' ⟨rfl,O,F',hw,hwt,_⟩
  rw[List.take_length]at hw
  exact⟨rfl,F',hw,hwt⟩
theorem LW.tick{p:Pl}{F:aai}{G:R.Wd}{w:World}(h:LW p F G w) :
  Calls Tryz.prog 15 #[ptr p.x] w fun e w'=>e=.returned (.tuple #[])∧∃F',LW p F' (R.tickP G) w'∧Went F F' w w':=by
 unfold R.tickP
 rw[adl]
 have hcf:=h.wf.cf
 have e0:=h.wf.ncl
 unfold R.okCf at hcf
 refine aiz w p.x p.s p.cs G.clients.length p.cap p.cb (fun n wr=>∃F',LW p F' (tickW G n) wr∧Went F F' w wr) _ ⟨F,h,Went.refl F w⟩ (aaa h.bx 2 _ rfl) ?_ (by omega) ?_
 ·rintro i wr hi ⟨F',hw,hwt⟩
  have e1:=hw.wf.ncl
  rw[aob,←e0]at e1
  have hlt:i<(tickW G i).clients.length:=by omega
  obtain⟨cur,h1,h2⟩:=hw.bcs
  refine⟨by simp[World.cell?,h1,h2 i hlt],?_⟩
  refine(hw.tickC hlt).mono ?_
  rintro e w' ⟨rfl,F'',q1,q2⟩
  exact⟨rfl,F'',by rw[ace];exact q1,hwt.trans q2⟩
 ·rintro wr ⟨F',hw,hwt⟩
  refine⟨aaa hw.bx 1 _ rfl,?_⟩
  refine hw.tickS.mono ?_
  rintro e w' ⟨rfl,F'',q1,q2⟩
  exact⟨rfl,F'',q1,hwt.trans q2⟩
end Go.Proofs.YtblomippkddgiaaGreatDoor
