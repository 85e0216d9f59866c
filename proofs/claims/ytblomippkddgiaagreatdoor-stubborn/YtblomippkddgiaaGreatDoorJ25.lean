import Derived.Test.YtblomippkddgiaaGreatDoorJ24
set_option maxRecDepth 100000
set_option maxHeartbeats 1000000
namespace Go.Proofs.YtblomippkddgiaaGreatDoor
open Go.RowKit
theorem ago(w:World)(cb lb bm nl k:Nat)(uid proc kind:Int)(X:Value)(SM:ByteArray)(st sq sq':Int)(A B C:World→Prop)(hk:k<nl)
  (b2:w.cell? ⟨cb,2,none⟩=some (.map (some bm))) (b3:w.cell? ⟨cb,3,none⟩=some (.slice (some ⟨lb,0,none⟩) nl nl)) (a0:w.cell? ⟨lb,k*10,none⟩=some (.int .i64 st)) (a1:w.cell? ⟨lb,k*10+1,none⟩=some (.int .i64 sq))
  (hlook:(Instr.lookup 131 (.map (some bm)) (.int .i64 uid) true).run Tryz.prog w=.ok (.tuple #[.int .i64 kind,.bool true]) w)
  (hst:¬st=1) (hsq:¬sq=999)
  (H54:Hid (∀w',Below w.heap.size w w'→Calls Tryz.prog 109 #[.int .i64 kind,.int .i64 proc,X] w' fun e w''=>e=.returned (.string SM)∧Below w'.heap.size w' w''))
  (H55:Hid (∀w',Below w.heap.size w w'→Calls Tryz.prog 110 #[.pointer (some ⟨lb,k*10,none⟩),.agg #[.int .i64 uid,.int .i64 proc,.string SM,.int .i64 0,.string ⟨#[]⟩,.int .i64 0,.int .i64 0]] w' fun e w''=>e=.returned (.tuple #[])∧A w''))
  (H56:Hid (∀w',A w'→Calls Tryz.prog 111 #[ptr cb,.pointer (some ⟨lb,k*10,none⟩)] w' fun e w''=>e=.returned (.tuple #[])∧B w''))
  (H57:Hid (∀w',B w'→Calls Tryz.prog 112 #[ptr cb,.int .i64 (k:Int),.bool false] w' fun e w''=>e=.returned (.tuple #[])∧C w''))
  (HSQ:Hid (∀w',C w'→w'.cell? ⟨lb,k*10+1,none⟩=some (.int .i64 sq'))) :
  Calls Tryz.prog 64 #[ptr cb,.int .i64 (k:Int),.int .i64 uid,.int .i64 proc,X] w fun e w'=>e=.returned (.tuple #[.int .i64 sq',.int .i64 0])∧C w':=by
 have e1:(st==1)=false:=by simpa using hst
 have e2:(sq==999)=false:=by simpa using hsq
 have q1:(0:Int)≤(k:Int):=by omega
 have q2:(k:Int)<(nl:Int):=by omega
 have hlc:=lt_of_cell b2
 have hll:=lt_of_cell a0
 clear hst hsq
 go_enter Tryz.func64,Tryz.ntmps64
 go_wp2_with (first|(go_at_call 73;go_in))
 refine((unhide H54) _ (Below.refl _ _)).mono ?_
 rintro e w2 ⟨rfl,hb12⟩
 have d3:w2.cell? ⟨cb,3,none⟩=some (.slice (some ⟨lb,0,none⟩) nl nl):=(hb12.cell (p:=⟨cb,3,none⟩) hlc).trans b3
 have f0:w2.cell? ⟨lb,k*10,none⟩=some (.int .i64 st):=(hb12.cell (p:=⟨lb,k*10,none⟩) hll).trans a0
 have f1:w2.cell? ⟨lb,k*10+1,none⟩=some (.int .i64 sq):=(hb12.cell (p:=⟨lb,k*10+1,none⟩) hll).trans a1
 have HB2:=aab hb12
 clear hb12 hlook a0 a1 b2 b3
 go_wp2_with fail
 refine((unhide H55) _ (unhide HB2)).mono ?_
 rintro e w3 ⟨rfl,hA⟩
 have HA:=aab hA
 clear hA d3 f0 f1
 go_wp2_with fail
 refine((unhide H56) _ (unhide HA)).mono ?_
 rintro e w4 ⟨rfl,hB⟩
 have HB:=aab hB
 clear hB
 go_wp2_with fail
 refine((unhide H57) _ (unhide HB)).mono ?_
 rintro e w5 ⟨rfl,hC⟩
 have g1:=(unhide HSQ) _ hC
 have HC:=aab hC
 clear hC
 go_wp2
 go_returns
 exact⟨rfl,unhide HC⟩
theorem aey(w:World)(cb lb nl:Nat)(ln uid proc:Int)(X:Value)(hk:ln<0∨(nl:Int)≤ln)(b3:w.cell? ⟨cb,3,none⟩=some (.slice (some ⟨lb,0,none⟩) nl nl)) :
  Calls Tryz.prog 64 #[ptr cb,.int .i64 ln,.int .i64 uid,.int .i64 proc,X] w fun e w'=>e=.returned (.tuple #[.int .i64 0,.int .i64 14])∧w'=w:=by
 by_cases h0:ln<0
 ·have h1:¬0≤ln:=by omega
  clear hk
  go_enter Tryz.func64,Tryz.ntmps64
  go_wp2_with (first|(go_at_call 73;go_in))
  go_returns
  exact⟨rfl,rfl⟩
 ·have h1:0≤ln:=by omega
  have h2:¬ln<(nl:Int):=by omega
  clear hk
  go_enter Tryz.func64,Tryz.ntmps64
  go_wp2_with (first|(go_at_call 73;go_in))
  go_returns
  exact⟨rfl,rfl⟩
theorem aez(w:World)(cb lb bm nl k:Nat)(uid proc z:Int)(X:Value)(hk:k<nl)(b2:w.cell? ⟨cb,2,none⟩=some (.map (some bm)))(b3:w.cell? ⟨cb,3,none⟩=some (.slice (some ⟨lb,0,none⟩) nl nl))(hlook:(Instr.lookup 131 (.map (some bm)) (.int .i64 uid) true).run Tryz.prog w=.ok (.tuple #[.int .i64 z,.bool false]) w) :
  Calls Tryz.prog 64 #[ptr cb,.int .i64 (k:Int),.int .i64 uid,.int .i64 proc,X] w fun e w'=>e=.returned (.tuple #[.int .i64 0,.int .i64 15])∧w'=w:=by
 have q1:(0:Int)≤(k:Int):=by omega
 have q2:(k:Int)<(nl:Int):=by omega
 go_enter Tryz.func64,Tryz.ntmps64
 go_wp2_with (first|(go_at_call 73;go_in))
 go_returns
 exact⟨rfl,rfl⟩
theorem adw(w:World)(cb lb bm nl k:Nat)(uid proc kind:Int)(X:Value)(n:Nat)(hk:k<nl)(b2:w.cell? ⟨cb,2,none⟩=some (.map (some bm)))(b3:w.cell? ⟨cb,3,none⟩=some (.slice (some ⟨lb,0,none⟩) nl nl))(hlook:(Instr.lookup 131 (.map (some bm)) (.int .i64 uid) true).run Tryz.prog w=.ok (.tuple #[.int .i64 kind,.bool true]) w)
  (H54:Hid (Calls Tryz.prog 109 #[.int .i64 kind,.int .i64 proc,X] w fun e w''=>e=aaf n 0∧Below w.heap.size w w'')) :
  Calls Tryz.prog 64 #[ptr cb,.int .i64 (k:Int),.int .i64 uid,.int .i64 proc,X] w fun e w'=>e=aaf n 0∧Below w.heap.size w w':=by
 have q1:(0:Int)≤(k:Int):=by omega
 have q2:(k:Int)<(nl:Int):=by omega
 go_enter Tryz.func64,Tryz.ntmps64
 go_wp2_with (first|(go_at_call 73;go_in))
 refine(unhide H54).mono ?_
 rintro e w2 ⟨rfl,hb⟩
 go_wp2
 exact⟨rfl,rfl,hb⟩
theorem acx(w:World)(cb lb bm nl k:Nat)(uid proc kind st sq er:Int)(X:Value)(SM:ByteArray)(hk:k<nl)(b2:w.cell? ⟨cb,2,none⟩=some (.map (some bm)))(b3:w.cell? ⟨cb,3,none⟩=some (.slice (some ⟨lb,0,none⟩) nl nl))(a0:w.cell? ⟨lb,k*10,none⟩=some (.int .i64 st))(a1:w.cell? ⟨lb,k*10+1,none⟩=some (.int .i64 sq))
  (hlook:(Instr.lookup 131 (.map (some bm)) (.int .i64 uid) true).run Tryz.prog w=.ok (.tuple #[.int .i64 kind,.bool true]) w) (hx:(st=1∧er=17)∨(¬st=1∧sq=999∧er=11))
  (H54:Hid (Calls Tryz.prog 109 #[.int .i64 kind,.int .i64 proc,X] w fun e w''=>e=.returned (.string SM)∧Below w.heap.size w w'')) :
  Calls Tryz.prog 64 #[ptr cb,.int .i64 (k:Int),.int .i64 uid,.int .i64 proc,X] w fun e w'=>e=.returned (.tuple #[.int .i64 0,.int .i64 er])∧Below w.heap.size w w':=by
 have q1:(0:Int)≤(k:Int):=by omega
 have q2:(k:Int)<(nl:Int):=by omega
 have hlc:=lt_of_cell b2
 have hll:=lt_of_cell a0
 have HX:=aab hx
 clear hx
 go_enter Tryz.func64,Tryz.ntmps64
 go_wp2_with (first|(go_at_call 73;go_in))
 refine(unhide H54).mono ?_
 rintro e w2 ⟨rfl,hb12⟩
 have d3:w2.cell? ⟨cb,3,none⟩=some (.slice (some ⟨lb,0,none⟩) nl nl):=(hb12.cell (p:=⟨cb,3,none⟩) hlc).trans b3
 have f0:w2.cell? ⟨lb,k*10,none⟩=some (.int .i64 st):=(hb12.cell (p:=⟨lb,k*10,none⟩) hll).trans a0
 have f1:w2.cell? ⟨lb,k*10+1,none⟩=some (.int .i64 sq):=(hb12.cell (p:=⟨lb,k*10+1,none⟩) hll).trans a1
 have HB2:=aab hb12
 clear hb12 hlook a0 a1 b2 b3
 rcases unhide HX with ⟨rfl,rfl⟩|⟨h1,rfl,rfl⟩
 ·go_wp2
  go_returns
  exact⟨rfl,unhide HB2⟩
 ·have e1:(st==1)=false:=by simpa using h1
  go_wp2
  go_returns
  exact⟨rfl,unhide HB2⟩
def aeh(r:Int×Int):Ending:=if r.2=16∨r.2=4 then aaf r.2.toNat 0 else .returned (.tuple #[.int .i64 r.1,.int .i64 r.2])
theorem amh{k p:Int}{f t:ByteArray}(h:R.sigP k p=some (f,t)):∀v out,V.eaten f v=some out→out.length≤70:=by
 unfold R.sigP at h
 split at h
 ·cases h;exact fun v out h=>V.eaten_leaf h (by decide +kernel) (by decide +kernel) (by decide +kernel) (by decide +kernel) (by decide +kernel)
 ·split at h
  ·cases h;exact fun v out h=>V.eaten_leaf h (by decide +kernel) (by decide +kernel) (by decide +kernel) (by decide +kernel) (by decide +kernel)
  ·split at h
   ·cases h;exact fun v out h=>V.eaten_str h (by decide +kernel)
   ·split at h
    ·cases h;exact fun v out h=>V.eaten_leaf h (by decide +kernel) (by decide +kernel) (by decide +kernel) (by decide +kernel) (by decide +kernel)
    ·split at h
     ·cases h;exact fun v out h=>V.eaten_desk h
     ·cases h
theorem LW.kind{p:Pl}{F:aai}{G:R.Wd}{w:World}(h:LW p F G w){uid:Int}(hu:1≤uid∧uid≤(G.services.length:Int)):0≤aan G uid∧aan G uid≤2:=by
 have hl:(uid-1).toNat<G.services.length:=by omega
 unfold aan
 rw[List.getElem?_eq_getElem hl]
 exact h.wf.svk _ (List.getElem_mem hl)
theorem LW.callC{p:Pl}{F:aai}{G:R.Wd}{w:World}(h:LW p F G w)(ht:acG w){i:Nat}{c:R.Cl}(hc:G.clients[i]?=some c)(ln uid proc:Int)(hu64:-9223372036854775808≤uid∧uid≤9223372036854775807){X:Value}{v:List V.It}(hI:V.Items w X v)(hn:v.length≤9000000000000) :
  Calls Tryz.prog 64 #[ptr (p.cb i),.int .i64 ln,.int .i64 uid,.int .i64 proc,X] w fun e w'=>e=aeh (R.callP G i ln uid proc v).1∧∃F',LW p F' (R.callP G i ln uid proc v).2 w'∧Went F F' w w':=by
 have hca:=ail h hc
 have hi:=(List.getElem?_eq_some_iff.1 hc).1
 have hln:=(h.wf.cl i c hc).lines
 unfold R.callP
 rw[if_neg (by omega)]
 by_cases h2:ln<0∨G.c.lines≤ln
 ·rw[if_pos h2]
  refine(aey w (p.cb i) (p.lb i) c.lines.length ln uid proc X (by omega) hca.a3).mono ?_
  rintro e w' ⟨rfl,rfl⟩
  exact⟨rfl,F,h,Went.refl F w'⟩
 ·rw[if_neg h2]
  obtain⟨k,rfl⟩:∃k:Nat,ln=(k:Int):=⟨ln.toNat,by omega⟩
  have hk:k<c.lines.length:=by omega
  rw[Int.toNat_natCast,hc]
  simp only[Option.map_some,Option.getD_some]
  have hlook:=anf (h.bound i c hc) (u:=uid) hu64
  by_cases h3:uid∈c.bound
  ·rw[if_neg (not_not_intro h3)]
   have hub:=(h.wf.cl i c hc).bound uid h3
   have hsv:=h.wf.sv
   have hbo:aaJ G c uid=some (aan G uid):=by unfold aaJ;rw[if_pos h3]
   rw[hbo]at hlook
   simp only[Option.getD_some,Option.isSome_some]at hlook
   rw[show ((G.services[(uid-1).toNat]?).map (·.kind)).getD 0=aan G uid from rfl]
   have hkd:=h.kind hub
   cases hs:R.sigP (aan G uid) proc with
   |none=>
    refine(adw w (p.cb i) (p.lb i) (p.bm i) c.lines.length k uid proc (aan G uid) X 16 hk hca.a2 hca.a3 hlook (aer _ _ hkd hs X w ht)).mono ?_
    rintro e w' ⟨rfl,hb⟩
    exact⟨rfl,F,h.below hb,Went.ofBelow F hb⟩
   |some ft=>
    obtain⟨f,t⟩:=ft
    obtain⟨_,hf,_,hp,_⟩:=acg hs
    simp only
    cases hby:R.bytesP f v with
    |none=>
     have hm:¬(V.mRes f v).1=0:=fun e=>by
      unfold R.bytesP at hby
      rw[if_pos e]at hby
      cases hby
     have h4:=V.mRes_four hf (amh hs v) hm
     refine(adw w (p.cb i) (p.lb i) (p.bm i) c.lines.length k uid proc (aan G uid) X 4 hk hca.a2 hca.a3 hlook ?_).mono ?_
     ·refine(acs _ _ f t hs X v w ht hI hn).mono ?_
      rintro e w' ⟨⟨h0,_⟩|⟨_,rfl⟩,hb⟩
      ·exact absurd h0 hm
      ·rw[h4]
       exact⟨rfl,hb⟩
     ·rintro e w' ⟨rfl,hb⟩
      exact⟨rfl,F,h.below hb,Went.ofBelow F hb⟩
    |some bs=>
     have hm:(V.mRes f v).1=0∧(V.mRes f v).2=bs:=by
      unfold R.bytesP at hby
      split at hby
      ·rename_i e
       exact⟨e,Option.some.inj hby⟩
      ·cases hby
     have HW:∀w',Below w.heap.size w w'→Calls Tryz.prog 109 #[.int .i64 (aan G uid),.int .i64 proc,X] w' fun e w''=>e=.returned (.string (str (two8 proc++bs)))∧Below w'.heap.size w' w'':=fun w' hb=>by
      refine(acs _ _ f t hs X v w' (ht.below hb) (hI.below hb) hn).mono ?_
      rintro e w'' ⟨⟨_,rfl⟩|⟨h0,_⟩,hb⟩
      ·rw[hm.2]
       exact⟨rfl,hb⟩
      ·exact absurd hm.1 h0
     have hl:c.lines[k]?=some c.lines[k]:=List.getElem?_eq_getElem hk
     simp only
     rw[R.lineP_some hc hl]
     generalize c.lines[k]=l at hl ⊢
     obtain⟨xs,x,hL,hR,hx,hx1,hla,hrs,hit⟩:=h.line hc hl
     have hok:=(h.wf.cl i c hc).line k l hl
     have est:=hx1.state
     have esq:=hx1.seq
     by_cases h5:l.state=1
     ·rw[if_pos h5]
      refine(acx w (p.cb i) (p.lb i) (p.bm i) c.lines.length k uid proc (aan G uid) x.state x.seq 17 X _ hk hca.a2 hca.a3 hla.a0 hla.a1 hlook (Or.inl ⟨est.trans h5,rfl⟩) (HW w (Below.refl _ _))).mono ?_
      rintro e w' ⟨rfl,hb⟩
      exact⟨rfl,F,h.below hb,Went.ofBelow F hb⟩
     ·rw[if_neg h5]
      by_cases h6:l.seq=999
      ·rw[if_pos h6]
       refine(acx w (p.cb i) (p.lb i) (p.bm i) c.lines.length k uid proc (aan G uid) x.state x.seq 11 X _ hk hca.a2 hca.a3 hla.a0 hla.a1 hlook (Or.inr ⟨by rw[est];exact h5,esq.trans h6,rfl⟩) (HW w (Below.refl _ _))).mono ?_
       rintro e w' ⟨rfl,hb⟩
       exact⟨rfl,F,h.below hb,Went.ofBelow F hb⟩
      ·rw[if_neg h6]
       have hbl:=R.bytesP_len hby
       have hfl:F (p.lb i):=(h.feet i hi).2.1
       have hne:p.cb i≠p.lb i:=ne_tag (h.cl i c hc) hL (by decide)
       have hcf:=h.wf.cf
       unfold R.okCf at hcf
       have hlb:=lt_of_block hL
       have hlc:=lt_of_cell hca.a0
       have htk:(two8 proc++bs).take 2=two8 proc:=by simp[two8]
       generalize hM:two8 proc++bs=M at *
       have hM2:M.length≤72∧2≤M.length:=by
        rw[←hM]
        simp[two8]
        omega
       have hpp:=R.pieces_pos (s:=M) (by omega)
       have hsq:=hok.seq
       have hnew:R.LnOk ⟨l.seq+1,1,[],uid,t,M,0,[],0,G.c.retry,G.c.tries⟩:=⟨by simp only;omega,fun _=>⟨by simp only;omega,by simp only;omega,by simp only;omega,by simp only;omega,by simp only;omega,by simp only;omega⟩⟩
       have hc':(R.setLine G i k ⟨l.seq+1,1,[],uid,t,M,0,[],0,G.c.retry,G.c.tries⟩).clients[i]?=some {c with lines:=c.lines.set k ⟨l.seq+1,1,[],uid,t,M,0,[],0,G.c.retry,G.c.tries⟩}:=by
        rw[R.setLine_client,hc]
        simp
       have hl':(c.lines.set k ⟨l.seq+1,1,[],uid,t,M,0,[],0,G.c.retry,G.c.tries⟩)[k]?=some ⟨l.seq+1,1,[],uid,t,M,0,[],0,G.c.retry,G.c.tries⟩:=by simp[hk]
       refine(ago w (p.cb i) (p.lb i) (p.bm i) c.lines.length k uid proc (aan G uid) X (str M) x.state x.seq (l.seq+1)
        (fun w3=>w3.heap[p.lb i]?=some (.cells (tab LLn.cells (xs.set k ⟨1,x.seq+1,.slice none 0 0,uid,proc,M,0,[],0,0⟩)).toArray 139 (0,0))∧Keeps (fun q=>q=p.lb i) w w3)
        (fun w4=>LW p F (R.setLine G i k ⟨l.seq+1,1,[],uid,t,M,0,[],0,G.c.retry,G.c.tries⟩) w4∧Went F F w w4)
        (fun w5=>∃F',LW p F' (R.sendPieceP (R.setLine G i k ⟨l.seq+1,1,[],uid,t,M,0,[],0,G.c.retry,G.c.tries⟩) i k false) w5∧Went F F' w w5)
        hk hca.a2 hca.a3 hla.a0 hla.a1 hlook (by rw[est];exact h5) (by rw[esq];exact h6) HW ?_ ?_ ?_ ?_).mono ?_
       ·intro w' hb'
        have hL':=(hb'.block _ hlb).trans hL
        refine(alF w' (p.lb i) k uid proc M xs x (abC hit) hL' hx (by rw[esq];omega)).mono ?_
        rintro e w'' ⟨rfl,q1,q2⟩
        exact⟨rfl,q1,(Keeps.ofBelow hb' _).trans q2⟩
       ·rintro w3 ⟨q1,q2⟩
        have d4:w3.cell? ⟨p.cb i,4,none⟩=some (.int .i64 G.c.retry):=(World.cell?_of_block (q2.block (p.cb i) hlc hne)).trans hca.a4
        have d5:w3.cell? ⟨p.cb i,5,none⟩=some (.int .i64 G.c.tries):=(World.cell?_of_block (q2.block (p.cb i) hlc hne)).trans hca.a5
        refine(ahT w3 (p.cb i) (p.lb i) k G.c.retry G.c.tries _ ⟨1,x.seq+1,.slice none 0 0,uid,proc,M,0,[],0,0⟩ q1 (by simp[(List.getElem?_eq_some_iff.1 hx).1]) d4 d5 hne).mono ?_
        rintro e w4 ⟨rfl,r1,r2⟩
        simp only[List.set_set]at r1
        have hkk:=q2.trans r2
        refine⟨rfl,h.turn hc hL hR hrs hkk r1 hnew ⟨rfl,by simp only;rw[esq],fun _=>rfl,fun _=>⟨rfl,rfl,rfl,rfl,rfl⟩,fun _=>⟨rfl,hp,htk⟩⟩ (aa2.nil _ _),⟨hkk.mono (fun q _ e=>by rw[e];exact hfl),fun _ q=>Or.inl q⟩⟩
       ·rintro w4 ⟨q1,q2⟩
        refine(q1.piece hc' hl' rfl (by simp only;omega) false).mono ?_
        rintro e w5 ⟨rfl,F',r1,r2⟩
        exact⟨rfl,F',r1,q2.trans r2⟩
       ·rintro w5 ⟨F',q1,_⟩
        have e1:(R.sendPieceP (R.setLine G i k ⟨l.seq+1,1,[],uid,t,M,0,[],0,G.c.retry,G.c.tries⟩) i k false).clients[i]?=some {c with lines:=c.lines.set k ⟨l.seq+1,1,[],uid,t,M,0,[],0,G.c.retry,G.c.tries⟩}:=by
         unfold R.sendPieceP
         rw[aa4]
         exact hc'
        obtain⟨_,y,_,_,_,hy,hya,_⟩:=q1.line e1 hl'
        have:=hya.a1
        rw[hy.seq]at this
        exact this
       ·rintro e w' ⟨rfl,F',q1,q2⟩
        exact⟨by simp[aeh],F',q1,q2⟩
  ·rw[if_pos h3]
   have hbo:aaJ G c uid=none:=by unfold aaJ;rw[if_neg h3]
   rw[hbo]at hlook
   refine(aez w (p.cb i) (p.lb i) (p.bm i) c.lines.length k uid proc 0 X hk hca.a2 hca.a3 hlook).mono ?_
   rintro e w' ⟨rfl,rfl⟩
   exact⟨rfl,F,h,Went.refl F w'⟩
end Go.Proofs.YtblomippkddgiaaGreatDoor
