import Derived.Test.YtblomippkddgiaaGreatDoorK22
set_option maxRecDepth 100000
set_option maxHeartbeats 1000000
namespace Go.Proofs.YtblomippkddgiaaGreatDoor
open Go.RowKit
theorem NB(w:World)(cb lb bm nl k:Nat)(uid proc kind:Int)(X:Value)(SM:ByteArray)(st sq sq':Int)(A B C:World->Prop)(hk:k<nl)
  (b2:w.cell? ⟨cb,2,none⟩=some (.map (some bm))) (b3:w.cell? ⟨cb,3,none⟩=some (.slice (some ⟨lb,0,none⟩) nl nl)) (a0:w.cell? ⟨lb,k*10,none⟩=some (.int .i64 st)) (a1:w.cell? ⟨lb,k*10+1,none⟩=some (.int .i64 sq))
  (hlook:(Instr.lookup 131 (.map (some bm)) (.int .i64 uid) true).run Tryz.prog w=.ok (.tuple #[.int .i64 kind,.bool true]) w)
  (hst:¬st=1) (hsq:¬sq=999)
  (H54:Hid (∀w',Below w.heap.size w w'->Calls Tryz.prog 109 #[.int .i64 kind,.int .i64 proc,X] w' fun e w''=>e=.returned (.string SM)/\Below w'.heap.size w' w''))
  (H55:Hid (∀w',Below w.heap.size w w'->Calls Tryz.prog 110 #[.pointer (some ⟨lb,k*10,none⟩),.agg #[.int .i64 uid,.int .i64 proc,.string SM,.int .i64 0,.string ⟨#[]⟩,.int .i64 0,.int .i64 0]] w' fun e w''=>e=.returned (.tuple #[])/\A w''))
  (H56:Hid (∀w',A w'->Calls Tryz.prog 111 #[ptr cb,.pointer (some ⟨lb,k*10,none⟩)] w' fun e w''=>e=.returned (.tuple #[])/\B w''))
  (H57:Hid (∀w',B w'->Calls Tryz.prog 112 #[ptr cb,.int .i64 (k:Int),.bool false] w' fun e w''=>e=.returned (.tuple #[])/\C w''))
  (HSQ:Hid (∀w',C w'->w'.cell? ⟨lb,k*10+1,none⟩=some (.int .i64 sq'))):
  Calls Tryz.prog 64 #[ptr cb,.int .i64 (k:Int),.int .i64 uid,.int .i64 proc,X] w fun e w'=>e=.returned (.tuple #[.int .i64 sq',.int .i64 0])/\C w':=by
 have e1:(st==1)=false:=by simpa using hst
 have e2:(sq==999)=false:=by simpa using hsq
 have q1:(0:Int)<=(k:Int):=by omega
 have q2:(k:Int)<(nl:Int):=by omega
 have hlc:=lt_of_cell b2;have hll:=lt_of_cell a0;clear hst hsq;go_enter Tryz.func64,Tryz.ntmps64;go_wp2_with (first|(go_at_call 73;go_in))
 refine((Aa H54) _ (Below.refl _ _)).mono ?_;rintro e w2 ⟨rfl,hb12⟩;have d3:w2.cell? ⟨cb,3,none⟩=some (.slice (some ⟨lb,0,none⟩) nl nl):=(hb12.cell (p:=⟨cb,3,none⟩) hlc).trans b3;have f0:w2.cell? ⟨lb,k*10,none⟩=some (.int .i64 st):=(hb12.cell (p:=⟨lb,k*10,none⟩) hll).trans a0;have f1:w2.cell? ⟨lb,k*10+1,none⟩=some (.int .i64 sq):=(hb12.cell (p:=⟨lb,k*10+1,none⟩) hll).trans a1;have HB2:=Ab hb12;clear hb12 hlook a0 a1 b2 b3;go_wp2_with fail
 refine((Aa H55) _ (Aa HB2)).mono ?_;rintro e w3 ⟨rfl,hA⟩;have HA:=Ab hA;clear hA d3 f0 f1;go_wp2_with fail
 refine((Aa H56) _ (Aa HA)).mono ?_;rintro e w4 ⟨rfl,hB⟩;have HB:=Ab hB;clear hB;go_wp2_with fail
 refine((Aa H57) _ (Aa HB)).mono ?_;rintro e w5 ⟨rfl,hC⟩;have g1:=(Aa HSQ) _ hC;have HC:=Ab hC;clear hC;go_wp2;go_returns;exact⟨rfl,Aa HC⟩
theorem KY(w:World)(cb lb nl:Nat)(ln uid proc:Int)(X:Value)(hk:ln<0\/(nl:Int)<=ln)(b3:w.cell? ⟨cb,3,none⟩=some (.slice (some ⟨lb,0,none⟩) nl nl)):
  Calls Tryz.prog 64 #[ptr cb,.int .i64 ln,.int .i64 uid,.int .i64 proc,X] w fun e w'=>e=.returned (.tuple #[.int .i64 0,.int .i64 14])/\w'=w:=by
 by_cases h0:ln<0
 ·have h1:¬0<=ln:=by omega
  clear hk;go_enter Tryz.func64,Tryz.ntmps64;go_wp2_with (first|(go_at_call 73;go_in))
  go_returns;exact⟨rfl,rfl⟩
 ·have h1:0<=ln:=by omega
  have h2:¬ln<(nl:Int):=by omega
  clear hk;go_enter Tryz.func64,Tryz.ntmps64;go_wp2_with (first|(go_at_call 73;go_in))
  go_returns;exact⟨rfl,rfl⟩
theorem KX(w:World)(cb lb bm nl k:Nat)(uid proc z:Int)(X:Value)(hk:k<nl)(b2:w.cell? ⟨cb,2,none⟩=some (.map (some bm)))(b3:w.cell? ⟨cb,3,none⟩=some (.slice (some ⟨lb,0,none⟩) nl nl))(hlook:(Instr.lookup 131 (.map (some bm)) (.int .i64 uid) true).run Tryz.prog w=.ok (.tuple #[.int .i64 z,.bool false]) w):
  Calls Tryz.prog 64 #[ptr cb,.int .i64 (k:Int),.int .i64 uid,.int .i64 proc,X] w fun e w'=>e=.returned (.tuple #[.int .i64 0,.int .i64 15])/\w'=w:=by
 have q1:(0:Int)<=(k:Int):=by omega
 have q2:(k:Int)<(nl:Int):=by omega
 go_enter Tryz.func64,Tryz.ntmps64;go_wp2_with (first|(go_at_call 73;go_in))
 go_returns;exact⟨rfl,rfl⟩
theorem Jf(w:World)(cb lb bm nl k:Nat)(uid proc kind:Int)(X:Value)(n:Nat)(hk:k<nl)(b2:w.cell? ⟨cb,2,none⟩=some (.map (some bm)))(b3:w.cell? ⟨cb,3,none⟩=some (.slice (some ⟨lb,0,none⟩) nl nl))(hlook:(Instr.lookup 131 (.map (some bm)) (.int .i64 uid) true).run Tryz.prog w=.ok (.tuple #[.int .i64 kind,.bool true]) w)
  (H54:Hid (Calls Tryz.prog 109 #[.int .i64 kind,.int .i64 proc,X] w fun e w''=>e=Ax n 0/\Below w.heap.size w w'')):
  Calls Tryz.prog 64 #[ptr cb,.int .i64 (k:Int),.int .i64 uid,.int .i64 proc,X] w fun e w'=>e=Ax n 0/\Below w.heap.size w w':=by
 have q1:(0:Int)<=(k:Int):=by omega
 have q2:(k:Int)<(nl:Int):=by omega
 go_enter Tryz.func64,Tryz.ntmps64;go_wp2_with (first|(go_at_call 73;go_in))
 refine(Aa H54).mono ?_;rintro e w2 ⟨rfl,hb⟩;go_wp2;exact⟨rfl,rfl,hb⟩
theorem G5(w:World)(cb lb bm nl k:Nat)(uid proc kind st sq er:Int)(X:Value)(SM:ByteArray)(hk:k<nl)(b2:w.cell? ⟨cb,2,none⟩=some (.map (some bm)))(b3:w.cell? ⟨cb,3,none⟩=some (.slice (some ⟨lb,0,none⟩) nl nl))(a0:w.cell? ⟨lb,k*10,none⟩=some (.int .i64 st))(a1:w.cell? ⟨lb,k*10+1,none⟩=some (.int .i64 sq))
  (hlook:(Instr.lookup 131 (.map (some bm)) (.int .i64 uid) true).run Tryz.prog w=.ok (.tuple #[.int .i64 kind,.bool true]) w) (hx:(st=1/\er=17)\/(¬st=1/\sq=999/\er=11))
  (H54:Hid (Calls Tryz.prog 109 #[.int .i64 kind,.int .i64 proc,X] w fun e w''=>e=.returned (.string SM)/\Below w.heap.size w w'')):
  Calls Tryz.prog 64 #[ptr cb,.int .i64 (k:Int),.int .i64 uid,.int .i64 proc,X] w fun e w'=>e=.returned (.tuple #[.int .i64 0,.int .i64 er])/\Below w.heap.size w w':=by
 have q1:(0:Int)<=(k:Int):=by omega
 have q2:(k:Int)<(nl:Int):=by omega
 have hlc:=lt_of_cell b2;have hll:=lt_of_cell a0;have HX:=Ab hx;clear hx;go_enter Tryz.func64,Tryz.ntmps64;go_wp2_with (first|(go_at_call 73;go_in))
 refine(Aa H54).mono ?_;rintro e w2 ⟨rfl,hb12⟩;have d3:w2.cell? ⟨cb,3,none⟩=some (.slice (some ⟨lb,0,none⟩) nl nl):=(hb12.cell (p:=⟨cb,3,none⟩) hlc).trans b3;have f0:w2.cell? ⟨lb,k*10,none⟩=some (.int .i64 st):=(hb12.cell (p:=⟨lb,k*10,none⟩) hll).trans a0;have f1:w2.cell? ⟨lb,k*10+1,none⟩=some (.int .i64 sq):=(hb12.cell (p:=⟨lb,k*10+1,none⟩) hll).trans a1;have HB2:=Ab hb12;clear hb12 hlook a0 a1 b2 b3;rcases Aa HX with ⟨rfl,rfl⟩|⟨h1,rfl,rfl⟩
 ·go_wp2;go_returns;exact⟨rfl,Aa HB2⟩
 ·have e1:(st==1)=false:=by simpa using h1
  go_wp2;go_returns;exact⟨rfl,Aa HB2⟩
def Je(r:Int×Int):Ending:=if r.2=16\/r.2=4 then Ax r.2.toNat 0 else .returned (.tuple #[.int .i64 r.1,.int .i64 r.2])
theorem Yb{k p:Int}{f t:ByteArray}(h:R.CO k p=some (f,t)):∀v out,V.Ji f v=some out->out.length<=70:=by
 unfold R.CO at h;split at h
 ·cases h;exact fun v out h=>V.IQ h (by decide +kernel) (by decide +kernel) (by decide +kernel) (by decide +kernel) (by decide +kernel)
 ·split at h
  ·cases h;exact fun v out h=>V.IQ h (by decide +kernel) (by decide +kernel) (by decide +kernel) (by decide +kernel) (by decide +kernel)
  ·split at h
   ·cases h;exact fun v out h=>V.Uo h (by decide +kernel)
   ·split at h
    ·cases h;exact fun v out h=>V.IQ h (by decide +kernel) (by decide +kernel) (by decide +kernel) (by decide +kernel) (by decide +kernel)
    ·split at h
     ·cases h;exact fun v out h=>V.Rj h
     ·cases h
theorem LW.kind{p:Pl}{F:Aq}{G:R.Wd}{w:World}(h:LW p F G w){uid:Int}(hu:1<=uid/\uid<=(G.Ac.length:Int)):0<=kindOf G uid/\kindOf G uid<=2:=by
 have hl:(uid-1).toNat<G.Ac.length:=by omega
 unfold kindOf;rw[List.getElem?_eq_getElem hl];exact h.wf.MA _ (List.getElem_mem hl)
theorem LW.abD{p:Pl}{F:Aq}{G:R.Wd}{w:World}(h:LW p F G w)(ht:DU w){i:Nat}{c:R.Cl}(hc:G.Ad[i]?=some c)(ln uid proc:Int)(hu64:-9223372036854775808<=uid/\uid<=9223372036854775807){X:Value}{v:List V.It}(hI:V.Items w X v)(hn:v.length<=9000000000000):
  Calls Tryz.prog 64 #[ptr (p.cb i),.int .i64 ln,.int .i64 uid,.int .i64 proc,X] w fun e w'=>e=Je (R.Cz G i ln uid proc v).1/\∃F',LW p F' (R.Cz G i ln uid proc v).2 w'/\Ay F F' w w':=by
 have hca:=K3 h hc;have hi:=(List.getElem?_eq_some_iff.1 hc).1;have hln:=(h.wf.cl i c hc).lines;unfold R.Cz;rw[if_neg (by omega)];by_cases h2:ln<0\/G.c.lines<=ln
 ·rw[if_pos h2];refine(KY w (p.cb i) (p.lb i) c.lines.length ln uid proc X (by omega) hca.a3).mono ?_;rintro e w' ⟨rfl,rfl⟩;exact⟨rfl,F,h,Ay.refl F w'⟩
 ·rw[if_neg h2];obtain⟨k,rfl⟩:∃k:Nat,ln=(k:Int):=⟨ln.toNat,by omega⟩;have hk:k<c.lines.length:=by omega
  rw[Int.toNat_natCast,hc];simp only[Option.map_some,Option.getD_some];have hlook:=WQ (h.bound i c hc) (u:=uid) hu64;by_cases h3:uid∈c.bound
  ·rw[if_neg (not_not_intro h3)];have hub:=(h.wf.cl i c hc).bound uid h3;have hsv:=h.wf.sv;have hbo:BR G c uid=some (kindOf G uid):=by unfold BR;rw[if_pos h3]
   rw[hbo]at hlook;simp only[Option.getD_some,Option.isSome_some]at hlook;rw[show ((G.Ac[(uid-1).toNat]?).map (·.kind)).getD 0=kindOf G uid from rfl];have hkd:=h.kind hub;cases hs:R.CO (kindOf G uid) proc with
   |none=>
    refine(Jf w (p.cb i) (p.lb i) (p.bm i) c.lines.length k uid proc (kindOf G uid) X 16 hk hca.a2 hca.a3 hlook (Mf _ _ hkd hs X w ht)).mono ?_;rintro e w' ⟨rfl,hb⟩;exact⟨rfl,F,h.below hb,Ay.Aj F hb⟩
   |some ft=>
    obtain⟨f,t⟩:=ft;obtain⟨_,hf,_,hp,_⟩:=E9 hs;simp only;cases hby:R.AV f v with
    |none=>
     have hm:¬(V.Cn f v).1=0:=fun e=>by
      unfold R.AV at hby;rw[if_pos e]at hby;cases hby
     have h4:=V.UG hf (Yb hs v) hm;refine(Jf w (p.cb i) (p.lb i) (p.bm i) c.lines.length k uid proc (kindOf G uid) X 4 hk hca.a2 hca.a3 hlook ?_).mono ?_
     ·refine(Ia _ _ f t hs X v w ht hI hn).mono ?_;rintro e w' ⟨⟨h0,_⟩|⟨_,rfl⟩,hb⟩
      ·exact absurd h0 hm
      ·rw[h4];exact⟨rfl,hb⟩
     ·rintro e w' ⟨rfl,hb⟩;exact⟨rfl,F,h.below hb,Ay.Aj F hb⟩
    |some bs=>
     have hm:(V.Cn f v).1=0/\(V.Cn f v).2=bs:=by
      unfold R.AV at hby;split at hby
      ·rename_i e;exact⟨e,Option.some.inj hby⟩
      ·cases hby
     have HW:∀w',Below w.heap.size w w'->Calls Tryz.prog 109 #[.int .i64 (kindOf G uid),.int .i64 proc,X] w' fun e w''=>e=.returned (.string (str (AX proc++bs)))/\Below w'.heap.size w' w'':=fun w' hb=>by
      refine(Ia _ _ f t hs X v w' (ht.below hb) (hI.below hb) hn).mono ?_;rintro e w'' ⟨⟨_,rfl⟩|⟨h0,_⟩,hb⟩
      ·rw[hm.2];exact⟨rfl,hb⟩
      ·exact absurd hm.1 h0
     have hl:c.lines[k]?=some c.lines[k]:=List.getElem?_eq_getElem hk;simp only;rw[R.Cu hc hl];generalize c.lines[k]=l at hl ⊢;obtain⟨xs,x,hL,hR,hx,hx1,hla,hrs,hit⟩:=h.line hc hl;have hok:=(h.wf.cl i c hc).line k l hl;have est:=hx1.state;have esq:=hx1.seq;by_cases h5:l.state=1
     ·rw[if_pos h5];refine(G5 w (p.cb i) (p.lb i) (p.bm i) c.lines.length k uid proc (kindOf G uid) x.state x.seq 17 X _ hk hca.a2 hca.a3 hla.a0 hla.a1 hlook (Or.inl ⟨est.trans h5,rfl⟩) (HW w (Below.refl _ _))).mono ?_;rintro e w' ⟨rfl,hb⟩;exact⟨rfl,F,h.below hb,Ay.Aj F hb⟩
     ·rw[if_neg h5];by_cases h6:l.seq=999
      ·rw[if_pos h6];refine(G5 w (p.cb i) (p.lb i) (p.bm i) c.lines.length k uid proc (kindOf G uid) x.state x.seq 11 X _ hk hca.a2 hca.a3 hla.a0 hla.a1 hlook (Or.inr ⟨by rw[est];exact h5,esq.trans h6,rfl⟩) (HW w (Below.refl _ _))).mono ?_;rintro e w' ⟨rfl,hb⟩;exact⟨rfl,F,h.below hb,Ay.Aj F hb⟩
      ·rw[if_neg h6];have hbl:=R.Gk hby;have hfl:F (p.lb i):=(h.Gs i hi).2.1;have hne:p.cb i≠p.lb i:=Bi (h.cl i c hc) hL (by decide);have hcf:=h.wf.cf;unfold R.BL at hcf;have hlb:=lt_of_block hL;have hlc:=lt_of_cell hca.a0;have htk:(AX proc++bs).take 2=AX proc:=by simp[AX]
       generalize hM:AX proc++bs=M at *;have hM2:M.length<=72/\2<=M.length:=by
        rw[<-hM];simp[AX];omega
       have hpp:=R.Du (s:=M) (by omega);have hsq:=hok.seq;have hnew:R.KM ⟨l.seq+1,1,[],uid,t,M,0,[],0,G.c.Be,G.c.tries⟩:=⟨by simp only;omega,fun _=>⟨by simp only;omega,by simp only;omega,by simp only;omega,by simp only;omega,by simp only;omega,by simp only;omega⟩⟩;have hc':(R.Al G i k ⟨l.seq+1,1,[],uid,t,M,0,[],0,G.c.Be,G.c.tries⟩).Ad[i]?=some {c with lines:=c.lines.set k ⟨l.seq+1,1,[],uid,t,M,0,[],0,G.c.Be,G.c.tries⟩}:=by
        rw[R.Bf,hc];simp
       have hl':(c.lines.set k ⟨l.seq+1,1,[],uid,t,M,0,[],0,G.c.Be,G.c.tries⟩)[k]?=some ⟨l.seq+1,1,[],uid,t,M,0,[],0,G.c.Be,G.c.tries⟩:=by simp[hk]
       refine(NB w (p.cb i) (p.lb i) (p.bm i) c.lines.length k uid proc (kindOf G uid) X (str M) x.state x.seq (l.seq+1)
        (fun w3=>w3.heap[p.lb i]?=some (.cells (tab DK.cells (xs.set k ⟨1,x.seq+1,.slice none 0 0,uid,proc,M,0,[],0,0⟩)).toArray 139 (0,0))/\Af (fun q=>q=p.lb i) w w3)
        (fun w4=>LW p F (R.Al G i k ⟨l.seq+1,1,[],uid,t,M,0,[],0,G.c.Be,G.c.tries⟩) w4/\Ay F F w w4)
        (fun w5=>∃F',LW p F' (R.AA (R.Al G i k ⟨l.seq+1,1,[],uid,t,M,0,[],0,G.c.Be,G.c.tries⟩) i k false) w5/\Ay F F' w w5)
        hk hca.a2 hca.a3 hla.a0 hla.a1 hlook (by rw[est];exact h5) (by rw[esq];exact h6) HW ?_ ?_ ?_ ?_).mono ?_
       ·intro w' hb';have hL':=(hb'.block _ hlb).trans hL;refine(TW w' (p.lb i) k uid proc M xs x (FQ hit) hL' hx (by rw[esq];omega)).mono ?_;rintro e w'' ⟨rfl,q1,q2⟩;exact⟨rfl,q1,(Af.Aj hb' _).trans q2⟩
       ·rintro w3 ⟨q1,q2⟩;have d4:w3.cell? ⟨p.cb i,4,none⟩=some (.int .i64 G.c.Be):=(World.cell?_of_block (q2.block (p.cb i) hlc hne)).trans hca.a4;have d5:w3.cell? ⟨p.cb i,5,none⟩=some (.int .i64 G.c.tries):=(World.cell?_of_block (q2.block (p.cb i) hlc hne)).trans hca.a5;refine(Qe w3 (p.cb i) (p.lb i) k G.c.Be G.c.tries _ ⟨1,x.seq+1,.slice none 0 0,uid,proc,M,0,[],0,0⟩ q1 (by simp[(List.getElem?_eq_some_iff.1 hx).1]) d4 d5 hne).mono ?_;rintro e w4 ⟨rfl,r1,r2⟩;simp only[List.set_set]at r1;have hkk:=q2.trans r2;refine⟨rfl,h.turn hc hL hR hrs hkk r1 hnew ⟨rfl,by simp only;rw[esq],fun _=>rfl,fun _=>⟨rfl,rfl,rfl,rfl,rfl⟩,fun _=>⟨rfl,hp,htk⟩⟩ (BD.nil _ _),⟨hkk.mono (fun q _ e=>by rw[e];exact hfl),fun _ q=>Or.inl q⟩⟩
       ·rintro w4 ⟨q1,q2⟩;refine(q1.piece hc' hl' rfl (by simp only;omega) false).mono ?_;rintro e w5 ⟨rfl,F',r1,r2⟩;exact⟨rfl,F',r1,q2.trans r2⟩
       ·rintro w5 ⟨F',q1,_⟩;have e1:(R.AA (R.Al G i k ⟨l.seq+1,1,[],uid,t,M,0,[],0,G.c.Be,G.c.tries⟩) i k false).Ad[i]?=some {c with lines:=c.lines.set k ⟨l.seq+1,1,[],uid,t,M,0,[],0,G.c.Be,G.c.tries⟩}:=by
         unfold R.AA;rw[IE];exact hc'
        obtain⟨_,y,_,_,_,hy,hya,_⟩:=q1.line e1 hl';have:=hya.a1;rw[hy.seq]at this;exact this
       ·rintro e w' ⟨rfl,F',q1,q2⟩;exact⟨by simp[Je],F',q1,q2⟩
  ·rw[if_pos h3];have hbo:BR G c uid=none:=by unfold BR;rw[if_neg h3]
   rw[hbo]at hlook;refine(KX w (p.cb i) (p.lb i) (p.bm i) c.lines.length k uid proc 0 X hk hca.a2 hca.a3 hlook).mono ?_;rintro e w' ⟨rfl,rfl⟩;exact⟨rfl,F,h,Ay.refl F w'⟩
theorem IL(p0 p1:Addr)(w:World):
  CallsD Tryz.prog 63 #[.pointer (some p0),.pointer (some p1)] .returning w fun e u' w'=>e=.returned (.tuple #[])/\u'=.returning/\w'=w:=by
 refine callsD_of_wpS Tryz.func63 rfl fun c₀ cs hu=>?_
 apply wpS_seq;apply wpS_region;simp[wpOpsS,go_sem,recoverD,hu,Tryz.ntmps63,Exit.thenS];rw[show (#[Value.pointer (some p0),Value.pointer (some p1)]++((Array.replicate 7 undef).setIfInBounds 1 (Value.nilIface)).setIfInBounds 0 (Value.nilIface))=#[.pointer (some p0),.pointer (some p1),.nilIface,.nilIface,undef,undef,undef,undef,undef] from rfl];refine wpS_of_wp ?_;go_wp2;exact⟨rfl,.returning,by cases c₀;simp_all,_,results_none rfl _ _ _,rfl,rfl,rfl⟩
theorem J3(a0 a1:Nat)(n q:Nat)(older:List PanicEntry)(w:World)(h0:w.cell? ⟨a0,0,none⟩=some (.int .i64 0))(h1:w.cell? ⟨a1,0,none⟩=some (.int .i64 0))(z0:w.frozen? ⟨a0,0,none⟩=false)(z1:w.frozen? ⟨a1,0,none⟩=false)(hne:¬a0=a1):
  CallsD Tryz.prog 63 #[.pointer (some ⟨a0,0,none⟩),.pointer (some ⟨a1,0,none⟩)] (.panicking ({v:=.iface 86 (Ba n q),recovered:=false} :: older)) w fun e u' w'=>
   e=.returned (.tuple #[])/\u'=.panicking ({v:=.iface 86 (Ba n q),recovered:=true} :: older)/\w'.cell? ⟨a0,0,none⟩=some (.int .i64 0)/\w'.cell? ⟨a1,0,none⟩=some (.int .i64 n)/\Af (fun k=>k=a0\/k=a1) w w':=by
 refine callsD_of_wpS Tryz.func63 rfl fun c₀ cs hu=>?_
 apply wpS_seq;apply wpS_region;simp[wpOpsS,go_sem,recoverD,hu,Tryz.ntmps63,Exit.thenS];rw[show (#[Value.pointer (some {block:=a0,off:=0}),Value.pointer (some {block:=a1,off:=0})]++((Array.replicate 7 undef).setIfInBounds 1 (Value.iface 86 (Ba n q))).setIfInBounds 0 (Value.iface 86 (Ba n q)))=#[.pointer (some {block:=a0,off:=0}),.pointer (some {block:=a1,off:=0}),.iface 86 (Ba n q),.iface 86 (Ba n q),undef,undef,undef,undef,undef] from rfl];refine wpS_of_wp ?_;have hfl:=V.Fp n q;have l0:=lt_of_cell h0;have l1:=lt_of_cell h1;go_wp2_with fail
 refine(V.Gn n q _).mono ?_;rintro e w1 ⟨rfl,hb⟩;have s1:=hb.size;have g0:w1.cell? ⟨a0,0,none⟩=some (.int .i64 0):=(hb.cell (p:=⟨a0,0,none⟩) l0).trans h0;have g1:w1.cell? ⟨a1,0,none⟩=some (.int .i64 0):=(hb.cell (p:=⟨a1,0,none⟩) l1).trans h1;have y0:w1.frozen? ⟨a0,0,none⟩=false:=(hb.frozen (p:=⟨a0,0,none⟩) l0).trans z0;have y1:w1.frozen? ⟨a1,0,none⟩=false:=(hb.frozen (p:=⟨a1,0,none⟩) l1).trans z1;have m0:a0<w1.heap.size:=by omega
 have m1:a1<w1.heap.size:=by omega
 have e2:¬a1=a0:=by omega
 have HK:=Ab (Af.Aj hb (fun k=>k=a0\/k=a1));clear h0 h1 z0 z1 hb;go_wp2;have F0:((w1.setCell {block:=a0,off:=0} (.int .i64 0)).setCell {block:=a1,off:=0} (Value.int IntKind.i64 ↑n)).cell? ⟨a0,0,none⟩=some (.int .i64 0):=by simp[go_sem,g0]
 have F1:((w1.setCell {block:=a0,off:=0} (.int .i64 0)).setCell {block:=a1,off:=0} (Value.int IntKind.i64 ↑n)).cell? ⟨a1,0,none⟩=some (.int .i64 n):=by simp[go_sem,g1]
 have FB:Af (fun k=>k=a0\/k=a1) w ((w1.setCell {block:=a0,off:=0} (.int .i64 0)).setCell {block:=a1,off:=0} (Value.int IntKind.i64 ↑n)):=
  ((Aa HK).setCell (p:=⟨a0,0,none⟩) (Or.inl (Or.inl rfl)) _).setCell (p:=⟨a1,0,none⟩) (Or.inl (Or.inr rfl)) _
 show bodyPostS Tryz.prog Tryz.f63 c₀ cs _ _ _ _ _;exact⟨rfl,_,rfl,_,results_none rfl _ _ _,rfl,rfl,F0,F1,FB⟩
theorem T7(w:World)(x cs n cap cb i:Nat)(ln uid proc:Int)(X:Value)(sq er:Int)(C:World->Prop)(hx:w.cell? ⟨x,2,none⟩=some (.slice (some ⟨cs,0,none⟩) n cap))(hi:i<n)(hcs:w.cell? ⟨cs,i,none⟩=some (ptr cb))
  (H41:Hid (∀w',Below w.heap.size w w'->w'.heap.size=w.heap.size+2->Calls Tryz.prog 64 #[ptr cb,.int .i64 ln,.int .i64 uid,.int .i64 proc,X] w' fun e w''=>e=.returned (.tuple #[.int .i64 sq,.int .i64 er])/\C w''/\w''.heap[w.heap.size]?=w'.heap[w.heap.size]?/\w''.heap[w.heap.size+1]?=w'.heap[w.heap.size+1]?/\w'.heap.size<=w''.heap.size)):
  Calls Tryz.prog 31 #[ptr x,.int .i64 (i:Int),.int .i64 ln,.int .i64 uid,.int .i64 proc,X] w fun e w'=>e=.returned (.tuple #[.int .i64 sq,.int .i64 er])/\∃w1,C w1/\Af (fun k=>k=w.heap.size\/k=w.heap.size+1) w1 w':=by
 have hmf:∀(fn:Fn) (first cap:Array Value) (w:World),(Instr.makeFunc fn first cap).run Tryz.prog w=.ok (.func fn first cap) w:=fun _ _ _ _=>rfl
 have q1:(0:Int)<=(i:Int):=by omega
 have q2:(i:Int)<(n:Int):=by omega
 have hl1:=lt_of_cell hx;have hl2:=lt_of_cell hcs;have HB:Hid (Below w.heap.size w ((w.alloc (.cells #[.int .i64 0] 3)).alloc (.cells #[.int .i64 0] 32))):=((Below.refl _ _).alloc (Nat.le_refl _) _).alloc (by simp) _;have HC:=Ab ((Aa H41) _ (Aa HB) (by simp));have HE0:Hid (((w.alloc (.cells #[.int .i64 0] 3)).alloc (.cells #[.int .i64 0] 32)).heap[w.heap.size]?=some (.cells #[.int .i64 0] 3 (0,0))):=(Below.heap_alloc _ _ _ (by simp)).trans (heap_alloc_new w _);have HE1:Hid (((w.alloc (.cells #[.int .i64 0] 3)).alloc (.cells #[.int .i64 0] 32)).heap[w.heap.size+1]?=some (.cells #[.int .i64 0] 32 (0,0))):=by
  show _=_;have:=heap_alloc_new (w.alloc (.cells #[.int .i64 0] 3)) (.cells #[.int .i64 0] 32);simpa using this
 clear H41
 go_enter_defers Tryz.func31,Tryz.ntmps31
 go_wp2_with (first|(go_at_call 38;go_in))
 refine(Aa HC).mono ?_;rintro e w1 ⟨rfl,hC,hk0,hk1,hsz⟩;have f0:=hk0.trans (Aa HE0);have f1:=hk1.trans (Aa HE1);have c0:w1.cell? ⟨w.heap.size,0,none⟩=some (.int .i64 0):=cell_of f0 0 _ rfl;have c1:w1.cell? ⟨w.heap.size+1,0,none⟩=some (.int .i64 0):=cell_of f1 0 _ rfl;have z0:w1.frozen? ⟨w.heap.size,0,none⟩=false:=open_list f0;have z1:w1.frozen? ⟨w.heap.size+1,0,none⟩=false:=open_list f1;simp at hsz;have m0:w.heap.size<w1.heap.size:=by omega
 have m1:w.heap.size+1<w1.heap.size:=by omega
 have HC1:=Ab hC;clear hk0 hk1 f0 f1 hC hx hcs;go_wp2;refine leaves_cons (f:=63) (args:=#[.pointer (some ⟨w.heap.size,0,none⟩),.pointer (some ⟨w.heap.size+1,0,none⟩)]) (by simp) (by simp[go_sem]) ?_;refine(IL _ _ _).mono ?_;rintro e u' w'' ⟨rfl,rfl,rfl⟩;simp[Leaves,settle,results,Tryz.results31,go_sem,c0,c1];exact⟨w1,Aa HC1,((Af.refl _ w1).setCell (p:=⟨w.heap.size,0,none⟩) (Or.inl (Or.inl rfl)) _).setCell (p:=⟨w.heap.size+1,0,none⟩) (Or.inl (Or.inr rfl)) _⟩
theorem NA(w:World)(x cs n cap cb i:Nat)(ln uid proc:Int)(X:Value)(n0:Nat)(C:World->Prop)(hx:w.cell? ⟨x,2,none⟩=some (.slice (some ⟨cs,0,none⟩) n cap))(hi:i<n)(hcs:w.cell? ⟨cs,i,none⟩=some (ptr cb))
  (H41:Hid (∀w',Below w.heap.size w w'->w'.heap.size=w.heap.size+2->Calls Tryz.prog 64 #[ptr cb,.int .i64 ln,.int .i64 uid,.int .i64 proc,X] w' fun e w''=>e=Ax n0 0/\C w''/\w''.heap[w.heap.size]?=w'.heap[w.heap.size]?/\w''.heap[w.heap.size+1]?=w'.heap[w.heap.size+1]?/\w'.heap.size<=w''.heap.size)):
  Calls Tryz.prog 31 #[ptr x,.int .i64 (i:Int),.int .i64 ln,.int .i64 uid,.int .i64 proc,X] w fun e w'=>e=.returned (.tuple #[.int .i64 0,.int .i64 n0])/\∃w1,C w1/\Af (fun k=>k=w.heap.size\/k=w.heap.size+1) w1 w':=by
 have hmf:∀(fn:Fn) (first cap:Array Value) (w:World),(Instr.makeFunc fn first cap).run Tryz.prog w=.ok (.func fn first cap) w:=fun _ _ _ _=>rfl
 have q1:(0:Int)<=(i:Int):=by omega
 have q2:(i:Int)<(n:Int):=by omega
 have hl1:=lt_of_cell hx;have hl2:=lt_of_cell hcs;have HB:Hid (Below w.heap.size w ((w.alloc (.cells #[.int .i64 0] 3)).alloc (.cells #[.int .i64 0] 32))):=((Below.refl _ _).alloc (Nat.le_refl _) _).alloc (by simp) _;have HC:=Ab ((Aa H41) _ (Aa HB) (by simp));have HE0:Hid (((w.alloc (.cells #[.int .i64 0] 3)).alloc (.cells #[.int .i64 0] 32)).heap[w.heap.size]?=some (.cells #[.int .i64 0] 3 (0,0))):=(Below.heap_alloc _ _ _ (by simp)).trans (heap_alloc_new w _);have HE1:Hid (((w.alloc (.cells #[.int .i64 0] 3)).alloc (.cells #[.int .i64 0] 32)).heap[w.heap.size+1]?=some (.cells #[.int .i64 0] 32 (0,0))):=by
  show _=_;have:=heap_alloc_new (w.alloc (.cells #[.int .i64 0] 3)) (.cells #[.int .i64 0] 32);simpa using this
 clear H41
 go_enter_defers Tryz.func31,Tryz.ntmps31
 go_wp2_with (first|(go_at_call 38;go_in))
 refine(Aa HC).mono ?_;rintro e w1 ⟨rfl,hC,hk0,hk1,hsz⟩;have f0:=hk0.trans (Aa HE0);have f1:=hk1.trans (Aa HE1);have c0:w1.cell? ⟨w.heap.size,0,none⟩=some (.int .i64 0):=cell_of f0 0 _ rfl;have c1:w1.cell? ⟨w.heap.size+1,0,none⟩=some (.int .i64 0):=cell_of f1 0 _ rfl;have z0:w1.frozen? ⟨w.heap.size,0,none⟩=false:=open_list f0;have z1:w1.frozen? ⟨w.heap.size+1,0,none⟩=false:=open_list f1;simp at hsz;have m0:w.heap.size<w1.heap.size:=by omega
 have m1:w.heap.size+1<w1.heap.size:=by omega
 have HC1:=Ab hC;clear hk0 hk1 f0 f1 hC hx hcs;go_wp2;refine leaves_cons (f:=63) (args:=#[.pointer (some ⟨w.heap.size,0,none⟩),.pointer (some ⟨w.heap.size+1,0,none⟩)]) (by simp) (by simp[go_sem]) ?_;refine(J3 w.heap.size (w.heap.size+1) n0 0 [] _ c0 c1 z0 z1 (by omega)).mono ?_;rintro e u' w'' ⟨rfl,rfl,f0,f1,fk⟩;simp[Leaves,settle,results,Tryz.results31,go_sem,f0,f1];exact⟨w1,Aa HC1,fk⟩
theorem Nz(w:World)(x cs n cap:Nat)(cl ln uid proc:Int)(X:Value)(hx:w.cell? ⟨x,2,none⟩=some (.slice (some ⟨cs,0,none⟩) n cap))(hc:cl<0\/(n:Int)<=cl):
  Calls Tryz.prog 31 #[ptr x,.int .i64 cl,.int .i64 ln,.int .i64 uid,.int .i64 proc,X] w fun e w'=>e=.returned (.tuple #[.int .i64 0,.int .i64 13])/\Below w.heap.size w w':=by
 have hmf:∀(fn:Fn) (first cap:Array Value) (w:World),(Instr.makeFunc fn first cap).run Tryz.prog w=.ok (.func fn first cap) w:=fun _ _ _ _=>rfl
 have hl1:=lt_of_cell hx;have HB:Hid (Below w.heap.size w ((w.alloc (.cells #[.int .i64 0] 3)).alloc (.cells #[.int .i64 13] 32))):=((Below.refl _ _).alloc (Nat.le_refl _) _).alloc (by simp) _;by_cases h0:cl<0
 ·have h1:¬0<=cl:=by omega
  clear hc
  go_enter_defers Tryz.func31,Tryz.ntmps31
  go_wp2_with (first|(go_at_call 38;go_in))
  refine leaves_cons (f:=63) (args:=#[.pointer (some ⟨w.heap.size,0,none⟩),.pointer (some ⟨w.heap.size+1,0,none⟩)]) (by simp) (by simp[go_sem]) ?_;refine(IL _ _ _).mono ?_;rintro e u' w'' ⟨rfl,rfl,rfl⟩;simp[Leaves,settle,results,Tryz.results31,go_sem];exact Aa HB
 ·have h1:0<=cl:=by omega
  have h2:¬cl<(n:Int):=by omega
  clear hc
  go_enter_defers Tryz.func31,Tryz.ntmps31
  go_wp2_with (first|(go_at_call 38;go_in))
  refine leaves_cons (f:=63) (args:=#[.pointer (some ⟨w.heap.size,0,none⟩),.pointer (some ⟨w.heap.size+1,0,none⟩)]) (by simp) (by simp[go_sem]) ?_;refine(IL _ _ _).mono ?_;rintro e u' w'' ⟨rfl,rfl,rfl⟩;simp[Leaves,settle,results,Tryz.results31,go_sem];exact Aa HB
theorem LW.Ug{p:Pl}{F:Aq}{G:R.Wd}{w:World}(h:LW p F G w){i:Nat}(hi:i<G.Ad.length):w.cell? ⟨p.cs,i,none⟩=some (ptr (p.cb i)):=by
 obtain⟨cur,h1,h2⟩:=h.YF;simp[World.cell?,h1,h2 i hi]
theorem LW.call{p:Pl}{F:Aq}{G:R.Wd}{w:World}(h:LW p F G w)(ht:DU w)(cl ln uid proc:Int)(hu64:-9223372036854775808<=uid/\uid<=9223372036854775807){X:Value}{v:List V.It}(hI:V.Items w X v)(hn:v.length<=9000000000000):
  Calls Tryz.prog 31 #[ptr p.x,.int .i64 cl,.int .i64 ln,.int .i64 uid,.int .i64 proc,X] w fun e w'=>e=.returned (.tuple #[.int .i64 (R.Cz G cl ln uid proc v).1.1,.int .i64 (R.Cz G cl ln uid proc v).1.2])/\∃F',LW p F' (R.Cz G cl ln uid proc v).2 w'/\Ay F F' w w':=by
 by_cases hcl:cl<0\/(G.Ad.length:Int)<=cl
 ·have e0:R.Cz G cl ln uid proc v=((0,13),G):=by unfold R.Cz;rw[if_pos hcl]
  rw[e0];refine(Nz w p.x p.cs G.Ad.length p.cap cl ln uid proc X (cell_of h.bx 2 _ rfl) hcl).mono ?_;rintro e w' ⟨rfl,hb⟩;exact⟨rfl,F,h.below hb,Ay.Aj F hb⟩
 ·obtain⟨i,rfl⟩:∃i:Nat,cl=(i:Int):=⟨cl.toNat,by omega⟩;have hi:i<G.Ad.length:=by omega
  have hc:=List.getElem?_eq_getElem hi;have inner:∀w',Below w.heap.size w w'->w'.heap.size=w.heap.size+2->Calls Tryz.prog 64 #[ptr (p.cb i),.int .i64 ln,.int .i64 uid,.int .i64 proc,X] w' fun e w''=>e=Je (R.Cz G i ln uid proc v).1/\(∃wf F',Below w.heap.size w wf/\wf.heap.size=w.heap.size+2/\LW p F' (R.Cz G i ln uid proc v).2 w''/\Ay F F' wf w'')/\w''.heap[w.heap.size]?=w'.heap[w.heap.size]?/\w''.heap[w.heap.size+1]?=w'.heap[w.heap.size+1]?/\w'.heap.size<=w''.heap.size:=fun w' hb' hz=>by
   refine((h.below hb').abD (ht.below hb') hc ln uid proc hu64 (hI.below hb') hn).mono ?_;rintro e w'' ⟨rfl,F',q1,q2⟩;refine⟨rfl,⟨w',F',hb',hz,q1,q2⟩,q2.keeps.block _ (by omega) (fun hf=>?_),q2.keeps.block _ (by omega) (fun hf=>?_),q2.keeps.size⟩
   ·have:=h.lt _ hf;omega
   ·have:=h.lt _ hf;omega
  have fin:∀w' w1,(∃wf F',Below w.heap.size w wf/\wf.heap.size=w.heap.size+2/\LW p F' (R.Cz G i ln uid proc v).2 w1/\Ay F F' wf w1)->Af (fun k=>k=w.heap.size\/k=w.heap.size+1) w1 w'->∃F',LW p F' (R.Cz G i ln uid proc v).2 w'/\Ay F F' w w':=by
   rintro w' w1 ⟨wf,F',hb',hz,q1,q2⟩ hK;have hF':∀k,F' k->¬(k=w.heap.size\/k=w.heap.size+1):=fun k hf=>by
    rcases q2.fresh k hf with q|q
    ·have:=h.lt k q;omega
    ·omega
   refine⟨F',q1.elsewhere hK hF',⟨?_,fun k hf=>?_⟩⟩
   ·exact((Af.Aj hb' F).trans q2.keeps).andThen hK (fun k hk' e=>by omega)
   ·rcases q2.fresh k hf with q|q
    ·exact Or.inl q
    ·exact Or.inr (by omega)
  by_cases he:(R.Cz G i ln uid proc v).1.2=16\/(R.Cz G i ln uid proc v).1.2=4
  ·have h0:(R.Cz G i ln uid proc v).1.1=0:=by
    rcases R.YI h.wf i ln uid proc v with ⟨n,_,e⟩|⟨_,_,_,_,_,_,_,_,_,_,_,_,_,_,_,e⟩
    ·rw[e]
    ·rw[e]at he;simp at he
   refine(NA w p.x p.cs G.Ad.length p.cap (p.cb i) i ln uid proc X (R.Cz G i ln uid proc v).1.2.toNat (fun w''=>∃wf F',Below w.heap.size w wf/\wf.heap.size=w.heap.size+2/\LW p F' (R.Cz G i ln uid proc v).2 w''/\Ay F F' wf w'') (cell_of h.bx 2 _ rfl) hi (h.Ug hi) (fun w' hb' hz=>(inner w' hb' hz).mono ?_)).mono ?_
   ·rintro e w'' ⟨rfl,q⟩;unfold Je;rw[if_pos he];exact⟨rfl,q⟩
   ·rintro e w' ⟨rfl,w1,q1,q2⟩;refine⟨?_,fin w' w1 q1 q2⟩;rw[h0];have:(((R.Cz G i ln uid proc v).1.2.toNat:Nat):Int)=(R.Cz G i ln uid proc v).1.2:=by omega
    rw[this]
  ·refine(T7 w p.x p.cs G.Ad.length p.cap (p.cb i) i ln uid proc X (R.Cz G i ln uid proc v).1.1 (R.Cz G i ln uid proc v).1.2 (fun w''=>∃wf F',Below w.heap.size w wf/\wf.heap.size=w.heap.size+2/\LW p F' (R.Cz G i ln uid proc v).2 w''/\Ay F F' wf w'') (cell_of h.bx 2 _ rfl) hi (h.Ug hi) (fun w' hb' hz=>(inner w' hb' hz).mono ?_)).mono ?_
   ·rintro e w'' ⟨rfl,q⟩;unfold Je;rw[if_neg he];exact⟨rfl,q⟩
   ·rintro e w' ⟨rfl,w1,q1,q2⟩;exact⟨rfl,fin w' w1 q1 q2⟩
end Go.Proofs.YtblomippkddgiaaGreatDoor
