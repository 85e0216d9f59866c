import Derived.Test.YtblomippkddgiabGreatDoorJ22
set_option maxRecDepth 100000
set_option maxHeartbeats 1000000
namespace Go.Proofs.YtblomippkddgiabGreatDoor
open Go.RowKit
variable {F:Aq}{v:List V.It}{i:Nat}{p:Pl}{G:R.Wd}{X:Value}{w:World}
theorem Pb(w:World)(cb lb bm nl k:Nat)(uid proc kind:Int)(X:Value)(SM:ByteArray)(st sq ag:Int)(A B C:World->Prop)(hk:k<nl)
  (b2:w.cell? ⟨cb,2,none⟩=some (.map (some bm))) (b3:w.cell? ⟨cb,3,none⟩=some (.slice (some ⟨lb,0,none⟩) nl nl)) (a0:w.cell? ⟨lb,k*10,none⟩=some (.int .i64 st)) (a1:w.cell? ⟨lb,k*10+1,none⟩=some (.int .i64 sq))
  (ac:(Instr.lookup 130 (.map (some bm)) (.int .i64 uid) true).run Tryz.prog w=.ok (.tuple #[.int .i64 kind,.bool true]) w)
  (af:¬st=1) (ae:¬sq=999)
  (ah:Hid (∀w',Below w.heap.size w w'->Calls Tryz.prog 147 #[.int .i64 kind,.int .i64 proc,X] w' fun e ab=>e=.returned (.string SM)/\Below w'.heap.size w' ab))
  (ai:Hid (∀w',Below w.heap.size w w'->Calls Tryz.prog 148 #[.pointer (some ⟨lb,k*10,none⟩),.agg #[.int .i64 uid,.int .i64 proc,.string SM,.int .i64 0,.string ⟨#[]⟩,.int .i64 0,.int .i64 0]] w' fun e ab=>e=.returned (.tuple #[])/\A ab))
  (aj:Hid (∀w',A w'->Calls Tryz.prog 149 #[ptr cb,.pointer (some ⟨lb,k*10,none⟩)] w' fun e ab=>e=.returned (.tuple #[])/\B ab))
  (ak:Hid (∀w',B w'->Calls Tryz.prog 150 #[ptr cb,.int .i64 (k:Int),.bool false] w' fun e ab=>e=.returned (.tuple #[])/\C ab))
  (am:Hid (∀w',C w'->w'.cell? ⟨lb,k*10+1,none⟩=some (.int .i64 ag))):
  Calls Tryz.prog 88 #[ptr cb,.int .i64 (k:Int),.int .i64 uid,.int .i64 proc,X] w fun e w'=>e=.returned (.tuple #[.int .i64 ag,.int .i64 0])/\C w':=by
 have e1:(st==1)=false:=by simpa using af
 have e2:(sq==999)=false:=by simpa using ae
 have q1:(0:Int)<=(k:Int):=by omega
 have q2:(k:Int)<(nl:Int):=by omega
 have an:=lt_of_cell b2;have ad:=lt_of_cell a0;clear af ae;go_enter Tryz.func88,Tryz.ntmps88;go_wp2_with (first|(go_at_call 64;go_in))
 refine((Aa ah) _ (Below.refl _ _)).mono ?_;rintro e w2 ⟨rfl,aa⟩;have d3:w2.cell? ⟨cb,3,none⟩=some (.slice (some ⟨lb,0,none⟩) nl nl):=(aa.cell (p:=⟨cb,3,none⟩) an).trans b3;have f0:w2.cell? ⟨lb,k*10,none⟩=some (.int .i64 st):=(aa.cell (p:=⟨lb,k*10,none⟩) ad).trans a0;have f1:w2.cell? ⟨lb,k*10+1,none⟩=some (.int .i64 sq):=(aa.cell (p:=⟨lb,k*10+1,none⟩) ad).trans a1;have al:=Ac aa;clear aa ac a0 a1 b2 b3;go_wp2_with fail
 refine((Aa ai) _ (Aa al)).mono ?_;rintro e w3 ⟨rfl,hA⟩;have HA:=Ac hA;clear hA d3 f0 f1;go_wp2_with fail
 refine((Aa aj) _ (Aa HA)).mono ?_;rintro e w4 ⟨rfl,hB⟩;have HB:=Ac hB;clear hB;go_wp2_with fail
 refine((Aa ak) _ (Aa HB)).mono ?_;rintro e w5 ⟨rfl,hC⟩;have g1:=(Aa am) _ hC;have HC:=Ac hC;clear hC;go_wp2;go_returns;exact⟨rfl,Aa HC⟩
theorem Mt(w:World)(cb lb nl:Nat)(ln uid proc:Int)(X:Value)(hk:ln<0\/(nl:Int)<=ln)(b3:w.cell? ⟨cb,3,none⟩=some (.slice (some ⟨lb,0,none⟩) nl nl)):
  Calls Tryz.prog 88 #[ptr cb,.int .i64 ln,.int .i64 uid,.int .i64 proc,X] w fun e w'=>e=.returned (.tuple #[.int .i64 0,.int .i64 14])/\w'=w:=by
 by_cases h0:ln<0
 ·have h1:¬0<=ln:=by omega
  clear hk;go_enter Tryz.func88,Tryz.ntmps88;go_wp2_with (first|(go_at_call 64;go_in))
  go_returns;exact⟨rfl,rfl⟩
 ·have h1:0<=ln:=by omega
  have h2:¬ln<(nl:Int):=by omega
  clear hk;go_enter Tryz.func88,Tryz.ntmps88;go_wp2_with (first|(go_at_call 64;go_in))
  go_returns;exact⟨rfl,rfl⟩
theorem Ms(w:World)(cb lb bm nl k:Nat)(uid proc z:Int)(X:Value)(hk:k<nl)(b2:w.cell? ⟨cb,2,none⟩=some (.map (some bm)))(b3:w.cell? ⟨cb,3,none⟩=some (.slice (some ⟨lb,0,none⟩) nl nl))(aa:(Instr.lookup 130 (.map (some bm)) (.int .i64 uid) true).run Tryz.prog w=.ok (.tuple #[.int .i64 z,.bool false]) w):
  Calls Tryz.prog 88 #[ptr cb,.int .i64 (k:Int),.int .i64 uid,.int .i64 proc,X] w fun e w'=>e=.returned (.tuple #[.int .i64 0,.int .i64 15])/\w'=w:=by
 have q1:(0:Int)<=(k:Int):=by omega
 have q2:(k:Int)<(nl:Int):=by omega
 go_enter Tryz.func88,Tryz.ntmps88;go_wp2_with (first|(go_at_call 64;go_in))
 go_returns;exact⟨rfl,rfl⟩
theorem JN(w:World)(cb lb bm nl k:Nat)(uid proc kind:Int)(X:Value)(n:Nat)(hk:k<nl)(b2:w.cell? ⟨cb,2,none⟩=some (.map (some bm)))(b3:w.cell? ⟨cb,3,none⟩=some (.slice (some ⟨lb,0,none⟩) nl nl))(aa:(Instr.lookup 130 (.map (some bm)) (.int .i64 uid) true).run Tryz.prog w=.ok (.tuple #[.int .i64 kind,.bool true]) w)
  (ab:Hid (Calls Tryz.prog 147 #[.int .i64 kind,.int .i64 proc,X] w fun e ac=>e=Az n 0/\Below w.heap.size w ac)):
  Calls Tryz.prog 88 #[ptr cb,.int .i64 (k:Int),.int .i64 uid,.int .i64 proc,X] w fun e w'=>e=Az n 0/\Below w.heap.size w w':=by
 have q1:(0:Int)<=(k:Int):=by omega
 have q2:(k:Int)<(nl:Int):=by omega
 go_enter Tryz.func88,Tryz.ntmps88;go_wp2_with (first|(go_at_call 64;go_in))
 refine(Aa ab).mono ?_;rintro e w2 ⟨rfl,hb⟩;go_wp2;exact⟨rfl,rfl,hb⟩
theorem Ib(w:World)(cb lb bm nl k:Nat)(uid proc kind st sq er:Int)(X:Value)(SM:ByteArray)(hk:k<nl)(b2:w.cell? ⟨cb,2,none⟩=some (.map (some bm)))(b3:w.cell? ⟨cb,3,none⟩=some (.slice (some ⟨lb,0,none⟩) nl nl))(a0:w.cell? ⟨lb,k*10,none⟩=some (.int .i64 st))(a1:w.cell? ⟨lb,k*10+1,none⟩=some (.int .i64 sq))
  (ab:(Instr.lookup 130 (.map (some bm)) (.int .i64 uid) true).run Tryz.prog w=.ok (.tuple #[.int .i64 kind,.bool true]) w) (hx:(st=1/\er=17)\/(¬st=1/\sq=999/\er=11))
  (ae:Hid (Calls Tryz.prog 147 #[.int .i64 kind,.int .i64 proc,X] w fun e ag=>e=.returned (.string SM)/\Below w.heap.size w ag)):
  Calls Tryz.prog 88 #[ptr cb,.int .i64 (k:Int),.int .i64 uid,.int .i64 proc,X] w fun e w'=>e=.returned (.tuple #[.int .i64 0,.int .i64 er])/\Below w.heap.size w w':=by
 have q1:(0:Int)<=(k:Int):=by omega
 have q2:(k:Int)<(nl:Int):=by omega
 have af:=lt_of_cell b2;have ad:=lt_of_cell a0;have HX:=Ac hx;clear hx;go_enter Tryz.func88,Tryz.ntmps88;go_wp2_with (first|(go_at_call 64;go_in))
 refine(Aa ae).mono ?_;rintro e w2 ⟨rfl,aa⟩;have d3:w2.cell? ⟨cb,3,none⟩=some (.slice (some ⟨lb,0,none⟩) nl nl):=(aa.cell (p:=⟨cb,3,none⟩) af).trans b3;have f0:w2.cell? ⟨lb,k*10,none⟩=some (.int .i64 st):=(aa.cell (p:=⟨lb,k*10,none⟩) ad).trans a0;have f1:w2.cell? ⟨lb,k*10+1,none⟩=some (.int .i64 sq):=(aa.cell (p:=⟨lb,k*10+1,none⟩) ad).trans a1;have ac:=Ac aa;clear aa ab a0 a1 b2 b3;rcases Aa HX with ⟨rfl,rfl⟩|⟨h1,rfl,rfl⟩
 ·go_wp2;go_returns;exact⟨rfl,Aa ac⟩
 ·have e1:(st==1)=false:=by simpa using h1
  go_wp2;go_returns;exact⟨rfl,Aa ac⟩
def JM(r:Int×Int):Ending:=if r.2=16\/r.2=4 then Az r.2.toNat 0 else .returned (.tuple #[.int .i64 r.1,.int .i64 r.2])
theorem ZQ{k p:Int}{f t:ByteArray}(h:R.C6 k p=some (f,t)):∀v out,V.JQ f v=some out->out.length<=70:=by
 unfold R.C6 at h;split at h
 ·cases h;exact fun v out h=>V.Jp h (by decide +kernel) (by decide +kernel) (by decide +kernel) (by decide +kernel) (by decide +kernel)
 ·split at h
  ·cases h;exact fun v out h=>V.Jp h (by decide +kernel) (by decide +kernel) (by decide +kernel) (by decide +kernel) (by decide +kernel)
  ·split at h
   ·cases h;exact fun v out h=>V.VN h (by decide +kernel)
   ·split at h
    ·cases h;exact fun v out h=>V.Jp h (by decide +kernel) (by decide +kernel) (by decide +kernel) (by decide +kernel) (by decide +kernel)
    ·split at h
     ·cases h;exact fun v out h=>V.Tg h
     ·cases h
theorem LW.kind(h:LW p F G w){uid:Int}(hu:1<=uid/\uid<=(G.Ab.length:Int)):0<=kindOf G uid/\kindOf G uid<=2:=by
 have hl:(uid-1).toNat<G.Ab.length:=by omega
 unfold kindOf;rw[List.getElem?_eq_getElem hl];exact h.wf.Kh _ (List.getElem_mem hl)
theorem LW.adl(h:LW p F G w)(ht:Ec w){c:R.Cl}(hc:G.Ad[i]?=some c)(ln uid proc:Int)(ai:-9223372036854775808<=uid/\uid<=9223372036854775807)(hI:V.Items w X v)(hn:v.length<=9000000000000):
  Calls Tryz.prog 88 #[ptr (p.cb i),.int .i64 ln,.int .i64 uid,.int .i64 proc,X] w fun e w'=>e=JM (R.Cw G i ln uid proc v).1/\∃F',LW p F' (R.Cw G i ln uid proc v).2 w'/\Ap F F' w w':=by
 have ab:=Ic h hc;have hi:=(List.getElem?_eq_some_iff.1 hc).1;have aF:=(h.wf.cl i c hc).lines;unfold R.Cw;rw[if_neg (by omega)];by_cases h2:ln<0\/G.c.lines<=ln
 ·rw[if_pos h2];refine(Mt w (p.cb i) (p.lb i) c.lines.length ln uid proc X (by omega) ab.a3).mono ?_;rintro e w' ⟨rfl,rfl⟩;exact⟨rfl,F,h,Ap.refl F w'⟩
 ·rw[if_neg h2];obtain⟨k,rfl⟩:∃k:Nat,ln=(k:Int):=⟨ln.toNat,by omega⟩;have hk:k<c.lines.length:=by omega
  rw[Int.toNat_natCast,hc];simp only[Option.map_some,Option.getD_some];have aa:=Yw (h.bound i c hc) (u:=uid) ai;by_cases h3:uid∈c.bound
  ·rw[if_neg (not_not_intro h3)];have aB:=(h.wf.cl i c hc).bound uid h3;have aI:=h.wf.sv;have af:BL G c uid=some (kindOf G uid):=by unfold BL;rw[if_pos h3]
   rw[af]at aa;simp only[Option.getD_some,Option.isSome_some]at aa;rw[show ((G.Ab[(uid-1).toNat]?).map (·.kind)).getD 0=kindOf G uid from rfl];have aw:=h.kind aB;cases hs:R.C6 (kindOf G uid) proc with
   |none=>
    refine(JN w (p.cb i) (p.lb i) (p.bm i) c.lines.length k uid proc (kindOf G uid) X 16 hk ab.a2 ab.a3 aa (NJ _ _ aw hs X w ht)).mono ?_;rintro e w' ⟨rfl,hb⟩;exact⟨rfl,F,h.below hb,Ap.Al F hb⟩
   |some ft=>
    obtain⟨f,t⟩:=ft;obtain⟨_,hf,_,hp,_⟩:=Gz hs;simp only;cases hby:R.Ba f v with
    |none=>
     have hm:¬(V.CW f v).1=0:=fun e=>by
      unfold R.Ba at hby;rw[if_pos e]at hby;cases hby
     have h4:=V.Wc hf (ZQ hs v) hm;refine(JN w (p.cb i) (p.lb i) (p.bm i) c.lines.length k uid proc (kindOf G uid) X 4 hk ab.a2 ab.a3 aa ?_).mono ?_
     ·refine(ID _ _ f t hs X v w ht hI hn).mono ?_;rintro e w' ⟨⟨h0,_⟩|⟨_,rfl⟩,hb⟩
      ·exact absurd h0 hm
      ·rw[h4];exact⟨rfl,hb⟩
     ·rintro e w' ⟨rfl,hb⟩;exact⟨rfl,F,h.below hb,Ap.Al F hb⟩
    |some bs=>
     have hm:(V.CW f v).1=0/\(V.CW f v).2=bs:=by
      unfold R.Ba at hby;split at hby
      ·rename_i e;exact⟨e,Option.some.inj hby⟩
      ·cases hby
     have HW:∀w',Below w.heap.size w w'->Calls Tryz.prog 147 #[.int .i64 (kindOf G uid),.int .i64 proc,X] w' fun e aj=>e=.returned (.string (str (A5 proc++bs)))/\Below w'.heap.size w' aj:=fun w' hb=>by
      refine(ID _ _ f t hs X v w' (ht.below hb) (hI.below hb) hn).mono ?_;rintro e aj ⟨⟨_,rfl⟩|⟨h0,_⟩,hb⟩
      ·rw[hm.2];exact⟨rfl,hb⟩
      ·exact absurd hm.1 h0
     have hl:c.lines[k]?=some c.lines[k]:=List.getElem?_eq_getElem hk;simp only;rw[R.CR hc hl];generalize c.lines[k]=l at hl ⊢;obtain⟨xs,x,hL,hR,hx,ap,ac,az,av⟩:=h.line hc hl;have ay:=(h.wf.cl i c hc).line k l hl;have ae:=ap.state;have ad:=ap.seq;by_cases h5:l.state=1
     ·rw[if_pos h5];refine(Ib w (p.cb i) (p.lb i) (p.bm i) c.lines.length k uid proc (kindOf G uid) x.state x.seq 17 X _ hk ab.a2 ab.a3 ac.a0 ac.a1 aa (Or.inl ⟨ae.trans h5,rfl⟩) (HW w (Below.refl _ _))).mono ?_;rintro e w' ⟨rfl,hb⟩;exact⟨rfl,F,h.below hb,Ap.Al F hb⟩
     ·rw[if_neg h5];by_cases h6:l.seq=999
      ·rw[if_pos h6];refine(Ib w (p.cb i) (p.lb i) (p.bm i) c.lines.length k uid proc (kindOf G uid) x.state x.seq 11 X _ hk ab.a2 ab.a3 ac.a0 ac.a1 aa (Or.inr ⟨by rw[ae];exact h5,ad.trans h6,rfl⟩) (HW w (Below.refl _ _))).mono ?_;rintro e w' ⟨rfl,hb⟩;exact⟨rfl,F,h.below hb,Ap.Al F hb⟩
      ·rw[if_neg h6];have aE:=R.GM hby;have au:F (p.lb i):=(h.FG i hi).2.1;have ag:p.cb i≠p.lb i:=AZ (h.cl i c hc) hL (by decide);have ar:=h.wf.cf;unfold R.BD at ar;have ax:=lt_of_block hL;have ao:=lt_of_cell ab.a0;have aA:(A5 proc++bs).take 2=A5 proc:=by simp[A5]
       generalize hM:A5 proc++bs=M at *;have aD:M.length<=72/\2<=M.length:=by
        rw[<-hM];simp[A5];omega
       have aG:=R.De (s:=M) (by omega);have aH:=ay.seq;have ah:R.Mc ⟨l.seq+1,1,[],uid,t,M,0,[],0,G.c.Ay,G.c.tries⟩:=⟨by simp only;omega,fun _=>⟨by simp only;omega,by simp only;omega,by simp only;omega,by simp only;omega,by simp only;omega,by simp only;omega⟩⟩;have al:(R.Am G i k ⟨l.seq+1,1,[],uid,t,M,0,[],0,G.c.Ay,G.c.tries⟩).Ad[i]?=some {c with lines:=c.lines.set k ⟨l.seq+1,1,[],uid,t,M,0,[],0,G.c.Ay,G.c.tries⟩}:=by
        rw[R.Bo,hc];simp
       have an:(c.lines.set k ⟨l.seq+1,1,[],uid,t,M,0,[],0,G.c.Ay,G.c.tries⟩)[k]?=some ⟨l.seq+1,1,[],uid,t,M,0,[],0,G.c.Ay,G.c.tries⟩:=by simp[hk]
       refine(Pb w (p.cb i) (p.lb i) (p.bm i) c.lines.length k uid proc (kindOf G uid) X (str M) x.state x.seq (l.seq+1)
        (fun w3=>w3.heap[p.lb i]?=some (.cells (tab CU.cells (xs.set k ⟨1,x.seq+1,.slice none 0 0,uid,proc,M,0,[],0,0⟩)).toArray 129 (0,0))/\Af (fun q=>q=p.lb i) w w3)
        (fun w4=>LW p F (R.Am G i k ⟨l.seq+1,1,[],uid,t,M,0,[],0,G.c.Ay,G.c.tries⟩) w4/\Ap F F w w4)
        (fun w5=>∃F',LW p F' (R.AA (R.Am G i k ⟨l.seq+1,1,[],uid,t,M,0,[],0,G.c.Ay,G.c.tries⟩) i k false) w5/\Ap F F' w w5)
        hk ab.a2 ab.a3 ac.a0 ac.a1 aa (by rw[ae];exact h5) (by rw[ad];exact h6) HW ?_ ?_ ?_ ?_).mono ?_
       ·intro w' ak;have aq:=(ak.block _ ax).trans hL;refine(Vs w' (p.lb i) k uid proc M xs x (EO av) aq hx (by rw[ad];omega)).mono ?_;rintro e aj ⟨rfl,q1,q2⟩;exact⟨rfl,q1,(Af.Al ak _).trans q2⟩
       ·rintro w3 ⟨q1,q2⟩;have d4:w3.cell? ⟨p.cb i,4,none⟩=some (.int .i64 G.c.Ay):=(World.cell?_of_block (q2.block (p.cb i) ao ag)).trans ab.a4;have d5:w3.cell? ⟨p.cb i,5,none⟩=some (.int .i64 G.c.tries):=(World.cell?_of_block (q2.block (p.cb i) ao ag)).trans ab.a5;refine(Rv w3 (p.cb i) (p.lb i) k G.c.Ay G.c.tries _ ⟨1,x.seq+1,.slice none 0 0,uid,proc,M,0,[],0,0⟩ q1 (by simp[(List.getElem?_eq_some_iff.1 hx).1]) d4 d5 ag).mono ?_;rintro e w4 ⟨rfl,r1,r2⟩;simp only[List.set_set]at r1;have am:=q2.trans r2;refine⟨rfl,h.turn hc hL hR az am r1 ah ⟨rfl,by simp only;rw[ad],fun _=>rfl,fun _=>⟨rfl,rfl,rfl,rfl,rfl⟩,fun _=>⟨rfl,hp,aA⟩⟩ (BF.nil _ _),⟨am.mono (fun q _ e=>by rw[e];exact au),fun _ q=>Or.inl q⟩⟩
       ·rintro w4 ⟨q1,q2⟩;refine(q1.piece al an rfl (by simp only;omega) false).mono ?_;rintro e w5 ⟨rfl,F',r1,r2⟩;exact⟨rfl,F',r1,q2.trans r2⟩
       ·rintro w5 ⟨F',q1,_⟩;have e1:(R.AA (R.Am G i k ⟨l.seq+1,1,[],uid,t,M,0,[],0,G.c.Ay,G.c.tries⟩) i k false).Ad[i]?=some {c with lines:=c.lines.set k ⟨l.seq+1,1,[],uid,t,M,0,[],0,G.c.Ay,G.c.tries⟩}:=by
         unfold R.AA;rw[N2];exact al
        obtain⟨_,y,_,_,_,hy,aC,_⟩:=q1.line e1 an;have:=aC.a1;rw[hy.seq]at this;exact this
       ·rintro e w' ⟨rfl,F',q1,q2⟩;exact⟨by simp[JM],F',q1,q2⟩
  ·rw[if_pos h3];have af:BL G c uid=none:=by unfold BL;rw[if_neg h3]
   rw[af]at aa;refine(Ms w (p.cb i) (p.lb i) (p.bm i) c.lines.length k uid proc 0 X hk ab.a2 ab.a3 aa).mono ?_;rintro e w' ⟨rfl,rfl⟩;exact⟨rfl,F,h,Ap.refl F w'⟩
theorem Jl(p0 p1:Addr)(w:World):
  CallsD Tryz.prog 86 #[.pointer (some p0),.pointer (some p1)] .returning w fun e u' w'=>e=.returned (.tuple #[])/\u'=.returning/\w'=w:=by
 refine callsD_of_wpS Tryz.func86 rfl fun c₀ cs hu=>?_
 apply wpS_seq;apply wpS_region;simp[wpOpsS,go_sem,recoverD,hu,Tryz.ntmps86,Exit.thenS];rw[show (#[Value.pointer (some p0),Value.pointer (some p1)]++((Array.replicate 7 undef).setIfInBounds 1 (Value.nilIface)).setIfInBounds 0 (Value.nilIface))=#[.pointer (some p0),.pointer (some p1),.nilIface,.nilIface,undef,undef,undef,undef,undef] from rfl];refine wpS_of_wp ?_;go_wp2;exact⟨rfl,.returning,by cases c₀;simp_all,_,results_none rfl _ _ _,rfl,rfl,rfl⟩
theorem KR(a0 a1:Nat)(n q:Nat)(aa:List PanicEntry)(w:World)(h0:w.cell? ⟨a0,0,none⟩=some (.int .i64 0))(h1:w.cell? ⟨a1,0,none⟩=some (.int .i64 0))(z0:w.frozen? ⟨a0,0,none⟩=false)(z1:w.frozen? ⟨a1,0,none⟩=false)(ac:¬a0=a1):
  CallsD Tryz.prog 86 #[.pointer (some ⟨a0,0,none⟩),.pointer (some ⟨a1,0,none⟩)] (.panicking ({v:=.iface 161 (Bq n q),recovered:=false} :: aa)) w fun e u' w'=>
   e=.returned (.tuple #[])/\u'=.panicking ({v:=.iface 161 (Bq n q),recovered:=true} :: aa)/\w'.cell? ⟨a0,0,none⟩=some (.int .i64 0)/\w'.cell? ⟨a1,0,none⟩=some (.int .i64 n)/\Af (fun k=>k=a0\/k=a1) w w':=by
 refine callsD_of_wpS Tryz.func86 rfl fun c₀ cs hu=>?_
 apply wpS_seq;apply wpS_region;simp[wpOpsS,go_sem,recoverD,hu,Tryz.ntmps86,Exit.thenS];rw[show (#[Value.pointer (some {block:=a0,off:=0}),Value.pointer (some {block:=a1,off:=0})]++((Array.replicate 7 undef).setIfInBounds 1 (Value.iface 161 (Bq n q))).setIfInBounds 0 (Value.iface 161 (Bq n q)))=#[.pointer (some {block:=a0,off:=0}),.pointer (some {block:=a1,off:=0}),.iface 161 (Bq n q),.iface 161 (Bq n q),undef,undef,undef,undef,undef] from rfl];refine wpS_of_wp ?_;have ab:=V.Ii n q;have l0:=lt_of_cell h0;have l1:=lt_of_cell h1;go_wp2_with fail
 refine(V.Jm n q _).mono ?_;rintro e w1 ⟨rfl,hb⟩;have s1:=hb.size;have g0:w1.cell? ⟨a0,0,none⟩=some (.int .i64 0):=(hb.cell (p:=⟨a0,0,none⟩) l0).trans h0;have g1:w1.cell? ⟨a1,0,none⟩=some (.int .i64 0):=(hb.cell (p:=⟨a1,0,none⟩) l1).trans h1;have y0:w1.frozen? ⟨a0,0,none⟩=false:=(hb.frozen (p:=⟨a0,0,none⟩) l0).trans z0;have y1:w1.frozen? ⟨a1,0,none⟩=false:=(hb.frozen (p:=⟨a1,0,none⟩) l1).trans z1;have m0:a0<w1.heap.size:=by omega
 have m1:a1<w1.heap.size:=by omega
 have e2:¬a1=a0:=by omega
 have HK:=Ac (Af.Al hb (fun k=>k=a0\/k=a1));clear h0 h1 z0 z1 hb;go_wp2;have F0:((w1.setCell {block:=a0,off:=0} (.int .i64 0)).setCell {block:=a1,off:=0} (Value.int IntKind.i64 ↑n)).cell? ⟨a0,0,none⟩=some (.int .i64 0):=by simp[go_sem,g0]
 have F1:((w1.setCell {block:=a0,off:=0} (.int .i64 0)).setCell {block:=a1,off:=0} (Value.int IntKind.i64 ↑n)).cell? ⟨a1,0,none⟩=some (.int .i64 n):=by simp[go_sem,g1]
 have FB:Af (fun k=>k=a0\/k=a1) w ((w1.setCell {block:=a0,off:=0} (.int .i64 0)).setCell {block:=a1,off:=0} (Value.int IntKind.i64 ↑n)):=
  ((Aa HK).setCell (p:=⟨a0,0,none⟩) (Or.inl (Or.inl rfl)) _).setCell (p:=⟨a1,0,none⟩) (Or.inl (Or.inr rfl)) _
 show bodyPostS Tryz.prog Tryz.f86 c₀ cs _ _ _ _ _;exact⟨rfl,_,rfl,_,results_none rfl _ _ _,rfl,rfl,F0,F1,FB⟩
theorem Vx(w:World)(x cs n cap cb i:Nat)(ln uid proc:Int)(X:Value)(sq er:Int)(C:World->Prop)(hx:w.cell? ⟨x,2,none⟩=some (.slice (some ⟨cs,0,none⟩) n cap))(hi:i<n)(ac:w.cell? ⟨cs,i,none⟩=some (ptr cb))
  (ab:Hid (∀w',Below w.heap.size w w'->w'.heap.size=w.heap.size+2->Calls Tryz.prog 88 #[ptr cb,.int .i64 ln,.int .i64 uid,.int .i64 proc,X] w' fun e aa=>e=.returned (.tuple #[.int .i64 sq,.int .i64 er])/\C aa/\aa.heap[w.heap.size]?=w'.heap[w.heap.size]?/\aa.heap[w.heap.size+1]?=w'.heap[w.heap.size+1]?/\w'.heap.size<=aa.heap.size)):
  Calls Tryz.prog 52 #[ptr x,.int .i64 (i:Int),.int .i64 ln,.int .i64 uid,.int .i64 proc,X] w fun e w'=>e=.returned (.tuple #[.int .i64 sq,.int .i64 er])/\∃w1,C w1/\Af (fun k=>k=w.heap.size\/k=w.heap.size+1) w1 w':=by
 have al:∀(fn:Fn) (first cap:Array Value) (w:World),(Instr.makeFunc fn first cap).run Tryz.prog w=.ok (.func fn first cap) w:=fun _ _ _ _=>rfl
 have q1:(0:Int)<=(i:Int):=by omega
 have q2:(i:Int)<(n:Int):=by omega
 have aj:=lt_of_cell hx;have ak:=lt_of_cell ac;have HB:Hid (Below w.heap.size w ((w.alloc (.cells #[.int .i64 0] 3)).alloc (.cells #[.int .i64 0] 41))):=((Below.refl _ _).alloc (Nat.le_refl _) _).alloc (by simp) _;have HC:=Ac ((Aa ab) _ (Aa HB) (by simp));have ag:Hid (((w.alloc (.cells #[.int .i64 0] 3)).alloc (.cells #[.int .i64 0] 41)).heap[w.heap.size]?=some (.cells #[.int .i64 0] 3 (0,0))):=(Below.heap_alloc _ _ _ (by simp)).trans (heap_alloc_new w _);have ah:Hid (((w.alloc (.cells #[.int .i64 0] 3)).alloc (.cells #[.int .i64 0] 41)).heap[w.heap.size+1]?=some (.cells #[.int .i64 0] 41 (0,0))):=by
  show _=_;have:=heap_alloc_new (w.alloc (.cells #[.int .i64 0] 3)) (.cells #[.int .i64 0] 41);simpa using this
 clear ab
 go_enter_defers Tryz.func52,Tryz.ntmps52
 go_wp2_with (first|(go_at_call 35;go_in))
 refine(Aa HC).mono ?_;rintro e w1 ⟨rfl,hC,ad,ae,ai⟩;have f0:=ad.trans (Aa ag);have f1:=ae.trans (Aa ah);have c0:w1.cell? ⟨w.heap.size,0,none⟩=some (.int .i64 0):=cell_of f0 0 _ rfl;have c1:w1.cell? ⟨w.heap.size+1,0,none⟩=some (.int .i64 0):=cell_of f1 0 _ rfl;have z0:w1.frozen? ⟨w.heap.size,0,none⟩=false:=open_list f0;have z1:w1.frozen? ⟨w.heap.size+1,0,none⟩=false:=open_list f1;simp at ai;have m0:w.heap.size<w1.heap.size:=by omega
 have m1:w.heap.size+1<w1.heap.size:=by omega
 have af:=Ac hC;clear ad ae f0 f1 hC hx ac;go_wp2;refine leaves_cons (f:=86) (args:=#[.pointer (some ⟨w.heap.size,0,none⟩),.pointer (some ⟨w.heap.size+1,0,none⟩)]) (by simp) (by simp[go_sem]) ?_;refine(Jl _ _ _).mono ?_;rintro e u' aa ⟨rfl,rfl,rfl⟩;simp[Leaves,settle,results,Tryz.results52,go_sem,c0,c1];exact⟨w1,Aa af,((Af.refl _ w1).setCell (p:=⟨w.heap.size,0,none⟩) (Or.inl (Or.inl rfl)) _).setCell (p:=⟨w.heap.size+1,0,none⟩) (Or.inl (Or.inr rfl)) _⟩
theorem O9(w:World)(x cs n cap cb i:Nat)(ln uid proc:Int)(X:Value)(n0:Nat)(C:World->Prop)(hx:w.cell? ⟨x,2,none⟩=some (.slice (some ⟨cs,0,none⟩) n cap))(hi:i<n)(ac:w.cell? ⟨cs,i,none⟩=some (ptr cb))
  (ab:Hid (∀w',Below w.heap.size w w'->w'.heap.size=w.heap.size+2->Calls Tryz.prog 88 #[ptr cb,.int .i64 ln,.int .i64 uid,.int .i64 proc,X] w' fun e aa=>e=Az n0 0/\C aa/\aa.heap[w.heap.size]?=w'.heap[w.heap.size]?/\aa.heap[w.heap.size+1]?=w'.heap[w.heap.size+1]?/\w'.heap.size<=aa.heap.size)):
  Calls Tryz.prog 52 #[ptr x,.int .i64 (i:Int),.int .i64 ln,.int .i64 uid,.int .i64 proc,X] w fun e w'=>e=.returned (.tuple #[.int .i64 0,.int .i64 n0])/\∃w1,C w1/\Af (fun k=>k=w.heap.size\/k=w.heap.size+1) w1 w':=by
 have al:∀(fn:Fn) (first cap:Array Value) (w:World),(Instr.makeFunc fn first cap).run Tryz.prog w=.ok (.func fn first cap) w:=fun _ _ _ _=>rfl
 have q1:(0:Int)<=(i:Int):=by omega
 have q2:(i:Int)<(n:Int):=by omega
 have aj:=lt_of_cell hx;have ak:=lt_of_cell ac;have HB:Hid (Below w.heap.size w ((w.alloc (.cells #[.int .i64 0] 3)).alloc (.cells #[.int .i64 0] 41))):=((Below.refl _ _).alloc (Nat.le_refl _) _).alloc (by simp) _;have HC:=Ac ((Aa ab) _ (Aa HB) (by simp));have ag:Hid (((w.alloc (.cells #[.int .i64 0] 3)).alloc (.cells #[.int .i64 0] 41)).heap[w.heap.size]?=some (.cells #[.int .i64 0] 3 (0,0))):=(Below.heap_alloc _ _ _ (by simp)).trans (heap_alloc_new w _);have ah:Hid (((w.alloc (.cells #[.int .i64 0] 3)).alloc (.cells #[.int .i64 0] 41)).heap[w.heap.size+1]?=some (.cells #[.int .i64 0] 41 (0,0))):=by
  show _=_;have:=heap_alloc_new (w.alloc (.cells #[.int .i64 0] 3)) (.cells #[.int .i64 0] 41);simpa using this
 clear ab
 go_enter_defers Tryz.func52,Tryz.ntmps52
 go_wp2_with (first|(go_at_call 35;go_in))
 refine(Aa HC).mono ?_;rintro e w1 ⟨rfl,hC,ad,ae,ai⟩;have f0:=ad.trans (Aa ag);have f1:=ae.trans (Aa ah);have c0:w1.cell? ⟨w.heap.size,0,none⟩=some (.int .i64 0):=cell_of f0 0 _ rfl;have c1:w1.cell? ⟨w.heap.size+1,0,none⟩=some (.int .i64 0):=cell_of f1 0 _ rfl;have z0:w1.frozen? ⟨w.heap.size,0,none⟩=false:=open_list f0;have z1:w1.frozen? ⟨w.heap.size+1,0,none⟩=false:=open_list f1;simp at ai;have m0:w.heap.size<w1.heap.size:=by omega
 have m1:w.heap.size+1<w1.heap.size:=by omega
 have af:=Ac hC;clear ad ae f0 f1 hC hx ac;go_wp2;refine leaves_cons (f:=86) (args:=#[.pointer (some ⟨w.heap.size,0,none⟩),.pointer (some ⟨w.heap.size+1,0,none⟩)]) (by simp) (by simp[go_sem]) ?_;refine(KR w.heap.size (w.heap.size+1) n0 0 [] _ c0 c1 z0 z1 (by omega)).mono ?_;rintro e u' aa ⟨rfl,rfl,f0,f1,fk⟩;simp[Leaves,settle,results,Tryz.results52,go_sem,f0,f1];exact⟨w1,Aa af,fk⟩
theorem O8(w:World)(x cs n cap:Nat)(cl ln uid proc:Int)(X:Value)(hx:w.cell? ⟨x,2,none⟩=some (.slice (some ⟨cs,0,none⟩) n cap))(hc:cl<0\/(n:Int)<=cl):
  Calls Tryz.prog 52 #[ptr x,.int .i64 cl,.int .i64 ln,.int .i64 uid,.int .i64 proc,X] w fun e w'=>e=.returned (.tuple #[.int .i64 0,.int .i64 13])/\Below w.heap.size w w':=by
 have ac:∀(fn:Fn) (first cap:Array Value) (w:World),(Instr.makeFunc fn first cap).run Tryz.prog w=.ok (.func fn first cap) w:=fun _ _ _ _=>rfl
 have ab:=lt_of_cell hx;have HB:Hid (Below w.heap.size w ((w.alloc (.cells #[.int .i64 0] 3)).alloc (.cells #[.int .i64 13] 41))):=((Below.refl _ _).alloc (Nat.le_refl _) _).alloc (by simp) _;by_cases h0:cl<0
 ·have h1:¬0<=cl:=by omega
  clear hc
  go_enter_defers Tryz.func52,Tryz.ntmps52
  go_wp2_with (first|(go_at_call 35;go_in))
  refine leaves_cons (f:=86) (args:=#[.pointer (some ⟨w.heap.size,0,none⟩),.pointer (some ⟨w.heap.size+1,0,none⟩)]) (by simp) (by simp[go_sem]) ?_;refine(Jl _ _ _).mono ?_;rintro e u' aa ⟨rfl,rfl,rfl⟩;simp[Leaves,settle,results,Tryz.results52,go_sem];exact Aa HB
 ·have h1:0<=cl:=by omega
  have h2:¬cl<(n:Int):=by omega
  clear hc
  go_enter_defers Tryz.func52,Tryz.ntmps52
  go_wp2_with (first|(go_at_call 35;go_in))
  refine leaves_cons (f:=86) (args:=#[.pointer (some ⟨w.heap.size,0,none⟩),.pointer (some ⟨w.heap.size+1,0,none⟩)]) (by simp) (by simp[go_sem]) ?_;refine(Jl _ _ _).mono ?_;rintro e u' aa ⟨rfl,rfl,rfl⟩;simp[Leaves,settle,results,Tryz.results52,go_sem];exact Aa HB
theorem LW.SQ(h:LW p F G w)(hi:i<G.Ad.length):w.cell? ⟨p.cs,i,none⟩=some (ptr (p.cb i)):=by
 obtain⟨aa,h1,h2⟩:=h.XH;simp[World.cell?,h1,h2 i hi]
theorem LW.call(h:LW p F G w)(ht:Ec w)(cl ln uid proc:Int)(ad:-9223372036854775808<=uid/\uid<=9223372036854775807)(hI:V.Items w X v)(hn:v.length<=9000000000000):
  Calls Tryz.prog 52 #[ptr p.x,.int .i64 cl,.int .i64 ln,.int .i64 uid,.int .i64 proc,X] w fun e w'=>e=.returned (.tuple #[.int .i64 (R.Cw G cl ln uid proc v).1.1,.int .i64 (R.Cw G cl ln uid proc v).1.2])/\∃F',LW p F' (R.Cw G cl ln uid proc v).2 w'/\Ap F F' w w':=by
 by_cases ae:cl<0\/(G.Ad.length:Int)<=cl
 ·have e0:R.Cw G cl ln uid proc v=((0,13),G):=by unfold R.Cw;rw[if_pos ae]
  rw[e0];refine(O8 w p.x p.cs G.Ad.length p.cap cl ln uid proc X (cell_of h.bx 2 _ rfl) ae).mono ?_;rintro e w' ⟨rfl,hb⟩;exact⟨rfl,F,h.below hb,Ap.Al F hb⟩
 ·obtain⟨i,rfl⟩:∃i:Nat,cl=(i:Int):=⟨cl.toNat,by omega⟩;have hi:i<G.Ad.length:=by omega
  have hc:=List.getElem?_eq_getElem hi;have ac:∀w',Below w.heap.size w w'->w'.heap.size=w.heap.size+2->Calls Tryz.prog 88 #[ptr (p.cb i),.int .i64 ln,.int .i64 uid,.int .i64 proc,X] w' fun e aa=>e=JM (R.Cw G i ln uid proc v).1/\(∃wf F',Below w.heap.size w wf/\wf.heap.size=w.heap.size+2/\LW p F' (R.Cw G i ln uid proc v).2 aa/\Ap F F' wf aa)/\aa.heap[w.heap.size]?=w'.heap[w.heap.size]?/\aa.heap[w.heap.size+1]?=w'.heap[w.heap.size+1]?/\w'.heap.size<=aa.heap.size:=fun w' ab hz=>by
   refine((h.below ab).adl (ht.below ab) hc ln uid proc ad (hI.below ab) hn).mono ?_;rintro e aa ⟨rfl,F',q1,q2⟩;refine⟨rfl,⟨w',F',ab,hz,q1,q2⟩,q2.keeps.block _ (by omega) (fun hf=>?_),q2.keeps.block _ (by omega) (fun hf=>?_),q2.keeps.size⟩
   ·have:=h.lt _ hf;omega
   ·have:=h.lt _ hf;omega
  have fin:∀w' w1,(∃wf F',Below w.heap.size w wf/\wf.heap.size=w.heap.size+2/\LW p F' (R.Cw G i ln uid proc v).2 w1/\Ap F F' wf w1)->Af (fun k=>k=w.heap.size\/k=w.heap.size+1) w1 w'->∃F',LW p F' (R.Cw G i ln uid proc v).2 w'/\Ap F F' w w':=by
   rintro w' w1 ⟨wf,F',ab,hz,q1,q2⟩ hK;have af:∀k,F' k->¬(k=w.heap.size\/k=w.heap.size+1):=fun k hf=>by
    rcases q2.fresh k hf with q|q
    ·have:=h.lt k q;omega
    ·omega
   refine⟨F',q1.elsewhere hK af,⟨?_,fun k hf=>?_⟩⟩
   ·exact((Af.Al ab F).trans q2.keeps).andThen hK (fun k ag e=>by omega)
   ·rcases q2.fresh k hf with q|q
    ·exact Or.inl q
    ·exact Or.inr (by omega)
  by_cases he:(R.Cw G i ln uid proc v).1.2=16\/(R.Cw G i ln uid proc v).1.2=4
  ·have h0:(R.Cw G i ln uid proc v).1.1=0:=by
    rcases R.aam h.wf i ln uid proc v with ⟨n,_,e⟩|⟨_,_,_,_,_,_,_,_,_,_,_,_,_,_,_,e⟩
    ·rw[e]
    ·rw[e]at he;simp at he
   refine(O9 w p.x p.cs G.Ad.length p.cap (p.cb i) i ln uid proc X (R.Cw G i ln uid proc v).1.2.toNat (fun aa=>∃wf F',Below w.heap.size w wf/\wf.heap.size=w.heap.size+2/\LW p F' (R.Cw G i ln uid proc v).2 aa/\Ap F F' wf aa) (cell_of h.bx 2 _ rfl) hi (h.SQ hi) (fun w' ab hz=>(ac w' ab hz).mono ?_)).mono ?_
   ·rintro e aa ⟨rfl,q⟩;unfold JM;rw[if_pos he];exact⟨rfl,q⟩
   ·rintro e w' ⟨rfl,w1,q1,q2⟩;refine⟨?_,fin w' w1 q1 q2⟩;rw[h0];have:(((R.Cw G i ln uid proc v).1.2.toNat:Nat):Int)=(R.Cw G i ln uid proc v).1.2:=by omega
    rw[this]
  ·refine(Vx w p.x p.cs G.Ad.length p.cap (p.cb i) i ln uid proc X (R.Cw G i ln uid proc v).1.1 (R.Cw G i ln uid proc v).1.2 (fun aa=>∃wf F',Below w.heap.size w wf/\wf.heap.size=w.heap.size+2/\LW p F' (R.Cw G i ln uid proc v).2 aa/\Ap F F' wf aa) (cell_of h.bx 2 _ rfl) hi (h.SQ hi) (fun w' ab hz=>(ac w' ab hz).mono ?_)).mono ?_
   ·rintro e aa ⟨rfl,q⟩;unfold JM;rw[if_neg he];exact⟨rfl,q⟩
   ·rintro e w' ⟨rfl,w1,q1,q2⟩;exact⟨rfl,fin w' w1 q1 q2⟩
end Go.Proofs.YtblomippkddgiabGreatDoor
