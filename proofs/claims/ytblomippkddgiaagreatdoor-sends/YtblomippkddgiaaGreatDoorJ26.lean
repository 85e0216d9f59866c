import Derived.Test.YtblomippkddgiaaGreatDoorJ25
set_option maxRecDepth 100000
set_option maxHeartbeats 1000000
namespace Go.Proofs.YtblomippkddgiaaGreatDoor
open Go.RowKit
theorem Gy(w:World)(b:Nat):w.drew.heap[b]?=w.heap[b]?:=rfl
abbrev Ow(w:World)(b k:Nat)(st sq u pc:Int)(S:ByteArray)(a:Int)(S2:ByteArray)(wt tr:Int):World:=(((((((((w.setCell ⟨b,k*10,none⟩ (.int .i64 st)).setCell ⟨b,k*10+1,none⟩ (.int .i64 sq)).setCell ⟨b,k*10+2,none⟩ (.slice none 0 0)).setCell ⟨b,k*10+3,none⟩ (.int .i64 u)).setCell ⟨b,k*10+4,none⟩ (.int .i64 pc)).setCell ⟨b,k*10+5,none⟩ (.string S)).setCell ⟨b,k*10+6,none⟩ (.int .i64 a)).setCell ⟨b,k*10+7,none⟩ (.string S2)).setCell ⟨b,k*10+8,none⟩ (.int .i64 wt)).setCell ⟨b,k*10+9,none⟩ (.int .i64 tr)
theorem Ru(w:World)(b k:Nat)(st sq u pc:Int)(m:List UInt8)(a wt tr:Int):Ow w b k st sq u pc (str m) a ⟨#[]⟩ wt tr=Qg w b k ⟨st,sq,.slice none 0 0,u,pc,m,a,[],wt,tr⟩:=rfl
theorem QA(w:World)(b k:Nat)(u pc:Int)(m:List UInt8)(xs:List Dl)(x:Dl)(hrv:∃a n c,x.rv=.slice a n c)(h:w.heap[b]?=some (.cells (tab Dl.cells xs).toArray 139 (0,0)))(hx:xs[k]?=some x)(hs:0<=x.seq/\x.seq<=1000):
  Calls Tryz.prog 110 #[.pointer (some ⟨b,k*10,none⟩),.agg #[.int .i64 u,.int .i64 pc,.string (str m),.int .i64 0,.string ⟨#[]⟩,.int .i64 0,.int .i64 0]] w fun e w'=>e=.returned (.tuple #[])/\w'.heap[b]?=some (.cells (tab Dl.cells (xs.set k ⟨1,x.seq+1,.slice none 0 0,u,pc,m,0,[],0,0⟩)).toArray 139 (0,0))/\Ae (fun q=>q=b) w w':=by
 have hlt:=lt_of_block h;obtain⟨BX,hBX⟩:∃BX,w.alloc (.cells #[.int .i64 u,.int .i64 pc,.string (str m),.int .i64 0,.string ⟨#[]⟩,.int .i64 0,.int .i64 0] 137)=BX:=⟨_,rfl⟩;have hb:Below w.heap.size w BX:=by
  rw[<-hBX];exact(Below.refl _ _).alloc (Nat.le_refl _) _
 have hbx:BX.heap[w.heap.size]?=some (.cells #[.int .i64 u,.int .i64 pc,.string (str m),.int .i64 0,.string ⟨#[]⟩,.int .i64 0,.int .i64 0] 137 (0,0)):=by
  rw[<-hBX];exact heap_alloc_new w _
 have h':=(hb.block b hlt).trans h;obtain⟨a0,a1,a2,a3,a4,a5,a6,a7,a8,a9⟩:=WM h' hx;obtain⟨ra,rn,rc,hrv⟩:=hrv;rw[hrv]at a2;have z0:=open_list (off:=k*10) h';have z1:=open_list (off:=k*10+1) h';have z2:=open_list (off:=k*10+2) h';have z3:=open_list (off:=k*10+3) h';have z4:=open_list (off:=k*10+4) h';have z5:=open_list (off:=k*10+5) h';have z6:=open_list (off:=k*10+6) h';have z7:=open_list (off:=k*10+7) h';have z8:=open_list (off:=k*10+8) h';have z9:=open_list (off:=k*10+9) h';obtain⟨XS,hXS⟩:∃XS,XS=xs.set k ⟨1,x.seq+1,.slice none 0 0,u,pc,m,0,[],0,0⟩:=⟨_,rfl⟩;rw[<-hXS];have HP:Hid ((Ow BX b k 1 (x.seq+1) u pc (str m) 0 ⟨#[]⟩ 0 0).drew.heap[b]?=some (.cells (tab Dl.cells XS).toArray 139 (0,0))/\Ae (fun q=>q=b) w (Ow BX b k 1 (x.seq+1) u pc (str m) 0 ⟨#[]⟩ 0 0).drew):=by
  have q:=Qh (w:=BX) h' hx ⟨1,x.seq+1,.slice none 0 0,u,pc,m,0,[],0,0⟩;rw[hXS,Ru];generalize Qg BX b k ⟨1,x.seq+1,.slice none 0 0,u,pc,m,0,[],0,0⟩=W8 at q ⊢;rw[Gy];exact⟨q.1,((Ae.Aq hb _).trans q.2).drew⟩
 clear hXS;generalize str m=SM at *;have c0:BX.cell? ⟨w.heap.size,0,none⟩=some (.int .i64 u):=cell_of hbx 0 _ rfl;have c1:BX.cell? ⟨w.heap.size,1,none⟩=some (.int .i64 pc):=cell_of hbx 1 _ rfl;have c2:BX.cell? ⟨w.heap.size,2,none⟩=some (.string SM):=cell_of hbx 2 _ rfl;have c3:BX.cell? ⟨w.heap.size,3,none⟩=some (.int .i64 0):=cell_of hbx 3 _ rfl;have c4:BX.cell? ⟨w.heap.size,4,none⟩=some (.string ⟨#[]⟩):=cell_of hbx 4 _ rfl;have c5:BX.cell? ⟨w.heap.size,5,none⟩=some (.int .i64 0):=cell_of hbx 5 _ rfl;have c6:BX.cell? ⟨w.heap.size,6,none⟩=some (.int .i64 0):=cell_of hbx 6 _ rfl;have e1:IntKind.i64.wrap (x.seq+1)=x.seq+1:=by rw[IntKind.wrap_i64];omega
 have HBX:=Ab hBX;have hlb:=lt_of_block h';generalize x.seq=sq at *;clear h hx hBX hb hbx h' hrv;go_enter Tryz.func110,Tryz.ntmps110;go_wp2_with fail
 rw[Aa HBX]
 go_region
 all_goals
  go_wp2;go_returns;exact⟨rfl,Aa HP⟩
theorem U3(w:World)(cb b k:Nat)(rt tr:Int)(xs:List Dl)(x:Dl)(h:w.heap[b]?=some (.cells (tab Dl.cells xs).toArray 139 (0,0)))(hx:xs[k]?=some x)(b4:w.cell? ⟨cb,4,none⟩=some (.int .i64 rt))(b5:w.cell? ⟨cb,5,none⟩=some (.int .i64 tr))(hne:¬cb=b):
  Calls Tryz.prog 111 #[ptr cb,.pointer (some ⟨b,k*10,none⟩)] w fun e w'=>e=.returned (.tuple #[])/\w'.heap[b]?=some (.cells (tab Dl.cells (xs.set k {x with wait:=rt,tries:=tr})).toArray 139 (0,0))/\Ae (fun q=>q=b) w w':=by
 obtain⟨a0,a1,a2,a3,a4,a5,a6,a7,a8,a9⟩:=WM h hx;have z6:=open_list (off:=k*10+8) h;have z7:=open_list (off:=k*10+9) h;have e1:=BS (j:=8) (x':={x with wait:=rt}) (v:=.int .i64 rt) h hx (by omega) rfl;have e2:=BS (j:=9) (x':={x with wait:=rt,tries:=tr}) (v:=.int .i64 tr) e1.1 e1.2 (by omega) rfl;simp only[List.set_set]at e2;have hl1:=lt_of_cell b4;have hl2:=lt_of_block h;have hne':¬b=cb:=fun e=>hne e.symm
 have HP:=Ab e2.1;clear e1 e2 h hx a0 a1 a2 a3 a4 a5 a6 a7;go_enter Tryz.func111,Tryz.ntmps111;go_wp2;go_returns;exact⟨rfl,Aa HP,(Ai _).trans (Ai _)⟩
theorem KL(w:World)(cb lb bm nl k:Nat)(uid proc kind:Int)(X:Value)(SM:ByteArray)(st sq sq':Int)(A B C:World->Prop)(hk:k<nl)
  (b2:w.cell? ⟨cb,2,none⟩=some (.map (some bm))) (b3:w.cell? ⟨cb,3,none⟩=some (.slice (some ⟨lb,0,none⟩) nl nl)) (a0:w.cell? ⟨lb,k*10,none⟩=some (.int .i64 st)) (a1:w.cell? ⟨lb,k*10+1,none⟩=some (.int .i64 sq))
  (hlook:(Instr.lookup 131 (.map (some bm)) (.int .i64 uid) true).run Tryz.prog w=.ok (.tuple #[.int .i64 kind,.bool true]) w)
  (hst:¬st=1) (hsq:¬sq=999)
  (H54:Hid (∀w',Below w.heap.size w w'->Calls Tryz.prog 109 #[.int .i64 kind,.int .i64 proc,X] w' fun e w''=>e=.returned (.string SM)/\Below w'.heap.size w' w''))
  (H55:Hid (∀w',Below w.heap.size w w'->Calls Tryz.prog 110 #[.pointer (some ⟨lb,k*10,none⟩),.agg #[.int .i64 uid,.int .i64 proc,.string SM,.int .i64 0,.string ⟨#[]⟩,.int .i64 0,.int .i64 0]] w' fun e w''=>e=.returned (.tuple #[])/\A w''))
  (H56:Hid (∀w',A w'->Calls Tryz.prog 111 #[ptr cb,.pointer (some ⟨lb,k*10,none⟩)] w' fun e w''=>e=.returned (.tuple #[])/\B w''))
  (H57:Hid (∀w',B w'->Calls Tryz.prog 112 #[ptr cb,.int .i64 (k:Int),.bool false] w' fun e w''=>e=.returned (.tuple #[])/\C w''))
  (HSQ:Hid (∀w',C w'->w'.cell? ⟨lb,k*10+1,none⟩=some (.int .i64 sq'))):
  Calls Tryz.prog 64 #[ptr cb,.int .i64 (k:Int),.int .i64 uid,.int .i64 proc,X] w fun e w'=>e=.returned (.tuple #[.int .i64 sq',.int .i64 0])/\C w':=by
 have e1:(st==1)=false:=by simpa using hst
 have e2:(sq==999)=false:=by simpa using hsq
 have q1:(0:Int)<=(k:Int):=by omega
 have q2:(k:Int)<(nl:Int):=by omega
 have hlc:=lt_of_cell b2;have hll:=lt_of_cell a0;clear hst hsq;go_enter Tryz.func64,Tryz.ntmps64;go_wp2_with (first|(go_at_call 73;go_in))
 refine((Aa H54) _ (Below.refl _ _)).mono ?_;rintro e w2 ⟨rfl,hb12⟩;have d3:w2.cell? ⟨cb,3,none⟩=some (.slice (some ⟨lb,0,none⟩) nl nl):=(hb12.cell (p:=⟨cb,3,none⟩) hlc).trans b3;have f0:w2.cell? ⟨lb,k*10,none⟩=some (.int .i64 st):=(hb12.cell (p:=⟨lb,k*10,none⟩) hll).trans a0;have f1:w2.cell? ⟨lb,k*10+1,none⟩=some (.int .i64 sq):=(hb12.cell (p:=⟨lb,k*10+1,none⟩) hll).trans a1;have HB2:=Ab hb12;clear hb12 hlook a0 a1 b2 b3;go_wp2_with fail
 refine((Aa H55) _ (Aa HB2)).mono ?_;rintro e w3 ⟨rfl,hA⟩;have HA:=Ab hA;clear hA d3 f0 f1;go_wp2_with fail
 refine((Aa H56) _ (Aa HA)).mono ?_;rintro e w4 ⟨rfl,hB⟩;have HB:=Ab hB;clear hB;go_wp2_with fail
 refine((Aa H57) _ (Aa HB)).mono ?_;rintro e w5 ⟨rfl,hC⟩;have g1:=(Aa HSQ) _ hC;have HC:=Ab hC;clear hC;go_wp2;go_returns;exact⟨rfl,Aa HC⟩
theorem IW(w:World)(cb lb nl:Nat)(ln uid proc:Int)(X:Value)(hk:ln<0\/(nl:Int)<=ln)(b3:w.cell? ⟨cb,3,none⟩=some (.slice (some ⟨lb,0,none⟩) nl nl)):
  Calls Tryz.prog 64 #[ptr cb,.int .i64 ln,.int .i64 uid,.int .i64 proc,X] w fun e w'=>e=.returned (.tuple #[.int .i64 0,.int .i64 14])/\w'=w:=by
 by_cases h0:ln<0
 ·have h1:¬0<=ln:=by omega
  clear hk;go_enter Tryz.func64,Tryz.ntmps64;go_wp2_with (first|(go_at_call 73;go_in))
  go_returns;exact⟨rfl,rfl⟩
 ·have h1:0<=ln:=by omega
  have h2:¬ln<(nl:Int):=by omega
  clear hk;go_enter Tryz.func64,Tryz.ntmps64;go_wp2_with (first|(go_at_call 73;go_in))
  go_returns;exact⟨rfl,rfl⟩
theorem IV(w:World)(cb lb bm nl k:Nat)(uid proc z:Int)(X:Value)(hk:k<nl)(b2:w.cell? ⟨cb,2,none⟩=some (.map (some bm)))(b3:w.cell? ⟨cb,3,none⟩=some (.slice (some ⟨lb,0,none⟩) nl nl))(hlook:(Instr.lookup 131 (.map (some bm)) (.int .i64 uid) true).run Tryz.prog w=.ok (.tuple #[.int .i64 z,.bool false]) w):
  Calls Tryz.prog 64 #[ptr cb,.int .i64 (k:Int),.int .i64 uid,.int .i64 proc,X] w fun e w'=>e=.returned (.tuple #[.int .i64 0,.int .i64 15])/\w'=w:=by
 have q1:(0:Int)<=(k:Int):=by omega
 have q2:(k:Int)<(nl:Int):=by omega
 go_enter Tryz.func64,Tryz.ntmps64;go_wp2_with (first|(go_at_call 73;go_in))
 go_returns;exact⟨rfl,rfl⟩
theorem Gv(w:World)(cb lb bm nl k:Nat)(uid proc kind:Int)(X:Value)(n:Nat)(hk:k<nl)(b2:w.cell? ⟨cb,2,none⟩=some (.map (some bm)))(b3:w.cell? ⟨cb,3,none⟩=some (.slice (some ⟨lb,0,none⟩) nl nl))(hlook:(Instr.lookup 131 (.map (some bm)) (.int .i64 uid) true).run Tryz.prog w=.ok (.tuple #[.int .i64 kind,.bool true]) w)
  (H54:Hid (Calls Tryz.prog 109 #[.int .i64 kind,.int .i64 proc,X] w fun e w''=>e=A5 n 0/\Below w.heap.size w w'')):
  Calls Tryz.prog 64 #[ptr cb,.int .i64 (k:Int),.int .i64 uid,.int .i64 proc,X] w fun e w'=>e=A5 n 0/\Below w.heap.size w w':=by
 have q1:(0:Int)<=(k:Int):=by omega
 have q2:(k:Int)<(nl:Int):=by omega
 go_enter Tryz.func64,Tryz.ntmps64;go_wp2_with (first|(go_at_call 73;go_in))
 refine(Aa H54).mono ?_;rintro e w2 ⟨rfl,hb⟩;go_wp2;exact⟨rfl,rfl,hb⟩
theorem FD(w:World)(cb lb bm nl k:Nat)(uid proc kind st sq er:Int)(X:Value)(SM:ByteArray)(hk:k<nl)(b2:w.cell? ⟨cb,2,none⟩=some (.map (some bm)))(b3:w.cell? ⟨cb,3,none⟩=some (.slice (some ⟨lb,0,none⟩) nl nl))(a0:w.cell? ⟨lb,k*10,none⟩=some (.int .i64 st))(a1:w.cell? ⟨lb,k*10+1,none⟩=some (.int .i64 sq))
  (hlook:(Instr.lookup 131 (.map (some bm)) (.int .i64 uid) true).run Tryz.prog w=.ok (.tuple #[.int .i64 kind,.bool true]) w) (hx:(st=1/\er=17)\/(¬st=1/\sq=999/\er=11))
  (H54:Hid (Calls Tryz.prog 109 #[.int .i64 kind,.int .i64 proc,X] w fun e w''=>e=.returned (.string SM)/\Below w.heap.size w w'')):
  Calls Tryz.prog 64 #[ptr cb,.int .i64 (k:Int),.int .i64 uid,.int .i64 proc,X] w fun e w'=>e=.returned (.tuple #[.int .i64 0,.int .i64 er])/\Below w.heap.size w w':=by
 have q1:(0:Int)<=(k:Int):=by omega
 have q2:(k:Int)<(nl:Int):=by omega
 have hlc:=lt_of_cell b2;have hll:=lt_of_cell a0;have HX:=Ab hx;clear hx;go_enter Tryz.func64,Tryz.ntmps64;go_wp2_with (first|(go_at_call 73;go_in))
 refine(Aa H54).mono ?_;rintro e w2 ⟨rfl,hb12⟩;have d3:w2.cell? ⟨cb,3,none⟩=some (.slice (some ⟨lb,0,none⟩) nl nl):=(hb12.cell (p:=⟨cb,3,none⟩) hlc).trans b3;have f0:w2.cell? ⟨lb,k*10,none⟩=some (.int .i64 st):=(hb12.cell (p:=⟨lb,k*10,none⟩) hll).trans a0;have f1:w2.cell? ⟨lb,k*10+1,none⟩=some (.int .i64 sq):=(hb12.cell (p:=⟨lb,k*10+1,none⟩) hll).trans a1;have HB2:=Ab hb12;clear hb12 hlook a0 a1 b2 b3;rcases Aa HX with ⟨rfl,rfl⟩|⟨h1,rfl,rfl⟩
 ·go_wp2;go_returns;exact⟨rfl,Aa HB2⟩
 ·have e1:(st==1)=false:=by simpa using h1
  go_wp2;go_returns;exact⟨rfl,Aa HB2⟩
def Gu(r:Int×Int):Ending:=if r.2=16\/r.2=4 then A5 r.2.toNat 0 else .returned (.tuple #[.int .i64 r.1,.int .i64 r.2])
theorem Vm{k p:Int}{f t:ByteArray}(h:R.E3 k p=some (f,t)):∀v out,V.C8 f v=some out->out.length<=70:=by
 unfold R.E3 at h;split at h
 ·cases h;exact fun v out h=>V.DL h (by decide +kernel) (by decide +kernel) (by decide +kernel) (by decide +kernel) (by decide +kernel)
 ·split at h
  ·cases h;exact fun v out h=>V.DL h (by decide +kernel) (by decide +kernel) (by decide +kernel) (by decide +kernel) (by decide +kernel)
  ·split at h
   ·cases h;exact fun v out h=>V.J5 h (by decide +kernel)
   ·split at h
    ·cases h;exact fun v out h=>V.DL h (by decide +kernel) (by decide +kernel) (by decide +kernel) (by decide +kernel) (by decide +kernel)
    ·split at h
     ·cases h;exact fun v out h=>V.I5 h
     ·cases h
theorem LW.kind{p:Pl}{F:Ag}{G:R.Wd}{w:World}(h:LW p F G w){uid:Int}(hu:1<=uid/\uid<=(G.Ac.length:Int)):0<=kindOf G uid/\kindOf G uid<=2:=by
 have hl:(uid-1).toNat<G.Ac.length:=by omega
 unfold kindOf;rw[List.getElem?_eq_getElem hl];exact h.wf.Lr _ (List.getElem_mem hl)
theorem LW.Zk{p:Pl}{F:Ag}{G:R.Wd}{w:World}(h:LW p F G w)(ht:Fu w){i:Nat}{c:R.Cl}(hc:G.Ad[i]?=some c)(ln uid proc:Int)(hu64:-9223372036854775808<=uid/\uid<=9223372036854775807){X:Value}{v:List V.It}(hI:V.Items w X v)(hn:v.length<=9000000000000):
  Calls Tryz.prog 64 #[ptr (p.cb i),.int .i64 ln,.int .i64 uid,.int .i64 proc,X] w fun e w'=>e=Gu (R.Bf G i ln uid proc v).1/\∃F',LW p F' (R.Bf G i ln uid proc v).2 w'/\Ah F F' w w':=by
 have hca:=KM h hc;have hi:=(List.getElem?_eq_some_iff.1 hc).1;have hln:=(h.wf.cl i c hc).lines;unfold R.Bf;rw[if_neg (by omega)];by_cases h2:ln<0\/G.c.lines<=ln
 ·rw[if_pos h2];refine(IW w (p.cb i) (p.lb i) c.lines.length ln uid proc X (by omega) hca.a3).mono ?_;rintro e w' ⟨rfl,rfl⟩;exact⟨rfl,F,h,Ah.refl F w'⟩
 ·rw[if_neg h2];obtain⟨k,rfl⟩:∃k:Nat,ln=(k:Int):=⟨ln.toNat,by omega⟩;have hk:k<c.lines.length:=by omega
  rw[Int.toNat_natCast,hc];simp only[Option.map_some,Option.getD_some];have hlook:=Un (h.bound i c hc) (u:=uid) hu64;by_cases h3:uid∈c.bound
  ·rw[if_neg (not_not_intro h3)];have hub:=(h.wf.cl i c hc).bound uid h3;have hsv:=h.wf.sv;have hbo:BU G c uid=some (kindOf G uid):=by unfold BU;rw[if_pos h3]
   rw[hbo]at hlook;simp only[Option.getD_some,Option.isSome_some]at hlook;rw[show ((G.Ac[(uid-1).toNat]?).map (·.kind)).getD 0=kindOf G uid from rfl];have hkd:=h.kind hub;cases hs:R.E3 (kindOf G uid) proc with
   |none=>
    refine(Gv w (p.cb i) (p.lb i) (p.bm i) c.lines.length k uid proc (kindOf G uid) X 16 hk hca.a2 hca.a3 hlook (JJ _ _ hkd hs X w ht)).mono ?_;rintro e w' ⟨rfl,hb⟩;exact⟨rfl,F,h.below hb,Ah.Aq F hb⟩
   |some ft=>
    obtain⟨f,t⟩:=ft;obtain⟨_,hf,_,hp,_⟩:=Jv hs;simp only;cases hby:R.Fa f v with
    |none=>
     have hm:¬(V.C3 f v).1=0:=fun e=>by
      unfold R.Fa at hby;rw[if_pos e]at hby;cases hby
     have h4:=V.Rj hf (Vm hs v) hm;refine(Gv w (p.cb i) (p.lb i) (p.bm i) c.lines.length k uid proc (kindOf G uid) X 4 hk hca.a2 hca.a3 hlook ?_).mono ?_
     ·refine(FN _ _ f t hs X v w ht hI hn).mono ?_;rintro e w' ⟨⟨h0,_⟩|⟨_,rfl⟩,hb⟩
      ·exact absurd h0 hm
      ·rw[h4];exact⟨rfl,hb⟩
     ·rintro e w' ⟨rfl,hb⟩;exact⟨rfl,F,h.below hb,Ah.Aq F hb⟩
    |some bs=>
     have hm:(V.C3 f v).1=0/\(V.C3 f v).2=bs:=by
      unfold R.Fa at hby;split at hby
      ·rename_i e;exact⟨e,Option.some.inj hby⟩
      ·cases hby
     have HW:∀w',Below w.heap.size w w'->Calls Tryz.prog 109 #[.int .i64 (kindOf G uid),.int .i64 proc,X] w' fun e w''=>e=.returned (.string (str (AF proc++bs)))/\Below w'.heap.size w' w'':=fun w' hb=>by
      refine(FN _ _ f t hs X v w' (ht.below hb) (hI.below hb) hn).mono ?_;rintro e w'' ⟨⟨_,rfl⟩|⟨h0,_⟩,hb⟩
      ·rw[hm.2];exact⟨rfl,hb⟩
      ·exact absurd hm.1 h0
     have hl:c.lines[k]?=some c.lines[k]:=List.getElem?_eq_getElem hk;simp only;rw[R.Bc hc hl];generalize c.lines[k]=l at hl ⊢;obtain⟨xs,x,hL,hR,hx,hx1,hla,hrs,hit⟩:=h.line hc hl;have hok:=(h.wf.cl i c hc).line k l hl;have est:=hx1.state;have esq:=hx1.seq;by_cases h5:l.state=1
     ·rw[if_pos h5];refine(FD w (p.cb i) (p.lb i) (p.bm i) c.lines.length k uid proc (kindOf G uid) x.state x.seq 17 X _ hk hca.a2 hca.a3 hla.a0 hla.a1 hlook (Or.inl ⟨est.trans h5,rfl⟩) (HW w (Below.refl _ _))).mono ?_;rintro e w' ⟨rfl,hb⟩;exact⟨rfl,F,h.below hb,Ah.Aq F hb⟩
     ·rw[if_neg h5];by_cases h6:l.seq=999
      ·rw[if_pos h6];refine(FD w (p.cb i) (p.lb i) (p.bm i) c.lines.length k uid proc (kindOf G uid) x.state x.seq 11 X _ hk hca.a2 hca.a3 hla.a0 hla.a1 hlook (Or.inr ⟨by rw[est];exact h5,esq.trans h6,rfl⟩) (HW w (Below.refl _ _))).mono ?_;rintro e w' ⟨rfl,hb⟩;exact⟨rfl,F,h.below hb,Ah.Aq F hb⟩
      ·rw[if_neg h6];have hbl:=R.NB hby;have hfl:F (p.lb i):=(h.Bw i hi).2.1;have hne:p.cb i≠p.lb i:=AO (h.cl i c hc) hL (by decide);have hcf:=h.wf.cf;unfold R.Cj at hcf;have hlb:=lt_of_block hL;have hlc:=lt_of_cell hca.a0;have htk:(AF proc++bs).take 2=AF proc:=by simp[AF]
       generalize hM:AF proc++bs=M at *;have hM2:M.length<=72/\2<=M.length:=by
        rw[<-hM];simp[AF];omega
       have hpp:=R.Ff (s:=M) (by omega);have hsq:=hok.seq;have hnew:R.Nc ⟨l.seq+1,1,[],uid,t,M,0,[],0,G.c.Al,G.c.tries⟩:=⟨by simp only;omega,fun _=>⟨by simp only;omega,by simp only;omega,by simp only;omega,by simp only;omega,by simp only;omega,by simp only;omega⟩⟩;have hc':(R.Ar G i k ⟨l.seq+1,1,[],uid,t,M,0,[],0,G.c.Al,G.c.tries⟩).Ad[i]?=some {c with lines:=c.lines.set k ⟨l.seq+1,1,[],uid,t,M,0,[],0,G.c.Al,G.c.tries⟩}:=by
        rw[R.BK,hc];simp
       have hl':(c.lines.set k ⟨l.seq+1,1,[],uid,t,M,0,[],0,G.c.Al,G.c.tries⟩)[k]?=some ⟨l.seq+1,1,[],uid,t,M,0,[],0,G.c.Al,G.c.tries⟩:=by simp[hk]
       refine(KL w (p.cb i) (p.lb i) (p.bm i) c.lines.length k uid proc (kindOf G uid) X (str M) x.state x.seq (l.seq+1)
        (fun w3=>w3.heap[p.lb i]?=some (.cells (tab Dl.cells (xs.set k ⟨1,x.seq+1,.slice none 0 0,uid,proc,M,0,[],0,0⟩)).toArray 139 (0,0))/\Ae (fun q=>q=p.lb i) w w3)
        (fun w4=>LW p F (R.Ar G i k ⟨l.seq+1,1,[],uid,t,M,0,[],0,G.c.Al,G.c.tries⟩) w4/\Ah F F w w4)
        (fun w5=>∃F',LW p F' (R.A9 (R.Ar G i k ⟨l.seq+1,1,[],uid,t,M,0,[],0,G.c.Al,G.c.tries⟩) i k false) w5/\Ah F F' w w5)
        hk hca.a2 hca.a3 hla.a0 hla.a1 hlook (by rw[est];exact h5) (by rw[esq];exact h6) HW ?_ ?_ ?_ ?_).mono ?_
       ·intro w' hb';have hL':=(hb'.block _ hlb).trans hL;refine(QA w' (p.lb i) k uid proc M xs x (EW hit) hL' hx (by rw[esq];omega)).mono ?_;rintro e w'' ⟨rfl,q1,q2⟩;exact⟨rfl,q1,(Ae.Aq hb' _).trans q2⟩
       ·rintro w3 ⟨q1,q2⟩;have d4:w3.cell? ⟨p.cb i,4,none⟩=some (.int .i64 G.c.Al):=(World.cell?_of_block (q2.block (p.cb i) hlc hne)).trans hca.a4;have d5:w3.cell? ⟨p.cb i,5,none⟩=some (.int .i64 G.c.tries):=(World.cell?_of_block (q2.block (p.cb i) hlc hne)).trans hca.a5;refine(U3 w3 (p.cb i) (p.lb i) k G.c.Al G.c.tries _ ⟨1,x.seq+1,.slice none 0 0,uid,proc,M,0,[],0,0⟩ q1 (by simp[(List.getElem?_eq_some_iff.1 hx).1]) d4 d5 hne).mono ?_;rintro e w4 ⟨rfl,r1,r2⟩;simp only[List.set_set]at r1;have hkk:=q2.trans r2;refine⟨rfl,h.turn hc hL hR hrs hkk r1 hnew ⟨rfl,by simp only;rw[esq],fun _=>rfl,fun _=>⟨rfl,rfl,rfl,rfl,rfl⟩,fun _=>⟨rfl,hp,htk⟩⟩ (ED.nil _ _),⟨hkk.mono (fun q _ e=>by rw[e];exact hfl),fun _ q=>Or.inl q⟩⟩
       ·rintro w4 ⟨q1,q2⟩;refine(q1.piece hc' hl' rfl (by simp only;omega) false).mono ?_;rintro e w5 ⟨rfl,F',r1,r2⟩;exact⟨rfl,F',r1,q2.trans r2⟩
       ·rintro w5 ⟨F',q1,_⟩;have e1:(R.A9 (R.Ar G i k ⟨l.seq+1,1,[],uid,t,M,0,[],0,G.c.Al,G.c.tries⟩) i k false).Ad[i]?=some {c with lines:=c.lines.set k ⟨l.seq+1,1,[],uid,t,M,0,[],0,G.c.Al,G.c.tries⟩}:=by
         unfold R.A9;rw[Gd];exact hc'
        obtain⟨_,y,_,_,_,hy,hya,_⟩:=q1.line e1 hl';have:=hya.a1;rw[hy.seq]at this;exact this
       ·rintro e w' ⟨rfl,F',q1,q2⟩;exact⟨by simp[Gu],F',q1,q2⟩
  ·rw[if_pos h3];have hbo:BU G c uid=none:=by unfold BU;rw[if_neg h3]
   rw[hbo]at hlook;refine(IV w (p.cb i) (p.lb i) (p.bm i) c.lines.length k uid proc 0 X hk hca.a2 hca.a3 hlook).mono ?_;rintro e w' ⟨rfl,rfl⟩;exact⟨rfl,F,h,Ah.refl F w'⟩
end Go.Proofs.YtblomippkddgiaaGreatDoor
