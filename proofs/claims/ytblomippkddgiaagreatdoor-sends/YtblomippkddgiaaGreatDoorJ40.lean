import Derived.Test.YtblomippkddgiaaGreatDoorJ39
import Derived.Test.YtblomippkddgiaaGreatDoorJ38
import Derived.Deep.Cut
import Derived.Deep.MidRow
set_option maxRecDepth 100000
set_option maxHeartbeats 2000000
namespace Go.Proofs.YtblomippkddgiaaGreatDoor
open Go.RowKit
theorem Xk(a d:UInt8):bits .xor .u8 (a.toNat:Int) (d.toNat:Int)=((a ^^^ d).toNat:Int):=by
 have ha:=a.toNat_lt;have hd:=d.toNat_lt;have n1:(BitVec.ofInt 8 (a.toNat:Int)).toNat=a.toNat:=by
  rw[BitVec.ofInt_natCast,BitVec.toNat_ofNat];omega
 have n2:(BitVec.ofInt 8 (d.toNat:Int)).toNat=d.toNat:=by
  rw[BitVec.ofInt_natCast,BitVec.toNat_ofNat];omega
 show IntKind.u8.wrap ((BitVec.ofInt 8 (a.toNat:Int) ^^^ BitVec.ofInt 8 (d.toNat:Int)).toNat:Int)=_;rw[BitVec.toNat_xor,n1,n2,UInt8.toNat_xor];have hlt:a.toNat ^^^ d.toNat<2 ^ 8:=Nat.xor_lt_two_pow (by omega) (by omega);have hw:∀n:Int,IntKind.u8.wrap n=n % 256:=fun n=>by simp[IntKind.wrap,IntKind.bits,IntKind.signed]
 rw[hw];omega
theorem Vp(s:List UInt8)(k:Nat)(h:k<s.length):(str s)[k]'(by rw[Au];exact h)=s.getD k 0:=by
 have h1:=Ek s k (by rw[Au];exact h);simp[List.getD,h1]
theorem Ry(s:List UInt8)(k:Nat)(c:UInt8)(h:k<s.length):(str s).extract 0 k++str [c]++(str s).extract (k+1) s.length=str (s.set k c):=by
 rw[Ej,Ej,FI,FI,List.set_eq_take_append_cons_drop,if_pos h];rw[List.take_of_length_le (l:=s.drop (k+1)) (by simp)];simp
theorem RD(W:World)(c:UInt8):(convert 199 9 (.slice (some ⟨W.heap.size,0,none⟩) 1 1)).run Tryz.prog (W.alloc (.cells #[.int .u8 (c.toNat:Int)] 5))=.ok (.string (str [c])) (W.alloc (.cells #[.int .u8 (c.toNat:Int)] 5)):=by
 have:=run_convert_bytes_back (P:=Tryz.prog) (W.alloc (.cells #[.int .u8 (c.toNat:Int)] 5)) 199 9 5 ⟨W.heap.size,0,none⟩ 1 [c] Tryz.underlying199 (by kernel_rfl) Tryz.underlying9 fun j hj=>?_
 ·exact this
 ·obtain rfl:j=0:=by simpa using hj
  rw[Addr.add_lit,Nat.zero_add,World.cell?_alloc_new W _ _ 0];rfl
theorem OD(W:World)(c:UInt8):(convert 199 9 (.slice (some ⟨W.heap.size,0,none⟩) 1 1)).run Tryz.prog (W.alloc (.cells #[.int .u8 (c.toNat:Int)] 5)).drew=.ok (.string (str [c])) (W.alloc (.cells #[.int .u8 (c.toNat:Int)] 5)).drew:=RD W.drew c
theorem Rx(w:World)(x:Nat)(a:Option Addr)(m cc:Nat)(i at' by':Int)(x8:w.cell? ⟨x,8,none⟩=some (.slice a m cc))(h:i<0\/(m:Int)<=i):Calls Tryz.prog 179 #[Av x,.int .i64 i,.int .i64 at',.int .i64 by'] w fun e w'=>e=.returned (.int .i64 9)/\w'=w:=by
 have hl:=lt_of_cell x8;by_cases h0:i<0
 ·go_enter Tryz.func179,Tryz.ntmps179;go_wp2;go_returns;exact⟨rfl,rfl⟩
 ·have h1:(m:Int)<=i:=by omega
  go_enter Tryz.func179,Tryz.ntmps179;go_wp2;go_returns;exact⟨rfl,rfl⟩
theorem Rw(w:World)(x g m cap i:Nat)(at' by':Int)(S:ByteArray)(x8:w.cell? ⟨x,8,none⟩=some (.slice (some ⟨g,0,none⟩) m cap))(hi:i<m)(h1:w.cell? ⟨g,i*3+1,none⟩=some (.string S))(h:at'<0\/(S.size:Int)<=at'\/by'<1\/255<by'):Calls Tryz.prog 179 #[Av x,.int .i64 (i:Int),.int .i64 at',.int .i64 by'] w fun e w'=>e=.returned (.int .i64 9)/\w'=w:=by
 have hl:=lt_of_cell x8;have q0:¬(i:Int)<0:=by omega
 have q1:¬(m:Int)<=(i:Int):=by omega
 have q2:(0:Int)<=(i:Int):=by omega
 have q3:(i:Int)<(m:Int):=by omega
 by_cases a0:at'<0
 ·go_enter Tryz.func179,Tryz.ntmps179;go_wp2;go_returns;exact⟨rfl,rfl⟩
 ·by_cases a1:(S.size:Int)<=at'
  ·go_enter Tryz.func179,Tryz.ntmps179;go_wp2;go_returns;exact⟨rfl,rfl⟩
  ·by_cases a2:by'<1
   ·go_enter Tryz.func179,Tryz.ntmps179;go_wp2;go_returns;exact⟨rfl,rfl⟩
   ·have a3:255<by':=by omega
    go_enter Tryz.func179,Tryz.ntmps179;go_wp2;go_returns;exact⟨rfl,rfl⟩
theorem Oy(w:World)(x g m cap i:Nat)(at' by':Int)(S:ByteArray)(x8:w.cell? ⟨x,8,none⟩=some (.slice (some ⟨g,0,none⟩) m cap))(hi:i<m)(h1:w.cell? ⟨g,i*3+1,none⟩=some (.string S))(h2:w.cell? ⟨g,i*3+2,none⟩=some (.bool true))(a0:¬at'<0)(a1:¬(S.size:Int)<=at')(a2:¬by'<1)(a3:¬255<by'):Calls Tryz.prog 179 #[Av x,.int .i64 (i:Int),.int .i64 at',.int .i64 by'] w fun e w'=>e=.returned (.int .i64 18)/\w'=w:=by
 have hl:=lt_of_cell x8;have q0:¬(i:Int)<0:=by omega
 have q1:¬(m:Int)<=(i:Int):=by omega
 have q2:(0:Int)<=(i:Int):=by omega
 have q3:(i:Int)<(m:Int):=by omega
 go_enter Tryz.func179,Tryz.ntmps179;go_wp2;go_returns;exact⟨rfl,rfl⟩
theorem UZ(w:World)(x g m cap i k:Nat)(to:Int)(s:List UInt8)(b:UInt8)(by':Int)(hby:by'=(b.toNat:Int))(x8:w.cell? ⟨x,8,none⟩=some (.slice (some ⟨g,0,none⟩) m cap))(hi:i<m)(h0:w.cell? ⟨g,i*3,none⟩=some (.int .i64 to))(h1:w.cell? ⟨g,i*3+1,none⟩=some (.string (str s)))(h2:w.cell? ⟨g,i*3+2,none⟩=some (.bool false))(hz:∀o,w.frozen? ⟨g,o,none⟩=false)(hk:k<s.length)(hs:s.length<=21)(a2:¬by'<1)(Post:World->Prop)(hP:∀o,Post (((((w.setCell ⟨g,i*3,none⟩ (.int .i64 to)).setCell ⟨g,i*3+1,none⟩ (.string (str (s.set k ((s.getD k 0) ^^^ b))))).setCell ⟨g,i*3+2,none⟩ (.bool true)).alloc o).drew)):Calls Tryz.prog 179 #[Av x,.int .i64 (i:Int),.int .i64 (k:Int),.int .i64 by'] w fun e w'=>e=.returned (.int .i64 0)/\Post w':=by
 have hl:=lt_of_cell x8;have hlg:=lt_of_cell h0;have q0:¬(i:Int)<0:=by omega
 have q1:¬(m:Int)<=(i:Int):=by omega
 have q2:(0:Int)<=(i:Int):=by omega
 have q3:(i:Int)<(m:Int):=by omega
 have hss:(str s).size=s.length:=Au s;have q4:¬(k:Int)<0:=by omega
 have q5:¬((str s).size:Int)<=(k:Int):=by omega
 have q6:(k:Int)<((str s).size:Int):=by omega
 have q7:¬255<by':=by have:=b.toNat_lt;omega
 have q8:(0:Int)<=(k:Int):=by omega
 have HP:=Ab hP;have e1:IntKind.i64.wrap ((k:Int)+1)=(k:Int)+1:=by rw[IntKind.wrap_i64];omega
 have hkl:k<=s.length:=by omega
 have hkl1:k+1<=s.length:=by omega
 have hz0:=hz (i*3);have hz1:=hz (i*3+1);have hz2:=hz (i*3+2);obtain⟨C,hC⟩:∃C,(str s)[k]'(by omega) ^^^ b=C:=⟨_,rfl⟩;have HCC:Hid ((s.getD k 0) ^^^ b=C):=(congrArg (· ^^^ b) (Vp s k hk).symm).trans hC;have hcv:(convert 199 9 (.slice (some ⟨w.heap.size,0,none⟩) 1 1)).run Tryz.prog (w.alloc (.cells #[.int .u8 (C.toNat:Int)] 5)).drew=.ok (.string (str [C])) (w.alloc (.cells #[.int .u8 (C.toNat:Int)] 5)).drew:=OD w C;clear hP hz;go_enter Tryz.func179,Tryz.ntmps179;go_wp2_with fail
 rw[Xk,hC]
 go_region
 all_goals
  rw[show (str s).extract 0 k++str [C]++(str s).extract (k+1) s.length=str (s.set k C) from Ry s k C hk];have HQ:=Ab ((Aa HP) (.cells #[.int .u8 (C.toNat:Int)] 5));rw[Aa HCC]at HQ;clear HP;go_wp2;go_returns;exact⟨rfl,Aa HQ⟩
theorem Vr{fl:List R.Fl}{i:Nat}{f f':R.Fl}(hf:fl[i]?=some f):(((tab A1 fl).set (i*3) (.int .i64 f'.to)).set (i*3+1) (.string (str f'.s))).set (i*3+2) (.bool f'.Dn)=tab A1 (fl.set i f'):=by
 have hi:=(List.getElem?_eq_some_iff.1 hf).1;have s0:=Dy Bg fl i 0 f ⟨f'.to,f.s,f.Dn⟩ (.int .i64 f'.to) hf (by omega) rfl;have s1:=Dy Bg (fl.set i ⟨f'.to,f.s,f.Dn⟩) i 1 ⟨f'.to,f.s,f.Dn⟩ ⟨f'.to,f'.s,f.Dn⟩ (.string (str f'.s)) (by simp[hi]) (by omega) rfl;have s2:=Dy Bg ((fl.set i ⟨f'.to,f.s,f.Dn⟩).set i ⟨f'.to,f'.s,f.Dn⟩) i 2 ⟨f'.to,f'.s,f.Dn⟩ f' (.bool f'.Dn) (by simp[hi]) (by omega) rfl;rw[Nat.add_zero]at s0;rw[s0,s1,s2];simp
theorem RX{w:World}{n cap g:Nat}{fl:List R.Fl}(h:w.ownsRow 0 304 3 (.slice (some ⟨g,0,none⟩) n cap) n (tab A1 fl)){i:Nat}{f f':R.Fl}(hf:fl[i]?=some f)(o:Obj){W:World}(hW:W=((((w.setCell ⟨g,i*3,none⟩ (.int .i64 f'.to)).setCell ⟨g,i*3+1,none⟩ (.string (str f'.s))).setCell ⟨g,i*3+2,none⟩ (.bool f'.Dn)).alloc o).drew):W.ownsRow 0 304 3 (.slice (some ⟨g,0,none⟩) n cap) n (tab A1 (fl.set i f'))/\Ae (fun k=>k=g) w W:=by
 have hi:=(List.getElem?_eq_some_iff.1 hf).1;have hK:Ae (fun k=>k=g) w W:=by
  rw[hW];exact(((((Ae.refl (fun k=>k=g) w).setCell (p:=⟨g,i*3,none⟩) (Or.inl rfl) _).setCell (p:=⟨g,i*3+1,none⟩) (Or.inl rfl) _).setCell (p:=⟨g,i*3+2,none⟩) (Or.inl rfl) _).alloc _).drew
 refine⟨⟨by rw[BN Bg,List.length_set,<-BN Bg];exact h.1,Or.inr ?_⟩,hK⟩;have hl:=h.1;rw[BN Bg]at hl;rcases h.2 with ⟨h0,_⟩|⟨g',cap',cur,hv,hb,hg,hc,hcm,hsz,htk⟩
 ·cases h0
 ·cases hv;have hg':w.heap[g]?=some (.cells cur.toList.toArray 304 (0,0)):=by rw[hg]
  have hlg:=(Array.getElem?_eq_some_iff.1 hg).1;have h3:=Ap (off:=i*3+2) (Ap (off:=i*3+1) (Ap (off:=i*3) hg' (.int .i64 f'.to)) (.string (str f'.s))) (.bool f'.Dn);refine⟨g,cap,(((cur.toList.set (i*3) (.int .i64 f'.to)).set (i*3+1) (.string (str f'.s))).set (i*3+2) (.bool f'.Dn)).toArray,rfl,hb,?_,hc,hcm,by simpa using hsz,?_⟩
  ·rw[hW];show ((((w.setCell ⟨g,i*3,none⟩ (.int .i64 f'.to)).setCell ⟨g,i*3+1,none⟩ (.string (str f'.s))).setCell ⟨g,i*3+2,none⟩ (.bool f'.Dn)).alloc o).heap[g]?=_;rw[Below.heap_alloc _ _ _ (by simpa [World.setCell] using hlg)];exact h3
  ·simp only;rw[List.take_set,List.take_set,List.take_set,htk,Vr hf]
theorem RW.Tx{x:Nat}{v:RV}{F:Ag}{G:R.Wd}{w:World}(h:RW x v F G w)(i at' by':Int):Calls Tryz.prog 179 #[Av x,.int .i64 i,.int .i64 at',.int .i64 by'] w fun e w'=>e=.returned (.int .i64 (R.D4 G i at' by').1)/\∃v' F',RW x v' F' (R.D4 G i at' by').2 w'/\Ah F F' w w':=by
 obtain⟨a,cc,hK,x8⟩:=h.LH;unfold R.D4;by_cases ho:R.off G i
 ·rw[if_pos ho];refine(Rx w x a G.Af.length cc i at' by' x8 ho).mono ?_;rintro e w' ⟨rfl,rfl⟩;exact⟨rfl,v,F,h,Ah.refl F _⟩
 ·rw[if_neg ho];unfold R.off at ho;obtain⟨n,rfl⟩:∃n:Nat,i=(n:Int):=⟨i.toNat,by omega⟩;have hn:n<G.Af.length:=by omega
  obtain⟨f,hf⟩:∃f,G.Af[n]?=some f:=⟨_,List.getElem?_eq_getElem hn⟩;simp only[Int.toNat_natCast,hf];obtain⟨g,cap,hv,hgl,hc,hz⟩:=DU Bg (by omega) h.EC hf;have hrow:=h.EC;rw[hv]at hrow;have hv2:=hv;rw[hK]at hv;cases hv;have k0:w.cell? ⟨g,n*3,none⟩=some (.int .i64 f.to):=hc 0 _ (by omega) rfl;have k1:w.cell? ⟨g,n*3+1,none⟩=some (.string (str f.s)):=hc 1 _ (by omega) rfl;have k2:w.cell? ⟨g,n*3+2,none⟩=some (.bool f.Dn):=hc 2 _ (by omega) rfl;have hss:((str f.s).size:Int)=(f.s.length:Int):=by rw[Au]
  by_cases hr:at'<0\/(f.s.length:Int)<=at'\/by'<1\/255<by'
  ·rw[if_pos hr];refine(Rw w x g _ cc n at' by' (str f.s) x8 hn k1 (by rw[hss];exact hr)).mono ?_;rintro e w' ⟨rfl,rfl⟩;exact⟨rfl,v,F,h,Ah.refl F _⟩
  ·rw[if_neg hr];by_cases hb:f.Dn=true
   ·rw[if_pos hb];rw[hb]at k2;refine(Oy w x g _ cc n at' by' (str f.s) x8 hn k1 k2 (by omega) (by omega) (by omega) (by omega)).mono ?_;rintro e w' ⟨rfl,rfl⟩;exact⟨rfl,v,F,h,Ah.refl F _⟩
   ·rw[if_neg hb];rw[Bool.not_eq_true]at hb;rw[hb]at k2;obtain⟨k,rfl⟩:∃k:Nat,at'=(k:Int):=⟨at'.toNat,by omega⟩;have hwf:=h.wf;have hs21:=hwf.EO f (List.mem_of_getElem? hf);have hb8:by'=((b8 by').toNat:Int):=by
     unfold b8;rw[UInt8.toNat_ofNat'];omega
    simp only[Int.toNat_natCast];have hwf':R.Wf {G with Af:=G.Af.set n ⟨f.to,f.s.set k ((f.s.getD k 0) ^^^ b8 by'),true⟩}:=by
     refine⟨hwf.cf,hwf.JL,fun j c hc=>?_,by simpa using hwf.EC,fun y hy=>?_,hwf.sv,hwf.Lr,hwf.nm,hwf.st,hwf.nd,hwf.IC⟩
     ·have:=hwf.cl j c hc;exact⟨this.lines,this.Ax,this.bound,this.line⟩
     ·rcases List.mem_or_eq_of_mem_set hy with q|q
      ·exact hwf.EO y q
      ·rw[q];simpa using hs21
    refine(UZ w x g _ cc n k f.to f.s (b8 by') by' hb8 x8 hn k0 k1 k2 hz (by omega) hs21 (by omega) (fun w'=>∃v' F',RW x v' F' {G with Af:=G.Af.set n ⟨f.to,f.s.set k ((f.s.getD k 0) ^^^ b8 by'),true⟩} w'/\Ah F F' w w') (fun o=>?_)).mono ?_
    ·obtain⟨hr1,hk1⟩:=RX (f':=⟨f.to,f.s.set k ((f.s.getD k 0) ^^^ b8 by'),true⟩) hrow hf o rfl;have hne:¬x=g:=fun e=>by
      subst e;obtain⟨cur,hc⟩:=C4 hrow rfl;exact AO hc h.bx (by decide) rfl
     refine h.FP (K:=v.Fl) hwf' (hk1.mono (fun k _ e=>Or.inr (by rw[hv2,e];rfl))) (hk1.at h.bx hne) ?_ (fun j hj=>Or.inl hj);rw[hv2,List.length_set];exact hr1
    ·rintro e w' ⟨rfl,hp⟩;exact⟨rfl,hp⟩
theorem KT{N:Nat}{t:Tw}{w:World}(h:Ci N t w)(o:EM)(hk:o.kind=14):
  Calls Tryz.prog 102 #[t.val,o.val] w fun e w'=>e=.returned (.bool true)/\Ec N t (t.G) w w':=by
 obtain⟨W1,hW1,hb1,hx,hT,hoff⟩:=Dp h o;have HW1:=Ab hW1;have lw1:=lt_of_block hx.t;have lw2:=lt_of_block hx.o;have c0:W1.cell? ⟨w.heap.size,0,none⟩=some (ptr t.p.x):=cell_of hx.t 0 _ rfl;have k14:(o.kind==14)=true:=by rw[hk];rfl
 have H1:Hid (Calls Tryz.prog 17 #[ptr t.p.x] W1 fun e w2=>e=.returned (.int .i64 (t.G.Af.length:Int))/\w2=W1):=Ab hT.l.Af;obtain⟨fa,fc,_,x8⟩:=hT.r.LH;have lx:=lt_of_cell x8;have c1:W1.cell? ⟨w.heap.size,1,none⟩=some (Av t.x):=cell_of hx.t 1 _ rfl;have H3:Hid (Ec N t t.G w W1):=Ab (Ec.ahead hb1 ((hT.ZE (Below.refl _ _)).XK (Below.refl _ _)));generalize t.G.Af.length=n at *;clear h hW1 hx hb1 hT hk;go_enter Tryz.func102,Tryz.ntmps102;go_wp2_with fail
 rw[Aa HW1];refine(Aa H1).mono ?_;rintro e w2 ⟨rfl,hw2⟩;rw[hw2];clear hw2 w2;go_wp2;go_returns;exact⟨rfl,Aa H3⟩
theorem N2{N:Nat}{t:Tw}{w:World}(h:Ci N t w)(o:EM)(hk:o.kind=15):
  Calls Tryz.prog 102 #[t.val,o.val] w fun e w'=>e=.returned (.bool true)/\Ec N t (t.G) w w':=by
 obtain⟨W1,hW1,hb1,hx,hT,hoff⟩:=Dp h o;have HW1:=Ab hW1;have lw1:=lt_of_block hx.t;have lw2:=lt_of_block hx.o;have c0:W1.cell? ⟨w.heap.size,0,none⟩=some (ptr t.p.x):=cell_of hx.t 0 _ rfl;have k14:(o.kind==14)=false:=by rw[hk];rfl
 have k15:(o.kind==15)=true:=by rw[hk];rfl
 have d2:W1.cell? ⟨w.heap.size+1,2,none⟩=some (.int .i64 o.a):=cell_of hx.o 2 _ rfl;have H1:Hid (Calls Tryz.prog 13 #[ptr t.p.x,.int .i64 o.a] W1 fun e w2=>e=.returned (.tuple #[.int .i64 (R.EL t.G o.a).1,.string (str (R.EL t.G o.a).2.1),.int .i64 (R.EL t.G o.a).2.2])/\Mid N t (t.G) W1 w2):=by
  refine(hT.l.show o.a).mono ?_;rintro e w2 ⟨rfl,hM⟩;exact⟨rfl,hT.ZE hM⟩
 clear h hW1 hk;have HX:=Ab hx;have HB1:=Ab hb1;clear hx hb1;go_enter Tryz.func102,Tryz.ntmps102;go_wp2_with fail
 rw[Aa HW1];refine(Aa H1).mono ?_;rintro e w2 ⟨rfl,hM⟩;have hy:=(Aa HX).stays hM hoff;have l1:=lt_of_block hy.t;have l2:=lt_of_block hy.o;have e1:w2.cell? ⟨w.heap.size,1,none⟩=some (Av t.x):=cell_of hy.t 1 _ rfl;have e2:w2.cell? ⟨w.heap.size+1,2,none⟩=some (.int .i64 o.a):=cell_of hy.o 2 _ rfl;have H2:Hid (Calls Tryz.prog 174 #[Av t.x,.int .i64 o.a] w2 fun e w3=>e=.returned (.tuple #[.int .i64 (R.EL t.G o.a).1,.string (str (R.EL t.G o.a).2.1),.int .i64 (R.EL t.G o.a).2.2])/\Ec N t (t.G) w w3):=by
  refine(hM.r.show o.a).mono ?_;rintro e w3 ⟨rfl,h3⟩;exact⟨rfl,Ec.ahead (Aa HB1) (hM.XK h3)⟩
 clear hM hy H1 hT c0;go_wp2_with fail
 refine(Aa H2).mono ?_;rintro e w3 ⟨rfl,h3⟩;have H3:=Ab h3;clear h3 e1 H2;have HNUM:=Ab Dt;go_wp2_with fail
 refine((Aa HNUM) _ _).mono ?_;rintro e w4 ⟨rfl,hw4⟩;rw[hw4];clear hw4 w4;go_wp2;go_returns;exact⟨rfl,Aa H3⟩
theorem N0{N:Nat}{t:Tw}{w:World}(h:Ci N t w)(o:EM)(hk:o.kind=16):
  Calls Tryz.prog 102 #[t.val,o.val] w fun e w'=>e=.returned (.bool true)/\Ec N t ((R.EF t.G o.a).2) w w':=by
 obtain⟨W1,hW1,hb1,hx,hT,hoff⟩:=Dp h o;have HW1:=Ab hW1;have lw1:=lt_of_block hx.t;have lw2:=lt_of_block hx.o;have c0:W1.cell? ⟨w.heap.size,0,none⟩=some (ptr t.p.x):=cell_of hx.t 0 _ rfl;have k14:(o.kind==14)=false:=by rw[hk];rfl
 have k15:(o.kind==15)=false:=by rw[hk];rfl
 have k16:(o.kind==16)=true:=by rw[hk];rfl
 have d2:W1.cell? ⟨w.heap.size+1,2,none⟩=some (.int .i64 o.a):=cell_of hx.o 2 _ rfl;have H1:Hid (Calls Tryz.prog 23 #[ptr t.p.x,.int .i64 o.a] W1 fun e w2=>e=.returned (.int .i64 (R.EF t.G o.a).1)/\Mid N t ((R.EF t.G o.a).2) W1 w2):=by
  refine(hT.l.drop o.a).mono ?_;rintro e w2 ⟨rfl,hM⟩;exact⟨rfl,by obtain⟨F',l,g⟩:=hM;exact hT.Og l g⟩
 clear h hW1 hk;have HX:=Ab hx;have HB1:=Ab hb1;clear hx hb1;go_enter Tryz.func102,Tryz.ntmps102;go_wp2_with fail
 rw[Aa HW1];refine(Aa H1).mono ?_;rintro e w2 ⟨rfl,hM⟩;have hy:=(Aa HX).stays hM hoff;have l1:=lt_of_block hy.t;have l2:=lt_of_block hy.o;have e1:w2.cell? ⟨w.heap.size,1,none⟩=some (Av t.x):=cell_of hy.t 1 _ rfl;have e2:w2.cell? ⟨w.heap.size+1,2,none⟩=some (.int .i64 o.a):=cell_of hy.o 2 _ rfl;have H2:Hid (Calls Tryz.prog 175 #[Av t.x,.int .i64 o.a] w2 fun e w3=>e=.returned (.int .i64 (R.EF t.G o.a).1)/\Ec N t ((R.EF t.G o.a).2) w w3):=by
  refine(hM.r.drop o.a).mono ?_;rintro e w3 ⟨rfl,h3⟩;exact⟨rfl,Ec.ahead (Aa HB1) (hM.done h3 (Bd.drop hM.was.bd _))⟩
 clear hM hy H1 hT c0;go_wp2_with fail
 refine(Aa H2).mono ?_;rintro e w3 ⟨rfl,h3⟩;have H3:=Ab h3;clear h3 e1 H2;have HNUM:=Ab Dt;go_wp2_with fail
 refine((Aa HNUM) _ _).mono ?_;rintro e w4 ⟨rfl,hw4⟩;rw[hw4];clear hw4 w4;go_wp2;go_returns;exact⟨rfl,Aa H3⟩
theorem NZ{N:Nat}{t:Tw}{w:World}(h:Ci N t w)(o:EM)(hk:o.kind=17):
  Calls Tryz.prog 102 #[t.val,o.val] w fun e w'=>e=.returned (.bool true)/\Ec N t ((R.D5 t.G o.a).2) w w':=by
 obtain⟨W1,hW1,hb1,hx,hT,hoff⟩:=Dp h o;have HW1:=Ab hW1;have lw1:=lt_of_block hx.t;have lw2:=lt_of_block hx.o;have c0:W1.cell? ⟨w.heap.size,0,none⟩=some (ptr t.p.x):=cell_of hx.t 0 _ rfl;have k14:(o.kind==14)=false:=by rw[hk];rfl
 have k15:(o.kind==15)=false:=by rw[hk];rfl
 have k16:(o.kind==16)=false:=by rw[hk];rfl
 have k17:(o.kind==17)=true:=by rw[hk];rfl
 have d2:W1.cell? ⟨w.heap.size+1,2,none⟩=some (.int .i64 o.a):=cell_of hx.o 2 _ rfl;have H1:Hid (Calls Tryz.prog 176 #[ptr t.p.x,.int .i64 o.a] W1 fun e w2=>e=.returned (.int .i64 (R.D5 t.G o.a).1)/\Mid N t ((R.D5 t.G o.a).2) W1 w2):=by
  refine(hT.l.copy o.a).mono ?_;rintro e w2 ⟨rfl,hM⟩;exact⟨rfl,by obtain⟨F',l,g⟩:=hM;exact hT.Og l g⟩
 clear h hW1 hk;have HX:=Ab hx;have HB1:=Ab hb1;clear hx hb1;go_enter Tryz.func102,Tryz.ntmps102;go_wp2_with fail
 rw[Aa HW1];refine(Aa H1).mono ?_;rintro e w2 ⟨rfl,hM⟩;have hy:=(Aa HX).stays hM hoff;have l1:=lt_of_block hy.t;have l2:=lt_of_block hy.o;have e1:w2.cell? ⟨w.heap.size,1,none⟩=some (Av t.x):=cell_of hy.t 1 _ rfl;have e2:w2.cell? ⟨w.heap.size+1,2,none⟩=some (.int .i64 o.a):=cell_of hy.o 2 _ rfl;have H2:Hid (Calls Tryz.prog 177 #[Av t.x,.int .i64 o.a] w2 fun e w3=>e=.returned (.int .i64 (R.D5 t.G o.a).1)/\Ec N t ((R.D5 t.G o.a).2) w w3):=by
  refine(hM.r.copy o.a).mono ?_;rintro e w3 ⟨rfl,h3⟩;exact⟨rfl,Ec.ahead (Aa HB1) (hM.done h3 (Bd.copy hM.was.bd _))⟩
 clear hM hy H1 hT c0;go_wp2_with fail
 refine(Aa H2).mono ?_;rintro e w3 ⟨rfl,h3⟩;have H3:=Ab h3;clear h3 e1 H2;have HNUM:=Ab Dt;go_wp2_with fail
 refine((Aa HNUM) _ _).mono ?_;rintro e w4 ⟨rfl,hw4⟩;rw[hw4];clear hw4 w4;go_wp2;go_returns;exact⟨rfl,Aa H3⟩
theorem NY{N:Nat}{t:Tw}{w:World}(h:Ci N t w)(o:EM)(hk:o.kind=18):
  Calls Tryz.prog 102 #[t.val,o.val] w fun e w'=>e=.returned (.bool true)/\Ec N t ((R.D4 t.G o.a o.b o.c).2) w w':=by
 obtain⟨W1,hW1,hb1,hx,hT,hoff⟩:=Dp h o;have HW1:=Ab hW1;have lw1:=lt_of_block hx.t;have lw2:=lt_of_block hx.o;have c0:W1.cell? ⟨w.heap.size,0,none⟩=some (ptr t.p.x):=cell_of hx.t 0 _ rfl;have k14:(o.kind==14)=false:=by rw[hk];rfl
 have k15:(o.kind==15)=false:=by rw[hk];rfl
 have k16:(o.kind==16)=false:=by rw[hk];rfl
 have k17:(o.kind==17)=false:=by rw[hk];rfl
 have k18:(o.kind==18)=true:=by rw[hk];rfl
 have d2:W1.cell? ⟨w.heap.size+1,2,none⟩=some (.int .i64 o.a):=cell_of hx.o 2 _ rfl;have d3:W1.cell? ⟨w.heap.size+1,3,none⟩=some (.int .i64 o.b):=cell_of hx.o 3 _ rfl;have d4:W1.cell? ⟨w.heap.size+1,4,none⟩=some (.int .i64 o.c):=cell_of hx.o 4 _ rfl;have H1:Hid (Calls Tryz.prog 178 #[ptr t.p.x,.int .i64 o.a,.int .i64 o.b,.int .i64 o.c] W1 fun e w2=>e=.returned (.int .i64 (R.D4 t.G o.a o.b o.c).1)/\Mid N t ((R.D4 t.G o.a o.b o.c).2) W1 w2):=by
  refine(hT.l.Tx o.a o.b o.c).mono ?_;rintro e w2 ⟨rfl,hM⟩;exact⟨rfl,by obtain⟨F',l,g⟩:=hM;exact hT.Og l g⟩
 clear h hW1 hk;have HX:=Ab hx;have HB1:=Ab hb1;clear hx hb1;go_enter Tryz.func102,Tryz.ntmps102;go_wp2_with fail
 rw[Aa HW1];refine(Aa H1).mono ?_;rintro e w2 ⟨rfl,hM⟩;have hy:=(Aa HX).stays hM hoff;have l1:=lt_of_block hy.t;have l2:=lt_of_block hy.o;have e1:w2.cell? ⟨w.heap.size,1,none⟩=some (Av t.x):=cell_of hy.t 1 _ rfl;have e2:w2.cell? ⟨w.heap.size+1,2,none⟩=some (.int .i64 o.a):=cell_of hy.o 2 _ rfl;have e3:w2.cell? ⟨w.heap.size+1,3,none⟩=some (.int .i64 o.b):=cell_of hy.o 3 _ rfl;have e4:w2.cell? ⟨w.heap.size+1,4,none⟩=some (.int .i64 o.c):=cell_of hy.o 4 _ rfl;have H2:Hid (Calls Tryz.prog 179 #[Av t.x,.int .i64 o.a,.int .i64 o.b,.int .i64 o.c] w2 fun e w3=>e=.returned (.int .i64 (R.D4 t.G o.a o.b o.c).1)/\Ec N t ((R.D4 t.G o.a o.b o.c).2) w w3):=by
  refine(hM.r.Tx o.a o.b o.c).mono ?_;rintro e w3 ⟨rfl,h3⟩;exact⟨rfl,Ec.ahead (Aa HB1) (hM.done h3 (Bd.Tx hM.was.bd _ _ _))⟩
 clear hM hy H1 hT c0;go_wp2_with fail
 refine(Aa H2).mono ?_;rintro e w3 ⟨rfl,h3⟩;have H3:=Ab h3;clear h3 e1 H2;have HNUM:=Ab Dt;go_wp2_with fail
 refine((Aa HNUM) _ _).mono ?_;rintro e w4 ⟨rfl,hw4⟩;rw[hw4];clear hw4 w4;go_wp2;go_returns;exact⟨rfl,Aa H3⟩
theorem ZP:(Tryz.prog.info? 72).map (·.size)=some 24:=by kernel_rfl
theorem XU:(Tryz.prog.info? 109).map (·.size)=some 2:=by kernel_rfl
section
variable {ops:Array Oper} {rest:List Oper} {op:Oper} {a:Act} {w:World} {Q:Exit->Act->World->Prop}
theorem M3(hgd:op.guard=none)(x:Operand)(ho:op.op=.load 72 x)(b off:Nat)(hx:a.eval x=.pointer (some ⟨b,off,none⟩))(o:EM)(hc:∀(j:Nat) (u:Value),o.cells[j]?=some u->w.cell? ⟨b,off+j,none⟩=some u)(h:wpList Tryz.prog ops Q rest (a.put op.dst o.val) w):wpList Tryz.prog ops Q (op :: rest) a w:=
 wpList_load_mid hgd 72 x ho b off hx o.cells.toList _ (fun j v hv=>hc j v (by simpa using hv)) Tryz.underlying72 rfl ZP h
theorem VJ(hgd:op.guard=none)(x:Operand)(ho:op.op=.load 109 x)(b off:Nat)(hx:a.eval x=.pointer (some ⟨b,off,none⟩))(t:Tw)(hc:∀(j:Nat) (u:Value),(JU t)[j]?=some u->w.cell? ⟨b,off+j,none⟩=some u)(h:wpList Tryz.prog ops Q rest (a.put op.dst t.val) w):wpList Tryz.prog ops Q (op :: rest) a w:=
 wpList_load_mid hgd 109 x ho b off hx (JU t) _ hc Tryz.underlying109 rfl XU h
theorem Fq(hgd:op.guard=none)(x:Operand)(ho:op.op=.move x)(v:Value)(hx:a.eval x=v)(h:wpList Tryz.prog ops Q rest (a.put op.dst v) w):wpList Tryz.prog ops Q (op :: rest) a w:=
 wpList_plain hgd fun K hK=>by
  unfold Oper.wp;simp only[execOp,ho,hx,Sem.run_pure];exact hK _ _ h
theorem M4(hgd:op.guard=none)(v:Value)(hy:(execOp a.eval op).run Tryz.prog w=.ok (.value v) w)(h:wpList Tryz.prog ops Q rest (a.put op.dst v) w):wpList Tryz.prog ops Q (op :: rest) a w:=
 wpList_plain hgd fun K hK=>by
  unfold Oper.wp;rw[hy];exact hK _ _ h
end
structure Bl(b:Nat)(t:Tw)(o:EM)(w:World):Prop where
 t:∀(j:Nat) (u:Value),(JU t)[j]?=some u->w.cell? ⟨b,0+j,none⟩=some u
 o:∀(j:Nat) (u:Value),o.cells[j]?=some u->w.cell? ⟨b+1,0+j,none⟩=some u
theorem Bx.bl{b:Nat}{t:Tw}{o:EM}{w:World}(hx:Bx b t o w):Bl b t o w:=⟨fun j u hj=>by rw[Nat.zero_add];exact cell_of hx.t j u (by simpa [JU] using hj),fun j u hj=>by rw[Nat.zero_add];exact cell_of hx.o j u hj⟩
end Go.Proofs.YtblomippkddgiaaGreatDoor
