import Derived.Test.YtblomippkddgiaaGreatDoorJ37
set_option maxRecDepth 100000
set_option maxHeartbeats 1000000
namespace Go.Proofs.YtblomippkddgiaaGreatDoor
open Go.RowKit
theorem EG(w:World)(n:Nat)(a:Option Addr)(m c:Nat)(i:Int)(hK:w.heap[n]?=some (.cells #[.slice a m c] 113 (0,0))):
  Calls Tryz.prog 65 #[ptr n,.int .i64 i] w fun e w'=>e=.returned (.bool (decide (0<=i/\i<(m:Int))))/\w'=w:=by
 have c1:w.cell? ⟨n,0,none⟩=some (.slice a m c):=cell_of hK 0 _ rfl;clear hK;by_cases h0:0<=i
 ·have e:decide (0<=i/\i<(m:Int))=decide (i<(m:Int)):=by simp[h0]
  rw[e];go_enter Tryz.func65,Tryz.ntmps65;go_wp2
  go_ret
  exact⟨rfl,rfl⟩
 ·have e:decide (0<=i/\i<(m:Int))=false:=by simp[h0]
  rw[e];go_enter Tryz.func65,Tryz.ntmps65;go_wp2
  go_ret
  exact⟨rfl,rfl⟩
theorem Mj(w:World)(n:Nat)(a:Option Addr)(m c:Nat)(i:Int)(hK:w.heap[n]?=some (.cells #[.slice a m c] 113 (0,0)))(hi:i<0\/(m:Int)<=i):
  Calls Tryz.prog 32 #[ptr n,.int .i64 i] w fun e w'=>e=.returned (.tuple #[.int .i64 0,.string ⟨#[]⟩,.int .i64 9])/\w'=w:=by
 have H:=Ab (EG w n a m c i hK);rw[show decide (0<=i/\i<(m:Int))=false by simp;omega]at H;clear hK hi;go_enter Tryz.func32,Tryz.ntmps32;go_wp2_with (first|(go_at_call 65;refine(Aa H).mono ?_;rintro e w1 ⟨rfl,hw1⟩;rw[hw1];clear hw1))
 go_returns;exact⟨rfl,rfl⟩
theorem UE(w:World)(n g:Nat)(m c:Nat)(i:Nat)(v0:Int)(v1:ByteArray)(hK:w.heap[n]?=some (.cells #[.slice (some ⟨g,0,none⟩) m c] 113 (0,0)))(hi:i<m)(h0:w.cell? ⟨g,i*3,none⟩=some (.int .i64 v0))(h1:w.cell? ⟨g,i*3+1,none⟩=some (.string v1)):
  Calls Tryz.prog 32 #[ptr n,.int .i64 (i:Int)] w fun e w'=>e=.returned (.tuple #[.int .i64 v0,.string v1,.int .i64 0])/\Below w.heap.size w w':=by
 have H:=Ab (EG w n (some ⟨g,0,none⟩) m c i hK);rw[show decide (0<=(i:Int)/\(i:Int)<(m:Int))=true by simp;omega]at H;have c1:w.cell? ⟨n,0,none⟩=some (.slice (some ⟨g,0,none⟩) m c):=cell_of hK 0 _ rfl;have q1:(0:Int)<=(i:Int):=by omega
 have q2:(i:Int)<(m:Int):=by omega
 clear hK;go_enter Tryz.func32,Tryz.ntmps32;go_wp2_with (first|(go_at_call 65;refine(Aa H).mono ?_;rintro e w1 ⟨rfl,hw1⟩;rw[hw1];clear hw1))
 go_region_held3 (fun w'=>w'.cell? ⟨n,0,none⟩=some (.slice (some ⟨g,0,none⟩) m c)/\w'.cell? ⟨g,i*3,none⟩=some (.int .i64 v0)/\w'.cell? ⟨g,i*3+1,none⟩=some (.string v1)) (go_keep) (fail)
 go_wp2;go_returns;exact⟨rfl,(Below.refl _ _).drew⟩
theorem KZ(w:World)(n:Nat)(a:Option Addr)(m c:Nat)(i:Int)(hK:w.heap[n]?=some (.cells #[.slice a m c] 113 (0,0)))(hi:i<0\/(m:Int)<=i):
  Calls Tryz.prog 50 #[ptr n,.int .i64 i] w fun e w'=>e=.returned (.tuple #[.int .i64 0,.string ⟨#[]⟩,.int .i64 9])/\w'=w:=by
 have H:=Ab (Mj w n a m c i hK hi);clear hK hi;go_enter Tryz.func50,Tryz.ntmps50;go_wp2_with (first|(go_at_call 32;refine(Aa H).mono ?_;rintro e w1 ⟨rfl,hw1⟩;rw[hw1];clear hw1))
 go_returns;exact⟨rfl,rfl⟩
theorem WL(w:World)(n:Nat)(K:Value)(fl:List R.Fl)(i:Nat)(f:R.Fl)(hK:w.heap[n]?=some (.cells #[K] 113 (0,0)))(hrow:w.ownsRow 0 122 3 K fl.length (tab A8 fl))(hf:fl[i]?=some f)(h40:fl.length<=40):
  Calls Tryz.prog 50 #[ptr n,.int .i64 (i:Int)] w fun e w'=>e=.returned (.tuple #[.int .i64 f.to,.string (str f.s),.int .i64 0])/\De w n K (fl.eraseIdx i) w':=by
 have hi:=(List.getElem?_eq_some_iff.1 hf).1;rcases hrow.2 with ⟨_,h0⟩|⟨g,cap,cur,rfl,_,hg,hcap,hmax,hsz,htk⟩
 ·omega
 have q:∀j,j<3->cur[i*3+j]?=(A8 f)[j]?:=fun j hj=>by
  rw[<-CW Cq fl i j f hf hj,<-htk,List.getElem?_take,if_pos (by omega)];simp
 have v0:w.cell? ⟨g,i*3,none⟩=some (.int .i64 f.to):=by
  have:=q 0 (by omega);simp[World.cell?,hg];simpa [A8] using this
 have v1:w.cell? ⟨g,i*3+1,none⟩=some (.string (str f.s)):=by
  have:=q 1 (by omega);simp[World.cell?,hg];simpa [A8] using this
 have hng:n≠g:=AO hK hg (by decide);have H:=Ab (UE w n g fl.length cap i f.to (str f.s) hK hi v0 v1);have HD:Hid (∀w',Below w.heap.size w w'->Calls Tryz.prog 84 #[.slice (some ⟨g,0,none⟩) fl.length cap,.int .i64 (i:Int),.int .i64 ((i:Int)+1)] w' fun e w''=>e=.returned (.slice (some ⟨g,0,none⟩) (fl.length-1) cap)/\w''.heap[n]?=some (.cells #[.slice (some ⟨g,0,none⟩) fl.length cap] 113 (0,0))/\De w n (.slice (some ⟨g,0,none⟩) fl.length cap) (fl.eraseIdx i) (w''.setCell ⟨n,0,none⟩ (.slice (some ⟨g,0,none⟩) (fl.length-1) cap))):=fun w' hb=>by
  refine(Wc w' g fl.length cap i cur fl ((hb.block g (Array.getElem?_eq_some_iff.1 hg).1).trans hg) rfl hcap hmax hsz htk hi).mono ?_;rintro e w'' ⟨rfl,⟨cur',k1,k2,k3⟩,hk⟩;have hK':w''.heap[n]?=some (.cells #[.slice (some ⟨g,0,none⟩) fl.length cap] 113 (0,0)):=by
   have:=(hb.block n (Array.getElem?_eq_some_iff.1 hK).1).trans hK;exact hk.at this hng
  have hlen:(fl.eraseIdx i).length=fl.length-1:=by rw[List.length_eraseIdx,if_pos hi]
  refine⟨rfl,hK',⟨⟨.slice (some ⟨g,0,none⟩) (fl.length-1) cap,?_,?_,Or.inl rfl⟩,?_⟩⟩
  ·exact Ap (cs:=[.slice (some ⟨g,0,none⟩) fl.length cap]) (off:=0) hK' _
  ·refine⟨?_,Or.inr ⟨g,cap,cur',by rw[hlen],Nat.zero_le _,?_,by rw[hlen];omega,hmax,k2,by rw[hlen];exact k3⟩⟩
   ·rw[BN Cq,Nat.mul_comm]
   ·rw[Below.heap_setCell _ _ _ _ (fun e=>hng e.symm)];exact k1
  ·have hk0:Ae (fun k=>k=n\/(Value.slice (some ⟨g,0,none⟩) fl.length cap).ownBlock=some k) w w'':=(Ae.Aq hb _).trans (hk.mono (fun k _ e=>Or.inr (by rw[e];rfl)));exact hk0.setCell (p:=⟨n,0,none⟩) (Or.inl (Or.inl rfl)) _
 have c1:w.cell? ⟨n,0,none⟩=some (.slice (some ⟨g,0,none⟩) fl.length cap):=cell_of hK 0 _ rfl;have hln:=lt_of_block hK;have e1:IntKind.i64.wrap ((i:Int)+1)=(i:Int)+1:=by rw[IntKind.wrap_i64];omega
 generalize De w n (.slice (some ⟨g,0,none⟩) fl.length cap) (fl.eraseIdx i)=Post at *;generalize str f.s=SF at *;generalize fl.length-1=L1 at *;generalize fl.length=L0 at *;clear q hK hrow hf hg hsz htk v0 v1;go_enter Tryz.func50,Tryz.ntmps50;go_wp2_with fail
 refine(Aa H).mono ?_;rintro e w1 ⟨rfl,hb1⟩;have HC:=Ab ((Aa HD) w1 hb1);have d1:w1.cell? ⟨n,0,none⟩=some (.slice (some ⟨g,0,none⟩) L0 cap):=(hb1.cell (p:=⟨n,0,none⟩) hln).trans c1;clear hb1;go_wp2_with fail
 refine(Aa HC).mono ?_;rintro e w2 ⟨rfl,hK2,hpost⟩;have d2:w2.cell? ⟨n,0,none⟩=some (.slice (some ⟨g,0,none⟩) L0 cap):=cell_of hK2 0 _ rfl;have z2:w2.frozen? ⟨n,0,none⟩=false:=open_list hK2;have hl2:=lt_of_block hK2;have HP:=Ab hpost;clear hK2 hpost;go_wp2;go_returns;exact⟨rfl,Aa HP⟩
theorem R.Wf.FP{G:R.Wd}(h:R.Wf G){fl:List R.Fl}(h1:fl.length<=40)(h2:∀f∈fl,f.s.length<=21):R.Wf {G with Af:=fl}:=⟨h.cf,h.JL,fun j c hc=>⟨(h.cl j c hc).lines,(h.cl j c hc).Ax,(h.cl j c hc).bound,(h.cl j c hc).line⟩,h1,h2,h.sv,h.Lr,h.nm,h.st,h.nd,h.IC⟩
theorem R.Wf.erase{G:R.Wd}(h:R.Wf G)(k:Nat):R.Wf {G with Af:=G.Af.eraseIdx k}:=R.Wf.FP h (by
 have:=List.length_eraseIdx_le (l:=G.Af) (i:=k);have:=h.EC;omega) (fun f hf=>h.EO f (List.mem_of_mem_eraseIdx hf))
theorem LW.land{p:Pl}{F:Ag}{G:R.Wd}{w:World}(h:LW p F G w){i:Nat}{f:R.Fl}(hf:G.Af[i]?=some f):
  Calls Tryz.prog 50 #[ptr p.n,.int .i64 (i:Int)] w fun e w'=>e=.returned (.tuple #[.int .i64 f.to,.string (str f.s),.int .i64 0])/\∃F',LW p F' {G with Af:=G.Af.eraseIdx i} w'/\Ah F F' w w':=by
 obtain⟨K,hK,hrow,hF⟩:=h.bn;refine(WL w p.n K G.Af i f hK hrow hf h.wf.EC).mono ?_;rintro e w' ⟨rfl,hn⟩;exact⟨rfl,h.net hK hrow hn hF (R.Wf.erase h.wf i)⟩
theorem LW.KZ{p:Pl}{F:Ag}{G:R.Wd}{w:World}(h:LW p F G w){i:Int}(hi:R.off G i):Calls Tryz.prog 50 #[ptr p.n,.int .i64 i] w fun e w'=>e=.returned (.tuple #[.int .i64 0,.string ⟨#[]⟩,.int .i64 9])/\w'=w:=by
 obtain⟨K,hK,hrow,hF⟩:=h.bn;obtain⟨a,c,rfl⟩:=Bu hrow;exact YtblomippkddgiaaGreatDoor.KZ w p.n a G.Af.length c i hK hi
theorem R.Qd{G:R.Wd}{i:Int}(h:¬R.off G i):∃(k:Nat) (f:R.Fl),i=(k:Int)/\G.Af[k]?=some f:=by
 unfold R.off at h;have hl:i.toNat<G.Af.length:=by omega
 exact⟨i.toNat,G.Af[i.toNat],by omega,List.getElem?_eq_getElem hl⟩
theorem LW.show{p:Pl}{F:Ag}{G:R.Wd}{w:World}(h:LW p F G w)(i:Int):Calls Tryz.prog 13 #[ptr p.x,.int .i64 i] w fun e w'=>e=.returned (.tuple #[.int .i64 (R.EL G i).1,.string (str (R.EL G i).2.1),.int .i64 (R.EL G i).2.2])/\Below w.heap.size w w':=by
 unfold R.EL;by_cases hi:R.off G i
 ·rw[if_pos hi];obtain⟨K,hK,hrow,hF⟩:=h.bn;obtain⟨a,c,rfl⟩:=Bu hrow;have H:=Ab (Mj w p.n a G.Af.length c i hK hi);have c0:w.cell? ⟨p.x,0,none⟩=some (ptr p.n):=cell_of h.bx 0 _ rfl;clear h hK hrow hF hi;go_enter Tryz.func13,Tryz.ntmps13;go_wp2_with (first|(go_at_call 32;refine(Aa H).mono ?_;rintro e w1 ⟨rfl,hw1⟩;rw[hw1];clear hw1))
  go_returns;exact⟨rfl,Below.refl _ _⟩
 ·rw[if_neg hi];obtain⟨k,f,rfl,hf⟩:=R.Qd hi;rw[Int.toNat_natCast,hf];exact h.YI hf
theorem LW.drop{p:Pl}{F:Ag}{G:R.Wd}{w:World}(h:LW p F G w)(i:Int):Calls Tryz.prog 23 #[ptr p.x,.int .i64 i] w fun e w'=>e=.returned (.int .i64 (R.EF G i).1)/\∃F',LW p F' (R.EF G i).2 w'/\Ah F F' w w':=by
 have c0:w.cell? ⟨p.x,0,none⟩=some (ptr p.n):=cell_of h.bx 0 _ rfl;unfold R.EF;by_cases hi:R.off G i
 ·rw[if_pos hi];have H:=Ab (h.KZ hi);have HE:Hid (∃F',LW p F' G w/\Ah F F' w w):=⟨F,h,Ah.refl F w⟩;generalize p.n=n at *;clear h hi;go_enter Tryz.func23,Tryz.ntmps23;go_wp2_with (first|(go_at_call 49;go_in)|(go_at_call 50;refine(Aa H).mono ?_;rintro e w1 ⟨rfl,hw1⟩;rw[hw1];clear hw1))
  go_returns;exact⟨rfl,Aa HE⟩
 ·rw[if_neg hi];obtain⟨k,f,rfl,hf⟩:=R.Qd hi;rw[Int.toNat_natCast];have H:=Ab (h.land hf);generalize str f.s=SF at *;clear h hi hf;go_enter Tryz.func23,Tryz.ntmps23;go_wp2_with (first|(go_at_call 49;go_in)|(go_at_call 50;refine(Aa H).mono ?_;rintro e w1 ⟨rfl,hw1⟩))
  go_returns;exact⟨rfl,hw1⟩
theorem Pp(w:World)(s:List UInt8)(k:Nat)(b:UInt8)(hk:k<s.length):
  Calls Tryz.prog 252 #[.string (str s),.int .i64 (k:Int),.int .u8 (b.toNat:Int)] w fun e w'=>e=.returned (.string (str (s.set k (s.getD k 0 ^^^ b))))/\Below w.heap.size w w':=by
 obtain⟨cap,W,hc,hR,hb⟩:=V8 w s;have hx:s[k]?=some (s.getD k 0):=by rw[List.getD_eq_getElem?_getD,List.getElem?_eq_getElem hk];rfl
 generalize s.getD k 0=a at hx ⊢;obtain⟨c1,z1⟩:=hR.2 k a hx;have hR2:=hR.set k (a ^^^ b);have hcv:=hR2.conv cap;rw[List.length_set]at hcv;have hx8:=Za a b;have HB:Hid (Below w.heap.size w (W.setCell ⟨w.heap.size,k,none⟩ (.int .u8 ((a ^^^ b).toNat:Int)))):=hb.setCell (by simp) _;have q1:(0:Int)<=(k:Int):=by omega
 have q2:(k:Int)<(s.length:Int):=by omega
 have hlt:=hR.1;obtain⟨X,hX⟩:∃X:Int,X=((a ^^^ b).toNat:Int):=⟨_,rfl⟩;rw[<-hX]at hcv hx8 HB;clear hX;generalize str (s.set k (a ^^^ b))=S2 at *;generalize str s=S1 at *;generalize s.length=n at *;clear hR hR2 hb hx hk;go_enter Tryz.func252,Tryz.ntmps252;go_wp2
 go_ret
 exact⟨rfl,Aa HB⟩
theorem PU(w:World)(n:Nat)(a:Option Addr)(m c:Nat)(i e0:Int)(hK:w.heap[n]?=some (.cells #[.slice a m c] 113 (0,0)))(h:((i<0\/(m:Int)<=i)/\e0=9)\/(0<=i/\i<(m:Int)/\m=40/\e0=12)):
  Calls Tryz.prog 223 #[ptr n,.int .i64 i] w fun e w'=>e=.returned (.int .i64 e0)/\w'=w:=by
 have H:=Ab (EG w n a m c i hK);have H2:=Ab (GA w n a m c hK);clear hK;rcases h with ⟨hi,rfl⟩|⟨h1,h2,rfl,rfl⟩
 ·rw[show decide (0<=i/\i<(m:Int))=false by simp;omega]at H;clear hi;go_enter Tryz.func223,Tryz.ntmps223;go_wp2_with (first|(go_at_call 65;refine(Aa H).mono ?_;rintro e w1 ⟨rfl,hw1⟩;rw[hw1];clear hw1))
  go_ret
  exact⟨rfl,rfl⟩
 ·rw[show decide (0<=i/\i<((40:Nat):Int))=true by simp;omega]at H;rw[show decide ((40:Nat)=40)=true by simp]at H2;clear h1 h2;go_enter Tryz.func223,Tryz.ntmps223;go_wp2_with (first|(go_at_call 65;refine(Aa H).mono ?_;rintro e w1 ⟨rfl,hw1⟩;rw[hw1];clear hw1)|(go_at_call 251;refine(Aa H2).mono ?_;rintro e w1 ⟨rfl,hw1⟩;rw[hw1];clear hw1))
  go_ret
  exact⟨rfl,rfl⟩
theorem K7(w:World)(host:Int)(S:ByteArray)(b:Bool)(j:Nat)(u:Value)(h:([.int .i64 host,.string S,.bool b]:List Value)[j]?=some u):(w.alloc (.cells #[.int .i64 host,.string S,.bool b] 122)).cell? ((⟨w.heap.size,0,none⟩:Addr).add j)=some u:=by
 rw[Addr.add_lit,Nat.zero_add,World.cell?_alloc_new w _ _ j,<-List.getElem?_toArray]at *;exact h
theorem WT{w W wz:World}{n m:Nat}{K K':Value}{fl':List R.Fl}{xs:List Value}{j0:Nat}(hK:w.heap[n]?=some (.cells #[K] 113 (0,0)))(hrow:w.ownsRow 0 122 3 K m xs)(hb:Below w.heap.size w W)(hg:W.grownBy wz K.ownBlock)(hown:wz.ownsRow 0 122 3 K' fl'.length (tab A8 fl'))(hat:K'.ownBlock=K.ownBlock\/K'.ownBlock=some j0)(hj:w.heap.size<=j0):wz.heap[n]?=some (.cells #[K] 113 (0,0))/\De w n K fl' (wz.setCell ⟨n,0,none⟩ K'):=by
 have hnK:K.ownBlock≠some n:=Fh hrow hK (by decide);have hln:=(Array.getElem?_eq_some_iff.1 hK).1;have hzn:wz.heap[n]?=some (.cells #[K] 113 (0,0)):=by
  rw[hg.block n (Nat.lt_of_lt_of_le hln hb.size) (fun e=>hnK e.symm),hb.block n hln];exact hK
 have hnK':K'.ownBlock≠some n:=by
  rcases hat with e|e
  ·rw[e];exact hnK
  ·rw[e];intro q;cases q;omega
 refine⟨hzn,⟨⟨K',?_,?_,?_⟩,?_⟩⟩
 ·exact Ap (cs:=[K]) (off:=0) hzn K'
 ·exact Dv hown (fun g hg=>Below.heap_setCell _ _ _ _ (fun e=>hnK' (by rw[hg];exact congrArg some e)))
 ·rcases hat with e|e
  ·exact Or.inl e
  ·exact Or.inr ⟨j0,e,hj⟩
 ·have hk0:Ae (fun k=>k=n\/K.ownBlock=some k) w W:=Ae.Aq hb _;exact(hk0.grown hg (fun k hk=>Or.inl (Or.inr hk))).setCell (p:=⟨n,0,none⟩) (Or.inl (Or.inl rfl)) _
theorem V9(w:World)(n:Nat)(K:Value)(fl:List R.Fl)(i:Nat)(f:R.Fl)(hK:w.heap[n]?=some (.cells #[K] 113 (0,0)))(hrow:w.ownsRow 0 122 3 K fl.length (tab A8 fl))(hf:fl[i]?=some f)(h40:fl.length<40):
  Calls Tryz.prog 223 #[ptr n,.int .i64 (i:Int)] w fun e w'=>e=.returned (.int .i64 0)/\De w n K (fl++[f]) w':=by
 have hi:=(List.getElem?_eq_some_iff.1 hf).1;rcases id hrow.2 with ⟨_,h0⟩|⟨g,cap,cur,rfl,_,hg,hcap,hmax,hsz,htk⟩
 ·omega
 have q:∀j,j<3->cur[i*3+j]?=(A8 f)[j]?:=fun j hj=>by
  rw[<-CW Cq fl i j f hf hj,<-htk,List.getElem?_take,if_pos (by omega)];simp
 have v0:w.cell? ⟨g,i*3,none⟩=some (.int .i64 f.to):=by
  have:=q 0 (by omega);simp[World.cell?,hg];simpa [A8] using this
 have v1:w.cell? ⟨g,i*3+1,none⟩=some (.string (str f.s)):=by
  have:=q 1 (by omega);simp[World.cell?,hg];simpa [A8] using this
 have v2:w.cell? ⟨g,i*3+2,none⟩=some (.bool f.Dn):=by
  have:=q 2 (by omega);simp[World.cell?,hg];simpa [A8] using this
 have H:=Ab (EG w n (some ⟨g,0,none⟩) fl.length cap i hK);rw[show decide (0<=(i:Int)/\(i:Int)<(fl.length:Int))=true by simp;omega]at H;have H2:=Ab (GA w n (some ⟨g,0,none⟩) fl.length cap hK);rw[show decide (fl.length=40)=false by simp;omega]at H2;have HN:Hid (∀(wz:World) (K':Value),wz.ownsRow 0 122 3 K' (fl.length+1) (tab A8 fl++[.int .i64 f.to,.string (str f.s),.bool f.Dn])->(w.drew.alloc (.cells #[.int .i64 f.to,.string (str f.s),.bool f.Dn] 122)).grownBy wz (Value.slice (some ⟨g,0,none⟩) fl.length cap).ownBlock->(K'.ownBlock=(Value.slice (some ⟨g,0,none⟩) fl.length cap).ownBlock\/K'.ownBlock=some (w.heap.size+1))->wz.heap[n]?=some (.cells #[.slice (some ⟨g,0,none⟩) fl.length cap] 113 (0,0))/\De w n (.slice (some ⟨g,0,none⟩) fl.length cap) (fl++[f]) (wz.setCell ⟨n,0,none⟩ K')):=fun wz K' how hgr hat=>by
  refine WT hK hrow ((Below.refl _ _).drew.alloc (Nat.le_refl _) _) hgr ?_ hat (by omega);rw[List.length_append,D9];exact how
 obtain⟨i0,hi0,hz0,hz1,hz2⟩:=info_parts N7;have HRW:=Ab hrow;have c1:w.cell? ⟨n,0,none⟩=some (.slice (some ⟨g,0,none⟩) fl.length cap):=cell_of hK 0 _ rfl;have hln:=lt_of_block hK;have hlg:=(Array.getElem?_eq_some_iff.1 hg).1;have q1:(0:Int)<=(i:Int):=by omega
 have q2:(i:Int)<(fl.length:Int):=by omega
 generalize De w n (.slice (some ⟨g,0,none⟩) fl.length cap) (fl++[f])=Post at *;generalize str f.s=SF at *;generalize tab A8 fl=TF at *;generalize fl.length=L0 at *;clear q hK hrow hf hg hsz htk;go_enter Tryz.func223,Tryz.ntmps223;go_wp2_with (first|(go_at_call 65;refine(Aa H).mono ?_;rintro e w1 ⟨rfl,hw1⟩;rw[hw1];clear hw1)|(go_at_call 251;refine(Aa H2).mono ?_;rintro e w1 ⟨rfl,hw1⟩;rw[hw1];clear hw1))
 go_region_law (refine Bb rfl (.tmp 15) (.tmp 23) 111 rfl 0 122 i0 (.agg #[.int .i64 0,.string ⟨#[]⟩,.bool false]) 3 32 Tryz.underlying111 hi0 hz0 hz1 hz2 rfl (by decide) (.slice (some ⟨g,0,none⟩) L0 cap) L0 TF rfl (by exact(Be (Aa HRW) ((Below.refl _ _).drew)).alloc _) ⟨w.heap.size,0,none⟩ 1 1 [.int .i64 f.to,.string SF,.bool f.Dn] rfl rfl (by exact K7 w.drew f.to SF f.Dn) (by simp[Value.oneCell']) (by unfold maxLen;omega) (by omega) (by omega) ?_;intro v' wz hownz hgrow hat;obtain⟨va,vn,vc,hvs⟩:=Am hownz;subst hvs;have hn2:=(Aa HN) wz _ hownz hgrow (by simpa using hat);obtain⟨hzn,hpost⟩:=hn2;have HP:=Ab hpost;have d1:wz.cell? ⟨n,0,none⟩=some (.slice (some ⟨g,0,none⟩) L0 cap):=cell_of hzn 0 _ rfl;have z1:wz.frozen? ⟨n,0,none⟩=false:=open_list hzn;have hlz:=lt_of_block hzn;clear hownz hgrow hat hzn hpost)
 all_goals
  go_wp2
  go_ret
  exact⟨rfl,Aa HP⟩
theorem LW.copy{p:Pl}{F:Ag}{G:R.Wd}{w:World}(h:LW p F G w)(i:Int):Calls Tryz.prog 176 #[ptr p.x,.int .i64 i] w fun e w'=>e=.returned (.int .i64 (R.D5 G i).1)/\∃F',LW p F' (R.D5 G i).2 w'/\Ah F F' w w':=by
 have c0:w.cell? ⟨p.x,0,none⟩=some (ptr p.n):=cell_of h.bx 0 _ rfl;obtain⟨K,hK,hrow,hF⟩:=h.bn;have h40:=h.wf.EC;have H:Calls Tryz.prog 223 #[ptr p.n,.int .i64 i] w fun e w'=>e=.returned (.int .i64 (R.D5 G i).1)/\∃F',LW p F' (R.D5 G i).2 w'/\Ah F F' w w':=by
  obtain⟨a,c,rfl⟩:=Bu hrow;unfold R.D5;by_cases hi:R.off G i
  ·rw[if_pos hi];refine(PU w p.n a G.Af.length c i 9 hK (Or.inl ⟨hi,rfl⟩)).mono ?_;rintro e w' ⟨rfl,rfl⟩;exact⟨rfl,F,h,Ah.refl F w'⟩
  ·rw[if_neg hi];obtain⟨k,f,rfl,hf⟩:=R.Qd hi;have hk:=(List.getElem?_eq_some_iff.1 hf).1;by_cases h2:40<=G.Af.length
   ·rw[if_pos h2];refine(PU w p.n a G.Af.length c k 12 hK (Or.inr ⟨by omega,by omega,by omega,rfl⟩)).mono ?_;rintro e w' ⟨rfl,rfl⟩;exact⟨rfl,F,h,Ah.refl F w'⟩
   ·rw[if_neg h2,Int.toNat_natCast,hf];refine(V9 w p.n _ G.Af k f hK hrow hf (by omega)).mono ?_;rintro e w' ⟨rfl,hn⟩;refine⟨rfl,h.net hK hrow hn hF (R.Wf.FP h.wf (by simp;omega) (fun g hg=>?_))⟩;rcases List.mem_append.1 hg with q|q
    ·exact h.wf.EO g q
    ·rw[List.mem_singleton.1 q];exact h.wf.EO f (List.mem_of_getElem? hf)
 have HH:=Ab H;clear H h hK hrow hF h40;generalize R.D5 G i=r at *;go_enter Tryz.func176,Tryz.ntmps176;go_wp2_with (first|(go_at_call 223;refine(Aa HH).mono ?_;rintro e w1 ⟨rfl,hw1⟩))
 go_returns;exact⟨rfl,hw1⟩
theorem Tz(w:World)(n:Nat)(a:Option Addr)(m c:Nat)(i at' by':Int)(hK:w.heap[n]?=some (.cells #[.slice a m c] 113 (0,0)))(hi:i<0\/(m:Int)<=i):
  Calls Tryz.prog 224 #[ptr n,.int .i64 i,.int .i64 at',.int .i64 by'] w fun e w'=>e=.returned (.int .i64 9)/\w'=w:=by
 have H:=Ab (EG w n a m c i hK);rw[show decide (0<=i/\i<(m:Int))=false by simp;omega]at H;clear hK hi;go_enter Tryz.func224,Tryz.ntmps224;go_wp2_with (first|(go_at_call 65;refine(Aa H).mono ?_;rintro e w1 ⟨rfl,hw1⟩;rw[hw1];clear hw1))
 go_ret
 exact⟨rfl,rfl⟩
theorem Ty(w:World)(n g m cap i:Nat)(at' by':Int)(S:ByteArray)(hK:w.heap[n]?=some (.cells #[.slice (some ⟨g,0,none⟩) m cap] 113 (0,0)))(hi:i<m)(h1:w.cell? ⟨g,i*3+1,none⟩=some (.string S))(hx:at'<0\/(S.size:Int)<=at'\/by'<1\/255<by'):
  Calls Tryz.prog 224 #[ptr n,.int .i64 (i:Int),.int .i64 at',.int .i64 by'] w fun e w'=>e=.returned (.int .i64 9)/\w'=w:=by
 have H:=Ab (EG w n (some ⟨g,0,none⟩) m cap i hK);rw[show decide (0<=(i:Int)/\(i:Int)<(m:Int))=true by simp;omega]at H;have c1:w.cell? ⟨n,0,none⟩=some (.slice (some ⟨g,0,none⟩) m cap):=cell_of hK 0 _ rfl;have q1:(0:Int)<=(i:Int):=by omega
 have q2:(i:Int)<(m:Int):=by omega
 have HX:=Ab hx;clear hK hx;by_cases a0:at'<0
 ·go_enter Tryz.func224,Tryz.ntmps224;go_wp2_with (first|(go_at_call 65;refine(Aa H).mono ?_;rintro e w1 ⟨rfl,hw1⟩;rw[hw1];clear hw1))
  go_ret
  exact⟨rfl,rfl⟩
 ·by_cases a1:(S.size:Int)<=at'
  ·go_enter Tryz.func224,Tryz.ntmps224;go_wp2_with (first|(go_at_call 65;refine(Aa H).mono ?_;rintro e w1 ⟨rfl,hw1⟩;rw[hw1];clear hw1))
   go_ret
   exact⟨rfl,rfl⟩
  ·by_cases a2:by'<1
   ·go_enter Tryz.func224,Tryz.ntmps224;go_wp2_with (first|(go_at_call 65;refine(Aa H).mono ?_;rintro e w1 ⟨rfl,hw1⟩;rw[hw1];clear hw1))
    go_ret
    exact⟨rfl,rfl⟩
   ·have a3:255<by':=by have:=Aa HX;omega
    go_enter Tryz.func224,Tryz.ntmps224;go_wp2_with (first|(go_at_call 65;refine(Aa H).mono ?_;rintro e w1 ⟨rfl,hw1⟩;rw[hw1];clear hw1))
    go_ret
    exact⟨rfl,rfl⟩
theorem QG(w:World)(n g m cap i:Nat)(at' by':Int)(S:ByteArray)(hK:w.heap[n]?=some (.cells #[.slice (some ⟨g,0,none⟩) m cap] 113 (0,0)))(hi:i<m)(h1:w.cell? ⟨g,i*3+1,none⟩=some (.string S))(h2:w.cell? ⟨g,i*3+2,none⟩=some (.bool true))(a0:¬at'<0)(a1:¬(S.size:Int)<=at')(a2:¬by'<1)(a3:¬255<by'):
  Calls Tryz.prog 224 #[ptr n,.int .i64 (i:Int),.int .i64 at',.int .i64 by'] w fun e w'=>e=.returned (.int .i64 18)/\w'=w:=by
 have H:=Ab (EG w n (some ⟨g,0,none⟩) m cap i hK);rw[show decide (0<=(i:Int)/\(i:Int)<(m:Int))=true by simp;omega]at H;have c1:w.cell? ⟨n,0,none⟩=some (.slice (some ⟨g,0,none⟩) m cap):=cell_of hK 0 _ rfl;have q1:(0:Int)<=(i:Int):=by omega
 have q2:(i:Int)<(m:Int):=by omega
 clear hK;go_enter Tryz.func224,Tryz.ntmps224;go_wp2_with (first|(go_at_call 65;refine(Aa H).mono ?_;rintro e w1 ⟨rfl,hw1⟩;rw[hw1];clear hw1))
 go_ret
 exact⟨rfl,rfl⟩
theorem VZ(w:World)(n g m cap i k:Nat)(s:List UInt8)(b:UInt8)(Post:World->Prop)(hK:w.heap[n]?=some (.cells #[.slice (some ⟨g,0,none⟩) m cap] 113 (0,0)))(hi:i<m)(hg:∃cur,w.heap[g]?=some (.cells cur 122 (0,0)))(h1:w.cell? ⟨g,i*3+1,none⟩=some (.string (str s)))(h2:w.cell? ⟨g,i*3+2,none⟩=some (.bool false))(hk:k<s.length)(hb1:1<=b.toNat)
  (HP:Hid (∀w',Below w.heap.size w w'->Post ((w'.setCell ⟨g,i*3+1,none⟩ (.string (str (s.set k (s.getD k 0 ^^^ b))))).setCell ⟨g,i*3+2,none⟩ (.bool true)))):
  Calls Tryz.prog 224 #[ptr n,.int .i64 (i:Int),.int .i64 (k:Int),.int .i64 (b.toNat:Int)] w fun e w'=>e=.returned (.int .i64 0)/\Post w':=by
 have H:=Ab (EG w n (some ⟨g,0,none⟩) m cap i hK);rw[show decide (0<=(i:Int)/\(i:Int)<(m:Int))=true by simp;omega]at H;have HT:=Ab (Pp w s k b hk);have c1:w.cell? ⟨n,0,none⟩=some (.slice (some ⟨g,0,none⟩) m cap):=cell_of hK 0 _ rfl;have q1:(0:Int)<=(i:Int):=by omega
 have q2:(i:Int)<(m:Int):=by omega
 have hsz:=Au s;have a0:¬(k:Int)<0:=by omega
 have a1:¬((str s).size:Int)<=(k:Int):=by rw[hsz];omega
 have hbt:=b.toNat_lt;have a2:¬(b.toNat:Int)<1:=by omega
 have a3:¬255<(b.toNat:Int):=by omega
 have hwb:IntKind.u8.wrap (b.toNat:Int)=(b.toNat:Int):=by rw[wrap_u8];omega
 obtain⟨cur,hg⟩:=hg;have hlg:=(Array.getElem?_eq_some_iff.1 hg).1;have HG:=Ab hg;generalize str (s.set k (s.getD k 0 ^^^ b))=S2 at *;generalize str s=S1 at *;generalize (b.toNat:Int)=B at *;clear hK hsz hk hb1 hbt hg;go_enter Tryz.func224,Tryz.ntmps224;go_wp2_with (first|(go_at_call 65;refine(Aa H).mono ?_;rintro e w1 ⟨rfl,hw1⟩;rw[hw1];clear hw1))
 refine(Aa HT).mono ?_;rintro e w2 ⟨rfl,hb⟩;have hg2:=(hb.block g hlg).trans (Aa HG);have d1:w2.cell? ⟨g,i*3+1,none⟩=some (.string S1):=(hb.cell (p:=⟨g,i*3+1,none⟩) hlg).trans h1;have d2:w2.cell? ⟨g,i*3+2,none⟩=some (.bool false):=(hb.cell (p:=⟨g,i*3+2,none⟩) hlg).trans h2;have z1:w2.frozen? ⟨g,i*3+1,none⟩=false:=open_list hg2;have z2:w2.frozen? ⟨g,i*3+2,none⟩=false:=open_list hg2;have hl2:=lt_of_block hg2;have HQ:=Ab ((Aa HP) w2 hb);clear hb hg2;go_wp2
 go_ret
 exact⟨rfl,Aa HQ⟩
theorem take_set(l:List Value)(n i:Nat)(v:Value):(l.set i v).take n=(l.take n).set i v:=by
 apply List.ext_getElem?;intro j;simp only[List.getElem?_take,List.getElem?_set,List.length_take];by_cases hj:j<n
 ·by_cases e:i=j
  ·subst e;have:i<min n l.length↔i<l.length:=by omega
   simp[hj,this]
  ·simp[hj,e]
 ·by_cases e:i=j
  ·subst e;simp[hj];omega
  ·simp[hj,e]
theorem Wq{fl:List R.Fl}{i:Nat}{f:R.Fl}(hf:fl[i]?=some f)(s':List UInt8):((tab A8 fl).set (i*3+1) (.string (str s'))).set (i*3+2) (.bool true)=tab A8 (fl.set i ⟨f.to,s',true⟩):=by
 have hl:=(List.getElem?_eq_some_iff.1 hf).1;rw[Dy Cq fl i 1 f ⟨f.to,s',f.Dn⟩ _ hf (by omega) rfl];rw[Dy Cq (fl.set i ⟨f.to,s',f.Dn⟩) i 2 ⟨f.to,s',f.Dn⟩ ⟨f.to,s',true⟩ _ (by simp[hl]) (by omega) rfl];rw[List.set_set]
theorem LW.Tx{p:Pl}{F:Ag}{G:R.Wd}{w:World}(h:LW p F G w)(i at' by':Int):Calls Tryz.prog 178 #[ptr p.x,.int .i64 i,.int .i64 at',.int .i64 by'] w fun e w'=>e=.returned (.int .i64 (R.D4 G i at' by').1)/\∃F',LW p F' (R.D4 G i at' by').2 w'/\Ah F F' w w':=by
 have c0:w.cell? ⟨p.x,0,none⟩=some (ptr p.n):=cell_of h.bx 0 _ rfl;obtain⟨K,hK,hrow,hF⟩:=h.bn;have H:Calls Tryz.prog 224 #[ptr p.n,.int .i64 i,.int .i64 at',.int .i64 by'] w fun e w'=>e=.returned (.int .i64 (R.D4 G i at' by').1)/\∃F',LW p F' (R.D4 G i at' by').2 w'/\Ah F F' w w':=by
  unfold R.D4;by_cases hi:R.off G i
  ·rw[if_pos hi];obtain⟨a,c,rfl⟩:=Bu hrow;refine(Tz w p.n a G.Af.length c i at' by' hK hi).mono ?_;rintro e w' ⟨rfl,rfl⟩;exact⟨rfl,F,h,Ah.refl F w'⟩
  ·rw[if_neg hi];obtain⟨k,f,rfl,hf⟩:=R.Qd hi;have hk:=(List.getElem?_eq_some_iff.1 hf).1;rw[Int.toNat_natCast,hf];rcases id hrow.2 with ⟨_,h0⟩|⟨g,cap,cur,rfl,_,hg,hcap,hmax,hsz,htk⟩
   ·omega
   have q:∀j,j<3->cur[k*3+j]?=(A8 f)[j]?:=fun j hj=>by
    rw[<-CW Cq G.Af k j f hf hj,<-htk,List.getElem?_take,if_pos (by omega)];simp
   have v1:w.cell? ⟨g,k*3+1,none⟩=some (.string (str f.s)):=by
    have:=q 1 (by omega);simp[World.cell?,hg];simpa [A8] using this
   have v2:w.cell? ⟨g,k*3+2,none⟩=some (.bool f.Dn):=by
    have:=q 2 (by omega);simp[World.cell?,hg];simpa [A8] using this
   simp only;by_cases ha:at'<0\/(f.s.length:Int)<=at'\/by'<1\/255<by'
   ·rw[if_pos ha];refine(Ty w p.n g G.Af.length cap k at' by' (str f.s) hK hk v1 (by rw[Au];exact ha)).mono ?_;rintro e w' ⟨rfl,rfl⟩;exact⟨rfl,F,h,Ah.refl F w'⟩
   ·rw[if_neg ha];by_cases hbt:f.Dn=true
    ·rw[if_pos hbt];rw[hbt]at v2;refine(QG w p.n g G.Af.length cap k at' by' (str f.s) hK hk v1 v2 (by omega) (by rw[Au];omega) (by omega) (by omega)).mono ?_;rintro e w' ⟨rfl,rfl⟩;exact⟨rfl,F,h,Ah.refl F w'⟩
    ·rw[if_neg hbt];have hbf:f.Dn=false:=by simpa using hbt
     rw[hbf]at v2;obtain⟨a,rfl⟩:∃a:Nat,at'=(a:Int):=⟨at'.toNat,by omega⟩;obtain⟨b,rfl⟩:∃b:UInt8,by'=(b.toNat:Int):=⟨b8 by',(CZ (by omega) (by omega)).symm⟩;rw[Int.toNat_natCast,X5];have hng:p.n≠g:=AO hK hg (by decide);refine(VZ w p.n g G.Af.length cap k a f.s b (fun w'=>∃F',LW p F' {G with Af:=G.Af.set k ⟨f.to,f.s.set a (f.s.getD a 0 ^^^ b),true⟩} w'/\Ah F F' w w') hK hk ⟨cur,hg⟩ v1 v2 (by omega) (by omega) ?_);intro w' hb;have hg':=(hb.block g (Array.getElem?_eq_some_iff.1 hg).1).trans hg;have hK':=(hb.block p.n (Array.getElem?_eq_some_iff.1 hK).1).trans hK;have hst:=Ap (cs:=cur.toList) (off:=k*3+1) hg' (.string (str (f.s.set a (f.s.getD a 0 ^^^ b))));have hst2:=Ap (off:=k*3+2) hst (.bool true);have hlen:(G.Af.set k ⟨f.to,f.s.set a (f.s.getD a 0 ^^^ b),true⟩).length=G.Af.length:=by simp
     have hn:De w p.n (.slice (some ⟨g,0,none⟩) G.Af.length cap) (G.Af.set k ⟨f.to,f.s.set a (f.s.getD a 0 ^^^ b),true⟩) ((w'.setCell ⟨g,k*3+1,none⟩ (.string (str (f.s.set a (f.s.getD a 0 ^^^ b))))).setCell ⟨g,k*3+2,none⟩ (.bool true)):=by
      refine⟨⟨.slice (some ⟨g,0,none⟩) G.Af.length cap,?_,?_,Or.inl rfl⟩,?_⟩
      ·rw[Below.heap_setCell _ _ _ _ (fun e=>hng e),Below.heap_setCell _ _ _ _ (fun e=>hng e)];exact hK'
      ·refine⟨by rw[BN Cq,Nat.mul_comm],Or.inr ⟨g,cap,_,by rw[hlen],Nat.zero_le _,hst2,by rw[hlen];exact hcap,hmax,by simpa using hsz,?_⟩⟩;rw[hlen];rw[take_set,take_set,htk,Wq hf]
      ·have hk0:Ae (fun q=>q=p.n\/(Value.slice (some ⟨g,0,none⟩) G.Af.length cap).ownBlock=some q) w w':=Ae.Aq hb _;exact(hk0.setCell (p:=⟨g,k*3+1,none⟩) (Or.inl (Or.inr rfl)) _).setCell (p:=⟨g,k*3+2,none⟩) (Or.inl (Or.inr rfl)) _
     refine h.net hK hrow hn hF (R.Wf.FP h.wf (by rw[hlen];exact h.wf.EC) (fun q hq=>?_));rcases List.mem_or_eq_of_mem_set hq with r|r
     ·exact h.wf.EO q r
     ·rw[r];simpa using h.wf.EO f (List.mem_of_getElem? hf)
 have HH:=Ab H;clear H h hK hrow hF;generalize R.D4 G i at' by'=r at *;go_enter Tryz.func178,Tryz.ntmps178;go_wp2_with (first|(go_at_call 224;refine(Aa HH).mono ?_;rintro e w1 ⟨rfl,hw1⟩))
 go_returns;exact⟨rfl,hw1⟩
end Go.Proofs.YtblomippkddgiaaGreatDoor
