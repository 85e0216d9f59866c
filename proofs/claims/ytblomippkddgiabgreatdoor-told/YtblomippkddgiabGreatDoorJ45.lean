import Derived.Test.YtblomippkddgiabGreatDoorJ44
set_option maxRecDepth 100000
set_option maxHeartbeats 1000000
namespace Go.Proofs.YtblomippkddgiabGreatDoor
open Go.RowKit
variable {F:Aq}{i k u:Nat}{p:Pl}{M:R.Bk}{c:R.Cf}{cl:R.Cl}{l:R.Ln}{G:R.Wd}{s:RS}{w w0:World}
theorem FN(w:World)(n:Nat)(a:Option Addr)(m c:Nat)(i:Int)(hK:w.heap[n]?=some (.cells #[.slice a m c] 110 (0,0))):
  Calls Tryz.prog 151 #[ptr n,.int .i64 i] w fun e w'=>e=.returned (.bool (decide (0<=i/\i<(m:Int))))/\w'=w:=by
 have c1:w.cell? ⟨n,0,none⟩=some (.slice a m c):=cell_of hK 0 _ rfl;clear hK;by_cases h0:0<=i
 ·have e:decide (0<=i/\i<(m:Int))=decide (i<(m:Int)):=by simp[h0]
  rw[e];go_enter Tryz.func151,Tryz.ntmps151;go_wp2
  go_ret
  exact⟨rfl,rfl⟩
 ·have e:decide (0<=i/\i<(m:Int))=false:=by simp[h0]
  rw[e];go_enter Tryz.func151,Tryz.ntmps151;go_wp2
  go_ret
  exact⟨rfl,rfl⟩
theorem YY(w:World)(n:Nat)(a:Option Addr)(m c:Nat)(i:Int)(hK:w.heap[n]?=some (.cells #[.slice a m c] 110 (0,0)))(hi:i<0\/(m:Int)<=i):
  Calls Tryz.prog 89 #[ptr n,.int .i64 i] w fun e w'=>e=.returned (.tuple #[.int .i64 0,.string ⟨#[]⟩,.int .i64 9])/\w'=w:=by
 have H:=Ac (FN w n a m c i hK);rw[show decide (0<=i/\i<(m:Int))=false by simp;omega]at H;clear hK hi;go_enter Tryz.func89,Tryz.ntmps89;go_wp2_with (first|(go_at_call 151;refine(Aa H).mono ?_;rintro e w1 ⟨rfl,aa⟩;rw[aa];clear aa))
 go_returns;exact⟨rfl,rfl⟩
theorem YX(w:World)(n g:Nat)(m c:Nat)(i:Nat)(v0:Int)(v1:ByteArray)(hK:w.heap[n]?=some (.cells #[.slice (some ⟨g,0,none⟩) m c] 110 (0,0)))(hi:i<m)(h0:w.cell? ⟨g,i*3,none⟩=some (.int .i64 v0))(h1:w.cell? ⟨g,i*3+1,none⟩=some (.string v1)):
  Calls Tryz.prog 89 #[ptr n,.int .i64 (i:Int)] w fun e w'=>e=.returned (.tuple #[.int .i64 v0,.string v1,.int .i64 0])/\Below w.heap.size w w':=by
 have H:=Ac (FN w n (some ⟨g,0,none⟩) m c i hK);rw[show decide (0<=(i:Int)/\(i:Int)<(m:Int))=true by simp;omega]at H;have c1:w.cell? ⟨n,0,none⟩=some (.slice (some ⟨g,0,none⟩) m c):=cell_of hK 0 _ rfl;have q1:(0:Int)<=(i:Int):=by omega
 have q2:(i:Int)<(m:Int):=by omega
 clear hK;go_enter Tryz.func89,Tryz.ntmps89;go_wp2_with (first|(go_at_call 151;refine(Aa H).mono ?_;rintro e w1 ⟨rfl,aa⟩;rw[aa];clear aa))
 go_region_held3 (fun w'=>w'.cell? ⟨n,0,none⟩=some (.slice (some ⟨g,0,none⟩) m c)/\w'.cell? ⟨g,i*3,none⟩=some (.int .i64 v0)/\w'.cell? ⟨g,i*3+1,none⟩=some (.string v1)) (go_keep) (fail)
 go_wp2;go_returns;exact⟨rfl,(Below.refl _ _).drew⟩
theorem LQ(w:World)(n:Nat)(a:Option Addr)(m c:Nat)(i:Int)(hK:w.heap[n]?=some (.cells #[.slice a m c] 110 (0,0)))(hi:i<0\/(m:Int)<=i):
  Calls Tryz.prog 53 #[ptr n,.int .i64 i] w fun e w'=>e=.returned (.tuple #[.int .i64 0,.string ⟨#[]⟩,.int .i64 9])/\w'=w:=by
 have H:=Ac (YY w n a m c i hK hi);clear hK hi;go_enter Tryz.func53,Tryz.ntmps53;go_wp2_with (first|(go_at_call 89;refine(Aa H).mono ?_;rintro e w1 ⟨rfl,aa⟩;rw[aa];clear aa))
 go_returns;exact⟨rfl,rfl⟩
theorem aaY(w:World)(n:Nat)(K:Value)(fl:List R.Fl)(i:Nat)(f:R.Fl)(hK:w.heap[n]?=some (.cells #[K] 110 (0,0)))(ad:w.ownsRow 0 166 3 K fl.length (tab BB fl))(hf:fl[i]?=some f)(aq:fl.length<=40):
  Calls Tryz.prog 53 #[ptr n,.int .i64 (i:Int)] w fun e w'=>e=.returned (.tuple #[.int .i64 f.to,.string (str f.s),.int .i64 0])/\Ea w n K (fl.eraseIdx i) w':=by
 have hi:=(afG.1 hf).1;rcases ad.2 with ⟨_,h0⟩|⟨g,cap,ak,rfl,_,hg,ai,ac,an,aj⟩
 ·omega
 have q:∀j,j<3->ak[i*3+j]?=(BB f)[j]?:=fun j hj=>by
  rw[<-E7 DK fl i j f hf hj,<-aj,af7,if_pos (by omega)];simp
 have v0:w.cell? ⟨g,i*3,none⟩=some (.int .i64 f.to):=by
  have:=q 0 (by omega);simp[World.cell?,hg];simpa [BB] using this
 have v1:w.cell? ⟨g,i*3+1,none⟩=some (.string (str f.s)):=by
  have:=q 1 (by omega);simp[World.cell?,hg];simpa [BB] using this
 have am:n≠g:=AZ hK hg (by decide);have H:=Ac (YX w n g fl.length cap i f.to (str f.s) hK hi v0 v1);have HD:Hid (∀w',Below w.heap.size w w'->Calls Tryz.prog 90 #[.slice (some ⟨g,0,none⟩) fl.length cap,.int .i64 (i:Int),.int .i64 ((i:Int)+1)] w' fun e ae=>e=.returned (.slice (some ⟨g,0,none⟩) (fl.length-1) cap)/\ae.heap[n]?=some (.cells #[.slice (some ⟨g,0,none⟩) fl.length cap] 110 (0,0))/\Ea w n (.slice (some ⟨g,0,none⟩) fl.length cap) (fl.eraseIdx i) (ae.setCell ⟨n,0,none⟩ (.slice (some ⟨g,0,none⟩) (fl.length-1) cap))):=fun w' hb=>by
  refine(aav w' g fl.length cap i ak fl ((hb.block g (afR.1 hg).1).trans hg) rfl ai ac an aj hi).mono ?_;rintro e ae ⟨rfl,⟨ag,k1,k2,k3⟩,hk⟩;have al:ae.heap[n]?=some (.cells #[.slice (some ⟨g,0,none⟩) fl.length cap] 110 (0,0)):=by
   have:=(hb.block n (afR.1 hK).1).trans hK;exact hk.at this am
  have ab:(fl.eraseIdx i).length=fl.length-1:=by rw[List.length_eraseIdx,if_pos hi]
  refine⟨rfl,al,⟨⟨.slice (some ⟨g,0,none⟩) (fl.length-1) cap,?_,?_,afJ rfl⟩,?_⟩⟩
  ·exact Ai (cs:=[.slice (some ⟨g,0,none⟩) fl.length cap]) (off:=0) al _
  ·refine⟨?_,afM ⟨g,cap,ag,by rw[ab],af8 _,?_,by rw[ab];omega,ac,k2,by rw[ab];exact k3⟩⟩
   ·rw[Dh DK,agF]
   ·rw[Below.heap_setCell _ _ _ _ (fun e=>am e.symm)];exact k1
  ·have ao:Af (fun k=>k=n\/(Value.slice (some ⟨g,0,none⟩) fl.length cap).ownBlock=some k) w ae:=(Af.Al hb _).trans (hk.mono (fun k _ e=>afM (by rw[e];rfl)));exact ao.setCell (p:=⟨n,0,none⟩) (afJ (afJ rfl)) _
 have c1:w.cell? ⟨n,0,none⟩=some (.slice (some ⟨g,0,none⟩) fl.length cap):=cell_of hK 0 _ rfl;have ap:=lt_of_block hK;have e1:IntKind.i64.wrap ((i:Int)+1)=(i:Int)+1:=by rw[IntKind.wrap_i64];omega
 generalize Ea w n (.slice (some ⟨g,0,none⟩) fl.length cap) (fl.eraseIdx i)=Post at *;generalize str f.s=SF at *;generalize fl.length-1=L1 at *;generalize fl.length=L0 at *;clear q hK ad hf hg an aj v0 v1;go_enter Tryz.func53,Tryz.ntmps53;go_wp2_with fail
 refine(Aa H).mono ?_;rintro e w1 ⟨rfl,ah⟩;have HC:=Ac ((Aa HD) w1 ah);have d1:w1.cell? ⟨n,0,none⟩=some (.slice (some ⟨g,0,none⟩) L0 cap):=(ah.cell (p:=⟨n,0,none⟩) ap).trans c1;clear ah;go_wp2_with fail
 refine(Aa HC).mono ?_;rintro e w2 ⟨rfl,af,aa⟩;have d2:w2.cell? ⟨n,0,none⟩=some (.slice (some ⟨g,0,none⟩) L0 cap):=cell_of af 0 _ rfl;have z2:w2.frozen? ⟨n,0,none⟩=false:=open_list af;have ar:=lt_of_block af;have HP:=Ac aa;clear af aa;go_wp2;go_returns;exact⟨rfl,Aa HP⟩
theorem R.Wf.Pw(h:R.Wf G){fl:List R.Fl}(h1:fl.length<=40)(h2:∀f∈fl,f.s.length<=21):R.Wf {G with Ak:=fl}:=⟨h.cf,h.Gt,fun j c hc=>⟨(h.cl j c hc).lines,(h.cl j c hc).Ae,(h.cl j c hc).bound,(h.cl j c hc).line⟩,h1,h2,h.sv,h.Kh,h.nm,h.st,h.nd,h.I5⟩
theorem R.Wf.erase(h:R.Wf G)(k:Nat):R.Wf {G with Ak:=G.Ak.eraseIdx k}:=R.Wf.Pw h (by
 have:=List.length_eraseIdx_le (l:=G.Ak) (i:=k);have:=h.E3;omega) (fun f hf=>h.Eo f (agS hf))
theorem LW.land(h:LW p F G w){f:R.Fl}(hf:G.Ak[i]?=some f):
  Calls Tryz.prog 53 #[ptr p.n,.int .i64 (i:Int)] w fun e w'=>e=.returned (.tuple #[.int .i64 f.to,.string (str f.s),.int .i64 0])/\∃F',LW p F' {G with Ak:=G.Ak.eraseIdx i} w'/\Ap F F' w w':=by
 obtain⟨K,hK,aa,hF⟩:=h.bn;refine(aaY w p.n K G.Ak i f hK aa hf h.wf.E3).mono ?_;rintro e w' ⟨rfl,hn⟩;exact⟨rfl,h.net hK aa hn hF (R.Wf.erase h.wf i)⟩
theorem LW.LQ(h:LW p F G w){i:Int}(hi:R.off G i):Calls Tryz.prog 53 #[ptr p.n,.int .i64 i] w fun e w'=>e=.returned (.tuple #[.int .i64 0,.string ⟨#[]⟩,.int .i64 9])/\w'=w:=by
 obtain⟨K,hK,aa,hF⟩:=h.bn;obtain⟨a,c,rfl⟩:=AX aa;exact YtblomippkddgiabGreatDoor.LQ w p.n a G.Ak.length c i hK hi
theorem R.YZ{i:Int}(h:¬R.off G i):∃(k:Nat) (f:R.Fl),i=(k:Int)/\G.Ak[k]?=some f:=by
 unfold R.off at h;have hl:i.toNat<G.Ak.length:=by omega
 exact⟨i.toNat,G.Ak[i.toNat],by omega,afH hl⟩
theorem LW.drop(h:LW p F G w)(i:Int):Calls Tryz.prog 61 #[ptr p.x,.int .i64 i] w fun e w'=>e=.returned (.int .i64 (R.Ej G i).1)/\∃F',LW p F' (R.Ej G i).2 w'/\Ap F F' w w':=by
 have c0:w.cell? ⟨p.x,0,none⟩=some (ptr p.n):=cell_of h.bx 0 _ rfl;unfold R.Ej;by_cases hi:R.off G i
 ·rw[if_pos hi];have H:=Ac (h.LQ hi);have HE:Hid (∃F',LW p F' G w/\Ap F F' w w):=⟨F,h,Ap.refl F w⟩;generalize p.n=n at *;clear h hi;go_enter Tryz.func61,Tryz.ntmps61;go_wp2_with (first|(go_at_call 103;go_in)|(go_at_call 53;refine(Aa H).mono ?_;rintro e w1 ⟨rfl,aa⟩;rw[aa];clear aa))
  go_returns;exact⟨rfl,Aa HE⟩
 ·rw[if_neg hi];obtain⟨k,f,rfl,hf⟩:=R.YZ hi;rw[afY];have H:=Ac (h.land hf);generalize str f.s=SF at *;clear h hi hf;go_enter Tryz.func61,Tryz.ntmps61;go_wp2_with (first|(go_at_call 103;go_in)|(go_at_call 53;refine(Aa H).mono ?_;rintro e w1 ⟨rfl,aa⟩))
  go_returns;exact⟨rfl,aa⟩
theorem aeu:∀args w,(callFunc 93 args).run Tryz.prog w=.ok (.enter 93 args) w:=fun _ _=>rfl
theorem aev:∀args w,(callFunc 94 args).run Tryz.prog w=.ok (.enter 94 args) w:=fun _ _=>rfl
theorem QN(w:World)(x s:Nat)(P:Pk)(aa:World->Prop)(x1:w.cell? ⟨x,1,none⟩=some (ptr s))
  (HQ:Hid (∀wa,Below w.heap.size w wa->Calls Tryz.prog 93 #[ptr s,pv P] wa fun e w'=>e=.returned (.tuple #[])/\aa w')):
  Calls Tryz.prog 55 #[ptr x,.int .i64 (-1),pv P] w fun e w'=>e=.returned (.tuple #[])/\aa w':=by
 have HB:Hid (∀o,Below w.heap.size w (w.alloc o).drew):=fun o=>((Below.refl _ _).alloc (afI _) _).drew
 have hl:=lt_of_cell x1;go_enter Tryz.func55,Tryz.ntmps55;go_wp2_with fail
 go_region_law (refine Av rfl 93 #[.tmp 11,.tmp 12] #[68,82] rfl aeu #[ptr s,pv P] rfl _ ((Aa HQ) _ ((Aa HB) _)) ?_;rintro e w3 ⟨rfl,ab⟩;refine⟨_,rfl,?_⟩)
 all_goals
  go_wp2;go_returns;exact⟨rfl,ab⟩
theorem QM(w:World)(x cs i n cap cb:Nat)(P:Pk)(aa:World->Prop)(x2:w.cell? ⟨x,2,none⟩=some (.slice (some ⟨cs,0,none⟩) n cap))(hi:i<n)(hc:w.cell? ⟨cs,i,none⟩=some (ptr cb))
  (HQ:Hid (∀wa,Below w.heap.size w wa->Calls Tryz.prog 94 #[ptr cb,pv P] wa fun e w'=>e=.returned (.tuple #[])/\aa w')):
  Calls Tryz.prog 55 #[ptr x,.int .i64 (i:Int),pv P] w fun e w'=>e=.returned (.tuple #[])/\aa w':=by
 have HB:Hid (∀o,Below w.heap.size w (w.alloc o).drew):=fun o=>((Below.refl _ _).alloc (afI _) _).drew
 have hl:=lt_of_cell x2;have ac:=lt_of_cell hc;have q1:(0:Int)<=(i:Int):=by omega
 have q2:(i:Int)<(n:Int):=by omega
 have e1:((i:Int)==-1)=false:=by simp
 go_enter Tryz.func55,Tryz.ntmps55;go_wp2_with fail
 go_region_law (refine Av rfl 94 #[.tmp 20,.tmp 21] #[93,82] rfl aev #[ptr cb,pv P] rfl _ ((Aa HQ) _ ((Aa HB) _)) ?_;rintro e w3 ⟨rfl,ab⟩;refine⟨_,rfl,?_⟩)
 all_goals
  go_wp2;go_returns;exact⟨rfl,ab⟩
theorem S9(w:World)(x n:Nat)(i:Int)(x0:w.cell? ⟨x,0,none⟩=some (ptr n))
  (ab:Hid (Calls Tryz.prog 53 #[ptr n,.int .i64 i] w fun e w'=>e=.returned (.tuple #[.int .i64 0,.string ⟨#[]⟩,.int .i64 9])/\w'=w)):
  Calls Tryz.prog 29 #[ptr x,.int .i64 i] w fun e w'=>e=.returned (.int .i64 9)/\w'=w:=by
 go_enter Tryz.func29,Tryz.ntmps29;go_wp2_with (first|(go_at_call 53;refine(Aa ab).mono ?_;rintro e w1 ⟨rfl,aa⟩;rw[aa];clear aa))
 go_returns;exact⟨rfl,rfl⟩
theorem Qw(w:World)(x n:Nat)(i to:Int)(S:ByteArray)(A aa:World->Prop)(x0:w.cell? ⟨x,0,none⟩=some (ptr n))
  (ae:Hid (Calls Tryz.prog 53 #[ptr n,.int .i64 i] w fun e w'=>e=.returned (.tuple #[.int .i64 to,.string S,.int .i64 0])/\A w'))
  (HO:Hid (∀w1,A w1->Calls Tryz.prog 54 #[.string S] w1 fun e w'=>e=.returned (.tuple #[aae,.int .i64 7])/\Below w1.heap.size w1 w'))
  (HP:Hid (∀w1 wa,A w1->Below w1.heap.size w1 wa->aa wa)):
  Calls Tryz.prog 29 #[ptr x,.int .i64 i] w fun e w'=>e=.returned (.int .i64 0)/\aa w':=by
 go_enter Tryz.func29,Tryz.ntmps29;go_wp2_with (first|(go_at_call 53;refine(Aa ae).mono ?_;rintro e w1 ⟨rfl,ac⟩;have HA:=Ac ac;clear ac)|(go_at_call 54;refine((Aa HO) _ (Aa HA)).mono ?_;rintro e w2 ⟨rfl,ad⟩;have ab:=Ac ad;clear ad))
 go_returns;exact⟨rfl,(Aa HP) _ _ (Aa HA) ((Aa ab).alloc (Aa ab).size _)⟩
theorem Pm(w:World)(x n:Nat)(i to:Int)(S:ByteArray)(P:Pk)(A aa:World->Prop)(x0:w.cell? ⟨x,0,none⟩=some (ptr n))
  (ae:Hid (Calls Tryz.prog 53 #[ptr n,.int .i64 i] w fun e w'=>e=.returned (.tuple #[.int .i64 to,.string S,.int .i64 0])/\A w'))
  (HO:Hid (∀w1,A w1->Calls Tryz.prog 54 #[.string S] w1 fun e w'=>e=.returned (.tuple #[pv P,.int .i64 0])/\Below w1.heap.size w1 w'))
  (HP:Hid (∀w1 wa,A w1->Below w1.heap.size w1 wa->Calls Tryz.prog 55 #[ptr x,.int .i64 to,pv P] wa fun e w'=>e=.returned (.tuple #[])/\aa w')):
  Calls Tryz.prog 29 #[ptr x,.int .i64 i] w fun e w'=>e=.returned (.int .i64 0)/\aa w':=by
 go_enter Tryz.func29,Tryz.ntmps29;go_wp2_with (first|(go_at_call 53;refine(Aa ae).mono ?_;rintro e w1 ⟨rfl,ac⟩;have HA:=Ac ac;clear ac)|(go_at_call 54;refine((Aa HO) _ (Aa HA)).mono ?_;rintro e w2 ⟨rfl,ad⟩;have ab:=Ac ad;clear ad)|(go_at_call 55;refine((Aa HP) _ _ (Aa HA) ((Aa ab).alloc (Aa ab).size _)).mono ?_;rintro e w3 ⟨rfl,af⟩))
 go_returns;exact⟨rfl,af⟩
theorem LW.Cr(h:LW p F G w)(ht:Ec w)(aj:¬F 0)(hI:R.Inv M G)(af:R.Room G)(i:Int):
  Calls Tryz.prog 29 #[ptr p.x,.int .i64 i] w fun e w'=>e=.returned (.int .i64 (R.Bc G i).1)/\E8 p F w (R.Bc G i).2 w':=by
 have x0:=cell_of h.bx 0 _ rfl;by_cases ho:R.off G i
 ·have e0:R.Bc G i=(9,G):=by
   unfold R.Bc;rw[if_pos ho]
  rw[e0];refine(S9 w p.x p.n i x0 (h.LQ ho)).mono ?_;rintro e w' ⟨rfl,rfl⟩;exact⟨rfl,E8.of h (Ap.refl F w')⟩
 ·unfold R.off at ho;obtain⟨n,rfl⟩:∃n:Nat,i=(n:Int):=⟨i.toNat,by omega⟩;have hn:n<G.Ak.length:=by omega
  obtain⟨f,hf⟩:∃f,G.Ak[n]?=some f:=⟨_,afH hn⟩;have ae:=hI.fl f (afU hf);have ak:=hI.erase n;have ac:R.Room {G with Ak:=G.Ak.eraseIdx n}:=af.same rfl rfl;have e0:R.Bc G (n:Int)=(0,if f.Hy=true then {G with Ak:=G.Ak.eraseIdx n} else match CO f.s with
   |none=>{G with Ak:=G.Ak.eraseIdx n}
   |some p=>if f.to=-1 then R.Er {G with Ak:=G.Ak.eraseIdx n} p else R.Ee {G with Ak:=G.Ak.eraseIdx n} f.to p):=by
   unfold R.Bc;rw[if_neg (by unfold R.off;exact ho)];simp only[afY];rw[hf];rfl
  have ah:f.s.length<=1000:=by
   have:=h.wf.Eo f (afU hf);omega
  have aa:=h.land hf;rw[e0];unfold R.Ma at ae;cases hb:f.Hy with
  |true=>
   rw[hb,if_pos rfl]at ae;simp only[if_true];refine Qw w p.x p.n n f.to (str f.s) (fun w1=>∃F',LW p F' {G with Ak:=G.Ak.eraseIdx n} w1/\Ap F F' w w1) _ x0 aa (fun w1 _=>Wm f.s ae ah w1) ?_;rintro w1 wa ⟨F',q1,q2⟩ ad;exact E8.of (q1.below ad) (q2.trans (Ap.Al F' ad))
  |false=>
   rw[hb,if_neg (by simp)]at ae;obtain⟨P,hr,hs,ai⟩:=ae;simp only[if_neg (show ¬(false:Bool)=true by simp)];rw[hs,Fx hr];rw[hs]at aa;refine Pm w p.x p.n n f.to (str (Bm P)) P (fun w1=>∃F',LW p F' {G with Ak:=G.Ak.eraseIdx n} w1/\Ap F F' w w1) _ x0 aa (fun w1 _=>TN P hr w1) ?_;rintro w1 wa ⟨F',q1,q2⟩ ad;have hL:=q1.below ad;have hW:=q2.trans (Ap.Al F' ad);have an:Ec wa:=ht.keeps hW.keeps aj;have am:¬F' 0:=fun q=>by
    rcases hW.fresh 0 q with q|q
    ·exact aj q
    ·obtain⟨_,_,hg⟩:=ht;have:=(afR.1 hg).1;omega
   simp only;by_cases ag:f.to=-1
   ·rw[if_pos ag,ag];rw[ag]at ai;refine QN wa p.x p.s P _ (cell_of hL.bx 1 _ rfl) (fun wb ab=>?_);refine((hL.below ab).ab9 ak ac hr ai).mono ?_;rintro e w' ⟨rfl,t,F2,m1,m2⟩;exact⟨rfl,t,F2,m1,(hW.trans (Ap.Al F' ab)).trans m2⟩
   ·rw[if_neg ag];have hH:∀wb,Below wa.heap.size wa wb->_:=fun wb ab=>(hL.below ab).heard (an.below ab) am ak hr ag ai
    obtain⟨j,hj,al,_⟩:=hH wa (Below.refl _ _);rw[hj];have ao:=hL.SQ al;refine QM wa p.x p.cs j _ p.cap (p.cb j) P _ (cell_of hL.bx 2 _ rfl) al ao (fun wb ab=>?_);obtain⟨j',ap,_,hc⟩:=hH wb ab;have:j'=j:=by omega
    subst this;refine hc.mono ?_;rintro e w' ⟨rfl,F2,m1,m2⟩;rw[hj]at m1;exact⟨rfl,E8.of m1 ((hW.trans (Ap.Al F' ab)).trans m2)⟩
structure Agree(c:R.Cf)(s:RS)(M:R.Bk)(G:R.Wd):Prop where
 inv:R.Inv M G
 room:R.Room G
 cf:G.c=c
 Ae:s.Ae=G.Ad.map (·.Ae)
 sql:s.seq.length=3*G.Ad.length
 seq:∀(i:Nat) (cl:R.Cl) (k:Nat) (l:R.Ln),G.Ad[i]?=some cl->cl.lines[k]?=some l->s.seq[3*i+k]?=some l.seq
 ul:s.uid.length=3
 uid:∀k,k<3->∃u,s.uid[k]?=some u/\AF G (A6 k)=some u/\kindOf G u=(k:Int)
 bound:∀(i:Nat) (cl:R.Cl) (u:Int),G.Ad[i]?=some cl->u∈s.uid->u∈cl.bound
 nu:s.nu=(G.Ab.length:Int)
 kinds:s.kinds=G.Ab.map (·.kind)
 dl:s.dead.length=G.Ab.length
 dead:∀(u:Nat) (n:Int) (sv:R.Sv),s.dead[u]?=some n->G.Ab[u]?=some sv->0<=n->sv.alive=false/\(sv.log.length:Int)=n
 book:CY (s.made.map (·.1)) M
theorem CY.len{ms:List Mk}(h:CY ms M)(hI:R.Inv M G):ms.length<=3000000:=by
 have hb:∀m∈ms,(0<=m.client/\m.client<=2)/\(1<=m.Ae/\m.Ae<=255)/\(0<=m.line/\m.line<=2)/\1<=m.seq/\m.seq<=999:=fun m hm=>by
  obtain⟨d,hd⟩:=h.all m hm;obtain⟨i,c,k,l,q1,q2,q3,q4,q5,q6,q7,q8,_⟩:=(hI.bk _ d hd).2;have hi:=(afG.1 q2).1;have hk:=(afG.1 q4).1;have hc:=hI.wf.cl i c q2;have aa:=hI.wf.cf;unfold R.BD at aa;have h1:=hI.wf.Gt;have h2:=hc.lines;have h3:=hc.Ae;simp only[Mk.key]at q1 q3 q5 q6 q7 q8;omega
 have ab:(ms.map fun (m:Mk)=>((m.client.toNat*256+m.Ae.toNat)*3+m.line.toNat)*1000+m.seq.toNat).Nodup:=by
  rw[List.Nodup,List.pairwise_map];refine h.ord.imp_of_mem (fun {a b} ha hb' hab e=>?_);have h1:=hb a ha;have h2:=hb b hb';have h3:=hab (by omega) (by omega) (by omega);omega
 have:=R.FQ 2400000 _ ab (fun x hx=>by
  obtain⟨m,hm,rfl⟩:=agE.1 hx;have:=hb m hm;omega)
 rw[af0]at this;omega
theorem Agree.ml(h:Agree c s M G):s.made.length<=3000000:=by
 have:=h.book.len h.inv
 rwa [af0]at this
theorem Agree.res(h:Agree c s M G):∀(i:Nat) (c:R.Cl) (k:Nat) (l:R.Ln),G.Ad[i]?=some c->c.lines[k]?=some l->l.result.length<=1000:=fun i c k l hc hl=>by
 have hL:=h.inv.ln i c k l hc hl;by_cases h2:l.state=2
 ·obtain⟨d,e,rb,_,h4,h5⟩:=hL.done h2;have:=GL h4.bytes;rw[h5];omega
 ·rw[hL.none h2];simp
theorem Au.step{q:RP}{G':R.Wd}{f:Nat}{args:Array Value}{P:Ending->Prop}(h:Au w0 q p c s G w)(H:∀(p':Pl) (F:Aq),p'.x=q.x->LW p' F G w->¬F 0->Calls Tryz.prog f args w fun e w'=>P e/\E8 p' F w G' w'):
  Calls Tryz.prog f args w fun e w'=>P e/\Au w0 q p c s G' w':=by
 obtain⟨t,E,F,hr,hw,hd,aa⟩:=h.run;refine(H {p with t:=t} F h.x.symm hw (fun h0=>by have:=aa 0 (afM h0);have:=h.pos;omega)).mono ?_;rintro e w' ⟨h1,t',F',h2,h3⟩;exact⟨h1,h.world (t:=t') hr hd aa h2 h3⟩
theorem E8.aba{w':World}(h:∃F',LW p F' G w'/\Ap F F' w w'):E8 p F w G w':=by
 obtain⟨F',h1,h2⟩:=h;exact⟨p.t,F',h1,h2⟩
theorem Au.Jf{q:RP}(h:Au w0 q p c s G w):Calls Tryz.prog 32 #[ptr q.x] w fun e w'=>e=.returned (.tuple #[])/\Au w0 q p c s (R.IB G) w':=
 h.step (P:=fun e=>e=.returned (.tuple #[])) (fun p' F hx hw _=>by rw[<-hx];exact hw.tick.mono (fun e w' q=>⟨q.1,E8.aba q.2⟩))
theorem Au.ZH{q:RP}(h:Au w0 q p c s G w)(hI:R.Inv M G):Calls Tryz.prog 30 #[ptr q.x] w fun e w'=>e=.returned (.int .i64 (R.BV G).1)/\Au w0 q p c s (R.BV G).2 w':=
 h.step (P:=fun e=>e=.returned (.int .i64 (R.BV G).1)) (fun p' F hx hw h0=>by rw[<-hx];exact hw.acH h.t0 h0 hI)
theorem Au.adD{q:RP}(h:Au w0 q p c s G w)(i:Int):Calls Tryz.prog 61 #[ptr q.x,.int .i64 i] w fun e w'=>e=.returned (.int .i64 (R.Ej G i).1)/\Au w0 q p c s (R.Ej G i).2 w':=
 h.step (P:=fun e=>e=.returned (.int .i64 (R.Ej G i).1)) (fun p' F hx hw _=>by rw[<-hx];exact(hw.drop i).mono (fun e w' q=>⟨q.1,E8.aba q.2⟩))
theorem Au.MF{q:RP}(h:Au w0 q p c s G w)(hI:R.Inv M G)(hR:R.Room G)(i:Int):Calls Tryz.prog 29 #[ptr q.x,.int .i64 i] w fun e w'=>e=.returned (.int .i64 (R.Bc G i).1)/\Au w0 q p c s (R.Bc G i).2 w':=
 h.step (P:=fun e=>e=.returned (.int .i64 (R.Bc G i).1)) (fun p' F hx hw h0=>by rw[<-hx];exact hw.Cr h.t0 h0 hI hR i)
theorem Au.VW{q:RP}(h:Au w0 q p c s G w):Calls Tryz.prog 31 #[ptr q.x] w fun e w'=>e=.returned (.int .i64 (G.Ak.length:Int))/\w'=w:=by
 obtain⟨tp,E,F,a1,a2,a3,a4⟩:=h.run;rw[h.x];exact a2.Ak
theorem Au.RL{q:RP}(h:Au w0 q p c s G w)(hA:Agree c s M G)(hc:G.Ad[i]?=some cl)(hl:cl.lines[k]?=some l):
  Calls Tryz.prog 19 #[ptr q.x,.int .i64 (i:Int),.int .i64 (k:Int)] w fun e w'=>(∃oa on oc,e=.returned (.tuple #[.agg #[.int .i64 l.state,.int .i64 l.seq,.slice oa on oc],.int .i64 0])/\V.Items w' (.slice oa on oc) l.result)/\Below w.heap.size w w':=by
 obtain⟨tp,E,F,a1,a2,a3,a4⟩:=h.run;have hi:=(afG.1 hc).1;have hk:=(afG.1 hl).1;have ac:=(hA.inv.wf.cl i cl hc).lines;have ab:R.Kg G i k=(l.state,l.seq,l.result,0):=by
  unfold R.Kg;rw[if_neg (by omega),if_neg (by omega),R.CR hc hl]
 have:=a2.status hA.res (i:Int) (k:Int);rw[ab]at this;rw[h.x];refine this.mono ?_;rintro e w' ⟨⟨O,rfl,hR⟩,hb⟩;have aa:=KJ hR;obtain⟨oa,on,oc,rfl⟩:=EP aa;exact⟨⟨oa,on,oc,rfl,aa⟩,hb⟩
theorem Au.aa0{q:RP}(h:Au w0 q p c s G w){sv:R.Sv}(hs:G.Ab[u]?=some sv):
  Calls Tryz.prog 9 #[ptr q.x,.int .i64 ((u:Int)+1)] w fun e w'=>e=.returned (.tuple #[.int .i64 (sv.log.length:Int),.int .i64 0])/\Below w.heap.size w w':=by
 obtain⟨tp,E,F,a1,a2,a3,a4⟩:=h.run;have hu:=(afG.1 hs).1;have aa:R.I4 G ((u:Int)+1)=((sv.log.length:Int),0):=by
  unfold R.I4 R.Ho;rw[if_pos (by unfold R.Ip;omega),show ((u:Int)+1-1).toNat=u by omega,hs];rfl
 have:=a2.log ((u:Int)+1);rw[aa]at this;rw[h.x];exact this
theorem Au.Yb{q:RP}(h:Au w0 q p c s G w)(hI:R.Inv M G){sv:R.Sv}{y:R.En}(hs:G.Ab[u]?=some sv)(hy:sv.log[i]?=some y):
  Calls Tryz.prog 10 #[ptr q.x,.int .i64 ((u:Int)+1),.int .i64 (i:Int)] w fun e w'=>(∃xa xn xc ya yn yc,e=.returned (.tuple #[.agg #[.int .i64 y.client,.int .i64 y.Ae,.int .i64 y.line,.int .i64 y.seq,.int .i64 y.proc,.slice xa xn xc,.slice ya yn yc],.int .i64 0])/\V.Items w' (.slice xa xn xc) y.arg/\V.Items w' (.slice ya yn yc) y.result)/\Below w.heap.size w w':=by
 obtain⟨tp,E,F,a1,a2,a3,a4⟩:=h.run;have hu:=(afG.1 hs).1;have aa:R.DJ G ((u:Int)+1) (i:Int)=some y:=by
  unfold R.DJ R.Ho;rw[if_pos (by unfold R.Ip;omega),show ((u:Int)+1-1).toNat=u by omega,hs];simpa using hy
 have:=a2.entry hI ((u:Int)+1) (i:Int);rw[aa]at this;rw[h.x];refine this.mono ?_;rintro e w' ⟨⟨X,Y,rfl,r1,r2⟩,hb⟩;have i1:=KJ r1;have i2:=KJ r2;obtain⟨xa,xn,xc,rfl⟩:=EP i1;obtain⟨ya,yn,yc,rfl⟩:=EP i2;exact⟨⟨xa,xn,xc,ya,yn,yc,rfl,i1,i2⟩,hb⟩
theorem aaa(i k:Nat)(hi:i<3)(hk:k<3):IntKind.i64.wrap (3*(i:Int))=3*(i:Int)/\IntKind.i64.wrap (3*(i:Int)+(k:Int))=((3*i+k:Nat):Int):=by
 rw[IntKind.wrap_i64,IntKind.wrap_i64];omega
theorem Au.aa2{q:RP}(h:Au w0 q p c s G w)(hA:Agree c s M G)(hc:G.Ad[i]?=some cl)(hl:cl.lines[k]?=some l):
  Calls Tryz.prog 8 #[ptr q.r,.int .i64 (i:Int),.int .i64 (k:Int)] w fun e w'=>e=.returned (.bool true)/\Below w.heap.size w w':=by
 have aa:=h.cells;have hi:=(afG.1 hc).1;have hk:=(afG.1 hl).1;have ae:=hA.inv.wf.cf;unfold R.BD at ae;have ag:=hA.inv.wf.Gt;have ah:=(hA.inv.wf.cl i cl hc).lines;have ad:=hA.seq i cl k l hc hl;have ab:s.Ae[i]?=some cl.Ae:=by rw[hA.Ae];simp[hc]
 have ac:=(afG.1 ad).1;have af:=(afG.1 ab).1;obtain⟨e3,e4⟩:=aaa i k (by omega) (by omega);have hL:=hA.inv.ln i cl k l hc hl;have hR:JG w q.r q.x q.lf q.sq s.Ae.length s.seq.length i (3*i+k) (G.Ab.length:Int) cl.Ae l.seq:=⟨aa.a0,aa.a6,aa.a7,by rw[<-hA.nu];exact aa.JB,aa.lf i _ ab,aa.sq _ _ ad⟩;by_cases h2:l.state=2
 ·obtain⟨o1,o2⟩:=VL hA.inv hc hl h2;refine QU w q.r q.x q.lf q.sq s.Ae.length s.seq.length i k (3*i+k) cl.Ae l.seq G.Ab l.result hR ac af e3 e4 (fun e=>?_) hA.inv.wf.sv ?_ (hA.res i cl k l hc hl) o1 o2 ?_ (fun wr u sv hb hs=>(h.still hb).aa0 hs) (fun wr u j sv y hb hs hy=>?_)
  ·have:=hL.idle.2 e;omega
  ·intro sv hs;obtain⟨u,hu,rfl⟩:=agu hs;exact hA.inv.PG (afH hu)
  ·have:=h.RL hA hc hl;rw[h2]at this;exact this
  ·refine((h.still hb).Yb hA.inv hs hy).mono ?_;rintro e w' ⟨⟨xa,xn,xc,ya,yn,yc,r1,r2,r3⟩,r4⟩;exact⟨⟨xa,xn,xc,ya,yn,yc,r1,r3⟩,r4⟩
 ·refine TI w q.r q.x q.lf q.sq s.Ae.length s.seq.length i k (3*i+k) _ cl.Ae l.seq l.state hR ac e3 e4 h2 hL.idle ?_;refine(h.RL hA hc hl).mono ?_;rintro e w' ⟨⟨oa,on,oc,rfl,r2⟩,r3⟩;rw[hL.none h2]at r2;obtain⟨a,cc,r4,_⟩:=r2;cases r4;exact⟨⟨oa,oc,rfl⟩,r3⟩
theorem ZB{B n size:Nat}{e:TypeId}{v:Value}{xs:List Value}(h:w.ownsRow B e size v n xs)(hn:0<n):∃g cap,v=.slice (some ⟨g,0,none⟩) n cap/\∀j u,xs[j]?=some u->w.cell? ⟨g,j,none⟩=some u:=by
 rcases h.2 with ⟨_,h0⟩|⟨g,cap,aa,rfl,_,hg,_,_,_,ab⟩
 ·omega
 ·refine⟨g,cap,rfl,fun j u hj=>?_⟩;have:aa[j]?=some u:=by
   rw[<-ab,af7]at hj;split at hj
   ·simpa using hj
   ·cases hj
  simp[World.cell?,hg,this]
end Go.Proofs.YtblomippkddgiabGreatDoor
