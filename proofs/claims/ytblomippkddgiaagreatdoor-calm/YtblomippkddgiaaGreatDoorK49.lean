import Derived.Test.YtblomippkddgiaaGreatDoorK48
import Derived.Test.YtblomippkddgiaaGreatDoorK46
set_option maxRecDepth 100000
namespace Go.Proofs.YtblomippkddgiaaGreatDoor
open Go.RowKit
variable {mb:Nat} {mo:Obj}
theorem Beside.Z6{w0:World}{q:RP}{p:Pl}{c:R.Cf}{s:RS}{G:R.Wd}{w:World}(h:Beside w0 mb mo q p c s G w){M:R.Bk}(hA:Agree c s M G){i k kd:Nat}{cl:R.Cl}{l:R.Ln}(hc:G.Ad[i]?=some cl)(hl:cl.lines[k]?=some l)(hk3:kd<3)(a b:Int)(ha:In64 a)(hb:In64 b):
  Calls Tryz.prog 12 #[ptr q.r,.int .i64 (i:Int),.int .i64 (k:Int),.int .i64 (kd:Int),.int .i64 a,.int .i64 b] w fun e w'=>e=.returned (.bool true)/\∃s' M' G',Beside w0 mb mo q p c s' G' w'/\Agree c s' M' G'/\QG s M G i k kd cl l s' M' G':=by
 obtain⟨pr0,hpr0,H10⟩:=BU b 2 hb (by omega) (by omega);obtain⟨u,hu,hst,hkd⟩:=hA.uid kd hk3;have hbd:=hA.bound i cl u hc (List.mem_of_getElem? hu);have hi:=(List.getElem?_eq_some_iff.1 hc).1;have hkl:=(List.getElem?_eq_some_iff.1 hl).1;have hcf:=hA.inv.wf.cf;unfold R.BL at hcf;have hncl:=hA.inv.wf.KF;have hln:=(hA.inv.wf.cl i cl hc).lines;have hsq:=hA.seq i cl k l hc hl;have hlf:s.Ag[i]?=some cl.Ag:=by rw[hA.Ag];simp[hc]
 obtain⟨e3,e4⟩:=aai i k (by omega) (by omega);have hui:1<=u/\u<=(G.Ac.length:Int):=(hA.inv.wf.cl i cl hc).bound u hbd;have h255:=hA.inv.wf.sv;have hsr:=(hA.inv.wf.cl i cl hc).line k l hl;have main:∀(prv:Int),(prv=0\/prv=1)->((((kd:Int)==2)=true/\prv=0)\/(((kd:Int)==2)=false/\prv=(pr0:Int)))->∀(v:List V.It),Fits (I4 kd prv) v->Kx kd prv=0->(∀w,Calls Tryz.prog 30 #[.int .i64 (kd:Int),.int .i64 prv,.int .i64 a,.int .i64 b] w (CY v w))->Calls Tryz.prog 12 #[ptr q.r,.int .i64 (i:Int),.int .i64 (k:Int),.int .i64 (kd:Int),.int .i64 a,.int .i64 b] w fun e w'=>e=.returned (.bool true)/\∃s' M' G',Beside w0 mb mo q p c s' G' w'/\Agree c s' M' G'/\QG s M G i k kd cl l s' M' G':=fun prv hp01 hcase v hF hE H22=>by
  have hcp:=MJ hA.inv.wf hc hl hbd hkd hk3 hF hE;have H15:Hid (∀w',Below w.heap.size w w'->Calls Tryz.prog 16 #[ptr q.x,.int .i64 (i:Int),.int .i64 (k:Int)] w' fun e w''=>(∃oa on oc,e=.returned (.tuple #[.agg #[.int .i64 l.state,.int .i64 l.seq,.slice oa on oc],.int .i64 0]))/\Below w'.heap.size w' w''):=fun w' hb=>by
   refine((h.still hb).Qq hA hc hl).mono ?_;rintro e w'' ⟨⟨oa,on,oc,r1,_⟩,r2⟩;exact⟨⟨oa,on,oc,r1⟩,r2⟩
  have H23:∀(n f:Int) (G':R.Wd),R.Cz G i k u prv v=((n,f),G')->Hid (∀w' W X,Below w.heap.size w w'->Below w'.heap.size w' W->BD W (fun k=>w.heap.size<=k) X v->Calls Tryz.prog 31 #[ptr q.x,.int .i64 (i:Int),.int .i64 (k:Int),.int .i64 u,.int .i64 prv,X] W fun e w''=>e=.returned (.tuple #[.int .i64 n,.int .i64 f])/\Beside w0 mb mo q p c s G' w''/\∀b,w'.heap.size<=b->b<W.heap.size->w''.heap[b]?=W.heap[b]?):=fun n f G' he w' W X hb1 hb2 hX=>by
   have h':=(h.still hb1).still hb2;obtain⟨tp,E,F,hr,hw,hd,hlo⟩:=(h.still hb1).run;have hcall:=(hw.below hb2).call h'.t0 (i:Int) (k:Int) u prv (by omega) hX.items (by have:=hF.few;omega);rw[he]at hcall;rw[h.x];refine hcall.mono ?_;rintro e w'' ⟨rfl,F',q1,q2⟩;exact⟨rfl,h'.world (hr.below hb2) hd hlo q1 q2,fun b h1 h2=>q2.keeps.block b h2 (fun hf=>by have:=hw.lt b hf;omega)⟩
  by_cases h1:l.state=1
  ·rw[if_pos h1]at hcp;refine(QW w0 q p c s G G w i k (3*i+k) kd pr0 a b prv l.seq l.state u cl.Ag v h hk3 hA.ul hu hsq hlf hA.ml e3 e4 (Ab H10) hcase (Ab H22) H15 (H23 _ _ _ hcp) h1).mono ?_;rintro e w' ⟨rfl,hB⟩;exact⟨rfl,s,M,G,hB,hA,⟨fun _=>⟨rfl,rfl,rfl⟩,fun q=>absurd h1 q⟩⟩
  ·rw[if_neg h1]at hcp;by_cases h9:l.seq=999
   ·rw[if_pos h9]at hcp;refine(OE w0 q p c s G G w i k (3*i+k) kd pr0 a b prv l.seq l.state u cl.Ag v h hk3 hA.ul hu hsq hlf hA.ml e3 e4 (Ab H10) hcase (Ab H22) H15 (H23 _ _ _ hcp) h1 h9).mono ?_;rintro e w' ⟨rfl,hB⟩;exact⟨rfl,s,M,G,hB,hA,⟨fun _=>⟨rfl,rfl,rfl⟩,fun _ q=>absurd h9 q⟩⟩
   ·rw[if_neg h9]at hcp;have hsr':=hsr.seq;refine(OG w0 q p c s G _ w i k (3*i+k) kd pr0 a b prv l.seq l.state u cl.Ag v h hk3 hA.ul hu hsq hlf hA.ml e3 e4 (Ab H10) hcase (Ab H22) H15 (H23 _ _ _ hcp) h1 (by omega)).mono ?_;rintro e w' ⟨rfl,X,Mv,hB⟩;exact⟨rfl,_,_,_,hB,hA.called hc hl hu hkd hk3 hF hE h1 h9 Mv X,⟨fun q=>by rcases q with q|q;exact absurd q h1;exact absurd q h9,fun _ _=>⟨u,prv,v,X,Mv,hu,hp01,hE,hF,rfl,rfl,rfl⟩⟩⟩
 by_cases h2:kd=2
 ·obtain⟨v,hF,hE,H22⟩:=S8 kd 0 hk3 (by omega) (fun _=>rfl) a b ha hb;exact main 0 (Or.inl rfl) (Or.inl ⟨by subst h2;rfl,rfl⟩) v hF hE H22
 ·obtain⟨v,hF,hE,H22⟩:=S8 kd pr0 hk3 hpr0 (fun e=>absurd e h2) a b ha hb;exact main (pr0:Int) (by omega) (Or.inr ⟨by simp;omega,rfl⟩) v hF hE H22
def MD(c:R.Cf)(n:Int)(m k:Nat)(s:RS)(M:R.Bk)(G:R.Wd):Prop:=(n=999/\GU c n s M G/\s.made.length=m)\/(n≠999/\GV c n m k s M G)
theorem GU.k{c:R.Cf}{n:Int}{s:RS}{M:R.Bk}{G:R.Wd}(h:GU c n s M G):MD c n s.made.length 0 s M G:=by
 by_cases e:n=999
 ·exact Or.inl ⟨e,h,rfl⟩
 ·exact Or.inr ⟨e,h.one⟩
theorem T9{w0 w:World}{mb:Nat}{mo:Obj}{q:RP}{p:Pl}{c:R.Cf}{n:Int}{m k kd:Nat}{s:RS}{M:R.Bk}{G:R.Wd}(h:MD c n m k s M G)(hB:Beside w0 mb mo q p c s G w)(hk:k<DV c)(hkd:kd<3)(a b:Int)(ha:In64 a)(hb:In64 b):
  Calls Tryz.prog 12 #[ptr q.r,.int .i64 ((CW c k).1:Int),.int .i64 ((CW c k).2:Int),.int .i64 (kd:Int),.int .i64 a,.int .i64 b] w fun e w'=>e=.returned (.bool true)/\∃s' M' G',Beside w0 mb mo q p c s' G' w'/\MD c n m (k+1) s' M' G':=by
 rcases h with ⟨e,h0,hm⟩|⟨e,h1⟩
 ·have hx:CW c k∈EI c:=DX.2 ⟨k,hk,rfl⟩;obtain⟨cl,hat,_⟩:=h0.cm.VP hx;refine(hB.Z6 h0.agree hat.cl hat.ln hkd a b ha hb).mono ?_;rintro e' w' ⟨rfl,s',M',G',h2,h3,h4⟩;obtain⟨rfl,rfl,rfl⟩:=h4.no (Or.inr (by rw[h0.seq _ hx];exact e));exact⟨rfl,_,_,_,h2,Or.inl ⟨e,h0,hm⟩⟩
 ·obtain⟨cl,hat,hlf⟩:=h1.at hk;refine(hB.Z6 h1.agree hat.cl hat.ln hkd a b ha hb).mono ?_;rintro e' w' ⟨rfl,s',M',G',h2,h3,h4⟩;exact⟨rfl,s',M',G',h2,Or.inr ⟨e,h1.called hk e hat hlf h3 h4⟩⟩
theorem Ua{w0 w:World}{q:RP}{p:Pl}{c:R.Cf}{n:Int}{m:Nat}{s:RS}{M:R.Bk}{G:R.Wd}(h:MD c n m (DV c) s M G)(hB:A9 w0 q p c s G w):
  Calls Tryz.prog 18 #[ptr q.r] w fun e w'=>∃G' n' K,e=.returned (.int .i64 (JC G' c K 0))/\A9 w0 q p c s G' w'/\GX c n' m K s M G':=by
 rcases h with ⟨e,h0,hm⟩|⟨e,h1⟩
 ·have hF:Iy w0 q p c s M (EI c) (fun _=>.idle) G G [] [] (fun _=>.idle) 0 w:=⟨hB,h0.agree,h0.cm,fun _=>Iff.rfl,fun _=>rfl,by rw[(EA G _).1];exact Int.le_refl _,by rw[(EA G _).2];exact Int.le_refl _,by rw[(EA G _).1,(EA G _).2];exact Int.le_refl _⟩;refine(Pe hF (EA G _).1).mono ?_;rintro e' w' ⟨G',ph',i,rfl,hF'⟩;have hph:ph'=fun _=>.idle:=funext fun y=>(hF'.idle y).2 rfl
  subst hph;refine⟨G',n,0,by rw[(EA G' _).1];rfl,hF'.both,?_⟩;have hC0:GU c n s M G':=⟨hF'.agree,hF'.cm,fun x hx=>?_,fun u hu=>(hF'.alive u).trans (h0.alive u hu)⟩
  ·have:=hC0.two;rw[hm]at this;exact this
  ·obtain⟨cl,a,_⟩:=h0.cm.VP hx;obtain⟨cl',a',_⟩:=hF'.cm.VP hx;rw[Qm h0.agree hF'.agree a a'];exact h0.seq x hx
 ·obtain⟨fl,ph,hC,hi,t1,t2⟩:=h1.cm;have hF:Iy w0 q p c s M (EI c) ph G G fl [] ph 0 w:=⟨hB,h1.agree,hC,fun _=>Iff.rfl,fun _=>rfl,by rw[t1];exact Int.le_refl _,by rw[t2];exact Int.le_refl _,by rw[t1,t2];exact Int.le_refl _⟩;refine(Pe hF t1).mono ?_;rintro e' w' ⟨G',ph',i,rfl,hF'⟩;obtain⟨h2,h3⟩:=h1.aaJ hC hi hF'.agree hF'.alive hF'.cm hF'.idle;exact⟨G',n+1,DV c,by rw[h3],hF'.both,h2⟩
theorem Zi{c:R.Cf}(hc:R.BL c){k:Nat}(hk:k<DV c):IntKind.i64.wrap ((k:Int).tdiv c.lines)=((CW c k).1:Int)/\(k:Int).tmod c.lines=((CW c k).2:Int)/\(k:Int)<c.Ad*c.lines/\(k:Int)<c.table:=by
 have hx:=NV hc hk;unfold R.BL at hc;unfold DV at hk;obtain⟨L,hL⟩:∃L:Nat,c.lines=(L:Int):=⟨c.lines.toNat,by omega⟩;obtain⟨C,hC⟩:∃C:Nat,c.Ad=(C:Int):=⟨c.Ad.toNat,by omega⟩;have hLt:c.lines.toNat=L:=by omega
 have hCt:c.Ad.toNat=C:=by omega
 unfold CW at hx ⊢;rw[hLt]at hx hk ⊢;rw[hCt]at hx hk;rw[hL,hC];have h1:k<C*L:=by omega
 have e1:(k:Int).tdiv (L:Int)=((k / L:Nat):Int):=by rw[Int.tdiv_eq_ediv_of_nonneg (by omega)];rfl
 have e2:(k:Int).tmod (L:Int)=((k % L:Nat):Int):=by rw[Int.tmod_eq_emod_of_nonneg (by omega)];rfl
 refine⟨?_,e2,by exact_mod_cast h1,by omega⟩;rw[e1,IntKind.wrap_i64];have h3:=hx.1;simp only at h3;have h4:C<=3:=by omega
 clear hx e1 e2 h1 hk;generalize k / L=d at h3 ⊢;omega
theorem Zu{c:R.Cf}(hc:R.BL c){k:Nat}(hk:¬k<DV c):¬(k:Int)<c.Ad*c.lines\/((k:Int)<c.Ad*c.lines/\¬(k:Int)<c.table):=by
 unfold R.BL at hc;unfold DV at hk;obtain⟨L,hL⟩:∃L:Nat,c.lines=(L:Int):=⟨c.lines.toNat,by omega⟩;obtain⟨C,hC⟩:∃C:Nat,c.Ad=(C:Int):=⟨c.Ad.toNat,by omega⟩;have hLt:c.lines.toNat=L:=by omega
 have hCt:c.Ad.toNat=C:=by omega
 rw[hLt,hCt]at hk;rw[hL,hC];by_cases h:k<C*L
 ·exact Or.inr ⟨by exact_mod_cast h,by omega⟩
 ·exact Or.inl (by exact_mod_cast h)
theorem MY(x:Int):In64 (IntKind.i64.wrap x):=by
 rw[IntKind.wrap_i64];unfold In64;omega
def KN(w:World)(va:Option Addr)(vn:Nat):Prop:=vn=0\/∃vb off,va=some ⟨vb,off,none⟩/\∀i,i<vn->∃k a b d:Int,(In64 k/\In64 a/\In64 b/\In64 d)/\w.cell? ⟨vb,off+i*4,none⟩=some (.int .i64 k)/\w.cell? ⟨vb,off+i*4+1,none⟩=some (.int .i64 a)/\w.cell? ⟨vb,off+i*4+2,none⟩=some (.int .i64 b)/\w.cell? ⟨vb,off+i*4+3,none⟩=some (.int .i64 d)
theorem KN.below{w w':World}{va:Option Addr}{vn:Nat}(h:KN w va vn)(hb:Below w.heap.size w w'):KN w' va vn:=by
 rcases h with h|⟨vb,off,h1,h2⟩
 ·exact Or.inl h
 ·refine Or.inr ⟨vb,off,h1,fun i hi=>?_⟩;obtain⟨k,a,b,d,h3,c0,c1,c2,c3⟩:=h2 i hi;exact⟨k,a,b,d,h3,(hb.cell (p:=⟨vb,_,none⟩) (lt_of_cell c0)).trans c0,(hb.cell (p:=⟨vb,_,none⟩) (lt_of_cell c1)).trans c1,(hb.cell (p:=⟨vb,_,none⟩) (lt_of_cell c2)).trans c2,(hb.cell (p:=⟨vb,_,none⟩) (lt_of_cell c3)).trans c3⟩
theorem QZ{w W:World}{B:Nat}{v0 v1 v2 v3 v4:Value}(h:W.heap[B]?=some (.cells #[v0,v1,v2,v3,v4] 26 (0,0)))(hb:Below B w W)(a b c d e:Value):((((((W.setCell ⟨B,0,none⟩ a).setCell ⟨B,1,none⟩ b).setCell ⟨B,2,none⟩ c).setCell ⟨B,3,none⟩ d).setCell ⟨B,4,none⟩ e).heap[B]?=some (.cells #[a,b,c,d,e] 26 (0,0)))/\Below B w (((((W.setCell ⟨B,0,none⟩ a).setCell ⟨B,1,none⟩ b).setCell ⟨B,2,none⟩ c).setCell ⟨B,3,none⟩ d).setCell ⟨B,4,none⟩ e):=by
 refine⟨?_,((((hb.setCell (Nat.le_refl _) _).setCell (Nat.le_refl _) _).setCell (Nat.le_refl _) _).setCell (Nat.le_refl _) _).setCell (Nat.le_refl _) _⟩;have h0:W.heap[B]?=some (.cells [v0,v1,v2,v3,v4].toArray 26 (0,0)):=h;exact Ak (Ak (Ak (Ak (Ak h0 a) b) c) d) e
def aao(wr:World)(W:World):Prop:=∃x0 x1 x2 x3:Int,(In64 x1/\In64 x2/\In64 x3)/\W.heap[wr.heap.size]?=some (.cells #[.int .i64 x0,.int .i64 x1,.int .i64 x2,.int .i64 x3] 53 (0,0))/\Below wr.heap.size wr W
theorem WY(wr:World){k a b d:Int}(h:In64 a/\In64 b/\In64 d):aao wr (wr.alloc (.cells #[.int .i64 k,.int .i64 a,.int .i64 b,.int .i64 d] 53)):=
 ⟨k,a,b,d,h,heap_alloc_new wr _,(Below.refl _ _).alloc (Nat.le_refl _) _⟩
theorem abu:In64 0/\In64 0/\In64 0:=by unfold In64;omega
theorem YK{c:R.Cf}(hc:R.BL c):DV c<=9:=by
 unfold R.BL at hc;unfold DV;have h1:c.Ad.toNat<=3:=by omega
 have h2:c.lines.toNat<=3:=by omega
 have:=Nat.mul_le_mul h1 h2;omega
theorem GX.cnt{c:R.Cf}{n:Int}{m K k:Nat}{s:RS}{M:R.Bk}{G:R.Wd}(h:GX c n m K s M G)(hk:k<K):0<=Uf G (CW c k)/\Uf G (CW c k)<=40:=by
 obtain⟨z,cl,_,_,_,_,_,_,_,kd,f,t,bs,rb,hN⟩:=h.needs hk;have h1:=V.Gv (R.Bv hN.arg);rw[Ej hN.arg]at h1;have h2:=V.Gv (R.Bv hN.res);rw[Ej hN.res]at h2;have h3:=hN.pos;have h4:=hN.cnt;simp only at h1 h2;omega
theorem GX.sum{c:R.Cf}{n:Int}{m K:Nat}{s:RS}{M:R.Bk}{G:R.Wd}(h:GX c n m K s M G):∀j k,k+j=K->0<=JC G c K k/\JC G c K k<=40*(j:Int)
 |0,k,e=>by
  obtain rfl:k=K:=by omega
  rw[Qs];omega
 |j+1,k,e=>by
  have h1:=h.sum j (k+1) (by omega);have h2:=h.cnt (k:=k) (by omega);rw[Nh (by omega)];omega
theorem A9.acv{w0:World}{q:RP}{p:Pl}{c:R.Cf}{s:RS}{G:R.Wd}{w:World}(h:A9 w0 q p c s G w){M:R.Bk}(hA:Agree c s M G){i k:Nat}{cl:R.Cl}{l:R.Ln}(hc:G.Ad[i]?=some cl)(hl:cl.lines[k]?=some l):
  Calls Tryz.prog 16 #[ptr q.x,.int .i64 (i:Int),.int .i64 (k:Int)] w fun e w'=>(∃oa on oc,e=.returned (.tuple #[.agg #[.int .i64 l.state,.int .i64 l.seq,.slice oa on oc],.int .i64 0])/\V.Row w' w.heap.size (.slice oa on oc) l.result)/\Below w.heap.size w w':=by
 obtain⟨tp,E,F,a1,a2,a3,a4⟩:=h.run;have hi:=(List.getElem?_eq_some_iff.1 hc).1;have hk:=(List.getElem?_eq_some_iff.1 hl).1;have hln:=(hA.inv.wf.cl i cl hc).lines;have hst:R.GF G i k=(l.state,l.seq,l.result,0):=by
  unfold R.GF;rw[if_neg (by omega),if_neg (by omega),R.Cu hc hl]
 have:=a2.status hA.res (i:Int) (k:Int);rw[hst]at this;rw[h.x];refine this.mono ?_;rintro e w' ⟨⟨O,rfl,hR⟩,hb⟩;obtain⟨oa,on,oc,rfl⟩:=Ft (EU hR);exact⟨⟨oa,on,oc,rfl,hR⟩,hb⟩
theorem WK.two{P:Program}{md:Region.Mode}{ops:Array Oper}{Q:Exit->Act->World->Prop}{S T:World->Prop}{k i j:Nat}{o o':Oper}{fuel:Nat}{listed:Array Bool}{a:Act}{w:World}(hr:Region.ready md ops listed=[i,j])(ho:ops[i]?=some o)(ho':ops[j]?=some o')
  (h:∀K':Act->World->Prop,Shut (∀a w,S w->T w->WK P md ops Q S T k fuel (listed.setIfInBounds i true) a w->K' a w)->if Region.wanted o (yielded ops a.tmps)=true then Oper.wp P o a w K' Q else K' (a.put o.dst undef) w)
  (h':∀K':Act->World->Prop,Shut (∀a w,S w->T w->WK P md ops Q S T k fuel (listed.setIfInBounds j true) a w->K' a w)->if Region.wanted o' (yielded ops a.tmps)=true then Oper.wp P o' a w K' Q else K' (a.put o'.dst undef) w):WK P md ops Q S T k (fuel+1) listed a w:=
 fun hH=>GJ hr (by simp) (Cj.cons ho hH.down (by rw[hr];simp) (fun K' hK=>h K' fun a w hS hT hW=>hK a w hS (fun _=>hT) hW) (Cj.cons ho' hH.down (by rw[hr];simp) (fun K' hK=>h' K' fun a w hS hT hW=>hK a w hS (fun _=>hT) hW) Cj.nil))
theorem Yh{w9:World}{r x b:Nat}{v0 v1 v2 a0 a1 a2:Value}(h0:w9.cell? ⟨r,0,none⟩=some v0)(h1:w9.cell? ⟨x,0,none⟩=some v1)(h2:w9.cell? ⟨x,2,none⟩=some v2)(hn:¬b=r/\¬b=x):(((w9.setCell ⟨b,0,none⟩ a0).setCell ⟨b,1,none⟩ a1).setCell ⟨b,2,none⟩ a2).cell? ⟨r,0,none⟩=some v0/\(((w9.setCell ⟨b,0,none⟩ a0).setCell ⟨b,1,none⟩ a1).setCell ⟨b,2,none⟩ a2).cell? ⟨x,0,none⟩=some v1/\(((w9.setCell ⟨b,0,none⟩ a0).setCell ⟨b,1,none⟩ a1).setCell ⟨b,2,none⟩ a2).cell? ⟨x,2,none⟩=some v2:=by
 have f:∀(k o:Nat),¬b=k->(((w9.setCell ⟨b,0,none⟩ a0).setCell ⟨b,1,none⟩ a1).setCell ⟨b,2,none⟩ a2).cell? ⟨k,o,none⟩=w9.cell? ⟨k,o,none⟩:=fun k o hk=>by
  rw[World.cell?_setCell_far _ _ _ _ hk,World.cell?_setCell_far _ _ _ _ hk,World.cell?_setCell_far _ _ _ _ hk]
 exact⟨(f _ _ hn.1).trans h0,(f _ _ hn.2).trans h1,(f _ _ hn.2).trans h2⟩
def aap(W:World)(sq:Int)(res:List R.It)(sv ev:Value)(wx:World):Prop:=∃sb oa on oc,sv=.pointer (some ⟨sb,0,none⟩)/\ev=.int .i64 0/\wx.heap[sb]?=some (.cells #[.int .i64 2,.int .i64 sq,.slice oa on oc] 46 (0,0))/\V.Items wx (.slice oa on oc) res/\Below W.heap.size W wx
theorem TY{W W' w9:World}{sq:Int}{res:List R.It}{oa:Option Addr}{on oc:Nat}(hW:Below W.heap.size W W')(hb:Below W'.heap.size W' w9)(hR:V.Row w9 W'.heap.size (.slice oa on oc) res):aap W sq res (.pointer (some ⟨w9.heap.size,0,none⟩)) (.int .i64 0) (w9.alloc (.cells #[.int .i64 2,.int .i64 sq,.slice oa on oc] 46)):=
 have h1:=hW.trans (hb.mono hW.size)
 ⟨w9.heap.size,oa,on,oc,rfl,rfl,heap_alloc_new w9 _,(EU hR).below ((Below.refl _ _).alloc (Nat.le_refl _) _),h1.alloc h1.size _⟩
theorem T5{W W' w9:World}{sq:Int}{res:List R.It}{oa:Option Addr}{on oc:Nat}(hW:Below W.heap.size W W')(hs:W'.heap.size=W.heap.size)(hb:Below (W'.alloc (.cells #[.int .i64 0,.int .i64 0,.slice none 0 0] 46)).heap.size (W'.alloc (.cells #[.int .i64 0,.int .i64 0,.slice none 0 0] 46)) w9)(hR:V.Row w9 (W'.alloc (.cells #[.int .i64 0,.int .i64 0,.slice none 0 0] 46)).heap.size (.slice oa on oc) res):
  aap W sq res (.pointer (some ⟨W.heap.size,0,none⟩)) (.int .i64 0) (((w9.setCell ⟨W.heap.size,0,none⟩ (.int .i64 2)).setCell ⟨W.heap.size,1,none⟩ (.int .i64 sq)).setCell ⟨W.heap.size,2,none⟩ (.slice oa on oc)):=by
 have hz:w9.heap[W.heap.size]?=some (.cells [.int .i64 0,.int .i64 0,.slice none 0 0].toArray 46 (0,0)):=by
  rw[<-hs];exact(hb.block _ (by simp)).trans (heap_alloc_new W' _)
 have hA:Below W.heap.size W (W'.alloc (.cells #[.int .i64 0,.int .i64 0,.slice none 0 0] 46)):=hW.alloc (by omega) _;have h1:=hA.trans (hb.mono hA.size);have hk:Af (fun k=>k=W.heap.size) w9 (((w9.setCell ⟨W.heap.size,0,none⟩ (.int .i64 2)).setCell ⟨W.heap.size,1,none⟩ (.int .i64 sq)).setCell ⟨W.heap.size,2,none⟩ (.slice oa on oc)):=((Af.setCell (F:=fun k=>k=W.heap.size) (Af.refl _ w9) (p:=⟨W.heap.size,0,none⟩) (Or.inl rfl) _).setCell (p:=⟨W.heap.size,1,none⟩) (Or.inl rfl) _).setCell (p:=⟨W.heap.size,2,none⟩) (Or.inl rfl) _;refine⟨W.heap.size,oa,on,oc,rfl,rfl,Ak (Ak (Ak hz _) _) _,EU (hk.row hR (fun j hj e=>?_)),h1.trans ?_⟩
 ·have:=(World.ownsRow.lt hR j hj).1;simp at this;omega
 ·exact hk.below h1.size (fun k e=>by omega)
theorem ac2:∀args w,(callFunc 11 args).run Tryz.prog w=.ok (.enter 11 args) w:=fun _ _=>rfl
theorem ac3:∀args w,(callFunc 12 args).run Tryz.prog w=.ok (.enter 12 args) w:=fun _ _=>rfl
theorem ac4:∀args w,(callFunc 16 args).run Tryz.prog w=.ok (.enter 16 args) w:=fun _ _=>rfl
theorem ac5:∀args w,(callFunc 19 args).run Tryz.prog w=.ok (.enter 19 args) w:=fun _ _=>rfl
end Go.Proofs.YtblomippkddgiaaGreatDoor
