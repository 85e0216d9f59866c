import Derived.Test.YtblomippkddgiabGreatDoorJ27
set_option maxRecDepth 100000
set_option maxHeartbeats 4000000
namespace Go.Proofs.YtblomippkddgiabGreatDoor
open Go.RowKit
variable {F:Aq}{N k lf r sq ud:Nat}{p:Pl}{c:R.Cf}{G:R.Wd}{s:RS}{W W4 w w0:World}
theorem Yk:(Tryz.prog.info? 3).map (fun i=>(i.zero,i.size,i.bytes))=some (some (.int .i64 0),1,8):=by kernel_rfl
theorem one_num(w:World)(n:Int)(j:Nat)(u:Value)(h:([.int .i64 n]:List Value)[j]?=some u):(w.alloc (.cells #[.int .i64 n] 3)).cell? ((⟨w.heap.size,0,none⟩:Addr).add j)=some u:=by
 rw[Addr.add_lit,agn,World.cell?_alloc_new w _ _ j,<-agj]at *;exact h
theorem Ju(w:World)(n:Int){m:Nat}(hm:w.heap.size=m)(j:Nat)(u:Value)(h:([.int .i64 n]:List Value)[j]?=some u):(w.alloc (.cells #[.int .i64 n] 3)).cell? ((⟨m,0,none⟩:Addr).add j)=some u:=by
 subst hm;exact one_num w n j u h
theorem Ij{V v:Value}(h:v.ownBlock=V.ownBlock\/v.ownBlock=some (w.heap.size+1)):Hu V w v:=by
 rcases h with h|h
 ·exact afJ h
 ·exact afM ⟨_,h,by omega⟩
structure ade(q:RP)(s:RS)(w:World):Prop where
 a0:w.cell? ⟨q.r,0,none⟩=some (ptr q.x)
 a6:w.cell? ⟨q.r,6,none⟩=some (.slice (some ⟨q.lf,0,none⟩) s.Ae.length s.Ae.length)
 a7:w.cell? ⟨q.r,7,none⟩=some (.slice (some ⟨q.sq,0,none⟩) s.seq.length s.seq.length)
 a8:w.cell? ⟨q.r,8,none⟩=some (.slice (some ⟨q.ud,0,none⟩) s.uid.length s.uid.length)
 a9:w.cell? ⟨q.r,9,none⟩=some s.M
 JB:w.cell? ⟨q.r,10,none⟩=some (.int .i64 s.nu)
 NP:w.cell? ⟨q.r,11,none⟩=some s.D
 a12:w.cell? ⟨q.r,12,none⟩=some s.K
 z:∀o,w.frozen? ⟨q.r,o,none⟩=false
 zu:∀o,w.frozen? ⟨q.ud,o,none⟩=false
 zs:∀o,w.frozen? ⟨q.sq,o,none⟩=false
 zl:∀o,w.frozen? ⟨q.lf,o,none⟩=false
 u:∀k v,s.uid[k]?=some v->w.cell? ⟨q.ud,k,none⟩=some (.int .i64 v)
 sq:∀k v,s.seq[k]?=some v->w.cell? ⟨q.sq,k,none⟩=some (.int .i64 v)
 lf:∀k v,s.Ae[k]?=some v->w.cell? ⟨q.lf,k,none⟩=some (.int .i64 v)
 nur:¬q.ud=q.r
 nsr:¬q.sq=q.r
 EA:q.r<w.heap.size
 Yy:q.ud<w.heap.size
theorem Au.cells{q:RP}(h:Au w0 q p c s G w):ade q s w:=by
 obtain⟨tp,E,F,hr,_⟩:=h.run;have hx:=hr.cell;exact⟨cell_of hx 0 _ rfl,cell_of hx 6 _ rfl,cell_of hx 7 _ rfl,cell_of hx 8 _ rfl,cell_of hx 9 _ rfl,cell_of hx 10 _ rfl,cell_of hx 11 _ rfl,cell_of hx 12 _ rfl,fun o=>open_list hx,fun o=>open_list hr.ud,fun o=>open_list hr.sq,fun o=>open_list hr.lf,fun k v hv=>AP hr.ud (Ew hv),fun k v hv=>AP hr.sq (Ew hv),fun k v hv=>AP hr.lf (Ew hv),AZ hr.ud hx (by decide),AZ hr.sq hx (by decide),lt_of_block hx,lt_of_block hr.ud⟩
theorem XT:∀args w,(callFunc 49 args).run Tryz.prog w=.ok (.enter 49 args) w:=fun _ _=>rfl
theorem aao:∀args w,(callFunc 48 args).run Tryz.prog w=.ok (.enter 48 args) w:=fun _ _=>rfl
theorem QF(w0:World)(q:RP)(p:Pl)(c:R.Cf)(s:RS)(G:R.Wd)(w:World)(k:Nat)(hk:k<3)(h:Au w0 q p c s G w)(b6:s.uid.length=3)(hu:s.uid[k]?=some 0)(aM:s.nu=(G.Ab.length:Int))(hn:¬A6 k∈G.names)(h6:G.names.length<6)(aD:G.Ab.length<200)(b4:s.dead.length<=255)(b5:s.kinds.length<=255):
  Calls Tryz.prog 25 #[ptr q.r,.int .i64 (k:Int)] w fun e w'=>e=.returned (.bool true)/\∃D K,Au w0 q p c ⟨s.Ae,s.seq,s.uid.set k (s.nu+1),s.nu+1,s.M,D,K,s.made,s.dead++[-1],s.kinds++[(k:Int)]⟩ (BJ G (A6 k) k) w':=by
 obtain⟨a0,a6,a7,a8,a9,JB,NP,a12,z,zu,zs,zl,fu,fs,fl,nur,nsr,EA,Yy⟩:=h.cells;have b1:=fu k 0 hu;have b3:(k:Int)<(s.uid.length:Int):=by omega
 have aR:(s.nu==255)=false:=by simp;omega
 have aJ:=Ac (Iq k hk);have b7:IntKind.i64.wrap (s.nu+1)=s.nu+1:=by rw[IntKind.wrap_i64];omega
 have aH:Hid (Calls Tryz.prog 48 #[ptr q.x,.string (str (A6 k)),.int .i64 (k:Int)] w.drew fun e w'=>e=.returned (.tuple #[.int .i64 (s.nu+1),.int .i64 0])/\Au w0 q p c s (BJ G (A6 k) k) w'):=by
  have hd:=h.still (Below.refl w.heap.size w).drew;obtain⟨tp,E,F,hr,hw,aV,aW⟩:=hd.run;rw[h.x,aM];refine(Lb w.drew p.x p.n p.s p.cs G.Ad.length p.cap (str (A6 k)) k ((G.Ab.length:Int)+1) 0 _ hw.bx (hw.exported (M8 k) (by omega) hn h6 (by omega))).mono ?_;rintro e w' ⟨rfl,t',F',q1,q2⟩;exact⟨rfl,hd.world (t:=t') hr aV aW q1 q2⟩
 generalize str (A6 k)=SN at *;obtain⟨i0,hi,aO,aP,aQ⟩:=info_parts Yk;clear hn h6 aD h a6 a7 a9 NP a12 z zu zs zl fu fs fl aM;go_enter Tryz.func25,Tryz.ntmps25;go_wp2;go_region_law (first
  |(refine Av rfl 49 #[.tmp 78] #[3] rfl XT #[.int .i64 (k:Int)] rfl _ ((Aa aJ) _) ?_;rintro e w1 ⟨rfl,aN⟩;rw[aN];clear aN;refine⟨_,rfl,?_⟩)
  |(refine Av rfl 48 #[.tmp 77,.tmp 79,.tmp 80] #[28,9,3] rfl aao #[ptr q.x,.string SN,.int .i64 (k:Int)] rfl _ (Aa aH) ?_;rintro e w2 ⟨rfl,hB⟩;have ay:=Ac hB;clear hB;refine⟨_,rfl,?_⟩))
 all_goals
  clear a0 a8 JB b1 EA Yy aH aJ;have ar:=(Aa ay).cells;have aZ:=ar.JB;have aG:=ar.z 10;have y0:=ar.EA;have ax:=Ac ((Aa ay).Lp (s.nu+1));clear ar ay;go_wp2;generalize w2.setCell ⟨q.r,10,none⟩ (.int .i64 (s.nu+1))=W2 at *;have af:=(Aa ax).cells;have x8:=af.a8;have an:=af.JB;have xk:=af.zu k;have xu:=af.u k 0 (by assumption);simp only at x8 an;have xl:=af.Yy;have ag:=Ac (((Aa ax).acB k (s.nu+1)).still (Below.refl _ _).drew);clear af ax aZ aG y0
  go_region
  all_goals
   generalize (W2.setCell ⟨q.ud,k,none⟩ (.int .i64 (s.nu+1))).drew=W3 at *;clear x8 an xk xu xl;have au:=(Aa ag).cells;have ac:=(Aa ag).run;obtain⟨tp,E,F,hr,ai⟩:=ac;have al:=hr.D;have aE:=AX al;obtain⟨da,dc,hD⟩:=aE;have av:=au.NP;have ao:=au.z 11;have xr:=au.EA;simp only at hD al av;rw[hD]at av al;have aA:=Ac al;have HD:=Ac hD;clear au hr ai al hD;go_wp2_with (at_builtin;go_must (refine wpList_append_own_at _ rfl (.tmp 105) (.tmp 106) 29 rfl 0 3 i0 (.int .i64 0) 1 8 Tryz.underlying29 hi aO aP aQ rfl (by decide) (.slice da s.dead.length dc) s.dead.length (ints s.dead) rfl (by exact(Aa aA).alloc _) ⟨W3.heap.size,0,none⟩ 1 1 [.int .i64 (-1)] rfl rfl (by exact one_num W3 (-1)) (by simp[Value.oneCell']) (by unfold maxLen;omega) (by omega) (by omega) ?_))
   intro v' wz ab aa _ aj;obtain⟨va,vn,vc,aF⟩:=Ar ab;subst aF;have ah:=Ac ((Aa ag).Zk (o:=.cells #[.int .i64 (-1)] 3) (n:=-1) (D':=.slice va vn vc) ab (by rw[Aa HD];exact aa) (by rw[Aa HD];exact Ij (by simpa using aj)));have ae:wz.heap[q.r]?=W3.heap[q.r]?:=by
    refine(aa.block q.r (by simp;omega) (fun e=>?_)).trans (Below.heap_alloc _ _ _ xr);have ac:=(Aa ag).run;obtain⟨tp,E,F,hr,ai⟩:=ac;have ad:=hr.cell;exact AV (Aa aA) ad (by decide) e.symm
   have aK:wz.cell? ⟨q.r,11,none⟩=some (.slice da s.dead.length dc):=(World.cell?_of_block ae).trans av;have aC:wz.frozen? ⟨q.r,11,none⟩=false:=(World.frozen?_of_block ae).trans ao;have aU:q.r<wz.heap.size:=lt_of_cell aK;clear ab aa aj ae av ao aA HD ag;have ak:=(Aa ah).cells;have ac:=(Aa ah).run;obtain⟨tp,E,F,hr,ai⟩:=ac;have am:=hr.K;have aE:=AX am;obtain⟨ka,kc,aq⟩:=aE;have aw:=ak.a12;have ap:=ak.z 12;have an:=ak.JB;have aY:=ak.EA;simp only at aq am aw an;rw[aq]at aw am;have aB:=Ac am;have az:=Ac aq;clear ak hr ai am aq;go_wp2_with (at_builtin;go_must (refine wpList_append_own_at _ rfl (.tmp 114) (.tmp 116) 29 rfl 0 3 i0 (.int .i64 0) 1 8 Tryz.underlying29 hi aO aP aQ rfl (by decide) (.slice ka s.kinds.length kc) s.kinds.length (ints s.kinds) rfl (by exact(Aa aB).alloc _) ⟨wz.heap.size,0,none⟩ 1 1 [.int .i64 (k:Int)] rfl rfl (by exact Ju _ (k:Int) (by simp)) (by simp[Value.oneCell']) (by unfold maxLen;omega) (by omega) (by omega) ?_))
   intro v2 wy ab aa _ aj;obtain⟨ua,un,uc,aF⟩:=Ar ab;subst aF;have aI:=Ac ((Aa ah).Zl (o:=.cells #[.int .i64 (k:Int)] 3) (n:=(k:Int)) (K':=.slice ua un uc) ab (by rw[Aa az];exact aa) (by rw[Aa az];exact Ij (by simpa using aj)));generalize wz.setCell ⟨q.r,11,none⟩ (.slice va vn vc)=W4 at *;have ae:wy.heap[q.r]?=W4.heap[q.r]?:=by
    refine(aa.block q.r (by simp;omega) (fun e=>?_)).trans (Below.heap_alloc _ _ _ aY);have ac:=(Aa ah).run;obtain⟨tp,E,F,hr,ai⟩:=ac;have ad:=hr.cell;exact AV (Aa aB) ad (by decide) e.symm
   have aS:wy.cell? ⟨q.r,12,none⟩=some (.slice ka s.kinds.length kc):=(World.cell?_of_block ae).trans aw;have aT:wy.frozen? ⟨q.r,12,none⟩=false:=(World.frozen?_of_block ae).trans ap;have b2:q.r<wy.heap.size:=lt_of_cell aS;have aL:=(Aa aI).cells;have aX:=aL.JB;simp only at aX;clear ab aa aj ae aw ap an aB az ah aK aC aU aL;go_wp2;go_returns;exact⟨rfl,_,_,Aa aI⟩
def BQ(G:R.Wd)(i:Nat)(u:List Int):Nat->R.Wd
 |0=>G
 |k+1=>A1 (BQ G i u k) i ((u[k]?).getD 0)
theorem Eh(G:R.Wd)(i:Nat)(u:List Int)(n:List UInt8):∀k,AF (BQ G i u k) n=AF G n
 |0=>rfl
 |k+1=>Eh G i u n k
theorem GH(G:R.Wd)(i:Nat)(u:List Int)(n:Int):∀k,kindOf (BQ G i u k) n=kindOf G n
 |0=>rfl
 |k+1=>GH G i u n k
theorem E9(G:R.Wd)(i:Nat)(u:List Int):∀k,(BQ G i u k).Ad.length=G.Ad.length
 |0=>rfl
 |k+1=>by
  show (A1 (BQ G i u k) i _).Ad.length=_;rw[<-E9 G i u k];simp[A1]
theorem aet:∀args w,(callFunc 50 args).run Tryz.prog w=.ok (.enter 50 args) w:=fun _ _=>rfl
theorem Mh(w0:World)(q:RP)(p:Pl)(c:R.Cf)(s:RS)(G:R.Wd)(w:World)(i:Nat)(h:Au w0 q p c s G w)(hi:i<G.Ad.length)(ao:s.uid.length=3)(ac:∀k,k<3->∃u,s.uid[k]?=some u/\AF G (A6 k)=some u/\kindOf G u=(k:Int)):
  Calls Tryz.prog 26 #[ptr q.r,.int .i64 (i:Int)] w fun e w'=>e=.returned (.bool true)/\Au w0 q p c s (BQ G i s.uid 3) w':=by
 have HH:=Ac h;have ah:Hid (∀k,k<3->∃u,s.uid[k]?=some u/\AF G (A6 k)=some u/\kindOf G u=(k:Int)):=ac;have ae:Hid (∀k wr u,k<3->Au w0 q p c s (BQ G i s.uid k) wr->s.uid[k]?=some u->AF G (A6 k)=some u->kindOf G u=(k:Int)->Calls Tryz.prog 50 #[ptr q.x,.int .i64 (i:Int),.string (str (A6 k))] wr.drew fun e w'=>e=.returned (.tuple #[.int .i64 u,.int .i64 (k:Int),.int .i64 0])/\Au w0 q p c s (BQ G i s.uid (k+1)) w'):=fun k wr u hk hB h1 h2 h3=>by
  have hd:=hB.still (Below.refl wr.heap.size wr).drew;obtain⟨tp,E,F,hr,hw,ai,ak⟩:=hd.run;rw[hB.x];have aa:i<(BQ G i s.uid k).Ad.length:=by rw[E9];exact hi
  have:=hw.import (name:=A6 k) (uid:=u) (afH aa) (by have:=YI k;omega) (by rw[Eh];exact h2);rw[GH,h3]at this;refine this.mono ?_;rintro e w' ⟨rfl,q1,q2⟩;refine⟨rfl,?_⟩;show Au w0 q p c s (A1 (BQ G i s.uid k) i ((s.uid[k]?).getD 0)) w';rw[h1];exact hd.world hr ai ak q1 q2
 have al:=h.cells.a0;clear h ac;go_enter Tryz.func26,Tryz.ntmps26;go_wp2;go_loopw [5] (fun kv wr=>∃k:Nat,k<=3/\kv=.int .i64 k/\Au w0 q p c s (BQ G i s.uid k) wr) (fun kv _=>3-(intOf kv).toNat)
 case atStart=>exact⟨0,by omega,rfl,Aa HH⟩
 case round=>
  obtain⟨k,hk,rfl,hB⟩:=hrel;by_cases aa:k<3
  ·obtain⟨u,u1,u2,u3⟩:=(Aa ah) k aa;have HC:=Ac ((Aa ae) k wr u aa hB u1 u2 u3);have ag:=Ac (Iq k aa);have b0:=hB.cells.a0;have an:=hB.cells.EA;have am:(k:Int)<(s.uid.length:Int):=by omega
   have aj:k<s.uid.length:=by omega
   have U1:=Ac u1;clear hB u1 u2 u3 al;generalize str (A6 k)=SN at *;go_wp2;go_region_law (first
    |(refine Av rfl 49 #[.tmp 19] #[3] rfl XT #[.int .i64 (k:Int)] rfl _ ((Aa ag) _) ?_;rintro e w1 ⟨rfl,ad⟩;rw[ad];clear ad;refine⟨_,rfl,?_⟩)
    |(refine Av rfl 50 #[.tmp 17,.tmp 18,.tmp 20] #[28,3,9] rfl aet #[ptr q.x,.int .i64 (i:Int),.string SN] rfl _ (Aa HC) ?_;rintro e w2 ⟨rfl,ab⟩;have af:=Ac ab;have c8:=ab.cells.a8;have cu:=ab.cells.u k u (Aa U1);clear ab;refine⟨_,rfl,?_⟩))
   all_goals
    go_wp2;go_roundw
    case rel=>exact⟨k+1,by omega,by go_num,Aa af⟩
    case measure=>simp[intOf];omega
  ·obtain rfl:k=3:=by omega
   go_wp2;go_returns;exact⟨rfl,hB⟩
def E1(c:R.Cf):Nat->R.Wd
 |0=>newG c
 |k+1=>BJ (E1 c k) (A6 k) k
def EH(k:Nat):List Int:=[if 0<k then 1 else 0,if 1<k then 2 else 0,if 2<k then 3 else 0]
theorem Z2(k:Nat):(EH k).length=3:=rfl
theorem abC(h:k<3):(EH k)[k]?=some 0:=by
 have h3:k=0\/k=1\/k=2:=by omega
 rcases h3 with rfl|rfl|rfl<;>rfl
theorem Z3(h:k<3):(EH k).set k ((k:Int)+1)=EH (k+1):=by
 have h3:k=0\/k=1\/k=2:=by omega
 rcases h3 with rfl|rfl|rfl<;>rfl
theorem Fj(c:R.Cf):∀k,(E1 c k).names=(List.range k).map A6
 |0=>rfl
 |k+1=>by
  show (E1 c k).names++[A6 k]=_;rw[Fj c k,agx,agw];rfl
theorem CQ(c:R.Cf):∀k,(E1 c k).Ab=(List.range k).map fun (i:Nat)=>(⟨(i:Int),true,[]⟩:R.Sv)
 |0=>rfl
 |k+1=>by
  show (E1 c k).Ab++[⟨(k:Int),true,[]⟩]=_;rw[CQ c k,agx,agw];rfl
theorem La(c:R.Cf):∀k,(E1 c k).stands=(List.range k).map fun (i:Nat)=>(i:Int)+1
 |0=>rfl
 |k+1=>by
  show (E1 c k).stands++[((E1 c k).Ab.length:Int)+1]=_;rw[La c k,CQ,agx,agw];simp
theorem JV(c:R.Cf):∀k,(E1 c k).Ad=(newG c).Ad
 |0=>rfl
 |k+1=>JV c k
theorem QA(c:R.Cf)(h:k<3):¬A6 k∈(E1 c k).names:=by
 rw[Fj];intro hm;obtain⟨i,hi,e⟩:=agE.1 hm;have aa:=List.mem_range.1 hi;have:=YH (by omega) h e;omega
theorem Jq(c:R.Cf)(h:k<3):AF (E1 c 3) (A6 k)=some ((k:Int)+1):=by
 unfold AF R.BI;rw[Fj,La];have h3:k=0\/k=1\/k=2:=by omega
 rcases h3 with rfl|rfl|rfl<;>rfl
theorem Oj(c:R.Cf)(h:k<3):kindOf (E1 c 3) ((k:Int)+1)=(k:Int):=by
 unfold kindOf;rw[CQ];have h3:k=0\/k=1\/k=2:=by omega
 rcases h3 with rfl|rfl|rfl<;>rfl
def Dl(c:R.Cf):Nat->R.Wd
 |0=>E1 c 3
 |i+1=>BQ (Dl c i) i (EH 3) 3
theorem GI(c:R.Cf)(n:List UInt8):∀i,AF (Dl c i) n=AF (E1 c 3) n
 |0=>rfl
 |i+1=>(Eh _ _ _ n 3).trans (GI c n i)
theorem Kq(c:R.Cf)(n:Int):∀i,kindOf (Dl c i) n=kindOf (E1 c 3) n
 |0=>rfl
 |i+1=>(GH _ _ _ n 3).trans (Kq c n i)
theorem Gi(c:R.Cf):∀i,(Dl c i).Ad.length=(newG c).Ad.length
 |0=>by show (E1 c 3).Ad.length=_;rw[JV]
 |i+1=>(E9 _ _ _ 3).trans (Gi c i)
theorem Sr(hw:LW p F (newG c) W)(hF:∀k,F k->w0.heap.size<=k)(aa:Below w0.heap.size w0 W)(ht:Ec W)(hp:0<w0.heap.size)(hb:Below W.heap.size W W4)
  (h1:W4.heap[r]?=some (.cells (Gc ⟨r,p.x,lf,sq,ud⟩ c ⟨List.replicate N 0,List.replicate (3*N) 0,EH 0,0,.slice none 0 0,.slice none 0 0,.slice none 0 0,[],[],[]⟩) 32 (0,0)))
  (h2:W4.heap[lf]?=some (.cells (ints (List.replicate N 0)).toArray 3 (0,0))) (h3:W4.heap[sq]?=some (.cells (ints (List.replicate (3*N) 0)).toArray 3 (0,0))) (h4:W4.heap[ud]?=some (.cells (ints [0,0,0]).toArray 3 (0,0)))
  (g1:W.heap.size<=r) (g2:W.heap.size<=lf) (g3:W.heap.size<=sq) (g4:W.heap.size<=ud) (n1:lf≠sq) (n2:lf≠ud) (n3:sq≠ud):
  Au w0 ⟨r,p.x,lf,sq,ud⟩ p c ⟨List.replicate N 0,List.replicate (3*N) 0,EH 0,0,.slice none 0 0,.slice none 0 0,.slice none 0 0,[],[],[]⟩ (newG c) W4:=by
 have s0:=aa.size;have s1:=hb.size;refine⟨⟨p.t,fun k=>W.heap.size<=k/\k<W4.heap.size,F,⟨h1,h2,h3,h4,World.ownsRow_nil _ _ _ _,World.ownsRow_nil _ _ _ _,World.ownsRow_nil _ _ _ _,by simp,⟨⟨g1,lt_of_block h1⟩,⟨g2,lt_of_block h2⟩,⟨g3,lt_of_block h3⟩,⟨g4,lt_of_block h4⟩⟩,fun j hj=>?_,⟨n1,n2,n3⟩,?_,?_,(fun j hj=>by cases hj),(fun k hk=>hk.2)⟩,hw.below hb,fun k hk hf=>?_,fun k hk=>?_⟩,rfl,ht.below hb,aa.trans (hb.mono s0),hp⟩
 ·rcases hj with e|e|e<;>cases e
 ·refine⟨fun e=>?_,fun e=>?_,fun e=>?_⟩<;>cases e
 ·refine⟨fun e=>?_,fun e=>?_,fun e=>?_⟩<;>cases e
 ·have:=hw.lt k hf;omega
 ·rcases hk with hk|hk
  ·omega
  ·exact hF k hk
theorem A8{a b c d:Obj}:((((W.alloc a).alloc b).alloc c).alloc d).drew.heap[W.heap.size]?=some a/\((((W.alloc a).alloc b).alloc c).alloc d).drew.heap[W.heap.size+1]?=some b/\((((W.alloc a).alloc b).alloc c).alloc d).drew.heap[W.heap.size+1+1]?=some c/\((((W.alloc a).alloc b).alloc c).alloc d).drew.heap[W.heap.size+1+1+1]?=some d/\Below W.heap.size W ((((W.alloc a).alloc b).alloc c).alloc d).drew:=by
 have e1:(W.alloc a).heap.size=W.heap.size+1:=by simp
 have e2:((W.alloc a).alloc b).heap.size=W.heap.size+1+1:=by simp
 have e3:(((W.alloc a).alloc b).alloc c).heap.size=W.heap.size+1+1+1:=by simp
 refine⟨?_,?_,?_,?_,?_⟩
 ·rw[E0,Below.heap_alloc _ _ _ (by omega),Below.heap_alloc _ _ _ (by omega),Below.heap_alloc _ _ _ (by omega)];exact CM _ _ rfl
 ·rw[E0,Below.heap_alloc _ _ _ (by omega),Below.heap_alloc _ _ _ (by omega)];exact CM _ _ e1
 ·rw[E0,Below.heap_alloc _ _ _ (by omega)];exact CM _ _ e2
 ·rw[E0];exact CM _ _ e3
 ·exact((((Below.refl _ _).alloc (afI _) _).alloc (by omega) _).alloc (by omega) _ |>.alloc (by omega) _).drew
theorem Ky(n:Nat)(hn:n=1\/n=2\/n=3\/n=6\/n=9)(W:World):(Instr.makeSlice 29 (.int .i64 (n:Int)) (.int .i64 (n:Int))).run Tryz.prog W=.ok (.slice (some ⟨W.heap.size,0,none⟩) n n) (W.alloc (.cells (ints (List.replicate n 0)).toArray 3)):=by
 rcases hn with rfl|rfl|rfl|rfl|rfl
 ·show _=_;kernel_rfl
 ·show _=_;kernel_rfl
 ·show _=_;kernel_rfl
 ·show _=_;kernel_rfl
 ·show _=_;kernel_rfl
def Gl(k:Nat):List Int:=List.replicate k (-1)
def Hm(k:Nat):List Int:=(List.range k).map fun (i:Nat)=>(i:Int)
theorem SV(k:Nat):Gl k++[-1]=Gl (k+1):=by simp[Gl,List.replicate_succ']
theorem TC(k:Nat):Hm k++[(k:Int)]=Hm (k+1):=by simp[Hm,List.range_succ]
theorem VE(k:Nat):(Gl k).length=k:=by simp[Gl]
theorem V4(k:Nat):(Hm k).length=k:=by simp[Hm]
theorem abg{L:List Int}(h:L.length=N)(h1:∀j,j<N->L[j]?=some 1):L=List.replicate N 1:=by
 refine agd (fun j=>?_);by_cases hj:j<N
 ·rw[h1 j hj,afZ,if_pos hj]
 ·rw[af5 (by omega),af5 (by simp;omega)]
theorem Sq{LA LB LC:Array Value}(hA:LA=(ints (List.replicate N 0)).toArray)(hB:LB=(ints (List.replicate (3*N) 0)).toArray)(hC:LC=(ints (List.replicate 3 0)).toArray)(hw:LW p F (newG c) W)(hF:∀k,F k->w0.heap.size<=k)(aa:Below w0.heap.size w0 W)(ht:Ec W)(hp:0<w0.heap.size)(hb:Below W.heap.size W W4)
  (h1:W4.heap[r]?=some (.cells #[ptr p.x,.int .i64 c.Ad,.int .i64 c.lines,.int .i64 c.Ay,.int .i64 c.tries,.int .i64 c.table,.slice (some ⟨lf,0,none⟩) N N,.slice (some ⟨sq,0,none⟩) (3*N) (3*N),.slice (some ⟨ud,0,none⟩) 3 3,.slice none 0 0,.int .i64 0,.slice none 0 0,.slice none 0 0] 32 (0,0)))
  (h2:W4.heap[lf]?=some (.cells LA 3 (0,0))) (h3:W4.heap[sq]?=some (.cells LB 3 (0,0))) (h4:W4.heap[ud]?=some (.cells LC 3 (0,0)))
  (g1:W.heap.size<=r) (g2:W.heap.size<=lf) (g3:W.heap.size<=sq) (g4:W.heap.size<=ud) (n1:lf≠sq) (n2:lf≠ud) (n3:sq≠ud):
  ∃q,q.r=r/\q.x=p.x/\∃L,L.length=N/\Au w0 q p c ⟨L,List.replicate (3*N) 0,EH 0,0,.slice none 0 0,.slice none 0 0,.slice none 0 0,[],[],[]⟩ (newG c) W4:=by
 refine⟨_,rfl,rfl,List.replicate N 0,by simp,Sr hw hF aa ht hp hb (by rw[h1];simp[Gc,EH]) (by rw[h2,hA]) (by rw[h3,hB]) (by rw[h4,hC];rfl) g1 g2 g3 g4 n1 n2 n3⟩
theorem Au.base{wB:World}{q:RP}(h:Au wB q p c s G w)(hb:Below w0.heap.size w0 wB)(hp:0<w0.heap.size):Au w0 q p c s G w:=by
 obtain⟨tp,E,F,hr,hw,hd,aa⟩:=h.run;have:=hb.size;exact⟨⟨tp,E,F,hr,hw,hd,fun k hk=>by have:=aa k hk;omega⟩,h.x,h.t0,hb.trans (h.below.mono hb.size),hp⟩
theorem FD{f:World->Prop}(P:World->Prop)(hP:P W)(h:∀W',P W'->f W'):f W:=h W hP
theorem Vt(w0 w:World)(c:R.Cf)(hc:R.BD c)(aH:Below w0.heap.size w0 w)(ht:Ec w)(hp:0<w0.heap.size):
  Calls Tryz.prog 15 #[UK c.Ad c.lines c.Ay c.tries c.table] w fun e w'=>∃q p D K,e=.returned (ptr q.r)/\Au w0 q p c ⟨List.replicate c.Ad.toNat 1,List.replicate (3*c.Ad.toNat) 0,EH 3,3,.slice none 0 0,D,K,[],Gl 3,Hm 3⟩ (Dl c c.Ad.toNat) w':=by
 have ak:=Ac (fun w=>aa8 w c hc);have aI:=hc;unfold R.BD at aI;obtain⟨N,hN⟩:∃N:Nat,c.Ad=(N:Int):=⟨c.Ad.toNat,by omega⟩;have aw:c.Ad.toNat=N:=by omega
 have aa:(newG c).Ad.length=N:=by simp[newG,aw]
 rw[aw];have b2:N=1\/N=2\/N=3:=by omega
 have aL:=Ky N (by omega);have aA:=Ky (3*N) (by omega);have aB:=Ky 3 (by omega);rw[show ((3*N:Nat):Int)=3*(N:Int) by omega]at aA;rw[show ((3:Nat):Int)=3 from rfl]at aB;have e3:IntKind.i64.wrap (3*(N:Int))=3*(N:Int):=by rw[IntKind.wrap_i64];omega
 obtain⟨LA,ar⟩:∃LA,LA=(ints (List.replicate N 0)).toArray:=⟨_,rfl⟩;obtain⟨LB,au⟩:∃LB,LB=(ints (List.replicate (3*N) 0)).toArray:=⟨_,rfl⟩;obtain⟨LC,av⟩:∃LC,LC=(ints (List.replicate 3 0)).toArray:=⟨_,rfl⟩;rw[<-ar]at aL;rw[<-au]at aA;rw[<-av]at aB;have ab:Hid (∀{wB:World} {p:Pl} {F:Aq} {W W4:World} {r lf sq ud:Nat},LW p F (newG c) W->0<wB.heap.size->(∀k,F k->wB.heap.size<=k)->Below wB.heap.size wB W->Ec W->Below W.heap.size W W4->W4.heap[r]?=some (.cells #[ptr p.x,.int .i64 (N:Int),.int .i64 c.lines,.int .i64 c.Ay,.int .i64 c.tries,.int .i64 c.table,.slice (some ⟨lf,0,none⟩) N N,.slice (some ⟨sq,0,none⟩) (3*N) (3*N),.slice (some ⟨ud,0,none⟩) 3 3,.slice none 0 0,.int .i64 0,.slice none 0 0,.slice none 0 0] 32 (0,0))->W4.heap[lf]?=some (.cells LA 3 (0,0))->W4.heap[sq]?=some (.cells LB 3 (0,0))->W4.heap[ud]?=some (.cells LC 3 (0,0))->W.heap.size<=r->W.heap.size<=lf->W.heap.size<=sq->W.heap.size<=ud->lf≠sq->lf≠ud->sq≠ud->∃q,q.r=r/\q.x=p.x/\∃L,L.length=N/\Au wB q p c ⟨L,List.replicate (3*N) 0,EH 0,0,.slice none 0 0,.slice none 0 0,.slice none 0 0,[],[],[]⟩ (newG c) W4):=
  fun {wB p F W W4 r lf sq ud} a1 a0 a2 a3 a4 a5 a6=>Sq ar au av a1 a2 a3 a4 a0 a5 (by rw[hN];exact a6)
 rw[hN]at ak;rw[hN];have aO:Hid (∀(wB:World) (q:RP) (p:Pl) (L:List Int) (D K:Value) (k:Nat) (wr:World),k<3->Au wB q p c ⟨L,List.replicate (3*N) 0,EH k,(k:Int),.slice none 0 0,D,K,[],Gl k,Hm k⟩ (E1 c k) wr->Calls Tryz.prog 25 #[ptr q.r,.int .i64 (k:Int)] wr fun e w'=>e=.returned (.bool true)/\∃D K,Au wB q p c ⟨L,List.replicate (3*N) 0,EH (k+1),((k+1:Nat):Int),.slice none 0 0,D,K,[],Gl (k+1),Hm (k+1)⟩ (E1 c (k+1)) w'):=fun wB q p L D K k wr hk hB=>by
  have:=QF wB q p c _ _ wr k hk hB (Z2 k) (abC hk) (by simp[CQ]) (QA c hk) (by rw[Fj];simp;omega) (by rw[CQ];simp;omega) (by simp only[VE];omega) (by simp only[V4];omega);simp only[Z3 hk,SV,TC]at this;rw[show ((k+1:Nat):Int)=(k:Int)+1 by omega];exact this
 have aP:Hid (∀(wB:World) (q:RP) (p:Pl) (s:RS) (i:Nat) (wr:World),i<N->s.uid=EH 3->Au wB q p c s (Dl c i) wr->Calls Tryz.prog 26 #[ptr q.r,.int .i64 (i:Int)] wr fun e w'=>e=.returned (.bool true)/\Au wB q p c s (Dl c (i+1)) w'):=fun wB q p s i wr hi hu hB=>by
  have:=Mh wB q p c s (Dl c i) wr i hB (by rw[Gi,aa];exact hi) (by rw[hu];rfl) (fun k hk=>⟨(k:Int)+1,by
   rw[hu];have h3:k=0\/k=1\/k=2:=by omega
   rcases h3 with rfl|rfl|rfl<;>rfl,by rw[GI];exact Jq c hk,by rw[Kq];exact Oj c hk⟩)
  rw[hu]at this;exact this
 have b4:=Ac aa;clear ar au av hc aw b2 aa;obtain⟨cl,ln,rt,tr,tb⟩:=c;simp only at hN aI ak ab ⊢;subst hN;obtain⟨BX,al⟩:∃BX,w.alloc (.cells #[.int .i64 (N:Int),.int .i64 ln,.int .i64 rt,.int .i64 tr,.int .i64 tb] 23)=BX:=⟨_,rfl⟩;have HB:Hid (Below w.heap.size w BX):=by
  rw[<-al];exact(Below.refl _ _).alloc (afI _) _
 have an:BX.heap[w.heap.size]?=some (.cells #[.int .i64 (N:Int),.int .i64 ln,.int .i64 rt,.int .i64 tr,.int .i64 tb] 23 (0,0)):=by
  rw[<-al];exact heap_alloc_new w _
 have az:=lt_of_block an;have k0:BX.cell? ⟨w.heap.size,0,none⟩=some (.int .i64 (N:Int)):=cell_of an 0 _ rfl;have aX:=Ac k0;clear k0;have aU:=Ac al;have aW:=Ac an;have aC:=Ac aH;have HT:=Ac ht;clear al an aH ht;go_enter Tryz.func15,Tryz.ntmps15;go_wp2_with fail
 rw[Aa aU];refine((Aa ak) _).mono ?_;rintro e w1 ⟨p,F,rfl,hW,hF,am⟩;have ad:=Ac ((am.block w.heap.size az).trans (Aa aW));have c0:w1.cell? ⟨w.heap.size,0,none⟩=some (.int .i64 (N:Int)):=cell_of (Aa ad) 0 _ rfl;have c1:w1.cell? ⟨w.heap.size,1,none⟩=some (.int .i64 ln):=cell_of (Aa ad) 1 _ rfl;have c2:w1.cell? ⟨w.heap.size,2,none⟩=some (.int .i64 rt):=cell_of (Aa ad) 2 _ rfl;have c3:w1.cell? ⟨w.heap.size,3,none⟩=some (.int .i64 tr):=cell_of (Aa ad) 3 _ rfl;have c4:w1.cell? ⟨w.heap.size,4,none⟩=some (.int .i64 tb):=cell_of (Aa ad) 4 _ rfl;have m0:=lt_of_block (Aa ad);have ac:=Ac am;have af:=Ac (((Aa HT).below (Aa HB)).below am);have ae:=Ac hF;have ah:0<BX.heap.size:=Nat.lt_of_le_of_lt (af8 _) az;have ag:=Ac hW;have hq:∀w,(binOp .eql 28 (ptr p.x) (.pointer none)).run Tryz.prog w=.ok (.bool false) w:=fun w=>by kernel_rfl
 clear am hF hW ak;have aD:Hid (∀w',Below w1.heap.size w1 w'->w'.cell? ⟨w.heap.size,0,none⟩=some (.int .i64 (N:Int))/\w'.cell? ⟨w.heap.size,1,none⟩=some (.int .i64 ln)/\w'.cell? ⟨w.heap.size,2,none⟩=some (.int .i64 rt)/\w'.cell? ⟨w.heap.size,3,none⟩=some (.int .i64 tr)/\w'.cell? ⟨w.heap.size,4,none⟩=some (.int .i64 tb)):=fun w' hb=>⟨(hb.cell (p:=⟨w.heap.size,0,none⟩) m0).trans c0,(hb.cell (p:=⟨w.heap.size,1,none⟩) m0).trans c1,(hb.cell (p:=⟨w.heap.size,2,none⟩) m0).trans c2,(hb.cell (p:=⟨w.heap.size,3,none⟩) m0).trans c3,(hb.cell (p:=⟨w.heap.size,4,none⟩) m0).trans c4⟩
 go_wp2;go_region_held3 (fun w'=>w'.cell? ⟨w.heap.size,0,none⟩=some (.int .i64 (N:Int))/\w'.cell? ⟨w.heap.size,1,none⟩=some (.int .i64 ln)/\w'.cell? ⟨w.heap.size,2,none⟩=some (.int .i64 rt)/\w'.cell? ⟨w.heap.size,3,none⟩=some (.int .i64 tr)/\w'.cell? ⟨w.heap.size,4,none⟩=some (.int .i64 tb)) ((refine(Aa aD) _ ?_;repeat (first|exact Below.refl _ _|refine Below.drew ?_|refine Below.alloc ?_ (by simp;try omega) _))) (fail)
 all_goals
  refine FD (fun W=>∃q:RP,q.r=w1.heap.size+1+1+1/\q.x=p.x/\∃L:List Int,L.length=N/\Au BX q p ⟨(N:Int),ln,rt,tr,tb⟩ ⟨L,List.replicate (3*N) 0,EH 0,0,.slice none 0 0,.slice none 0 0,.slice none 0 0,[],[],[]⟩ (newG ⟨(N:Int),ln,rt,tr,tb⟩) W) ?_ ?_
  ·first
    |exact(Aa ab) (Aa ag) ah (Aa ae) (Aa ac) (Aa af) A8.2.2.2.2 A8.2.2.2.1 A8.1 A8.2.1 A8.2.2.1 (by omega) (by omega) (by omega) (by omega) (by omega) (by omega) (by omega)
    |exact(Aa ab) (Aa ag) ah (Aa ae) (Aa ac) (Aa af) A8.2.2.2.2 A8.2.2.2.1 A8.1 A8.2.2.1 A8.2.1 (by omega) (by omega) (by omega) (by omega) (by omega) (by omega) (by omega)
    |exact(Aa ab) (Aa ag) ah (Aa ae) (Aa ac) (Aa af) A8.2.2.2.2 A8.2.2.2.1 A8.2.1 A8.1 A8.2.2.1 (by omega) (by omega) (by omega) (by omega) (by omega) (by omega) (by omega)
    |exact(Aa ab) (Aa ag) ah (Aa ae) (Aa ac) (Aa af) A8.2.2.2.2 A8.2.2.2.1 A8.2.1 A8.2.2.1 A8.1 (by omega) (by omega) (by omega) (by omega) (by omega) (by omega) (by omega)
    |exact(Aa ab) (Aa ag) ah (Aa ae) (Aa ac) (Aa af) A8.2.2.2.2 A8.2.2.2.1 A8.2.2.1 A8.1 A8.2.1 (by omega) (by omega) (by omega) (by omega) (by omega) (by omega) (by omega)
    |exact(Aa ab) (Aa ag) ah (Aa ae) (Aa ac) (Aa af) A8.2.2.2.2 A8.2.2.2.1 A8.2.2.1 A8.2.1 A8.1 (by omega) (by omega) (by omega) (by omega) (by omega) (by omega) (by omega)
  ·clear c0 c1 c2 c3 c4 aD aL aA aB ag ae ac af ad m0;rintro W4 ⟨q,aM,b3,L,hL,aq⟩;rw[<-aM];have aV:=Ac aq;have aY:=Ac hL;have aj:Hid (∀s G wr,Au BX q p ⟨(N:Int),ln,rt,tr,tb⟩ s G wr->wr.cell? ⟨w.heap.size,0,none⟩=some (.int .i64 (N:Int))):=fun s G wr hB=>(hB.below.cell (p:=⟨w.heap.size,0,none⟩) az).trans (Aa aX)
   have aJ:=(Aa aj) _ _ _ aq;clear aq hL aM b3 ab;go_wp2;go_loopw [6] (fun iv wr=>∃(i:Nat) (L:List Int),i<=N/\iv=.int .i64 i/\(L.length=N/\∀j,j<i->L[j]?=some 1)/\Au BX q p ⟨(N:Int),ln,rt,tr,tb⟩ ⟨L,List.replicate (3*N) 0,EH 0,0,.slice none 0 0,.slice none 0 0,.slice none 0 0,[],[],[]⟩ (newG ⟨(N:Int),ln,rt,tr,tb⟩) wr) (fun iv _=>N-(intOf iv).toNat)
   case atStart=>exact⟨0,L,af8 _,rfl,⟨Aa aY,fun j hj=>by omega⟩,Aa aV⟩
   case round=>
    obtain⟨i,L1,hi,rfl,⟨ai,aG⟩,hB⟩:=hrel;have ao:Hid (∀j,j<i->L1[j]?=some 1):=aG;clear aG;have aZ:=(Aa aj) _ _ _ hB;by_cases b7:i<N
    ·have y6:=hB.cells.a6;obtain⟨x0,aN⟩:∃x0,L1[i]?=some x0:=⟨_,afH (by omega)⟩;have yl:=hB.cells.lf i x0 aN;have yz:=hB.cells.zl i;have yr:=hB.cells.EA;simp only[ai]at y6;have aQ:=Ac (hB.ad6 i 1);have b6:=lt_of_cell yl;have aE:=Ac ai;clear hB ai aJ aN;go_wp2;go_roundw
     case rel=>exact⟨i+1,L1.set i 1,by omega,by go_num,⟨by simpa using Aa aE,fun j hj=>by
      rw[afV];split
      ·rw[if_pos (by have:=Aa aE;omega)]
      ·exact(Aa ao) j (by omega)⟩,Aa aQ⟩
     case measure=>simp[intOf];omega
    ·obtain rfl:i=N:=by omega
     have aF:=abg ai (Aa ao);rw[aF]at hB;have aR:=Ac hB;clear hB ai aJ ao aF L1;go_wp2;go_loopw [7] (fun kv wr=>∃(k:Nat) (D K:Value),k<=3/\kv=.int .i64 k/\Au BX q p ⟨(i:Int),ln,rt,tr,tb⟩ ⟨List.replicate i 1,List.replicate (3*i) 0,EH k,(k:Int),.slice none 0 0,D,K,[],Gl k,Hm k⟩ (E1 ⟨(i:Int),ln,rt,tr,tb⟩ k) wr) (fun kv _=>3-(intOf kv).toNat)
     case atStart=>exact⟨0,_,_,by omega,rfl,Aa aR⟩
     case round=>
      obtain⟨k,D,K,hk,rfl,hB⟩:=hrel;by_cases ax:k<3
      ·have HC:=Ac ((Aa aO) BX q p _ D K k _ ax hB);clear hB aZ;go_wp2_with (first|(go_at_call 25;refine(Aa HC).mono ?_;rintro e w5 ⟨rfl,D2,K2,ap⟩))
       go_roundw
       case rel=>exact⟨k+1,D2,K2,by omega,by go_num,ap⟩
       case measure=>simp[intOf];omega
      ·have aK:k=3:=by omega
       have b1:=(Aa aj) _ _ _ hB;rw[aK]at hB;have aS:=Ac hB;clear hB aK;go_wp2;go_loopw [9] (fun iv wr=>∃j:Nat,j<=i/\iv=.int .i64 j/\Au BX q p ⟨(i:Int),ln,rt,tr,tb⟩ ⟨List.replicate i 1,List.replicate (3*i) 0,EH 3,3,.slice none 0 0,D,K,[],Gl 3,Hm 3⟩ (Dl ⟨(i:Int),ln,rt,tr,tb⟩ j) wr) (fun iv _=>i-(intOf iv).toNat)
       case atStart=>exact⟨0,af8 _,rfl,Aa aS⟩
       case round=>
        obtain⟨j,hj,rfl,hB⟩:=hrel;have b5:=(Aa aj) _ _ _ hB;by_cases ay:j<i
        ·have HC:=Ac ((Aa aP) BX q p _ j _ ay rfl hB);clear hB b1;go_wp2_with (first|(go_at_call 26;refine(Aa HC).mono ?_;rintro e w5 ⟨rfl,ap⟩))
         go_roundw
         case rel=>exact⟨j+1,by omega,by go_num,ap⟩
         case measure=>simp[intOf];omega
        ·obtain rfl:j=i:=by omega
         have aT:=Ac (hB.base ((Aa aC).trans ((Aa HB).mono (Aa aC).size)) hp);clear hB;go_wp2;go_returns;exact⟨q,p,D,K,rfl,Aa aT⟩
end Go.Proofs.YtblomippkddgiabGreatDoor
