import Derived.Test.YtblomippkddgiabGreatDoorJ29
set_option maxRecDepth 100000
set_option maxHeartbeats 900000
namespace Go.Proofs.YtblomippkddgiabGreatDoor
open Go.RowKit
variable {F:Aq}{l:List R.It}{X:Value}{w:World}
theorem Yl:(Tryz.prog.info? 62).map (fun i=>(i.zero,i.size,i.bytes))=some (some (.agg #[.int .i64 0,.int .i64 0,.int .i64 0,.int .i64 0,.int .i64 0,.int .i64 0,.slice none 0 0]),7,72):=by kernel_rfl
theorem Y9(w:World)(z:Mk×Value)(j:Nat)(u:Value)(h:(DX z)[j]?=some u):(w.alloc (.cells #[.int .i64 z.1.client,.int .i64 z.1.Ae,.int .i64 z.1.line,.int .i64 z.1.seq,.int .i64 z.1.uid,.int .i64 z.1.proc,z.2] 62)).cell? ((⟨w.heap.size,0,none⟩:Addr).add j)=some u:=by
 rw[Addr.add_lit,agn,World.cell?_alloc_new w _ _ j];simpa [DX] using h
theorem KF(n:Nat):Below w.heap.size w (w.drewN n):=⟨rfl,rfl,rfl,afI _,fun _ _=>rfl⟩
theorem Di{w':World}(h:BF w F X l)(hb:Below w.heap.size w w'):BF w' F X l:=h.keep (Af.Al hb (fun _=>False)) (fun _ _ _ _ q=>q) (fun _ q=>q)
theorem abN(h:BF w F X l):∃xa xn xc,X=.slice xa xn xc:=by
 rcases h with ⟨_,rfl⟩|⟨b,off,cap,aa,_,rfl,_⟩
 ·exact⟨_,_,_,rfl⟩
 ·exact⟨_,_,_,rfl⟩
theorem UG(k pr:Nat)(hk:k<3)(aa:pr<2)(h2:k=2->pr=0)(a b:Int)(ha:In64 a)(hb:In64 b):∃v,Fits (Hs k pr) v/\KM k pr=0/\∀w,Calls Tryz.prog 51 #[.int .i64 (k:Int),.int .i64 (pr:Int),.int .i64 a,.int .i64 b] w (Cz v w):=by
 have h3:(k=0/\pr=0)\/(k=0/\pr=1)\/(k=1/\pr=0)\/(k=1/\pr=1)\/(k=2/\pr=0):=by omega
 rcases h3 with ⟨rfl,rfl⟩|⟨rfl,rfl⟩|⟨rfl,rfl⟩|⟨rfl,rfl⟩|⟨rfl,rfl⟩
 ·obtain⟨v,h,q⟩:=ab3 a b ha;exact⟨v,h,rfl,q⟩
 ·obtain⟨v,h,q⟩:=ab4 a b ha;exact⟨v,h,rfl,q⟩
 ·obtain⟨v,h,q⟩:=ab5 a b ha;exact⟨v,h,rfl,q⟩
 ·obtain⟨v,h,q⟩:=ab6 a b ha;exact⟨v,h,rfl,q⟩
 ·obtain⟨v,h,q⟩:=ab7 a b ha hb;exact⟨v,h,rfl,q⟩
theorem RH{k:Nat}{pr:Int}(hk:k<3)(h:KM k pr=0):R.C6 k pr=some (Hs k pr,Ue k pr):=by
 have h3:k=0\/k=1\/k=2:=by omega
 unfold KM at h;rcases h3 with rfl|rfl|rfl
 ·by_cases a:pr=0
  ·subst a;rfl
  ·by_cases b:pr=1
   ·subst b;rfl
   ·simp[a,b]at h
 ·by_cases a:pr=0
  ·subst a;rfl
  ·by_cases b:pr=1
   ·subst b;rfl
   ·simp[a,b]at h
 ·by_cases a:pr=0
  ·subst a;rfl
  ·simp[a]at h
theorem Sy(w0:World)(q:RP)(p:Pl)(c:R.Cf)(s:RS)(G G':R.Wd)(w:World)(ci li kk k pr0:Nat)(a b prv sq st u aL:Int)(v:List V.It)(h:Au w0 q p c s G w)(hk:k<3)(ay:s.uid.length=3)(hu:s.uid[k]?=some u)(aE:s.seq[kk]?=some sq)(aJ:s.Ae[ci]?=some aL)(_:s.made.length<=3000000)
  (e3:IntKind.i64.wrap (3*(ci:Int))=3*(ci:Int)) (e4:IntKind.i64.wrap (3*(ci:Int)+(li:Int))=(kk:Int))
  (av:Hid (∀w,Calls Tryz.prog 27 #[.int .i64 b,.int .i64 2] w fun e w'=>e=.returned (.int .i64 (pr0:Int))/\w'=w)) (ap:((((k:Int)==2)=true)/\prv=0)\/((((k:Int)==2)=false)/\prv=(pr0:Int)))
  (aF:Hid (∀w,Calls Tryz.prog 51 #[.int .i64 (k:Int),.int .i64 prv,.int .i64 a,.int .i64 b] w (Cz v w)))
  (aw:Hid (∀w',Below w.heap.size w w'->Calls Tryz.prog 19 #[ptr q.x,.int .i64 (ci:Int),.int .i64 (li:Int)] w' fun e az=>(∃oa on oc,e=.returned (.tuple #[.agg #[.int .i64 st,.int .i64 sq,.slice oa on oc],.int .i64 0]))/\Below w'.heap.size w' az))
  (ax:Hid (∀w' W X,Below w.heap.size w w'->Below w'.heap.size w' W->BF W (fun k=>w.heap.size<=k) X v->Calls Tryz.prog 52 #[ptr q.x,.int .i64 (ci:Int),.int .i64 (li:Int),.int .i64 u,.int .i64 prv,X] W fun e az=>e=.returned (.tuple #[.int .i64 0,.int .i64 17])/\Au w0 q p c s G' az/\∀b,w'.heap.size<=b->b<W.heap.size->az.heap[b]?=W.heap[b]?)) (aG:st=1):
  Calls Tryz.prog 28 #[ptr q.r,.int .i64 (ci:Int),.int .i64 (li:Int),.int .i64 (k:Int),.int .i64 a,.int .i64 b] w fun e w'=>e=.returned (.bool true)/\Au w0 q p c s G' w':=by
 have HH:=Ac h;have aO:(k:Int)<3:=by omega
 have aI:=(afG.1 aE).1;have aN:(kk:Int)<(s.seq.length:Int):=by omega
 have aM:ci<s.Ae.length:=(afG.1 aJ).1;have aH:(ci:Int)<(s.Ae.length:Int):=by omega
 have c0:=h.cells.a0;have aK:(st==1)=true:=by simpa using aG
 clear aG;clear h;rcases ap with ⟨e2,aD⟩|⟨e2,aD⟩
 ·subst aD;go_enter Tryz.func28,Tryz.ntmps28;go_wp2_with (first|(go_at_call 27;refine((Aa av) _).mono ?_;clear av;rintro e w1 ⟨rfl,au⟩;rw[au];clear au))
  refine((Aa aF) _).mono ?_;rintro e w1 ⟨X,rfl,hI,al⟩;have d0:w1.cell? ⟨q.r,0,none⟩=some (ptr q.x):=((Aa HH).still al).cells.a0;have ai:=Ac al;have HI:=Ac hI;clear al hI;go_wp2_with fail
  refine((Aa aw) _ (Aa ai)).mono ?_;rintro e w2 ⟨⟨oa,on,oc,rfl⟩,am⟩;have ag:=(Aa ai).trans (am.mono (Aa ai).size);have an:=Ac (Di (Aa HI) am);have ab:=Ac ag;clear am ag;obtain⟨W2,af⟩:∃W2,w2.alloc (.cells #[.int .i64 st,.int .i64 sq,.slice oa on oc] 64)=W2:=⟨_,rfl⟩;have ak:Below w2.heap.size w2 W2:=by
   rw[<-af];exact(Below.refl _ _).alloc (afI _) _
  have ar:W2.heap.size=w2.heap.size+1:=by rw[<-af];simp
  have aj:=((Aa HH).still (Aa ab)).still ak;have x0:=aj.cells.a0;have x8:=aj.cells.a8;rw[ay]at x8;have xu:=aj.cells.u k _ hu;have HC:=Ac ((Aa ax) w2 W2.drew X (Aa ab) ak.drew (Di (Aa an) ak.drew));have ah:W2.heap[w2.heap.size]?=some (.cells #[.int .i64 st,.int .i64 sq,.slice oa on oc] 64 (0,0)):=by
   rw[<-af];exact heap_alloc_new w2 _
  have ad:=Ac ah;have aC:=Ac af;have aB:=Ac ar;clear ax HH aw HI ai d0 c0 ak aj af ah ar an;go_wp2_with fail
  rw[Aa aC];go_region_held3 (fun w'=>w'.cell? ⟨q.r,0,none⟩=some (ptr q.x)/\w'.cell? ⟨q.r,8,none⟩=some (.slice (some ⟨q.ud,0,none⟩) 3 3)/\w'.cell? ⟨q.ud,k,none⟩=some (.int .i64 u)) (go_keep) ((go_at_call 52;refine(Aa HC).mono ?_;rintro e w3 ⟨rfl,ae,aq⟩;have ao:=Ac aq;have y0:=ae.cells.a0;have y8:=ae.cells.a8;have yu:=ae.cells.u k _ hu;rw[ay]at y8;have ac:=Ac ae;clear aq ae))
  have aa:w3.heap[w2.heap.size]?=some (.cells #[.int .i64 st,.int .i64 sq,.slice oa on oc] 64 (0,0)):=((Aa ao) w2.heap.size (afI _) (by have:=Aa aB;simp;omega)).trans (Aa ad);have b0:w3.cell? ⟨w2.heap.size,0,none⟩=some (.int .i64 st):=cell_of aa 0 _ rfl;have b1:w3.cell? ⟨w2.heap.size,1,none⟩=some (.int .i64 sq):=cell_of aa 1 _ rfl;have y7:=(Aa ac).cells.a7;have ys:=(Aa ac).cells.sq kk _ aE;have yz:=(Aa ac).cells.zs kk;clear aa ao ad HC x0 x8 xu;have aA:=Ac (fun n=>(Aa ac).still (KF n));clear ac;go_wp2_with fail
  go_quiet (fail);go_wp2_with fail
  go_returns;exact⟨rfl,(Aa aA) _⟩
 ·subst aD;go_enter Tryz.func28,Tryz.ntmps28;go_wp2_with (first|(go_at_call 27;refine((Aa av) _).mono ?_;clear av;rintro e w1 ⟨rfl,au⟩;rw[au];clear au))
  refine((Aa aF) _).mono ?_;rintro e w1 ⟨X,rfl,hI,al⟩;have d0:w1.cell? ⟨q.r,0,none⟩=some (ptr q.x):=((Aa HH).still al).cells.a0;have ai:=Ac al;have HI:=Ac hI;clear al hI;go_wp2_with fail
  refine((Aa aw) _ (Aa ai)).mono ?_;rintro e w2 ⟨⟨oa,on,oc,rfl⟩,am⟩;have ag:=(Aa ai).trans (am.mono (Aa ai).size);have an:=Ac (Di (Aa HI) am);have ab:=Ac ag;clear am ag;obtain⟨W2,af⟩:∃W2,w2.alloc (.cells #[.int .i64 st,.int .i64 sq,.slice oa on oc] 64)=W2:=⟨_,rfl⟩;have ak:Below w2.heap.size w2 W2:=by
   rw[<-af];exact(Below.refl _ _).alloc (afI _) _
  have ar:W2.heap.size=w2.heap.size+1:=by rw[<-af];simp
  have aj:=((Aa HH).still (Aa ab)).still ak;have x0:=aj.cells.a0;have x8:=aj.cells.a8;rw[ay]at x8;have xu:=aj.cells.u k _ hu;have HC:=Ac ((Aa ax) w2 W2.drew X (Aa ab) ak.drew (Di (Aa an) ak.drew));have ah:W2.heap[w2.heap.size]?=some (.cells #[.int .i64 st,.int .i64 sq,.slice oa on oc] 64 (0,0)):=by
   rw[<-af];exact heap_alloc_new w2 _
  have ad:=Ac ah;have aC:=Ac af;have aB:=Ac ar;clear ax HH aw HI ai d0 c0 ak aj af ah ar an;go_wp2_with fail
  rw[Aa aC];go_region_held3 (fun w'=>w'.cell? ⟨q.r,0,none⟩=some (ptr q.x)/\w'.cell? ⟨q.r,8,none⟩=some (.slice (some ⟨q.ud,0,none⟩) 3 3)/\w'.cell? ⟨q.ud,k,none⟩=some (.int .i64 u)) (go_keep) ((go_at_call 52;refine(Aa HC).mono ?_;rintro e w3 ⟨rfl,ae,aq⟩;have ao:=Ac aq;have y0:=ae.cells.a0;have y8:=ae.cells.a8;have yu:=ae.cells.u k _ hu;rw[ay]at y8;have ac:=Ac ae;clear aq ae))
  have aa:w3.heap[w2.heap.size]?=some (.cells #[.int .i64 st,.int .i64 sq,.slice oa on oc] 64 (0,0)):=((Aa ao) w2.heap.size (afI _) (by have:=Aa aB;simp;omega)).trans (Aa ad);have b0:w3.cell? ⟨w2.heap.size,0,none⟩=some (.int .i64 st):=cell_of aa 0 _ rfl;have b1:w3.cell? ⟨w2.heap.size,1,none⟩=some (.int .i64 sq):=cell_of aa 1 _ rfl;have y7:=(Aa ac).cells.a7;have ys:=(Aa ac).cells.sq kk _ aE;have yz:=(Aa ac).cells.zs kk;clear aa ao ad HC x0 x8 xu;have aA:=Ac (fun n=>(Aa ac).still (KF n));clear ac;go_wp2_with fail
  go_quiet (fail);go_wp2_with fail
  go_returns;exact⟨rfl,(Aa aA) _⟩
theorem Qm(w0:World)(q:RP)(p:Pl)(c:R.Cf)(s:RS)(G G':R.Wd)(w:World)(ci li kk k pr0:Nat)(a b prv sq st u aL:Int)(v:List V.It)(h:Au w0 q p c s G w)(hk:k<3)(ay:s.uid.length=3)(hu:s.uid[k]?=some u)(aE:s.seq[kk]?=some sq)(aI:s.Ae[ci]?=some aL)(_:s.made.length<=3000000)
  (e3:IntKind.i64.wrap (3*(ci:Int))=3*(ci:Int)) (e4:IntKind.i64.wrap (3*(ci:Int)+(li:Int))=(kk:Int))
  (av:Hid (∀w,Calls Tryz.prog 27 #[.int .i64 b,.int .i64 2] w fun e w'=>e=.returned (.int .i64 (pr0:Int))/\w'=w)) (ap:((((k:Int)==2)=true)/\prv=0)\/((((k:Int)==2)=false)/\prv=(pr0:Int)))
  (aF:Hid (∀w,Calls Tryz.prog 51 #[.int .i64 (k:Int),.int .i64 prv,.int .i64 a,.int .i64 b] w (Cz v w)))
  (aw:Hid (∀w',Below w.heap.size w w'->Calls Tryz.prog 19 #[ptr q.x,.int .i64 (ci:Int),.int .i64 (li:Int)] w' fun e az=>(∃oa on oc,e=.returned (.tuple #[.agg #[.int .i64 st,.int .i64 sq,.slice oa on oc],.int .i64 0]))/\Below w'.heap.size w' az))
  (ax:Hid (∀w' W X,Below w.heap.size w w'->Below w'.heap.size w' W->BF W (fun k=>w.heap.size<=k) X v->Calls Tryz.prog 52 #[ptr q.x,.int .i64 (ci:Int),.int .i64 (li:Int),.int .i64 u,.int .i64 prv,X] W fun e az=>e=.returned (.tuple #[.int .i64 0,.int .i64 11])/\Au w0 q p c s G' az/\∀b,w'.heap.size<=b->b<W.heap.size->az.heap[b]?=W.heap[b]?)) (aJ:¬st=1) (h9:sq=999):
  Calls Tryz.prog 28 #[ptr q.r,.int .i64 (ci:Int),.int .i64 (li:Int),.int .i64 (k:Int),.int .i64 a,.int .i64 b] w fun e w'=>e=.returned (.bool true)/\Au w0 q p c s G' w':=by
 have HH:=Ac h;have aO:(k:Int)<3:=by omega
 have aH:=(afG.1 aE).1;have aN:(kk:Int)<(s.seq.length:Int):=by omega
 have aM:ci<s.Ae.length:=(afG.1 aI).1;have aG:(ci:Int)<(s.Ae.length:Int):=by omega
 have c0:=h.cells.a0;have aP:(sq==999)=true:=by simpa using h9
 have aK:(st==1)=false:=by simpa using aJ
 clear h9;clear h;rcases ap with ⟨e2,aD⟩|⟨e2,aD⟩
 ·subst aD;go_enter Tryz.func28,Tryz.ntmps28;go_wp2_with (first|(go_at_call 27;refine((Aa av) _).mono ?_;clear av;rintro e w1 ⟨rfl,au⟩;rw[au];clear au))
  refine((Aa aF) _).mono ?_;rintro e w1 ⟨X,rfl,hI,al⟩;have d0:w1.cell? ⟨q.r,0,none⟩=some (ptr q.x):=((Aa HH).still al).cells.a0;have ai:=Ac al;have HI:=Ac hI;clear al hI;go_wp2_with fail
  refine((Aa aw) _ (Aa ai)).mono ?_;rintro e w2 ⟨⟨oa,on,oc,rfl⟩,am⟩;have ag:=(Aa ai).trans (am.mono (Aa ai).size);have an:=Ac (Di (Aa HI) am);have ab:=Ac ag;clear am ag;obtain⟨W2,af⟩:∃W2,w2.alloc (.cells #[.int .i64 st,.int .i64 sq,.slice oa on oc] 64)=W2:=⟨_,rfl⟩;have ak:Below w2.heap.size w2 W2:=by
   rw[<-af];exact(Below.refl _ _).alloc (afI _) _
  have ar:W2.heap.size=w2.heap.size+1:=by rw[<-af];simp
  have aj:=((Aa HH).still (Aa ab)).still ak;have x0:=aj.cells.a0;have x8:=aj.cells.a8;rw[ay]at x8;have xu:=aj.cells.u k _ hu;have HC:=Ac ((Aa ax) w2 W2.drew X (Aa ab) ak.drew (Di (Aa an) ak.drew));have ah:W2.heap[w2.heap.size]?=some (.cells #[.int .i64 st,.int .i64 sq,.slice oa on oc] 64 (0,0)):=by
   rw[<-af];exact heap_alloc_new w2 _
  have ad:=Ac ah;have aC:=Ac af;have aB:=Ac ar;clear ax HH aw HI ai d0 c0 ak aj af ah ar an;go_wp2_with fail
  rw[Aa aC];go_region_held3 (fun w'=>w'.cell? ⟨q.r,0,none⟩=some (ptr q.x)/\w'.cell? ⟨q.r,8,none⟩=some (.slice (some ⟨q.ud,0,none⟩) 3 3)/\w'.cell? ⟨q.ud,k,none⟩=some (.int .i64 u)) (go_keep) ((go_at_call 52;refine(Aa HC).mono ?_;rintro e w3 ⟨rfl,ae,aq⟩;have ao:=Ac aq;have y0:=ae.cells.a0;have y8:=ae.cells.a8;have yu:=ae.cells.u k _ hu;rw[ay]at y8;have ac:=Ac ae;clear aq ae))
  have aa:w3.heap[w2.heap.size]?=some (.cells #[.int .i64 st,.int .i64 sq,.slice oa on oc] 64 (0,0)):=((Aa ao) w2.heap.size (afI _) (by have:=Aa aB;simp;omega)).trans (Aa ad);have b0:w3.cell? ⟨w2.heap.size,0,none⟩=some (.int .i64 st):=cell_of aa 0 _ rfl;have b1:w3.cell? ⟨w2.heap.size,1,none⟩=some (.int .i64 sq):=cell_of aa 1 _ rfl;have y7:=(Aa ac).cells.a7;have ys:=(Aa ac).cells.sq kk _ aE;have yz:=(Aa ac).cells.zs kk;clear aa ao ad HC x0 x8 xu;have aA:=Ac (fun n=>(Aa ac).still (KF n));clear ac;go_wp2_with fail
  go_quiet (fail);go_wp2_with fail
  go_returns;exact⟨rfl,(Aa aA) _⟩
 ·subst aD;go_enter Tryz.func28,Tryz.ntmps28;go_wp2_with (first|(go_at_call 27;refine((Aa av) _).mono ?_;clear av;rintro e w1 ⟨rfl,au⟩;rw[au];clear au))
  refine((Aa aF) _).mono ?_;rintro e w1 ⟨X,rfl,hI,al⟩;have d0:w1.cell? ⟨q.r,0,none⟩=some (ptr q.x):=((Aa HH).still al).cells.a0;have ai:=Ac al;have HI:=Ac hI;clear al hI;go_wp2_with fail
  refine((Aa aw) _ (Aa ai)).mono ?_;rintro e w2 ⟨⟨oa,on,oc,rfl⟩,am⟩;have ag:=(Aa ai).trans (am.mono (Aa ai).size);have an:=Ac (Di (Aa HI) am);have ab:=Ac ag;clear am ag;obtain⟨W2,af⟩:∃W2,w2.alloc (.cells #[.int .i64 st,.int .i64 sq,.slice oa on oc] 64)=W2:=⟨_,rfl⟩;have ak:Below w2.heap.size w2 W2:=by
   rw[<-af];exact(Below.refl _ _).alloc (afI _) _
  have ar:W2.heap.size=w2.heap.size+1:=by rw[<-af];simp
  have aj:=((Aa HH).still (Aa ab)).still ak;have x0:=aj.cells.a0;have x8:=aj.cells.a8;rw[ay]at x8;have xu:=aj.cells.u k _ hu;have HC:=Ac ((Aa ax) w2 W2.drew X (Aa ab) ak.drew (Di (Aa an) ak.drew));have ah:W2.heap[w2.heap.size]?=some (.cells #[.int .i64 st,.int .i64 sq,.slice oa on oc] 64 (0,0)):=by
   rw[<-af];exact heap_alloc_new w2 _
  have ad:=Ac ah;have aC:=Ac af;have aB:=Ac ar;clear ax HH aw HI ai d0 c0 ak aj af ah ar an;go_wp2_with fail
  rw[Aa aC];go_region_held3 (fun w'=>w'.cell? ⟨q.r,0,none⟩=some (ptr q.x)/\w'.cell? ⟨q.r,8,none⟩=some (.slice (some ⟨q.ud,0,none⟩) 3 3)/\w'.cell? ⟨q.ud,k,none⟩=some (.int .i64 u)) (go_keep) ((go_at_call 52;refine(Aa HC).mono ?_;rintro e w3 ⟨rfl,ae,aq⟩;have ao:=Ac aq;have y0:=ae.cells.a0;have y8:=ae.cells.a8;have yu:=ae.cells.u k _ hu;rw[ay]at y8;have ac:=Ac ae;clear aq ae))
  have aa:w3.heap[w2.heap.size]?=some (.cells #[.int .i64 st,.int .i64 sq,.slice oa on oc] 64 (0,0)):=((Aa ao) w2.heap.size (afI _) (by have:=Aa aB;simp;omega)).trans (Aa ad);have b0:w3.cell? ⟨w2.heap.size,0,none⟩=some (.int .i64 st):=cell_of aa 0 _ rfl;have b1:w3.cell? ⟨w2.heap.size,1,none⟩=some (.int .i64 sq):=cell_of aa 1 _ rfl;have y7:=(Aa ac).cells.a7;have ys:=(Aa ac).cells.sq kk _ aE;have yz:=(Aa ac).cells.zs kk;clear aa ao ad HC x0 x8 xu;have aA:=Ac (fun n=>(Aa ac).still (KF n));clear ac;go_wp2_with fail
  go_quiet (fail);go_wp2_with fail
  go_returns;exact⟨rfl,(Aa aA) _⟩
end Go.Proofs.YtblomippkddgiabGreatDoor
