import Derived.Test.YtblomippkddgiabGreatDoorJ30
set_option maxRecDepth 100000
set_option maxHeartbeats 900000
namespace Go.Proofs.YtblomippkddgiabGreatDoor
open Go.RowKit
theorem K7(w0:World)(q:RP)(p:Pl)(c:R.Cf)(s:RS)(G G':R.Wd)(w:World)(ci li kk k pr0:Nat)(a b prv sq st u ae:Int)(v:List V.It)(h:Au w0 q p c s G w)(hk:k<3)(aj:s.uid.length=3)(hu:s.uid[k]?=some u)(bc:s.seq[kk]?=some sq)(aC:s.Ae[ci]?=some ae)(bt:s.made.length<=3000000)
  (e3:IntKind.i64.wrap (3*(ci:Int))=3*(ci:Int)) (e4:IntKind.i64.wrap (3*(ci:Int)+(li:Int))=(kk:Int))
  (aV:Hid (∀w,Calls Tryz.prog 27 #[.int .i64 b,.int .i64 2] w fun e w'=>e=.returned (.int .i64 (pr0:Int))/\w'=w)) (aQ:((((k:Int)==2)=true)/\prv=0)\/((((k:Int)==2)=false)/\prv=(pr0:Int)))
  (aI:Hid (∀w,Calls Tryz.prog 51 #[.int .i64 (k:Int),.int .i64 prv,.int .i64 a,.int .i64 b] w (Cz v w)))
  (aW:Hid (∀w',Below w.heap.size w w'->Calls Tryz.prog 19 #[ptr q.x,.int .i64 (ci:Int),.int .i64 (li:Int)] w' fun e aY=>(∃oa on oc,e=.returned (.tuple #[.agg #[.int .i64 st,.int .i64 sq,.slice oa on oc],.int .i64 0]))/\Below w'.heap.size w' aY))
  (aX:Hid (∀w' W X,Below w.heap.size w w'->Below w'.heap.size w' W->BF W (fun k=>w.heap.size<=k) X v->Calls Tryz.prog 52 #[ptr q.x,.int .i64 (ci:Int),.int .i64 (li:Int),.int .i64 u,.int .i64 prv,X] W fun e aY=>e=.returned (.tuple #[.int .i64 (sq+1),.int .i64 0])/\Au w0 q p c s G' aY/\∀b,w'.heap.size<=b->b<W.heap.size->aY.heap[b]?=W.heap[b]?)) (bj:¬st=1) (bv:0<=sq/\sq<999):
  Calls Tryz.prog 28 #[ptr q.r,.int .i64 (ci:Int),.int .i64 (li:Int),.int .i64 (k:Int),.int .i64 a,.int .i64 b] w fun e w'=>e=.returned (.bool true)/\∃X M,Au w0 q p c {s with seq:=s.seq.set kk (sq+1),M:=M,made:=s.made++[(⟨ci,ae,li,sq+1,u,prv,v⟩,X)]} G' w':=by
 have HH:=Ac h;have br:(k:Int)<3:=by omega
 have aR:=(afG.1 bc).1;have bq:(kk:Int)<(s.seq.length:Int):=by omega
 have bp:ci<s.Ae.length:=(afG.1 aC).1;have bi:(ci:Int)<(s.Ae.length:Int):=by omega
 have c0:=h.cells.a0;have bl:(st==1)=false:=by simpa using bj
 have bu:(sq==999)=false:=by simp;omega
 have bw:IntKind.i64.wrap (sq+1)=sq+1:=by rw[IntKind.wrap_i64];omega
 clear h;rcases aQ with ⟨e2,ba⟩|⟨e2,ba⟩
 ·subst ba;go_enter Tryz.func28,Tryz.ntmps28;go_wp2_with (first|(go_at_call 27;refine((Aa aV) _).mono ?_;clear aV;rintro e w1 ⟨rfl,aU⟩;rw[aU];clear aU))
  refine((Aa aI) _).mono ?_;rintro e w1 ⟨X,rfl,hI,aF⟩;have d0:w1.cell? ⟨q.r,0,none⟩=some (ptr q.x):=((Aa HH).still aF).cells.a0;have ax:=Ac aF;have HI:=Ac hI;clear aF hI;go_wp2_with fail
  refine((Aa aW) _ (Aa ax)).mono ?_;rintro e w2 ⟨⟨oa,on,oc,rfl⟩,aG⟩;have ar:=(Aa ax).trans (aG.mono (Aa ax).size);have aL:=Ac (Di (Aa HI) aG);have al:=Ac ar;clear aG ar;obtain⟨W2,aq⟩:∃W2,w2.alloc (.cells #[.int .i64 st,.int .i64 sq,.slice oa on oc] 64)=W2:=⟨_,rfl⟩;have aB:Below w2.heap.size w2 W2:=by
   rw[<-aq];exact(Below.refl _ _).alloc (afI _) _
  have aT:W2.heap.size=w2.heap.size+1:=by rw[<-aq];simp
  have ay:=((Aa HH).still (Aa al)).still aB;have x0:=ay.cells.a0;have x8:=ay.cells.a8;rw[aj]at x8;have xu:=ay.cells.u k _ hu;have HC:=Ac ((Aa aX) w2 W2.drew X (Aa al) aB.drew (Di (Aa aL) aB.drew));have au:W2.heap[w2.heap.size]?=some (.cells #[.int .i64 st,.int .i64 sq,.slice oa on oc] 64 (0,0)):=by
   rw[<-aq];exact heap_alloc_new w2 _
  have an:=Ac au;have aO:=Ac aq;have aN:=Ac aT;clear aX HH aW HI ax d0 c0 aB ay aq au aT aL;go_wp2_with fail
  rw[Aa aO];go_region_held3 (fun w'=>w'.cell? ⟨q.r,0,none⟩=some (ptr q.x)/\w'.cell? ⟨q.r,8,none⟩=some (.slice (some ⟨q.ud,0,none⟩) 3 3)/\w'.cell? ⟨q.ud,k,none⟩=some (.int .i64 u)) (go_keep) ((go_at_call 52;refine(Aa HC).mono ?_;rintro e w3 ⟨rfl,ap,aS⟩;have aM:=Ac aS;have y0:=ap.cells.a0;have y8:=ap.cells.a8;have yu:=ap.cells.u k _ hu;rw[aj]at y8;have am:=Ac ap;clear aS ap))
  have af:w3.heap[w2.heap.size]?=some (.cells #[.int .i64 st,.int .i64 sq,.slice oa on oc] 64 (0,0)):=((Aa aM) w2.heap.size (afI _) (by have:=Aa aN;simp;omega)).trans (Aa an);have b0:w3.cell? ⟨w2.heap.size,0,none⟩=some (.int .i64 st):=cell_of af 0 _ rfl;have b1:w3.cell? ⟨w2.heap.size,1,none⟩=some (.int .i64 sq):=cell_of af 1 _ rfl;have y7:=(Aa am).cells.a7;have ys:=(Aa am).cells.sq kk _ bc;have yz:=(Aa am).cells.zs kk;clear af aM an HC x0 x8 xu;go_wp2_with fail
  go_quiet (fail);have aJ:=Ac (fun n=>((Aa am).still (KF n)).acA kk (sq+1));clear am;go_wp2_with fail
  refine FD (fun W=>Au w0 q p c {s with seq:=s.seq.set kk (sq+1)} G' W) ?_ ?_
  ·exact(Aa aJ) _
  ·clear aJ y0 y8 yu b0 b1 y7 ys yz aO aN;intro W4 ac;have z6:=ac.cells.a6;have z8:=ac.cells.a8;have z9:=ac.cells.a9;have zl:=ac.cells.lf ci ae aC;have zu:=ac.cells.u k _ hu;have zr:=ac.cells.EA;simp only at z6 z8 z9;rw[aj]at z8;have aH:=ac.run;obtain⟨tp,E,F,hr,b7⟩:=aH;have av:=hr.M;have bb:=AX av;obtain⟨ma,mc,az⟩:=bb;simp only at az av;rw[az]at z9 av;have b5:=Ac av;have ao:=Ac az;have aK:=Ac (ac.still (Below.refl _ _).drew);have ak:=Ac ((Aa aI) W4.drew);obtain⟨i0,hi,be,bf,bg⟩:=info_parts Yl;have b2:Hid (∀w5 wz o,Au w0 q p c {s with seq:=s.seq.set kk (sq+1)} G' w5->(w5.alloc o).grownBy wz (Value.slice ma s.made.length mc).ownBlock->wz.cell? ⟨q.r,6,none⟩=some (.slice (some ⟨q.lf,0,none⟩) s.Ae.length s.Ae.length)/\wz.cell? ⟨q.lf,ci,none⟩=some (.int .i64 ae)/\wz.cell? ⟨q.r,8,none⟩=some (.slice (some ⟨q.ud,0,none⟩) 3 3)/\wz.cell? ⟨q.ud,k,none⟩=some (.int .i64 u)/\wz.cell? ⟨q.r,9,none⟩=some (.slice ma s.made.length mc)/\wz.frozen? ⟨q.r,9,none⟩=false):=fun w5 wz o hB hg=>by
    obtain⟨tp,E,F,ah,_⟩:=hB.run;have aw:=ah.M;simp only at aw;rw[Aa ao]at aw;have e1:=DW hg ah.cell (AV aw ah.cell (by decide));have e2:=DW hg ah.lf (AV aw ah.lf (by decide));have e3:=DW hg ah.ud (AV aw ah.ud (by decide));refine⟨cell_of e1 6 _ rfl,AP e2 (Ew aC),?_,AP e3 (Ew hu),?_,open_list e1⟩
    ·have h8:wz.cell? ⟨q.r,8,none⟩=some (.slice (some ⟨q.ud,0,none⟩) s.uid.length s.uid.length):=cell_of e1 8 _ rfl;rw[aj]at h8;exact h8
    ·have h9:wz.cell? ⟨q.r,9,none⟩=some s.M:=cell_of e1 9 _ rfl;rw[Aa ao]at h9;exact h9
   clear hr b7 av az ac aI;refine WK.begin (S:=(fun w'=>w'.cell? ⟨q.r,6,none⟩=some (.slice (some ⟨q.lf,0,none⟩) s.Ae.length s.Ae.length)/\w'.cell? ⟨q.lf,ci,none⟩=some (.int .i64 ae)/\w'.cell? ⟨q.r,8,none⟩=some (.slice (some ⟨q.ud,0,none⟩) 3 3)/\w'.cell? ⟨q.ud,k,none⟩=some (.int .i64 u))) (T:=(fun w'=>w'.cell? ⟨q.r,9,none⟩=some (.slice ma s.made.length mc))) (k:=33) (by kernel_rfl) ?_ ?_ ?_
   ·exact⟨z6,zl,z8,zu⟩
   ·exact z9
   refine WK.take (i:=0) (v:=?_) rfl (by kernel_rfl) (by kernel_rfl) (by kernel_rfl) rfl (fun _ _ _ h=>h) (afJ ⟨by rfl,?_⟩) ?_;rotate_left
   ·intro w aa;try dsimp only at aa
    go_simp;try with_reducible rfl
   try simp only[Act.put,afK,afP,afQ,afO,afL]
   refine WK.take (i:=1) (v:=?_) rfl (by kernel_rfl) (by kernel_rfl) (by kernel_rfl) rfl (fun _ _ _ h=>h) (afJ ⟨by rfl,?_⟩) ?_;rotate_left
   ·intro w aa;try dsimp only at aa
    go_simp;try with_reducible rfl
   try simp only[Act.put,afK,afP,afQ,afO,afL,afN]
   refine WK.take (i:=2) (v:=?_) rfl (by kernel_rfl) (by kernel_rfl) (by kernel_rfl) rfl (fun _ _ _ h=>h) (afJ ⟨by rfl,?_⟩) ?_;rotate_left
   ·intro w aa;try dsimp only at aa
    go_simp;try with_reducible rfl
   try simp only[Act.put,afK,afP,afQ,afO,afL,afN]
   refine WK.take (i:=3) (v:=?_) rfl (by kernel_rfl) (by kernel_rfl) (by kernel_rfl) rfl (fun _ _ _ h=>h) (afJ ⟨by rfl,?_⟩) ?_;rotate_left
   ·intro w aa;try dsimp only at aa
    go_simp;try with_reducible rfl
   try simp only[Act.put,afK,afP,afQ,afO,afL,afN]
   refine WK.take2 (i:=4) (v:=?_) rfl (by kernel_rfl) (by kernel_rfl) (by kernel_rfl) rfl (.more (j:=30) (.of (by kernel_rfl)) (.of (by kernel_rfl))) (fun _ _ _ h=>h) (afJ ⟨by rfl,?_⟩) ?_;rotate_left
   ·intro w aa;try dsimp only at aa
    go_simp;try with_reducible rfl
   try simp only[Act.put,afK,afP,afQ,afO,afL,afN]
   refine WK.take (i:=5) (v:=?_) rfl (by kernel_rfl) (by kernel_rfl) (by kernel_rfl) rfl (fun _ _ _ h=>h) (afJ ⟨by rfl,?_⟩) ?_;rotate_left
   ·intro w aa;try dsimp only at aa
    go_simp;try with_reducible rfl
   try simp only[Act.put,afK,afP,afQ,afO,afL,afN]
   refine WK.take (i:=6) (v:=?_) rfl (by kernel_rfl) (by kernel_rfl) (by kernel_rfl) rfl (fun _ _ _ h=>h) (afJ ⟨by rfl,?_⟩) ?_;rotate_left
   ·intro w aa;try dsimp only at aa
    go_simp;try with_reducible rfl
   try simp only[Act.put,afK,afP,afQ,afO,afL,afN]
   refine WK.take (i:=7) (v:=?_) rfl (by kernel_rfl) (by kernel_rfl) (by kernel_rfl) rfl (fun _ _ _ h=>h) (afJ ⟨by rfl,?_⟩) ?_;rotate_left
   ·intro w aa;try dsimp only at aa
    go_simp;try with_reducible rfl
   try simp only[Act.put,afK,afP,afQ,afO,afL,afN]
   refine WK.take (i:=8) (v:=?_) rfl (by kernel_rfl) (by kernel_rfl) (by kernel_rfl) rfl (fun _ _ _ h=>h) (afJ ⟨by rfl,?_⟩) ?_;rotate_left
   ·intro w aa;try dsimp only at aa
    go_simp;try with_reducible rfl
   try simp only[Act.put,afK,afP,afQ,afO,afL,afN]
   refine WK.take (i:=9) (v:=?_) rfl (by kernel_rfl) (by kernel_rfl) (by kernel_rfl) rfl (fun _ _ _ h=>h) (afJ ⟨by rfl,?_⟩) ?_;rotate_left
   ·intro w aa;try dsimp only at aa
    go_simp;try with_reducible rfl
   try simp only[Act.put,afK,afP,afQ,afO,afL,afN]
   refine WK.take (i:=10) (v:=?_) rfl (by kernel_rfl) (by kernel_rfl) (by kernel_rfl) rfl (fun _ _ _ h=>h) (afJ ⟨by rfl,?_⟩) ?_;rotate_left
   ·intro w aa;try dsimp only at aa
    go_simp;try with_reducible rfl
   try simp only[Act.put,afK,afP,afQ,afO,afL,afN]
   refine WK.take (i:=11) (v:=?_) rfl (by kernel_rfl) (by kernel_rfl) (by kernel_rfl) rfl (fun _ _ _ h=>h) (afJ ⟨by rfl,?_⟩) ?_;rotate_left
   ·intro w aa;try dsimp only at aa
    go_simp;try with_reducible rfl
   try simp only[Act.put,afK,afP,afQ,afO,afL,afN]
   refine WK.take (i:=12) (v:=?_) rfl (by kernel_rfl) (by kernel_rfl) (by kernel_rfl) rfl (fun _ _ _ h=>h) (afJ ⟨by rfl,?_⟩) ?_;rotate_left
   ·intro w aa;try dsimp only at aa
    go_simp;try with_reducible rfl
   try simp only[Act.put,afK,afP,afQ,afO,afL,afN]
   refine WK.take (i:=13) (v:=?_) rfl (by kernel_rfl) (by kernel_rfl) (by kernel_rfl) rfl (fun _ _ _ h=>h) (afJ ⟨by rfl,?_⟩) ?_;rotate_left
   ·intro w aa;try dsimp only at aa
    go_simp;try with_reducible rfl
   try simp only[Act.put,afK,afP,afQ,afO,afL,afN]
   refine WK.take (i:=14) (v:=?_) rfl (by kernel_rfl) (by kernel_rfl) (by kernel_rfl) rfl (fun _ _ _ h=>h) (afJ ⟨by rfl,?_⟩) ?_;rotate_left
   ·intro w aa;try dsimp only at aa
    go_simp;try with_reducible rfl
   try simp only[Act.put,afK,afP,afQ,afO,afL,afN]
   refine WK.take (i:=15) (v:=?_) rfl (by kernel_rfl) (by kernel_rfl) (by kernel_rfl) rfl (fun _ _ _ h=>h) (afJ ⟨by rfl,?_⟩) ?_;rotate_left
   ·intro w aa;try dsimp only at aa
    go_simp;try with_reducible rfl
   try simp only[Act.put,afK,afP,afQ,afO,afL,afN]
   refine WK.take (i:=16) (v:=?_) rfl (by kernel_rfl) (by kernel_rfl) (by kernel_rfl) rfl (fun _ _ _ h=>h) (afJ ⟨by rfl,?_⟩) ?_;rotate_left
   ·intro w aa;try dsimp only at aa
    go_simp;try with_reducible rfl
   try simp only[Act.put,afK,afP,afQ,afO,afL,afN]
   refine WK.take (i:=17) (v:=?_) rfl (by kernel_rfl) (by kernel_rfl) (by kernel_rfl) rfl (fun _ _ _ h=>h) (afJ ⟨by rfl,?_⟩) ?_;rotate_left
   ·intro w aa;try dsimp only at aa
    go_simp;try with_reducible rfl
   try simp only[Act.put,afK,afP,afQ,afO,afL,afN]
   refine WK.take (i:=18) (v:=?_) rfl (by kernel_rfl) (by kernel_rfl) (by kernel_rfl) rfl (fun _ _ _ h=>h) (afJ ⟨by rfl,?_⟩) ?_;rotate_left
   ·intro w aa;try dsimp only at aa
    go_simp;try with_reducible rfl
   try simp only[Act.put,afK,afP,afQ,afO,afL,afN]
   refine WK.take (i:=19) (v:=?_) rfl (by kernel_rfl) (by kernel_rfl) (by kernel_rfl) rfl (fun _ _ _ h=>h) (afJ ⟨by rfl,?_⟩) ?_;rotate_left
   ·intro w aa;try dsimp only at aa
    go_simp;try with_reducible rfl
   try simp only[Act.put,afK,afP,afQ,afO,afL,afN]
   refine WK.take (i:=20) (v:=?_) rfl (by kernel_rfl) (by kernel_rfl) (by kernel_rfl) rfl (fun _ _ _ h=>h) (afJ ⟨by rfl,?_⟩) ?_;rotate_left
   ·intro w aa;try dsimp only at aa
    go_simp;try with_reducible rfl
   try simp only[Act.put,afK,afP,afQ,afO,afL,afN]
   refine WK.take (i:=21) (v:=?_) rfl (by kernel_rfl) (by kernel_rfl) (by kernel_rfl) rfl (fun _ _ _ h=>h) (afJ ⟨by rfl,?_⟩) ?_;rotate_left
   ·intro w aa;try dsimp only at aa
    go_simp;try with_reducible rfl
   try simp only[Act.put,afK,afP,afQ,afO,afL,afN]
   refine WK.take (i:=22) (v:=?_) rfl (by kernel_rfl) (by kernel_rfl) (by kernel_rfl) rfl (fun _ _ _ h=>h) (afJ ⟨by rfl,?_⟩) ?_;rotate_left
   ·intro w aa;try dsimp only at aa
    go_simp;try with_reducible rfl
   try simp only[Act.put,afK,afP,afQ,afO,afL,afN]
   refine WK.take (i:=23) (v:=?_) rfl (by kernel_rfl) (by kernel_rfl) (by kernel_rfl) rfl (fun _ _ _ h=>h) (afJ ⟨by rfl,?_⟩) ?_;rotate_left
   ·intro w aa;try dsimp only at aa
    go_simp;try with_reducible rfl
   try simp only[Act.put,afK,afP,afQ,afO,afL,afN]
   refine WK.take (i:=24) (v:=?_) rfl (by kernel_rfl) (by kernel_rfl) (by kernel_rfl) rfl (fun _ _ _ h=>h) (afJ ⟨by rfl,?_⟩) ?_;rotate_left
   ·intro w aa;try dsimp only at aa
    go_simp;try with_reducible rfl
   try simp only[Act.put,afK,afP,afQ,afO,afL,afN]
   refine WK.take (i:=25) (v:=?_) rfl (by kernel_rfl) (by kernel_rfl) (by kernel_rfl) rfl (fun _ _ _ h=>h) (afJ ⟨by rfl,?_⟩) ?_;rotate_left
   ·intro w aa;try dsimp only at aa
    go_simp;try with_reducible rfl
   try simp only[Act.put,afK,afP,afQ,afO,afL,afN]
   refine WK.take (i:=26) (v:=?_) rfl (by kernel_rfl) (by kernel_rfl) (by kernel_rfl) rfl (fun _ _ _ h=>h) (afJ ⟨by rfl,?_⟩) ?_;rotate_left
   ·intro w aa;try dsimp only at aa
    go_simp;try with_reducible rfl
   try simp only[Act.put,afK,afP,afQ,afO,afL,afN]
   refine WK.one (i:=27) (by kernel_rfl) rfl (fun K hK=>?_);go_simp
   (go_at_call 51;refine(Aa ak).mono ?_;clear ak;rintro e w5 ⟨X2,rfl,aE,aA⟩;have ad:=(Aa aK).still aA;have s6:=ad.cells.a6;have s8:=ad.cells.a8;have s9:=ad.cells.a9;have bo:=ad.cells.z 9;have sl:=ad.cells.lf ci ae aC;have su:=ad.cells.u k _ hu;have sr:=ad.cells.EA;simp only at s6 s8 s9;rw[aj]at s8;rw[Aa ao]at s9;obtain⟨xa,xn,xc,hX⟩:=abN aE;subst hX;have b3:=Ac aE;have b6:=Ac aA;have aZ:=Ac ad;have b4:=Ac (Bu (Aa b5) (D7 aA));clear aE ad aA)
   go_wp2_with fail
   refine hK.out _ _ ⟨s6,sl,s8,su⟩ s9 ?_;clear hK K;try simp only[Act.put,afK,afP,afQ,afO,afL,afN]
   refine WK.take (i:=28) (v:=?_) rfl (by kernel_rfl) (by kernel_rfl) (by kernel_rfl) rfl (fun _ _ _ h=>h) (afJ ⟨by rfl,?_⟩) ?_;rotate_left
   ·intro w aa;try dsimp only at aa
    go_simp;try with_reducible rfl
   try simp only[Act.put,afK,afP,afQ,afO,afL,afN]
   refine WK.one (i:=29) (by kernel_rfl) rfl (fun K hK=>?_);go_simp;refine hK.out _ _ (by go_keep) (by go_keep) ?_;clear hK K;try simp only[Act.put,afK,afP,afQ,afO,afL,afN]
   refine WK.one (i:=30) (by kernel_rfl) rfl (fun K hK=>?_)
   (refine Bp rfl (.tmp 112) (.tmp 137) 30 rfl 0 62 i0 (.agg #[.int .i64 0,.int .i64 0,.int .i64 0,.int .i64 0,.int .i64 0,.int .i64 0,.slice none 0 0]) 7 72 Tryz.underlying30 hi be bf bg rfl (by decide) (.slice ma s.made.length mc) s.made.length (tab DX s.made) rfl (by exact(Aa b4).alloc _) ⟨w5.heap.size,0,none⟩ 1 1 (DX (⟨ci,ae,li,sq+1,u,0,v⟩,.slice xa xn xc)) rfl rfl (by exact Y9 w5 _) (by simp[Value.oneCell',DX]) (by unfold maxLen;omega) (by omega) (by omega) ?_;intro v' wz ag ab aP;obtain⟨va,vn,vc,bd⟩:=Ar ag;subst bd;have ai:=(Aa aK).abP (Aa b6) (M':=.slice va vn vc) (m:=⟨ci,ae,li,sq+1,u,0,v⟩) (Aa b3) ag (by rw[show _=(Value.slice ma s.made.length mc) from Aa ao];exact ab) (by rw[show _=(Value.slice ma s.made.length mc) from Aa ao];exact Ij (by simpa using aP));have t6:=ai.cells.a6;have t8:=ai.cells.a8;have tl:=ai.cells.lf ci ae aC;have tu:=ai.cells.u k _ hu;simp only at t6 t8;rw[aj]at t8;have aD:=Ac ai;have b9:=(Aa b2) _ _ _ (Aa aZ) ab;obtain⟨g6,gl,g8,gu,g9,bh⟩:=b9;clear ai ag ab aP)
   refine hK.out _ _ ⟨g6,gl,g8,gu⟩ g9 ?_;clear hK K;try simp only[Act.put,afK,afP,afQ,afO,afL,afN]
   refine WK.take (i:=31) (v:=?_) rfl (by kernel_rfl) (by kernel_rfl) (by kernel_rfl) rfl (fun _ _ _ h=>h) (afJ ⟨by rfl,?_⟩) ?_;rotate_left
   ·intro w aa;try dsimp only at aa
    go_simp;try with_reducible rfl
   try simp only[Act.put,afK,afP,afQ,afO,afL,afN]
   refine WK.take (i:=32) (v:=?_) rfl (by kernel_rfl) (by kernel_rfl) (by kernel_rfl) rfl (fun _ _ _ h=>h) (afJ ⟨by rfl,?_⟩) ?_;rotate_left
   ·intro w aa;try dsimp only at aa
    go_simp;try with_reducible rfl
   try simp only[Act.put,afK,afP,afQ,afO,afL,afN]
   refine WK.store (by kernel_rfl) rfl (fun K hK=>?_);go_simp;refine hK.out _ _ (by go_keep) ?_;clear hK K;try simp only[Act.put,afK,afP,afQ,afO,afL,afN]
   refine WK.done (by kernel_rfl) ?_;have t7:=(Aa aD).cells.a7;have ts:=(Aa aD).cells.sq kk (sq+1) (by simp[aR]);simp only[agq]at t7;go_wp2_with fail
   go_returns;exact⟨rfl,_,_,Aa aD⟩
 ·subst ba;go_enter Tryz.func28,Tryz.ntmps28;go_wp2_with (first|(go_at_call 27;refine((Aa aV) _).mono ?_;clear aV;rintro e w1 ⟨rfl,aU⟩;rw[aU];clear aU))
  refine((Aa aI) _).mono ?_;rintro e w1 ⟨X,rfl,hI,aF⟩;have d0:w1.cell? ⟨q.r,0,none⟩=some (ptr q.x):=((Aa HH).still aF).cells.a0;have ax:=Ac aF;have HI:=Ac hI;clear aF hI;go_wp2_with fail
  refine((Aa aW) _ (Aa ax)).mono ?_;rintro e w2 ⟨⟨oa,on,oc,rfl⟩,aG⟩;have ar:=(Aa ax).trans (aG.mono (Aa ax).size);have aL:=Ac (Di (Aa HI) aG);have al:=Ac ar;clear aG ar;obtain⟨W2,aq⟩:∃W2,w2.alloc (.cells #[.int .i64 st,.int .i64 sq,.slice oa on oc] 64)=W2:=⟨_,rfl⟩;have aB:Below w2.heap.size w2 W2:=by
   rw[<-aq];exact(Below.refl _ _).alloc (afI _) _
  have aT:W2.heap.size=w2.heap.size+1:=by rw[<-aq];simp
  have ay:=((Aa HH).still (Aa al)).still aB;have x0:=ay.cells.a0;have x8:=ay.cells.a8;rw[aj]at x8;have xu:=ay.cells.u k _ hu;have HC:=Ac ((Aa aX) w2 W2.drew X (Aa al) aB.drew (Di (Aa aL) aB.drew));have au:W2.heap[w2.heap.size]?=some (.cells #[.int .i64 st,.int .i64 sq,.slice oa on oc] 64 (0,0)):=by
   rw[<-aq];exact heap_alloc_new w2 _
  have an:=Ac au;have aO:=Ac aq;have aN:=Ac aT;clear aX HH aW HI ax d0 c0 aB ay aq au aT aL;go_wp2_with fail
  rw[Aa aO];go_region_held3 (fun w'=>w'.cell? ⟨q.r,0,none⟩=some (ptr q.x)/\w'.cell? ⟨q.r,8,none⟩=some (.slice (some ⟨q.ud,0,none⟩) 3 3)/\w'.cell? ⟨q.ud,k,none⟩=some (.int .i64 u)) (go_keep) ((go_at_call 52;refine(Aa HC).mono ?_;rintro e w3 ⟨rfl,ap,aS⟩;have aM:=Ac aS;have y0:=ap.cells.a0;have y8:=ap.cells.a8;have yu:=ap.cells.u k _ hu;rw[aj]at y8;have am:=Ac ap;clear aS ap))
  have af:w3.heap[w2.heap.size]?=some (.cells #[.int .i64 st,.int .i64 sq,.slice oa on oc] 64 (0,0)):=((Aa aM) w2.heap.size (afI _) (by have:=Aa aN;simp;omega)).trans (Aa an);have b0:w3.cell? ⟨w2.heap.size,0,none⟩=some (.int .i64 st):=cell_of af 0 _ rfl;have b1:w3.cell? ⟨w2.heap.size,1,none⟩=some (.int .i64 sq):=cell_of af 1 _ rfl;have y7:=(Aa am).cells.a7;have ys:=(Aa am).cells.sq kk _ bc;have yz:=(Aa am).cells.zs kk;clear af aM an HC x0 x8 xu;go_wp2_with fail
  go_quiet (fail);have aJ:=Ac (fun n=>((Aa am).still (KF n)).acA kk (sq+1));clear am;go_wp2_with fail
  refine FD (fun W=>Au w0 q p c {s with seq:=s.seq.set kk (sq+1)} G' W) ?_ ?_
  ·exact(Aa aJ) _
  ·clear aJ y0 y8 yu b0 b1 y7 ys yz aO aN;intro W4 ac;have z6:=ac.cells.a6;have z8:=ac.cells.a8;have z9:=ac.cells.a9;have zl:=ac.cells.lf ci ae aC;have zu:=ac.cells.u k _ hu;have zr:=ac.cells.EA;simp only at z6 z8 z9;rw[aj]at z8;have aH:=ac.run;obtain⟨tp,E,F,hr,b7⟩:=aH;have av:=hr.M;have bb:=AX av;obtain⟨ma,mc,az⟩:=bb;simp only at az av;rw[az]at z9 av;have b5:=Ac av;have ao:=Ac az;have aK:=Ac (ac.still (Below.refl _ _).drew);have ak:=Ac ((Aa aI) W4.drew);obtain⟨i0,hi,be,bf,bg⟩:=info_parts Yl;have b2:Hid (∀w5 wz o,Au w0 q p c {s with seq:=s.seq.set kk (sq+1)} G' w5->(w5.alloc o).grownBy wz (Value.slice ma s.made.length mc).ownBlock->wz.cell? ⟨q.r,6,none⟩=some (.slice (some ⟨q.lf,0,none⟩) s.Ae.length s.Ae.length)/\wz.cell? ⟨q.lf,ci,none⟩=some (.int .i64 ae)/\wz.cell? ⟨q.r,8,none⟩=some (.slice (some ⟨q.ud,0,none⟩) 3 3)/\wz.cell? ⟨q.ud,k,none⟩=some (.int .i64 u)/\wz.cell? ⟨q.r,9,none⟩=some (.slice ma s.made.length mc)/\wz.frozen? ⟨q.r,9,none⟩=false):=fun w5 wz o hB hg=>by
    obtain⟨tp,E,F,ah,_⟩:=hB.run;have aw:=ah.M;simp only at aw;rw[Aa ao]at aw;have e1:=DW hg ah.cell (AV aw ah.cell (by decide));have e2:=DW hg ah.lf (AV aw ah.lf (by decide));have e3:=DW hg ah.ud (AV aw ah.ud (by decide));refine⟨cell_of e1 6 _ rfl,AP e2 (Ew aC),?_,AP e3 (Ew hu),?_,open_list e1⟩
    ·have h8:wz.cell? ⟨q.r,8,none⟩=some (.slice (some ⟨q.ud,0,none⟩) s.uid.length s.uid.length):=cell_of e1 8 _ rfl;rw[aj]at h8;exact h8
    ·have h9:wz.cell? ⟨q.r,9,none⟩=some s.M:=cell_of e1 9 _ rfl;rw[Aa ao]at h9;exact h9
   clear hr b7 av az ac aI;refine WK.begin (S:=(fun w'=>w'.cell? ⟨q.r,6,none⟩=some (.slice (some ⟨q.lf,0,none⟩) s.Ae.length s.Ae.length)/\w'.cell? ⟨q.lf,ci,none⟩=some (.int .i64 ae)/\w'.cell? ⟨q.r,8,none⟩=some (.slice (some ⟨q.ud,0,none⟩) 3 3)/\w'.cell? ⟨q.ud,k,none⟩=some (.int .i64 u))) (T:=(fun w'=>w'.cell? ⟨q.r,9,none⟩=some (.slice ma s.made.length mc))) (k:=33) (by kernel_rfl) ?_ ?_ ?_
   ·exact⟨z6,zl,z8,zu⟩
   ·exact z9
   refine WK.take (i:=0) (v:=?_) rfl (by kernel_rfl) (by kernel_rfl) (by kernel_rfl) rfl (fun _ _ _ h=>h) (afJ ⟨by rfl,?_⟩) ?_;rotate_left
   ·intro w aa;try dsimp only at aa
    go_simp;try with_reducible rfl
   try simp only[Act.put,afK,afP,afQ,afO,afL]
   refine WK.take (i:=1) (v:=?_) rfl (by kernel_rfl) (by kernel_rfl) (by kernel_rfl) rfl (fun _ _ _ h=>h) (afJ ⟨by rfl,?_⟩) ?_;rotate_left
   ·intro w aa;try dsimp only at aa
    go_simp;try with_reducible rfl
   try simp only[Act.put,afK,afP,afQ,afO,afL,afN]
   refine WK.take (i:=2) (v:=?_) rfl (by kernel_rfl) (by kernel_rfl) (by kernel_rfl) rfl (fun _ _ _ h=>h) (afJ ⟨by rfl,?_⟩) ?_;rotate_left
   ·intro w aa;try dsimp only at aa
    go_simp;try with_reducible rfl
   try simp only[Act.put,afK,afP,afQ,afO,afL,afN]
   refine WK.take (i:=3) (v:=?_) rfl (by kernel_rfl) (by kernel_rfl) (by kernel_rfl) rfl (fun _ _ _ h=>h) (afJ ⟨by rfl,?_⟩) ?_;rotate_left
   ·intro w aa;try dsimp only at aa
    go_simp;try with_reducible rfl
   try simp only[Act.put,afK,afP,afQ,afO,afL,afN]
   refine WK.take2 (i:=4) (v:=?_) rfl (by kernel_rfl) (by kernel_rfl) (by kernel_rfl) rfl (.more (j:=30) (.of (by kernel_rfl)) (.of (by kernel_rfl))) (fun _ _ _ h=>h) (afJ ⟨by rfl,?_⟩) ?_;rotate_left
   ·intro w aa;try dsimp only at aa
    go_simp;try with_reducible rfl
   try simp only[Act.put,afK,afP,afQ,afO,afL,afN]
   refine WK.take (i:=5) (v:=?_) rfl (by kernel_rfl) (by kernel_rfl) (by kernel_rfl) rfl (fun _ _ _ h=>h) (afJ ⟨by rfl,?_⟩) ?_;rotate_left
   ·intro w aa;try dsimp only at aa
    go_simp;try with_reducible rfl
   try simp only[Act.put,afK,afP,afQ,afO,afL,afN]
   refine WK.take (i:=6) (v:=?_) rfl (by kernel_rfl) (by kernel_rfl) (by kernel_rfl) rfl (fun _ _ _ h=>h) (afJ ⟨by rfl,?_⟩) ?_;rotate_left
   ·intro w aa;try dsimp only at aa
    go_simp;try with_reducible rfl
   try simp only[Act.put,afK,afP,afQ,afO,afL,afN]
   refine WK.take (i:=7) (v:=?_) rfl (by kernel_rfl) (by kernel_rfl) (by kernel_rfl) rfl (fun _ _ _ h=>h) (afJ ⟨by rfl,?_⟩) ?_;rotate_left
   ·intro w aa;try dsimp only at aa
    go_simp;try with_reducible rfl
   try simp only[Act.put,afK,afP,afQ,afO,afL,afN]
   refine WK.take (i:=8) (v:=?_) rfl (by kernel_rfl) (by kernel_rfl) (by kernel_rfl) rfl (fun _ _ _ h=>h) (afJ ⟨by rfl,?_⟩) ?_;rotate_left
   ·intro w aa;try dsimp only at aa
    go_simp;try with_reducible rfl
   try simp only[Act.put,afK,afP,afQ,afO,afL,afN]
   refine WK.take (i:=9) (v:=?_) rfl (by kernel_rfl) (by kernel_rfl) (by kernel_rfl) rfl (fun _ _ _ h=>h) (afJ ⟨by rfl,?_⟩) ?_;rotate_left
   ·intro w aa;try dsimp only at aa
    go_simp;try with_reducible rfl
   try simp only[Act.put,afK,afP,afQ,afO,afL,afN]
   refine WK.take (i:=10) (v:=?_) rfl (by kernel_rfl) (by kernel_rfl) (by kernel_rfl) rfl (fun _ _ _ h=>h) (afJ ⟨by rfl,?_⟩) ?_;rotate_left
   ·intro w aa;try dsimp only at aa
    go_simp;try with_reducible rfl
   try simp only[Act.put,afK,afP,afQ,afO,afL,afN]
   refine WK.take (i:=11) (v:=?_) rfl (by kernel_rfl) (by kernel_rfl) (by kernel_rfl) rfl (fun _ _ _ h=>h) (afJ ⟨by rfl,?_⟩) ?_;rotate_left
   ·intro w aa;try dsimp only at aa
    go_simp;try with_reducible rfl
   try simp only[Act.put,afK,afP,afQ,afO,afL,afN]
   refine WK.take (i:=12) (v:=?_) rfl (by kernel_rfl) (by kernel_rfl) (by kernel_rfl) rfl (fun _ _ _ h=>h) (afJ ⟨by rfl,?_⟩) ?_;rotate_left
   ·intro w aa;try dsimp only at aa
    go_simp;try with_reducible rfl
   try simp only[Act.put,afK,afP,afQ,afO,afL,afN]
   refine WK.take (i:=13) (v:=?_) rfl (by kernel_rfl) (by kernel_rfl) (by kernel_rfl) rfl (fun _ _ _ h=>h) (afJ ⟨by rfl,?_⟩) ?_;rotate_left
   ·intro w aa;try dsimp only at aa
    go_simp;try with_reducible rfl
   try simp only[Act.put,afK,afP,afQ,afO,afL,afN]
   refine WK.take (i:=14) (v:=?_) rfl (by kernel_rfl) (by kernel_rfl) (by kernel_rfl) rfl (fun _ _ _ h=>h) (afJ ⟨by rfl,?_⟩) ?_;rotate_left
   ·intro w aa;try dsimp only at aa
    go_simp;try with_reducible rfl
   try simp only[Act.put,afK,afP,afQ,afO,afL,afN]
   refine WK.take (i:=15) (v:=?_) rfl (by kernel_rfl) (by kernel_rfl) (by kernel_rfl) rfl (fun _ _ _ h=>h) (afJ ⟨by rfl,?_⟩) ?_;rotate_left
   ·intro w aa;try dsimp only at aa
    go_simp;try with_reducible rfl
   try simp only[Act.put,afK,afP,afQ,afO,afL,afN]
   refine WK.take (i:=16) (v:=?_) rfl (by kernel_rfl) (by kernel_rfl) (by kernel_rfl) rfl (fun _ _ _ h=>h) (afJ ⟨by rfl,?_⟩) ?_;rotate_left
   ·intro w aa;try dsimp only at aa
    go_simp;try with_reducible rfl
   try simp only[Act.put,afK,afP,afQ,afO,afL,afN]
   refine WK.take (i:=17) (v:=?_) rfl (by kernel_rfl) (by kernel_rfl) (by kernel_rfl) rfl (fun _ _ _ h=>h) (afJ ⟨by rfl,?_⟩) ?_;rotate_left
   ·intro w aa;try dsimp only at aa
    go_simp;try with_reducible rfl
   try simp only[Act.put,afK,afP,afQ,afO,afL,afN]
   refine WK.take (i:=18) (v:=?_) rfl (by kernel_rfl) (by kernel_rfl) (by kernel_rfl) rfl (fun _ _ _ h=>h) (afJ ⟨by rfl,?_⟩) ?_;rotate_left
   ·intro w aa;try dsimp only at aa
    go_simp;try with_reducible rfl
   try simp only[Act.put,afK,afP,afQ,afO,afL,afN]
   refine WK.take (i:=19) (v:=?_) rfl (by kernel_rfl) (by kernel_rfl) (by kernel_rfl) rfl (fun _ _ _ h=>h) (afJ ⟨by rfl,?_⟩) ?_;rotate_left
   ·intro w aa;try dsimp only at aa
    go_simp;try with_reducible rfl
   try simp only[Act.put,afK,afP,afQ,afO,afL,afN]
   refine WK.take (i:=20) (v:=?_) rfl (by kernel_rfl) (by kernel_rfl) (by kernel_rfl) rfl (fun _ _ _ h=>h) (afJ ⟨by rfl,?_⟩) ?_;rotate_left
   ·intro w aa;try dsimp only at aa
    go_simp;try with_reducible rfl
   try simp only[Act.put,afK,afP,afQ,afO,afL,afN]
   refine WK.take (i:=21) (v:=?_) rfl (by kernel_rfl) (by kernel_rfl) (by kernel_rfl) rfl (fun _ _ _ h=>h) (afJ ⟨by rfl,?_⟩) ?_;rotate_left
   ·intro w aa;try dsimp only at aa
    go_simp;try with_reducible rfl
   try simp only[Act.put,afK,afP,afQ,afO,afL,afN]
   refine WK.take (i:=22) (v:=?_) rfl (by kernel_rfl) (by kernel_rfl) (by kernel_rfl) rfl (fun _ _ _ h=>h) (afJ ⟨by rfl,?_⟩) ?_;rotate_left
   ·intro w aa;try dsimp only at aa
    go_simp;try with_reducible rfl
   try simp only[Act.put,afK,afP,afQ,afO,afL,afN]
   refine WK.take (i:=23) (v:=?_) rfl (by kernel_rfl) (by kernel_rfl) (by kernel_rfl) rfl (fun _ _ _ h=>h) (afJ ⟨by rfl,?_⟩) ?_;rotate_left
   ·intro w aa;try dsimp only at aa
    go_simp;try with_reducible rfl
   try simp only[Act.put,afK,afP,afQ,afO,afL,afN]
   refine WK.take (i:=24) (v:=?_) rfl (by kernel_rfl) (by kernel_rfl) (by kernel_rfl) rfl (fun _ _ _ h=>h) (afJ ⟨by rfl,?_⟩) ?_;rotate_left
   ·intro w aa;try dsimp only at aa
    go_simp;try with_reducible rfl
   try simp only[Act.put,afK,afP,afQ,afO,afL,afN]
   refine WK.take (i:=25) (v:=?_) rfl (by kernel_rfl) (by kernel_rfl) (by kernel_rfl) rfl (fun _ _ _ h=>h) (afJ ⟨by rfl,?_⟩) ?_;rotate_left
   ·intro w aa;try dsimp only at aa
    go_simp;try with_reducible rfl
   try simp only[Act.put,afK,afP,afQ,afO,afL,afN]
   refine WK.take (i:=26) (v:=?_) rfl (by kernel_rfl) (by kernel_rfl) (by kernel_rfl) rfl (fun _ _ _ h=>h) (afJ ⟨by rfl,?_⟩) ?_;rotate_left
   ·intro w aa;try dsimp only at aa
    go_simp;try with_reducible rfl
   try simp only[Act.put,afK,afP,afQ,afO,afL,afN]
   refine WK.one (i:=27) (by kernel_rfl) rfl (fun K hK=>?_);go_simp
   (go_at_call 51;refine(Aa ak).mono ?_;clear ak;rintro e w5 ⟨X2,rfl,aE,aA⟩;have ad:=(Aa aK).still aA;have s6:=ad.cells.a6;have s8:=ad.cells.a8;have s9:=ad.cells.a9;have bo:=ad.cells.z 9;have sl:=ad.cells.lf ci ae aC;have su:=ad.cells.u k _ hu;have sr:=ad.cells.EA;simp only at s6 s8 s9;rw[aj]at s8;rw[Aa ao]at s9;obtain⟨xa,xn,xc,hX⟩:=abN aE;subst hX;have b3:=Ac aE;have b6:=Ac aA;have aZ:=Ac ad;have b4:=Ac (Bu (Aa b5) (D7 aA));clear aE ad aA)
   go_wp2_with fail
   refine hK.out _ _ ⟨s6,sl,s8,su⟩ s9 ?_;clear hK K;try simp only[Act.put,afK,afP,afQ,afO,afL,afN]
   refine WK.take (i:=28) (v:=?_) rfl (by kernel_rfl) (by kernel_rfl) (by kernel_rfl) rfl (fun _ _ _ h=>h) (afJ ⟨by rfl,?_⟩) ?_;rotate_left
   ·intro w aa;try dsimp only at aa
    go_simp;try with_reducible rfl
   try simp only[Act.put,afK,afP,afQ,afO,afL,afN]
   refine WK.one (i:=29) (by kernel_rfl) rfl (fun K hK=>?_);go_simp;refine hK.out _ _ (by go_keep) (by go_keep) ?_;clear hK K;try simp only[Act.put,afK,afP,afQ,afO,afL,afN]
   refine WK.one (i:=30) (by kernel_rfl) rfl (fun K hK=>?_)
   (refine Bp rfl (.tmp 112) (.tmp 137) 30 rfl 0 62 i0 (.agg #[.int .i64 0,.int .i64 0,.int .i64 0,.int .i64 0,.int .i64 0,.int .i64 0,.slice none 0 0]) 7 72 Tryz.underlying30 hi be bf bg rfl (by decide) (.slice ma s.made.length mc) s.made.length (tab DX s.made) rfl (by exact(Aa b4).alloc _) ⟨w5.heap.size,0,none⟩ 1 1 (DX (⟨ci,ae,li,sq+1,u,(pr0:Int),v⟩,.slice xa xn xc)) rfl rfl (by exact Y9 w5 _) (by simp[Value.oneCell',DX]) (by unfold maxLen;omega) (by omega) (by omega) ?_;intro v' wz ag ab aP;obtain⟨va,vn,vc,bd⟩:=Ar ag;subst bd;have ai:=(Aa aK).abP (Aa b6) (M':=.slice va vn vc) (m:=⟨ci,ae,li,sq+1,u,(pr0:Int),v⟩) (Aa b3) ag (by rw[show _=(Value.slice ma s.made.length mc) from Aa ao];exact ab) (by rw[show _=(Value.slice ma s.made.length mc) from Aa ao];exact Ij (by simpa using aP));have t6:=ai.cells.a6;have t8:=ai.cells.a8;have tl:=ai.cells.lf ci ae aC;have tu:=ai.cells.u k _ hu;simp only at t6 t8;rw[aj]at t8;have aD:=Ac ai;have b9:=(Aa b2) _ _ _ (Aa aZ) ab;obtain⟨g6,gl,g8,gu,g9,bh⟩:=b9;clear ai ag ab aP)
   refine hK.out _ _ ⟨g6,gl,g8,gu⟩ g9 ?_;clear hK K;try simp only[Act.put,afK,afP,afQ,afO,afL,afN]
   refine WK.take (i:=31) (v:=?_) rfl (by kernel_rfl) (by kernel_rfl) (by kernel_rfl) rfl (fun _ _ _ h=>h) (afJ ⟨by rfl,?_⟩) ?_;rotate_left
   ·intro w aa;try dsimp only at aa
    go_simp;try with_reducible rfl
   try simp only[Act.put,afK,afP,afQ,afO,afL,afN]
   refine WK.take (i:=32) (v:=?_) rfl (by kernel_rfl) (by kernel_rfl) (by kernel_rfl) rfl (fun _ _ _ h=>h) (afJ ⟨by rfl,?_⟩) ?_;rotate_left
   ·intro w aa;try dsimp only at aa
    go_simp;try with_reducible rfl
   try simp only[Act.put,afK,afP,afQ,afO,afL,afN]
   refine WK.store (by kernel_rfl) rfl (fun K hK=>?_);go_simp;refine hK.out _ _ (by go_keep) ?_;clear hK K;try simp only[Act.put,afK,afP,afQ,afO,afL,afN]
   refine WK.done (by kernel_rfl) ?_;have t7:=(Aa aD).cells.a7;have ts:=(Aa aD).cells.sq kk (sq+1) (by simp[aR]);simp only[agq]at t7;go_wp2_with fail
   go_returns;exact⟨rfl,_,_,Aa aD⟩
end Go.Proofs.YtblomippkddgiabGreatDoor
