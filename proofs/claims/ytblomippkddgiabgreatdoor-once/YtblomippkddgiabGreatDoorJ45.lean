import Derived.Test.YtblomippkddgiabGreatDoorJ44
import Derived.Test.YtblomippkddgiabGreatDoorJ30
set_option maxRecDepth 100000
set_option maxHeartbeats 2000000
namespace Go.Proofs.YtblomippkddgiabGreatDoor
open Go.RowKit
variable {nu:Int}{ms:List Mk}{P:List R.En}{m:Mk}{B i k r u x:Nat}{y:R.En}{X:Value}{w w':World}
theorem KJ{v:List V.It}(h:V.Row w B X v):V.Items w X v:=by
 by_cases hv:v=[]
 ·subst hv;obtain⟨a,c,rfl⟩:=AX h;exact⟨a,c,rfl,Nat.zero_le _,Or.inl rfl⟩
 ·unfold V.Row at h;rw[JY]at h;exact(TA h hv).items
theorem FX{sv:List R.Sv}(hu:u<=sv.length):CH sv u i <+: A9 sv:=by
 unfold CH;by_cases h:u<sv.length
 ·rw[List.getElem?_eq_getElem h];simp only[Option.map_some,Option.getD_some];refine⟨sv[u].log.drop i++A9 (sv.drop (u+1)),?_⟩;rw[List.append_assoc,<-List.append_assoc _ (sv[u].log.drop i),List.take_append_drop];exact(N9 h).symm
 ·rw[List.getElem?_eq_none (by omega),List.take_of_length_le (by omega)];simp
theorem acb{sv:List R.Sv}{K:R.Key}(hu:u<=sv.length)(h1:Cq K (A9 sv)=1):Cq K (CH sv u i)<=1:=by
 rw[<-h1];exact List.Sublist.countP_le (FX hu).sublist
structure JG(w:World)(r x lf sq nl ns ci kk:Nat)(nu lf0 sqv:Int):Prop where
 r0:w.cell? ⟨r,0,none⟩=some (ptr x)
 r6:w.cell? ⟨r,6,none⟩=some (.slice (some ⟨lf,0,none⟩) nl nl)
 r7:w.cell? ⟨r,7,none⟩=some (.slice (some ⟨sq,0,none⟩) ns ns)
 KG:w.cell? ⟨r,10,none⟩=some (.int .i64 nu)
 l0:w.cell? ⟨lf,ci,none⟩=some (.int .i64 lf0)
 s0:w.cell? ⟨sq,kk,none⟩=some (.int .i64 sqv)
theorem JG.below{lf sq nl ns ci kk:Nat}{aa ab:Int}(h:JG w r x lf sq nl ns ci kk nu aa ab)(hB:w.heap.size<=B)(hb:Below B w w'):JG w' r x lf sq nl ns ci kk nu aa ab:=
 ⟨(hb.cell (p:=⟨r,0,none⟩) (Nat.lt_of_lt_of_le (lt_of_cell h.r0) hB)).trans h.r0,(hb.cell (p:=⟨r,6,none⟩) (Nat.lt_of_lt_of_le (lt_of_cell h.r0) hB)).trans h.r6,(hb.cell (p:=⟨r,7,none⟩) (Nat.lt_of_lt_of_le (lt_of_cell h.r0) hB)).trans h.r7,(hb.cell (p:=⟨r,10,none⟩) (Nat.lt_of_lt_of_le (lt_of_cell h.r0) hB)).trans h.KG,(hb.cell (p:=⟨lf,ci,none⟩) (Nat.lt_of_lt_of_le (lt_of_cell h.l0) hB)).trans h.l0,(hb.cell (p:=⟨sq,kk,none⟩) (Nat.lt_of_lt_of_le (lt_of_cell h.s0) hB)).trans h.s0⟩
theorem TI(w:World)(r x lf sq nl ns ci li kk:Nat)(nu af aa st:Int)(h:JG w r x lf sq nl ns ci kk nu af aa)(ai:kk<ns)(e3:IntKind.i64.wrap (3*(ci:Int))=3*(ci:Int))(e4:IntKind.i64.wrap (3*(ci:Int)+(li:Int))=(kk:Int))(ae:¬st=2)(ad:st=0↔aa=0)
  (ac:Calls Tryz.prog 19 #[ptr x,.int .i64 (ci:Int),.int .i64 (li:Int)] w fun e w'=>(∃oa oc,e=.returned (.tuple #[.agg #[.int .i64 st,.int .i64 aa,.slice oa 0 oc],.int .i64 0]))/\Below w.heap.size w w'):
  Calls Tryz.prog 8 #[ptr r,.int .i64 (ci:Int),.int .i64 (li:Int)] w fun e w'=>e=.returned (.bool true)/\Below w.heap.size w w':=by
 have HS:=Ac ac;have aj:(kk:Int)<(ns:Int):=by omega
 have ah:(0:Int)<=(kk:Int):=by omega
 have e5:(st==2)=false:=by simpa using ae
 have e6:(st==0)=(aa==0):=by
  rw[Bool.eq_iff_iff];simpa using ad
 have HR:Hid (∀w',Below w.heap.size w w'->JG w' r x lf sq nl ns ci kk nu af aa):=fun w' hb=>h.below (Nat.le_refl _) hb
 obtain⟨r0,r6,r7,KG,l0,s0⟩:=h;clear ac ae ad;go_enter Tryz.func8,Tryz.ntmps8;go_wp2_with (go_at_call 19;refine(Aa HS).mono ?_;rintro e w1 ⟨⟨oa,oc,rfl⟩,ab⟩;clear HS r0 r6 r7 KG l0 s0;obtain⟨r0,r6,r7,KG,l0,s0⟩:=(Aa HR) w1 ab;have ak:=lt_of_cell r0;have al:=lt_of_cell s0;have HB:=Ac ab;have ag:=Ac ab.size;clear ab)
 go_returns;exact⟨rfl,(Aa HB).alloc (Aa ag) _⟩
theorem QU(w:World)(r x lf sq nl ns ci li kk:Nat)(ab aa:Int)(sv:List R.Sv)(res:List R.It)(h:JG w r x lf sq nl ns ci kk (sv.length:Int) ab aa)(bi:kk<ns)(be:ci<nl)(e3:IntKind.i64.wrap (3*(ci:Int))=3*(ci:Int))(e4:IntKind.i64.wrap (3*(ci:Int)+(li:Int))=(kk:Int))(hq:¬aa=0)(bq:sv.length<=255)(aY:∀s∈sv,s.log.length<=3000000)
  (b9:res.length<=1000) (aq:Cq ⟨ci,ab,li,aa⟩ (A9 sv)=1) (ar:∀e∈A9 sv,R.Bl e=⟨ci,ab,li,aa⟩->e.result=res)
  (aK:Calls Tryz.prog 19 #[ptr x,.int .i64 (ci:Int),.int .i64 (li:Int)] w fun e w'=>(∃oa on oc,e=.returned (.tuple #[.agg #[.int .i64 2,.int .i64 aa,.slice oa on oc],.int .i64 0])/\V.Items w' (.slice oa on oc) res)/\Below w.heap.size w w')
  (aL:∀wr (u:Nat) (s:R.Sv),Below w.heap.size w wr->sv[u]?=some s->Calls Tryz.prog 9 #[ptr x,.int .i64 ((u:Int)+1)] wr fun e w'=>e=.returned (.tuple #[.int .i64 (s.log.length:Int),.int .i64 0])/\Below wr.heap.size wr w')
  (aM:∀wr (u i:Nat) (s:R.Sv) (y:R.En),Below w.heap.size w wr->sv[u]?=some s->s.log[i]?=some y->Calls Tryz.prog 10 #[ptr x,.int .i64 ((u:Int)+1),.int .i64 (i:Int)] wr fun e w'=>(∃xa xn xc ya yn yc,e=.returned (.tuple #[.agg #[.int .i64 y.client,.int .i64 y.Ae,.int .i64 y.line,.int .i64 y.seq,.int .i64 y.proc,.slice xa xn xc,.slice ya yn yc],.int .i64 0])/\V.Items w' (.slice ya yn yc) y.result)/\Below wr.heap.size wr w'):
  Calls Tryz.prog 8 #[ptr r,.int .i64 (ci:Int),.int .i64 (li:Int)] w fun e w'=>e=.returned (.bool true)/\Below w.heap.size w w':=by
 have HS:=Ac aK;have HL:Hid (∀wr (u:Nat) (s:R.Sv),Below w.heap.size w wr->sv[u]?=some s->Calls Tryz.prog 9 #[ptr x,.int .i64 ((u:Int)+1)] wr fun e w'=>e=.returned (.tuple #[.int .i64 (s.log.length:Int),.int .i64 0])/\Below wr.heap.size wr w'):=aL;have HE:Hid (∀wr (u i:Nat) (s:R.Sv) (y:R.En),Below w.heap.size w wr->sv[u]?=some s->s.log[i]?=some y->Calls Tryz.prog 10 #[ptr x,.int .i64 ((u:Int)+1),.int .i64 (i:Int)] wr fun e w'=>(∃xa xn xc ya yn yc,e=.returned (.tuple #[.agg #[.int .i64 y.client,.int .i64 y.Ae,.int .i64 y.line,.int .i64 y.seq,.int .i64 y.proc,.slice xa xn xc,.slice ya yn yc],.int .i64 0])/\V.Items w' (.slice ya yn yc) y.result)/\Below wr.heap.size wr w'):=aM;have bj:(kk:Int)<(ns:Int):=by omega
 have bh:(0:Int)<=(kk:Int):=by omega
 have bf:(ci:Int)<(nl:Int):=by omega
 have bd:(0:Int)<=(ci:Int):=by omega
 have e6:(aa==0)=false:=by simpa using hq
 have HR:Hid (∀w',Below w.heap.size w w'->JG w' r x lf sq nl ns ci kk (sv.length:Int) ab aa):=fun w' hb=>h.below (Nat.le_refl _) hb
 have an:=Ac aq;have aB:Hid (∀e∈A9 sv,R.Bl e=⟨ci,ab,li,aa⟩->e.result=res):=ar;have b5:Hid (∀s∈sv,s.log.length<=3000000):=aY;obtain⟨r0,r6,r7,KG,l0,s0⟩:=h;clear aK aL aM aq ar hq aY;go_enter Tryz.func8,Tryz.ntmps8;go_wp2_with (go_at_call 19;refine(Aa HS).mono ?_;rintro e w1 ⟨⟨oa,on,oc,rfl,aS⟩,aE⟩;clear HS r0 r6 r7 KG l0 s0;obtain⟨r0,r6,r7,KG,l0,s0⟩:=(Aa HR) w1 aE;have aw:=lt_of_cell r0;have ax:=lt_of_cell s0;have aN:=Ac aE;have b4:=Ac aS;clear aE aS)
 have am:Hid ((w1.alloc (.cells #[.int .i64 2,.int .i64 aa,.slice oa on oc] 64)).heap[w1.heap.size]?=some (.cells #[.int .i64 2,.int .i64 aa,.slice oa on oc] 64 (0,0))):=heap_alloc_new w1 _;have al:Hid (Below w1.heap.size w1 (w1.alloc (.cells #[.int .i64 2,.int .i64 aa,.slice oa on oc] 64))):=(Below.refl _ _).alloc (Nat.le_refl _) _;have aR:Hid (w1.heap.size<(w1.alloc (.cells #[.int .i64 2,.int .i64 aa,.slice oa on oc] 64)).heap.size):=by
  show w1.heap.size<_;simp
 refine FD (fun W=>W.heap[w1.heap.size]?=some (.cells #[.int .i64 2,.int .i64 aa,.slice oa on oc] 64 (0,0))/\Below w1.heap.size w1 W/\w1.heap.size<W.heap.size) ⟨Aa am,Aa al,Aa aR⟩ ?_;clear am al aR r0 r6 r7 KG l0 s0 aw ax;rintro W ⟨ac,aF,ay⟩;have ak:=(Aa aN).trans (aF.mono (Aa aN).size);have av:Hid (∀wr,Below W.heap.size W wr->(Below w.heap.size w wr/\JG wr r x lf sq nl ns ci kk (sv.length:Int) ab aa)/\wr.cell? ⟨w1.heap.size,2,none⟩=some (.slice oa on oc)/\V.Items wr (.slice oa on oc) res/\w1.heap.size<wr.heap.size):=fun wr hb=>by
  have h1:Below w.heap.size w wr:=ak.trans (hb.mono ak.size);exact⟨⟨h1,(Aa HR) wr h1⟩,(hb.cell (p:=⟨w1.heap.size,2,none⟩) ay).trans (cell_of ac 2 _ rfl),((Aa b4).below aF).below hb,Nat.lt_of_lt_of_le ay hb.size⟩
 obtain⟨⟨-,r0,r6,r7,KG,l0,s0⟩,-⟩:=(Aa av) W (Below.refl _ _);have x1:W.cell? ⟨w1.heap.size,1,none⟩=some (.int .i64 aa):=cell_of ac 1 _ rfl;have x0:W.cell? ⟨w1.heap.size,0,none⟩=some (.int .i64 2):=cell_of ac 0 _ rfl;have aw:=lt_of_cell r0;have ax:=lt_of_cell s0;clear ac aF ay ak;go_wp2;go_loopw [10,11] (fun tv uv wr=>∃u:Nat,u<=sv.length/\uv=.int .i64 ((u:Int)+1)/\tv=.int .i64 (Cq ⟨ci,ab,li,aa⟩ (CH sv u 0):Int)/\Below W.heap.size W wr) (fun _ uv _=>sv.length+1-(intOf uv).toNat)
 case atStart=>exact⟨0,Nat.zero_le _,rfl,rfl,Below.refl _ _⟩
 case round=>
  obtain⟨u,hu,rfl,rfl,hb⟩:=hrel;clear r0 r6 r7 KG l0 s0 x0 x1 aw ax;obtain⟨⟨ae,r0,r6,r7,KG,l0,s0⟩,x2,hI,ay⟩:=(Aa av) wr hb;by_cases aZ:u<sv.length
  ·have hs:sv[u]?=some sv[u]:=List.getElem?_eq_getElem aZ;have aH:=(Aa b5) sv[u] (List.getElem_mem aZ);generalize sv[u]=s at hs aH;have bo:((u:Int)+1<=(sv.length:Int)):=by omega
   have HC:=Ac ((Aa HL) wr u s ae hs);have HS:=Ac hs;have au:=Ac hb;clear hb ae hI x2 hs;go_wp2_with (go_at_call 9;refine(Aa HC).mono ?_;rintro e w2 ⟨rfl,aU⟩;have b2:=Ac ((Aa au).trans (aU.mono (Aa au).size));clear aU HC)
   go_loopw [10,14] (fun tv iv wr=>∃i:Nat,i<=s.log.length/\iv=.int .i64 (i:Int)/\tv=.int .i64 (Cq ⟨ci,ab,li,aa⟩ (CH sv u i):Int)/\Below W.heap.size W wr) (fun _ iv _=>s.log.length-(intOf iv).toNat)
   case atStart=>exact⟨0,Nat.zero_le _,rfl,rfl,Aa b2⟩
   case round=>
    obtain⟨i,hi,rfl,rfl,hb⟩:=hrel;clear r0 r6 r7 KG l0 s0;obtain⟨⟨ae,r0,r6,r7,KG,l0,s0⟩,x2,hI,ba⟩:=(Aa av) _ hb;by_cases aI:i<s.log.length
    ·have hy:s.log[i]?=some s.log[i]:=List.getElem?_eq_getElem aI;generalize s.log[i]=y at hy;have bp:(i:Int)<(s.log.length:Int):=by omega
     have HC:=Ac ((Aa HE) _ u i s y ae (Aa HS) hy);have aJ:=IV (Aa HS) hy;have aX:Cq ⟨ci,ab,li,aa⟩ (CH sv u (i+1))=Cq ⟨ci,ab,li,aa⟩ (CH sv u i)+Cq ⟨ci,ab,li,aa⟩ [y]:=by rw[aJ,SI]
     have ap:y∈A9 sv:=(FX (i:=i+1) hu).subset (by rw[aJ];simp);have b7:=acb (i:=i) hu (Aa an);have aP:=Ac aX;have az:=Ac ap;have ad:=Ac hb;generalize Cq ⟨ci,ab,li,aa⟩ (CH sv u i)=N at *;have br:IntKind.i64.wrap ((N:Int)+1)=(N:Int)+1:=by rw[IntKind.wrap_i64];omega
     have bc:IntKind.i64.wrap ((i:Int)+1)=(i:Int)+1:=by rw[IntKind.wrap_i64];omega
     clear hb ae hI x2 hy aX ap aJ;go_wp2_with (go_at_call 10;refine(Aa HC).mono ?_;rintro e w3 ⟨⟨xa,xn,xc,ya,yn,yc,rfl,aT⟩,aV⟩;have aO:=Ac ((Aa ad).trans (aV.mono (Aa ad).size));have aQ:=Ac aT;clear aV aT HC)
     have am:Hid ((w3.alloc (.cells #[.int .i64 y.client,.int .i64 y.Ae,.int .i64 y.line,.int .i64 y.seq,.int .i64 y.proc,.slice xa xn xc,.slice ya yn yc] 45)).heap[w3.heap.size]?=some (.cells #[.int .i64 y.client,.int .i64 y.Ae,.int .i64 y.line,.int .i64 y.seq,.int .i64 y.proc,.slice xa xn xc,.slice ya yn yc] 45 (0,0))):=heap_alloc_new w3 _;have al:Hid (Below w3.heap.size w3 (w3.alloc (.cells #[.int .i64 y.client,.int .i64 y.Ae,.int .i64 y.line,.int .i64 y.seq,.int .i64 y.proc,.slice xa xn xc,.slice ya yn yc] 45))):=(Below.refl _ _).alloc (Nat.le_refl _) _;refine FD (fun V=>V.heap[w3.heap.size]?=some (.cells #[.int .i64 y.client,.int .i64 y.Ae,.int .i64 y.line,.int .i64 y.seq,.int .i64 y.proc,.slice xa xn xc,.slice ya yn yc] 45 (0,0))/\Below w3.heap.size w3 V) ⟨Aa am,Aa al⟩ ?_;clear am al r0 r6 r7 KG l0 s0;rintro W3 ⟨ac,aj⟩;have ai:=(Aa aO).trans (aj.mono (Aa aO).size);obtain⟨⟨-,r0,r6,r7,KG,l0,s0⟩,x2,hI,bb⟩:=(Aa av) W3 ai;have y0:W3.cell? ⟨w3.heap.size,0,none⟩=some (.int .i64 y.client):=cell_of ac 0 _ rfl;have y1:W3.cell? ⟨w3.heap.size,1,none⟩=some (.int .i64 y.Ae):=cell_of ac 1 _ rfl;have y2:W3.cell? ⟨w3.heap.size,2,none⟩=some (.int .i64 y.line):=cell_of ac 2 _ rfl;have y3:W3.cell? ⟨w3.heap.size,3,none⟩=some (.int .i64 y.seq):=cell_of ac 3 _ rfl;have y6:W3.cell? ⟨w3.heap.size,6,none⟩=some (.slice ya yn yc):=cell_of ac 6 _ rfl;have aw:=lt_of_cell r0;have ax:=lt_of_cell l0;have bl:=lt_of_cell y0;have af:=Ac (fun n=>below_drewN ai n);have aC:Hid (y.result=res->∀n,Calls Tryz.prog 13 #[.slice ya yn yc,.slice oa on oc] (W3.drewN n) fun e w'=>e=.returned (.bool true)/\Below (W3.drewN n).heap.size (W3.drewN n) w'):=fun e n=>by
      have h1:V.Items (W3.drewN n) (.slice ya yn yc) y.result:=((Aa aQ).below aj).below (below_drewN (Below.refl _ _) n);rw[e]at h1;exact RA _ _ _ res h1 (hI.below (below_drewN (Below.refl _ _) n)) b9
     have h4:(y.client==(ci:Int))=false\/((y.client==(ci:Int))=true/\(y.Ae==ab)=false)\/((y.client==(ci:Int))=true/\(y.Ae==ab)=true/\(y.line==(li:Int))=false)\/((y.client==(ci:Int))=true/\(y.Ae==ab)=true/\(y.line==(li:Int))=true/\(y.seq==aa)=false)\/((y.client==(ci:Int))=true/\(y.Ae==ab)=true/\(y.line==(li:Int))=true/\(y.seq==aa)=true):=by
      cases (y.client==(ci:Int))<;>cases (y.Ae==ab)<;>cases (y.line==(li:Int))<;>cases (y.seq==aa)<;>simp
     have aA:Hid (((y.client==(ci:Int))&&(y.Ae==ab)&&(y.line==(li:Int))&&(y.seq==aa))=false->Cq ⟨ci,ab,li,aa⟩ [y]=0):=fun e=>by
      refine Qq (fun z hz q=>?_);obtain rfl:z=y:=by simpa using hz
      unfold R.Bl at q;simp only[R.Key.mk.injEq]at q;simp[q.1,q.2.1,q.2.2.1,q.2.2.2]at e
     have ah:Hid ((y.client==(ci:Int))=true->(y.Ae==ab)=true->(y.line==(li:Int))=true->(y.seq==aa)=true->R.Bl y=⟨ci,ab,li,aa⟩):=fun a1 a2 a3 a4=>by
      unfold R.Bl;simp only[R.Key.mk.injEq];exact⟨by simpa using a1,by simpa using a2,by simpa using a3,by simpa using a4⟩
     clear ac aj ai hI aQ;rcases h4 with q1|⟨q1,q2⟩|⟨q1,q2,q3⟩|⟨q1,q2,q3,q4⟩|⟨q1,q2,q3,q4⟩;rotate_left 4
     ·have aG:=(Aa ah) q1 q2 q3 q4;have aD:=Ac ((Aa aC) ((Aa aB) y (Aa az) aG));have h1:Cq ⟨ci,ab,li,aa⟩ [y]=1:=by
       unfold Cq;simp[aG]
      have ag:=Ac h1;clear aG h1 aC ah aA;go_wp2_with fail
      go_quiet (fail);go_wp2_with (go_at_call 13;refine((Aa aD) _).mono ?_;rintro e w4 ⟨rfl,aW⟩;have b3:=Ac aW;clear aW)
      go_roundw
      case rel=>exact⟨i+1,by omega,by go_num,by rw[Aa aP,Aa ag];rfl,((Aa af) _).trans ((Aa b3).mono ((Aa af) _).size)⟩
      case measure=>simp[intOf];omega
     all_goals
      have h0:=(Aa aA) (by simp_all);have ag:=Ac h0;clear h0 aC ah aA;go_wp2_with fail
      go_quiet (fail);go_wp2_with fail
      go_roundw
      case rel=>exact⟨i+1,by omega,by go_num,by rw[Aa aP,Aa ag];rfl,(Aa af) _⟩
      case measure=>simp[intOf];omega
    ·obtain rfl:i=s.log.length:=by omega
     have b1:=OP (Aa HS);have bc:IntKind.i64.wrap ((u:Int)+1+1)=(u:Int)+1+1:=by rw[IntKind.wrap_i64];omega
     have ad:=Ac hb;have b6:=Ac b1;clear hb ae hI x2 b1;go_wp2;go_roundw
     case rel=>exact⟨u+1,by omega,by go_num,by rw[<-Aa b6],Aa ad⟩
     case measure=>simp[intOf];omega
  ·obtain rfl:u=sv.length:=by omega
   have bg:¬((sv.length:Int)+1<=(sv.length:Int)):=by omega
   have ao:Cq ⟨ci,ab,li,aa⟩ (CH sv sv.length 0)=1:=by rw[R0];exact Aa an
   rw[ao];have au:=Ac ae;clear hb ae hI x2 ao;go_wp2;go_returns;exact⟨rfl,Aa au⟩
structure Jg(w:World)(r x mb mc db dc:Nat)(mk:List (Mk×Value))(dead:List Int)(nu:Int):Prop where
 r0:w.cell? ⟨r,0,none⟩=some (ptr x)
 r9:w.cell? ⟨r,9,none⟩=some (.slice (some ⟨mb,0,none⟩) mk.length mc)
 KG:w.cell? ⟨r,10,none⟩=some (.int .i64 nu)
 Zn:w.cell? ⟨r,11,none⟩=some (.slice (some ⟨db,0,none⟩) dead.length dc)
 m:∀j z,mk[j]?=some z->∀c v,(DX z)[c]?=some v->w.cell? ⟨mb,j*7+c,none⟩=some v
 d:∀u n,dead[u]?=some n->w.cell? ⟨db,u,none⟩=some (.int .i64 n)
 it:∀z∈mk,V.Items w z.2 z.1.arg
theorem Jg.below{mb mc db dc:Nat}{mk:List (Mk×Value)}{dead:List Int}(h:Jg w r x mb mc db dc mk dead nu)(hb:Below w.heap.size w w'):Jg w' r x mb mc db dc mk dead nu:=
 ⟨(hb.cell (p:=⟨r,0,none⟩) (lt_of_cell h.r0)).trans h.r0,(hb.cell (p:=⟨r,9,none⟩) (lt_of_cell h.r0)).trans h.r9,(hb.cell (p:=⟨r,10,none⟩) (lt_of_cell h.r0)).trans h.KG,(hb.cell (p:=⟨r,11,none⟩) (lt_of_cell h.r0)).trans h.Zn,fun j z hz c v hv=>(hb.cell (p:=⟨mb,j*7+c,none⟩) (lt_of_cell (h.m j z hz c v hv))).trans (h.m j z hz c v hv),fun u n hn=>(hb.cell (p:=⟨db,u,none⟩) (lt_of_cell (h.d u n hn))).trans (h.d u n hn),fun z hz=>(h.it z hz).below hb⟩
theorem EP{l:List V.It}(h:V.Items w X l):∃xa xn xc,X=.slice xa xn xc:=by
 obtain⟨a,c,rfl,_⟩:=h;exact⟨_,_,_,rfl⟩
theorem Tp(w:World)(r x mb mc db dc k:Nat)(mk:List (Mk×Value))(dead:List Int)(nu uid:Int)(y:R.En)(xa ya:Option Addr)(xn xc yn yc:Nat)(zk:Mk×Value)(h:Jg w r x mb mc db dc mk dead nu)(hI:V.Items w (.slice xa xn xc) y.arg)(hl:mk.length<=3000000)(az:y.arg.length<=1000)
  (hk:mk[k]?=some zk) (ab:zk.1.key=R.Bl y) (hu:zk.1.uid=uid) (hp:zk.1.proc=y.proc) (ha:zk.1.arg=y.arg) (ap:∀j z,j<k->mk[j]?=some z->z.1.key≠R.Bl y):
  Calls Tryz.prog 11 #[ptr r,.int .i64 uid,.agg #[.int .i64 y.client,.int .i64 y.Ae,.int .i64 y.line,.int .i64 y.seq,.int .i64 y.proc,.slice xa xn xc,.slice ya yn yc]] w fun e w'=>e=.returned (.int .i64 (k:Int))/\Below w.heap.size w w':=by
 have al:Hid ((w.alloc (.cells #[.int .i64 y.client,.int .i64 y.Ae,.int .i64 y.line,.int .i64 y.seq,.int .i64 y.proc,.slice xa xn xc,.slice ya yn yc] 45)).heap[w.heap.size]?=some (.cells #[.int .i64 y.client,.int .i64 y.Ae,.int .i64 y.line,.int .i64 y.seq,.int .i64 y.proc,.slice xa xn xc,.slice ya yn yc] 45 (0,0))):=heap_alloc_new w _;have ak:Hid (Below w.heap.size w (w.alloc (.cells #[.int .i64 y.client,.int .i64 y.Ae,.int .i64 y.line,.int .i64 y.seq,.int .i64 y.proc,.slice xa xn xc,.slice ya yn yc] 45))):=(Below.refl _ _).alloc (Nat.le_refl _) _;have aD:=(List.getElem?_eq_some_iff.1 hk).1;obtain⟨W0,ad⟩:∃W0,w.alloc (.cells #[.int .i64 y.client,.int .i64 y.Ae,.int .i64 y.line,.int .i64 y.seq,.int .i64 y.proc,.slice xa xn xc,.slice ya yn yc] 45)=W0:=⟨_,rfl⟩;have aa:W0.heap[w.heap.size]?=some (.cells #[.int .i64 y.client,.int .i64 y.Ae,.int .i64 y.line,.int .i64 y.seq,.int .i64 y.proc,.slice xa xn xc,.slice ya yn yc] 45 (0,0)):=by rw[<-ad];exact Aa al
 have ah:Below w.heap.size w W0:=by rw[<-ad];exact Aa ak
 have an:Hid (∀wr,Below W0.heap.size W0 wr->Below w.heap.size w wr/\Jg wr r x mb mc db dc mk dead nu/\V.Items wr (.slice xa xn xc) y.arg/\wr.heap[w.heap.size]?=some (.cells #[.int .i64 y.client,.int .i64 y.Ae,.int .i64 y.line,.int .i64 y.seq,.int .i64 y.proc,.slice xa xn xc,.slice ya yn yc] 45 (0,0))):=fun wr hb=>by
  have h1:=ah.trans (hb.mono ah.size);exact⟨h1,h.below h1,hI.below h1,(hb.block _ (lt_of_block aa)).trans aa⟩
 have ax:=Ac ad;have am:=Ac (And.intro hk (And.intro ab (And.intro hu (And.intro hp ha))));have av:Hid (∀j z,j<k->mk[j]?=some z->z.1.key≠R.Bl y):=ap;clear al ak ad aa ah hk ab hu hp ha ap h hI;go_enter Tryz.func11,Tryz.ntmps11;go_wp2;rw[Aa ax];go_loopw [7] (fun iv wr=>∃i:Nat,i<=k/\iv=.int .i64 (i:Int)/\Below W0.heap.size W0 wr) (fun iv _=>k-(intOf iv).toNat)
 case atStart=>exact⟨0,Nat.zero_le _,rfl,Below.refl _ _⟩
 case round=>
  obtain⟨i,hi,rfl,hb⟩:=hrel;obtain⟨aA,hL,hX,aa⟩:=(Aa an) wr hb;have hz:mk[i]?=some (mk[i]'(by omega)):=List.getElem?_eq_getElem _;generalize mk[i]'(by omega)=z at hz;obtain⟨za,zn,zc,aj⟩:=EP (hL.it z (List.mem_of_getElem? hz));have ai:=hL.it z (List.mem_of_getElem? hz);rw[aj]at ai;have r0:=hL.r0;have r9:=hL.r9;have aF:=lt_of_cell r0;have m0:wr.cell? ⟨mb,i*7,none⟩=some (.int .i64 z.1.client):=hL.m i z hz 0 _ rfl;have m1:wr.cell? ⟨mb,i*7+1,none⟩=some (.int .i64 z.1.Ae):=hL.m i z hz 1 _ rfl;have m2:wr.cell? ⟨mb,i*7+2,none⟩=some (.int .i64 z.1.line):=hL.m i z hz 2 _ rfl;have m3:wr.cell? ⟨mb,i*7+3,none⟩=some (.int .i64 z.1.seq):=hL.m i z hz 3 _ rfl;have m4:wr.cell? ⟨mb,i*7+4,none⟩=some (.int .i64 z.1.uid):=hL.m i z hz 4 _ rfl;have m5:wr.cell? ⟨mb,i*7+5,none⟩=some (.int .i64 z.1.proc):=hL.m i z hz 5 _ rfl;have m6:wr.cell? ⟨mb,i*7+6,none⟩=some (.slice za zn zc):=by
   rw[<-aj];exact hL.m i z hz 6 _ rfl
  have aE:=lt_of_cell m0;have q1:(0:Int)<=(i:Int):=by omega
  have q2:(i:Int)<(mk.length:Int):=by omega
  have q3:i<mk.length:=by omega
  have aG:IntKind.i64.wrap ((i:Int)+1)=(i:Int)+1:=by rw[IntKind.wrap_i64];omega
  have y0:wr.cell? ⟨w.heap.size,0,none⟩=some (.int .i64 y.client):=cell_of aa 0 _ rfl;have y1:wr.cell? ⟨w.heap.size,1,none⟩=some (.int .i64 y.Ae):=cell_of aa 1 _ rfl;have y2:wr.cell? ⟨w.heap.size,2,none⟩=some (.int .i64 y.line):=cell_of aa 2 _ rfl;have y3:wr.cell? ⟨w.heap.size,3,none⟩=some (.int .i64 y.seq):=cell_of aa 3 _ rfl;have y4:wr.cell? ⟨w.heap.size,4,none⟩=some (.int .i64 y.proc):=cell_of aa 4 _ rfl;have y5:wr.cell? ⟨w.heap.size,5,none⟩=some (.slice xa xn xc):=cell_of aa 5 _ rfl;have aB:=lt_of_block aa;have af:Hid (Below W0.heap.size W0 (wr.alloc (.cells #[.int .i64 z.1.client,.int .i64 z.1.Ae,.int .i64 z.1.line,.int .i64 z.1.seq,.int .i64 z.1.uid,.int .i64 z.1.proc,.slice za zn zc] 62))):=hb.alloc hb.size _;have ar:Hid (V.Items (wr.alloc (.cells #[.int .i64 z.1.client,.int .i64 z.1.Ae,.int .i64 z.1.line,.int .i64 z.1.seq,.int .i64 z.1.uid,.int .i64 z.1.proc,.slice za zn zc] 62)) (.slice za zn zc) z.1.arg):=ai.below ((Below.refl _ _).alloc (Nat.le_refl _) _);have ay:Hid (V.Items (wr.alloc (.cells #[.int .i64 z.1.client,.int .i64 z.1.Ae,.int .i64 z.1.line,.int .i64 z.1.seq,.int .i64 z.1.uid,.int .i64 z.1.proc,.slice za zn zc] 62)) (.slice xa xn xc) y.arg):=hX.below ((Below.refl _ _).alloc (Nat.le_refl _) _);have ac:Hid ((wr.alloc (.cells #[.int .i64 z.1.client,.int .i64 z.1.Ae,.int .i64 z.1.line,.int .i64 z.1.seq,.int .i64 z.1.uid,.int .i64 z.1.proc,.slice za zn zc] 62)).heap[wr.heap.size]?=some (.cells #[.int .i64 z.1.client,.int .i64 z.1.Ae,.int .i64 z.1.line,.int .i64 z.1.seq,.int .i64 z.1.uid,.int .i64 z.1.proc,.slice za zn zc] 62 (0,0))):=heap_alloc_new wr _;have ao:Hid ((wr.alloc (.cells #[.int .i64 z.1.client,.int .i64 z.1.Ae,.int .i64 z.1.line,.int .i64 z.1.seq,.int .i64 z.1.uid,.int .i64 z.1.proc,.slice za zn zc] 62)).heap[w.heap.size]?=some (.cells #[.int .i64 y.client,.int .i64 y.Ae,.int .i64 y.line,.int .i64 y.seq,.int .i64 y.proc,.slice xa xn xc,.slice ya yn yc] 45 (0,0))):=(Below.heap_alloc _ _ _ aB).trans aa;have HZ:=Ac hz;clear hb aA hL hX aa ai aj hz;by_cases aC:i<k
  ·have ae:=(Aa av) i z aC (Aa HZ);have h4:(z.1.client==y.client)=false\/((z.1.client==y.client)=true/\(z.1.Ae==y.Ae)=false)\/((z.1.client==y.client)=true/\(z.1.Ae==y.Ae)=true/\(z.1.line==y.line)=false)\/((z.1.client==y.client)=true/\(z.1.Ae==y.Ae)=true/\(z.1.line==y.line)=true/\(z.1.seq==y.seq)=false):=by
    unfold Mk.key R.Bl at ae;simp only[ne_eq,R.Key.mk.injEq]at ae;by_cases a1:z.1.client=y.client
    ·by_cases a2:z.1.Ae=y.Ae
     ·by_cases a3:z.1.line=y.line
      ·by_cases a4:z.1.seq=y.seq
       ·exact absurd ⟨a1,a2,a3,a4⟩ ae
       ·simp[a1,a2,a3,a4]
      ·simp[a1,a2,a3]
     ·simp[a1,a2]
    ·simp[a1]
   clear ae;rcases h4 with q4|⟨q4,q5⟩|⟨q4,q5,q6⟩|⟨q4,q5,q6,q7⟩;all_goals
    go_wp2_with fail
    go_roundw
    case rel=>exact⟨i+1,by omega,by go_num,Aa af⟩
    case measure=>simp[intOf];omega
  ·obtain rfl:i=k:=by omega
   obtain⟨g1,g2,g3,g4,g5⟩:=Aa am;obtain rfl:=Option.some.inj ((Aa HZ).symm.trans g1);have g6:=g2;unfold Mk.key R.Bl at g6;simp only[R.Key.mk.injEq]at g6;have q4:(z.1.client==y.client)=true:=by simpa using g6.1
   have q5:(z.1.Ae==y.Ae)=true:=by simpa using g6.2.1
   have q6:(z.1.line==y.line)=true:=by simpa using g6.2.2.1
   have q7:(z.1.seq==y.seq)=true:=by simpa using g6.2.2.2
   have q8:(z.1.uid==uid)=true:=by simpa using g3
   have q9:(z.1.proc==y.proc)=true:=by simpa using g4
   have aw:Hid (Calls Tryz.prog 13 #[.slice za zn zc,.slice xa xn xc] (wr.alloc (.cells #[.int .i64 z.1.client,.int .i64 z.1.Ae,.int .i64 z.1.line,.int .i64 z.1.seq,.int .i64 z.1.uid,.int .i64 z.1.proc,.slice za zn zc] 62)) fun e w'=>e=.returned (.bool true)/\Below (wr.alloc (.cells #[.int .i64 z.1.client,.int .i64 z.1.Ae,.int .i64 z.1.line,.int .i64 z.1.seq,.int .i64 z.1.uid,.int .i64 z.1.proc,.slice za zn zc] 62)).heap.size (wr.alloc (.cells #[.int .i64 z.1.client,.int .i64 z.1.Ae,.int .i64 z.1.line,.int .i64 z.1.seq,.int .i64 z.1.uid,.int .i64 z.1.proc,.slice za zn zc] 62)) w'):=by
    have:=Aa ar;rw[g5]at this;exact RA _ _ _ y.arg this (Aa ay) az
   have au:Hid (∀w',Below (wr.alloc (.cells #[.int .i64 z.1.client,.int .i64 z.1.Ae,.int .i64 z.1.line,.int .i64 z.1.seq,.int .i64 z.1.uid,.int .i64 z.1.proc,.slice za zn zc] 62)).heap.size (wr.alloc (.cells #[.int .i64 z.1.client,.int .i64 z.1.Ae,.int .i64 z.1.line,.int .i64 z.1.seq,.int .i64 z.1.uid,.int .i64 z.1.proc,.slice za zn zc] 62)) w'->w'.cell? ⟨wr.heap.size,4,none⟩=some (.int .i64 z.1.uid)/\w'.cell? ⟨wr.heap.size,5,none⟩=some (.int .i64 z.1.proc)/\w'.cell? ⟨w.heap.size,4,none⟩=some (.int .i64 y.proc)):=fun w' hb=>⟨cell_of ((hb.block _ (lt_of_block (Aa ac))).trans (Aa ac)) 4 _ rfl,cell_of ((hb.block _ (lt_of_block (Aa ac))).trans (Aa ac)) 5 _ rfl,cell_of ((hb.block _ (lt_of_block (Aa ao))).trans (Aa ao)) 4 _ rfl⟩
   clear g1 g2 g3 g4 g5 g6 am;go_wp2_with (go_at_call 13;refine(Aa aw).mono ?_;rintro e w4 ⟨rfl,ag⟩;clear y0 y1 y2 y3 y4 y5;obtain⟨n4,n5,y4⟩:=(Aa au) w4 ag;have aq:=Ac ((Aa af).trans (ag.mono (Aa af).size));clear ag)
   go_returns;exact⟨rfl,((Aa an) _ (Aa aq)).1⟩
def Dg(ms:List Mk)(P:List R.En):List Bool:=ms.map fun m=>P.any fun e=>decide (R.Bl e=m.key)
theorem T9(ms:List Mk):Dg ms []=List.replicate ms.length false:=by
 unfold Dg;rw[List.eq_replicate_iff];refine⟨by simp,fun b hb=>?_⟩;obtain⟨m,_,rfl⟩:=List.mem_map.1 hb;rfl
theorem Nq(ms:List Mk)(P:List R.En):(Dg ms P).length=ms.length:=by simp[Dg]
theorem RD{M:R.Bk}(hb:CY ms M)(hk:ms[k]?=some m)(aa:m.key=R.Bl y)(P:List R.En):Dg ms (P++[y])=(Dg ms P).set k true:=by
 refine List.ext_getElem? (fun j=>?_);rw[List.getElem?_set];have ab:=(List.getElem?_eq_some_iff.1 hk).1;by_cases hj:k=j
 ·subst hj;rw[if_pos rfl,if_pos (by rw[Nq];exact ab)];unfold Dg;simp[hk,aa]
 ·rw[if_neg hj];unfold Dg;cases hm:ms[j]? with
  |none=>simp[hm]
  |some m'=>
   have:¬R.Bl y=m'.key:=fun e=>hj (hb.uniq hk hm (aa.trans e))
   simp[hm,this]
theorem WL(hk:ms[k]?=some m)(aa:m.key=R.Bl y)(h:∀x∈P,R.Bl x≠R.Bl y):(Dg ms P)[k]?=some false:=by
 unfold Dg;simp only[List.getElem?_map,hk,Option.map_some,Option.some.injEq];rw[List.any_eq_false];intro x hx;simp[aa,h x hx]
theorem Ua(hk:ms[k]?=some m)(h:(Dg ms P)[k]?=some true):∃x∈P,m.key=R.Bl x:=by
 unfold Dg at h;simp only[List.getElem?_map,hk,Option.map_some,Option.some.injEq]at h;obtain⟨x,hx,e⟩:=List.any_eq_true.1 h;exact⟨x,hx,by simpa using (of_decide_eq_true e).symm⟩
def bools(l:List Bool):List Value:=l.map fun b=>Value.bool b
theorem Ob{l:List Bool}{b:Bool}(h:l[k]?=some b):(bools l)[k]?=some (.bool b):=by simp[bools,h]
theorem Vv(l:List Bool)(k:Nat)(b:Bool):(bools l).set k (.bool b)=bools (l.set k b):=by simp[bools,List.map_set]
theorem UF:∀(sv:List R.Sv),(∀s∈sv,s.log.length<=3000000)->(A9 sv).length<=3000000*sv.length
 |[],_=>by simp[A9]
 |s :: sv,h=>by
  have h1:=h s (by simp);have h2:=UF sv (fun t ht=>h t (by simp[ht]));have:A9 (s :: sv)=s.log++A9 sv:=by simp[A9]
  rw[this,List.length_append,List.length_cons];omega
theorem adQ:(Tryz.prog.info? 4).map (fun i=>(i.zero,i.size,i.bytes))=some (some (.bool false),1,1):=by kernel_rfl
theorem Sp(n:Nat)(hn:n<=3000000)(W:World):(Instr.makeSlice 60 (.int .i64 (n:Int)) (.int .i64 (n:Int))).run Tryz.prog W=.ok (.slice (some ⟨W.heap.size,0,none⟩) n n) (W.alloc (.cells (bools (List.replicate n false)).toArray 4)):=by
 obtain⟨i0,hi,aa,ab,ac⟩:=info_parts adQ;have h:=run_make (P:=Tryz.prog) W 60 4 i0 (.bool false) Tryz.underlying60 hi aa .i64 .i64 (n:Int) (n:Int) (by omega) (Int.le_refl _) (by rw[ac];omega) (by omega);rw[ab,Int.toNat_natCast]at h;have e:madeCells (Value.bool false).cells (n*1)=(bools (List.replicate n false)).toArray:=by
  apply Array.ext
  ·rw[size_madeCells];simp[bools]
  ·intro i h1 h2;simp[madeCells,bools,Value.cells,Nat.mod_one]
 rw[e]at h;exact h
structure KY(w:World)(ms:List Mk)(P:List R.En)(wr:World):Prop where
 below:Below w.heap.size w wr
 seen:wr.heap[w.heap.size]?=some (.cells (bools (Dg ms P)).toArray 4 (0,0))
end Go.Proofs.YtblomippkddgiabGreatDoor
