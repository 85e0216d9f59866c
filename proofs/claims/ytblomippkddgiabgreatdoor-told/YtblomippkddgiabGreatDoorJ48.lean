import Derived.Test.YtblomippkddgiabGreatDoorJ47
import Derived.Deep.RegionLawGrows
set_option maxRecDepth 100000
set_option maxHeartbeats 40000000
namespace Go.Proofs.YtblomippkddgiabGreatDoor
open Go.RowKit
variable {T f t:ByteArray}{m n n0 u u0:Int}{uid:List Int}{l:List R.En}{a:List R.Sv}{bs name:List UInt8}{v:List V.It}{B b cap g i j k kd:Nat}{S:Nat→Prop}{p:Pl}{M:R.Bk}{c:R.Cf}{cl:R.Cl}{y:R.En}{G G':R.Wd}{s:RS}{O P X v0 v1 v2 v3 v4:Value}{U w w' w0 wz:World}
theorem XL(w:World)(n:Nat)(a:Option Addr)(m c:Nat)(i at' ab:Int)(hK:w.heap[n]?=some (.cells #[.slice a m c] 110 (0,0)))(hi:i<0\/(m:Int)<=i):
  Calls Tryz.prog 105 #[ptr n,.int .i64 i,.int .i64 at',.int .i64 ab] w fun e w'=>e=.returned (.int .i64 9)/\w'=w:=by
 have H:=Ac (FN w n a m c i hK);rw[show decide (0<=i/\i<(m:Int))=false by simp;omega]at H;clear hK hi;go_enter Tryz.func105,Tryz.ntmps105;go_wp2_with (first|(go_at_call 151;refine(Aa H).mono ?_;rintro e w1 ⟨rfl,aa⟩;rw[aa];clear aa))
 go_ret
 exact⟨rfl,rfl⟩
theorem XJ(w:World)(n g m cap i:Nat)(at' ab:Int)(S:ByteArray)(hK:w.heap[n]?=some (.cells #[.slice (some ⟨g,0,none⟩) m cap] 110 (0,0)))(hi:i<m)(h1:w.cell? ⟨g,i*3+1,none⟩=some (.string S))(hx:at'<0\/(S.size:Int)<=at'\/ab<1\/255<ab):
  Calls Tryz.prog 105 #[ptr n,.int .i64 (i:Int),.int .i64 at',.int .i64 ab] w fun e w'=>e=.returned (.int .i64 9)/\w'=w:=by
 have H:=Ac (FN w n (some ⟨g,0,none⟩) m cap i hK);rw[show decide (0<=(i:Int)/\(i:Int)<(m:Int))=true by simp;omega]at H;have c1:w.cell? ⟨n,0,none⟩=some (.slice (some ⟨g,0,none⟩) m cap):=cell_of hK 0 _ rfl;have q1:(0:Int)<=(i:Int):=by omega
 have q2:(i:Int)<(m:Int):=by omega
 have HX:=Ac hx;clear hK hx;by_cases a0:at'<0
 ·go_enter Tryz.func105,Tryz.ntmps105;go_wp2_with (first|(go_at_call 151;refine(Aa H).mono ?_;rintro e w1 ⟨rfl,aa⟩;rw[aa];clear aa))
  go_ret
  exact⟨rfl,rfl⟩
 ·by_cases a1:(S.size:Int)<=at'
  ·go_enter Tryz.func105,Tryz.ntmps105;go_wp2_with (first|(go_at_call 151;refine(Aa H).mono ?_;rintro e w1 ⟨rfl,aa⟩;rw[aa];clear aa))
   go_ret
   exact⟨rfl,rfl⟩
  ·by_cases a2:ab<1
   ·go_enter Tryz.func105,Tryz.ntmps105;go_wp2_with (first|(go_at_call 151;refine(Aa H).mono ?_;rintro e w1 ⟨rfl,aa⟩;rw[aa];clear aa))
    go_ret
    exact⟨rfl,rfl⟩
   ·have a3:255<ab:=by have:=Aa HX;omega
    go_enter Tryz.func105,Tryz.ntmps105;go_wp2_with (first|(go_at_call 151;refine(Aa H).mono ?_;rintro e w1 ⟨rfl,aa⟩;rw[aa];clear aa))
    go_ret
    exact⟨rfl,rfl⟩
theorem Vu(w:World)(n g m cap i:Nat)(at' aa:Int)(S:ByteArray)(hK:w.heap[n]?=some (.cells #[.slice (some ⟨g,0,none⟩) m cap] 110 (0,0)))(hi:i<m)(h1:w.cell? ⟨g,i*3+1,none⟩=some (.string S))(h2:w.cell? ⟨g,i*3+2,none⟩=some (.bool true))(a0:¬at'<0)(a1:¬(S.size:Int)<=at')(a2:¬aa<1)(a3:¬255<aa):
  Calls Tryz.prog 105 #[ptr n,.int .i64 (i:Int),.int .i64 at',.int .i64 aa] w fun e w'=>e=.returned (.int .i64 18)/\w'=w:=by
 have H:=Ac (FN w n (some ⟨g,0,none⟩) m cap i hK);rw[show decide (0<=(i:Int)/\(i:Int)<(m:Int))=true by simp;omega]at H;have c1:w.cell? ⟨n,0,none⟩=some (.slice (some ⟨g,0,none⟩) m cap):=cell_of hK 0 _ rfl;have q1:(0:Int)<=(i:Int):=by omega
 have q2:(i:Int)<(m:Int):=by omega
 clear hK;go_enter Tryz.func105,Tryz.ntmps105;go_wp2_with (first|(go_at_call 151;refine(Aa H).mono ?_;rintro e w1 ⟨rfl,ab⟩;rw[ab];clear ab))
 go_ret
 exact⟨rfl,rfl⟩
theorem aai(w:World)(n g m cap i k:Nat)(s:List UInt8)(b:UInt8)(aa:World->Prop)(hK:w.heap[n]?=some (.cells #[.slice (some ⟨g,0,none⟩) m cap] 110 (0,0)))(hi:i<m)(hg:∃ad,w.heap[g]?=some (.cells ad 166 (0,0)))(h1:w.cell? ⟨g,i*3+1,none⟩=some (.string (str s)))(h2:w.cell? ⟨g,i*3+2,none⟩=some (.bool false))(hk:k<s.length)(ag:1<=b.toNat)
  (HP:Hid (∀w',Below w.heap.size w w'->aa ((w'.setCell ⟨g,i*3+1,none⟩ (.string (str (s.set k (s.getD k 0 ^^^ b))))).setCell ⟨g,i*3+2,none⟩ (.bool true)))):
  Calls Tryz.prog 105 #[ptr n,.int .i64 (i:Int),.int .i64 (k:Int),.int .i64 (b.toNat:Int)] w fun e w'=>e=.returned (.int .i64 0)/\aa w':=by
 have H:=Ac (FN w n (some ⟨g,0,none⟩) m cap i hK);rw[show decide (0<=(i:Int)/\(i:Int)<(m:Int))=true by simp;omega]at H;have HT:=Ac (Uq w s k b hk);have c1:w.cell? ⟨n,0,none⟩=some (.slice (some ⟨g,0,none⟩) m cap):=cell_of hK 0 _ rfl;have q1:(0:Int)<=(i:Int):=by omega
 have q2:(i:Int)<(m:Int):=by omega
 have ae:=Ax s;have a0:¬(k:Int)<0:=by omega
 have a1:¬((str s).size:Int)<=(k:Int):=by rw[ae];omega
 have ah:=b.toNat_lt;have a2:¬(b.toNat:Int)<1:=by omega
 have a3:¬255<(b.toNat:Int):=by omega
 have aj:IntKind.u8.wrap (b.toNat:Int)=(b.toNat:Int):=by rw[wrap_u8];omega
 obtain⟨ad,hg⟩:=hg;have ac:=(afR.1 hg).1;have HG:=Ac hg;generalize str (s.set k (s.getD k 0 ^^^ b))=S2 at *;generalize str s=S1 at *;generalize (b.toNat:Int)=B at *;clear hK ae hk ag ah hg;go_enter Tryz.func105,Tryz.ntmps105;go_wp2_with (first|(go_at_call 151;refine(Aa H).mono ?_;rintro e w1 ⟨rfl,af⟩;rw[af];clear af))
 refine(Aa HT).mono ?_;rintro e w2 ⟨rfl,hb⟩;have ab:=(hb.block g ac).trans (Aa HG);have d1:w2.cell? ⟨g,i*3+1,none⟩=some (.string S1):=(hb.cell (p:=⟨g,i*3+1,none⟩) ac).trans h1;have d2:w2.cell? ⟨g,i*3+2,none⟩=some (.bool false):=(hb.cell (p:=⟨g,i*3+2,none⟩) ac).trans h2;have z1:w2.frozen? ⟨g,i*3+1,none⟩=false:=open_list ab;have z2:w2.frozen? ⟨g,i*3+2,none⟩=false:=open_list ab;have ai:=lt_of_block ab;have HQ:=Ac ((Aa HP) w2 hb);clear hb ab;go_wp2
 go_ret
 exact⟨rfl,Aa HQ⟩
theorem take_set(l:List Value)(n i:Nat)(v:Value):(l.set i v).take n=(l.take n).set i v:=by
 apply agd;intro j;simp only[af7,afV,aga];by_cases hj:j<n
 ·by_cases e:i=j
  ·subst e;have:i<min n l.length↔i<l.length:=by omega
   simp[hj,this]
  ·simp[hj,e]
 ·by_cases e:i=j
  ·subst e;simp[hj];omega
  ·simp[hj,e]
theorem aaO{fl:List R.Fl}{f:R.Fl}(hf:fl[i]?=some f)(s':List UInt8):((tab BB fl).set (i*3+1) (.string (str s'))).set (i*3+2) (.bool true)=tab BB (fl.set i ⟨f.to,s',true⟩):=by
 have hl:=(afG.1 hf).1;rw[IU DK fl i 1 f ⟨f.to,s',f.Hy⟩ _ hf (by omega) rfl];rw[IU DK (fl.set i ⟨f.to,s',f.Hy⟩) i 2 ⟨f.to,s',f.Hy⟩ ⟨f.to,s',true⟩ _ (by simp[hl]) (by omega) rfl];rw[ag5]
theorem LW.Ji{F:Aq}(h:LW p F G w)(i at' aa:Int):Calls Tryz.prog 63 #[ptr p.x,.int .i64 i,.int .i64 at',.int .i64 aa] w fun e w'=>e=.returned (.int .i64 (R.Dt G i at' aa).1)/\∃F',LW p F' (R.Dt G i at' aa).2 w'/\Ap F F' w w':=by
 have c0:w.cell? ⟨p.x,0,none⟩=some (ptr p.n):=cell_of h.bx 0 _ rfl;obtain⟨K,hK,ac,hF⟩:=h.bn;have H:Calls Tryz.prog 105 #[ptr p.n,.int .i64 i,.int .i64 at',.int .i64 aa] w fun e w'=>e=.returned (.int .i64 (R.Dt G i at' aa).1)/\∃F',LW p F' (R.Dt G i at' aa).2 w'/\Ap F F' w w':=by
  unfold R.Dt;by_cases hi:R.off G i
  ·rw[if_pos hi];obtain⟨a,c,rfl⟩:=AX ac;refine(XL w p.n a G.Ak.length c i at' aa hK hi).mono ?_;rintro e w' ⟨rfl,rfl⟩;exact⟨rfl,F,h,Ap.refl F w'⟩
  ·rw[if_neg hi];obtain⟨k,f,rfl,hf⟩:=R.YZ hi;have hk:=(afG.1 hf).1;rw[afY,hf];rcases id ac.2 with ⟨_,h0⟩|⟨g,cap,ae,rfl,_,hg,af,ag,ap,aj⟩
   ·omega
   have q:∀j,j<3->ae[k*3+j]?=(BB f)[j]?:=fun j hj=>by
    rw[<-E7 DK G.Ak k j f hf hj,<-aj,af7,if_pos (by omega)];simp
   have v1:w.cell? ⟨g,k*3+1,none⟩=some (.string (str f.s)):=by
    have:=q 1 (by omega);simp[World.cell?,hg];simpa [BB] using this
   have v2:w.cell? ⟨g,k*3+2,none⟩=some (.bool f.Hy):=by
    have:=q 2 (by omega);simp[World.cell?,hg];simpa [BB] using this
   simp only;by_cases ha:at'<0\/(f.s.length:Int)<=at'\/aa<1\/255<aa
   ·rw[if_pos ha];refine(XJ w p.n g G.Ak.length cap k at' aa (str f.s) hK hk v1 (by rw[Ax];exact ha)).mono ?_;rintro e w' ⟨rfl,rfl⟩;exact⟨rfl,F,h,Ap.refl F w'⟩
   ·rw[if_neg ha];by_cases ad:f.Hy=true
    ·rw[if_pos ad];rw[ad]at v2;refine(Vu w p.n g G.Ak.length cap k at' aa (str f.s) hK hk v1 v2 (by omega) (by rw[Ax];omega) (by omega) (by omega)).mono ?_;rintro e w' ⟨rfl,rfl⟩;exact⟨rfl,F,h,Ap.refl F w'⟩
    ·rw[if_neg ad];have al:f.Hy=false:=by simpa using ad
     rw[al]at v2;obtain⟨a,rfl⟩:∃a:Nat,at'=(a:Int):=⟨at'.toNat,by omega⟩;obtain⟨b,rfl⟩:∃b:UInt8,aa=(b.toNat:Int):=⟨b8 aa,(Bj (by omega) (by omega)).symm⟩;rw[afY,OZ];have ai:p.n≠g:=AZ hK hg (by decide);refine(aai w p.n g G.Ak.length cap k a f.s b (fun w'=>∃F',LW p F' {G with Ak:=G.Ak.set k ⟨f.to,f.s.set a (f.s.getD a 0 ^^^ b),true⟩} w'/\Ap F F' w w') hK hk ⟨ae,hg⟩ v1 v2 (by omega) (by omega) ?_);intro w' hb;have am:=(hb.block g (afR.1 hg).1).trans hg;have ak:=(hb.block p.n (afR.1 hK).1).trans hK;have ao:=Ai (cs:=ae.toList) (off:=k*3+1) am (.string (str (f.s.set a (f.s.getD a 0 ^^^ b))));have ah:=Ai (off:=k*3+2) ao (.bool true);have ab:(G.Ak.set k ⟨f.to,f.s.set a (f.s.getD a 0 ^^^ b),true⟩).length=G.Ak.length:=by simp
     have hn:Ea w p.n (.slice (some ⟨g,0,none⟩) G.Ak.length cap) (G.Ak.set k ⟨f.to,f.s.set a (f.s.getD a 0 ^^^ b),true⟩) ((w'.setCell ⟨g,k*3+1,none⟩ (.string (str (f.s.set a (f.s.getD a 0 ^^^ b))))).setCell ⟨g,k*3+2,none⟩ (.bool true)):=by
      refine⟨⟨.slice (some ⟨g,0,none⟩) G.Ak.length cap,?_,?_,afJ rfl⟩,?_⟩
      ·rw[Below.heap_setCell _ _ _ _ (fun e=>ai e),Below.heap_setCell _ _ _ _ (fun e=>ai e)];exact ak
      ·refine⟨by rw[Dh DK,agF],afM ⟨g,cap,_,by rw[ab],af8 _,ah,by rw[ab];exact af,ag,by simpa using ap,?_⟩⟩;rw[ab];rw[take_set,take_set,aj,aaO hf]
      ·have an:Af (fun q=>q=p.n\/(Value.slice (some ⟨g,0,none⟩) G.Ak.length cap).ownBlock=some q) w w':=Af.Al hb _;exact(an.setCell (p:=⟨g,k*3+1,none⟩) (afJ (afM rfl)) _).setCell (p:=⟨g,k*3+2,none⟩) (afJ (afM rfl)) _
     refine h.net hK ac hn hF (R.Wf.Pw h.wf (by rw[ab];exact h.wf.E3) (fun q hq=>?_));rcases agc hq with r|r
     ·exact h.wf.Eo q r
     ·rw[r];simpa using h.wf.Eo f (afU hf)
 have HH:=Ac H;clear H h hK ac hF;generalize R.Dt G i at' aa=r at *;go_enter Tryz.func63,Tryz.ntmps63;go_wp2_with (first|(go_at_call 105;refine(Aa HH).mono ?_;rintro e w1 ⟨rfl,aq⟩))
 go_returns;exact⟨rfl,aq⟩
theorem Au.adB{q:RP}(h:Au w0 q p c s G w)(i:Int):Calls Tryz.prog 62 #[ptr q.x,.int .i64 i] w fun e w'=>e=.returned (.int .i64 (R.DG G i).1)/\Au w0 q p c s (R.DG G i).2 w':=
 h.step (P:=fun e=>e=.returned (.int .i64 (R.DG G i).1)) (fun p' F hx hw _=>by rw[<-hx];exact(hw.copy i).mono (fun e w' q=>⟨q.1,E8.aba q.2⟩))
theorem Au.adg{q:RP}(h:Au w0 q p c s G w)(i a b:Int):Calls Tryz.prog 63 #[ptr q.x,.int .i64 i,.int .i64 a,.int .i64 b] w fun e w'=>e=.returned (.int .i64 (R.Dt G i a b).1)/\Au w0 q p c s (R.Dt G i a b).2 w':=
 h.step (P:=fun e=>e=.returned (.int .i64 (R.Dt G i a b).1)) (fun p' F hx hw _=>by rw[<-hx];exact(hw.Ji i a b).mono (fun e w' q=>⟨q.1,E8.aba q.2⟩))
theorem Au.SK{q:RP}(h:Au w0 q p c s G w)(aa:Int):Calls Tryz.prog 60 #[ptr q.x,.int .i64 aa] w fun e w'=>e=.returned (.int .i64 (R.Bb G aa).1)/\Au w0 q p c s (R.Bb G aa).2 w':=
 h.step (P:=fun e=>e=.returned (.int .i64 (R.Bb G aa).1)) (fun p' F hx hw _=>by rw[<-hx];exact hw.Gk aa)
theorem Au.UT{q:RP}(h:Au w0 q p c s G w){kind:Nat}(aa:R.CZ name=true)(hk:kind<=2)(he:R.BI G name=some j):Calls Tryz.prog 48 #[ptr q.x,.string (str name),.int .i64 (kind:Int)] w fun e w'=>e=.returned (.tuple #[.int .i64 (R.Bd G name kind).1.1,.int .i64 (R.Bd G name kind).1.2])/\Au w0 q p c s (R.Bd G name kind).2 w':=
 h.step (P:=fun e=>e=.returned (.tuple #[.int .i64 (R.Bd G name kind).1.1,.int .i64 (R.Bd G name kind).1.2])) (fun p' F hx hw _=>by
  rw[<-hx];exact Lb w p'.x p'.n p'.s p'.cs G.Ad.length p'.cap (str name) kind _ _ _ hw.bx (hw.QC aa (by omega) he))
theorem Agree.copy(h:Agree c s M G)(i:Int):Agree c s M (R.DG G i).2:=h.same (R.Sm.copy G i) (h.inv.copy i) (h.room.copy i)
theorem Agree.Ji(h:Agree c s M G)(i a b:Int):Agree c s M (R.Dt G i a b).2:=h.same (R.Sm.Ji G i a b) (h.inv.Ji i a b) (h.room.Ji i a b)
structure Plain(c:R.Cf)(G:R.Wd):Prop where
 cf:G.c=c
 E3:G.Ak=[]
 BN:(G.Aj,G.seen,G.jobs)=([0,0,0],List.replicate 9 R.Cs,[])
 each:∀(j:Nat) (x:R.Cl),G.Ad[j]?=some x->x.lines=List.replicate c.lines.toNat R.JC/\x.Ae=1
theorem PS(h:Plain c G)(i:Nat)(u:Int):Plain c (A1 G i u):=by
 refine⟨h.cf,h.E3,h.BN,fun j x hx=>?_⟩;obtain⟨c0,h0,rfl⟩:=Dc hx;split<;>exact h.each j c0 h0
theorem Oy(c:R.Cf):∀k,Plain c (E1 c k)
 |0=>⟨rfl,rfl,rfl,fun j x hx=>by obtain⟨_,rfl⟩:=ER hx;exact⟨rfl,rfl⟩⟩
 |k+1=>by
  have h:=Oy c k;exact⟨h.cf,h.E3,h.BN,h.each⟩
theorem Ll(h:Plain c G)(i:Nat)(u:List Int):∀k,Plain c (BQ G i u k)
 |0=>h
 |k+1=>PS (Ll h i u k) i _
theorem KE(c:R.Cf):∀i,Plain c (Dl c i)
 |0=>Oy c 3
 |i+1=>Ll (KE c i) i _ 3
theorem K5{u:List Int}{x:R.Cl}(h:G.Ad[j]?=some x)(hi:i≠j):∀k,(BQ G i u k).Ad[j]?=some x
 |0=>h
 |k+1=>by
  show (A1 (BQ G i u k) i _).Ad[j]?=_;rw[CJ,K5 h hi k];simp[hi]
theorem Oa:∀(i j:Nat) (x:R.Cl),(Dl c i).Ad[j]?=some x->j<i->(1:Int)∈x.bound/\(2:Int)∈x.bound/\(3:Int)∈x.bound
 |0,_,_,_,h=>by omega
 |i+1,j,x,hx,h=>by
  have hl:(Dl c (i+1)).Ad.length=(Dl c i).Ad.length:=by rw[Gi,Gi]
  have hj:j<(Dl c i).Ad.length:=by rw[<-hl];exact(afG.1 hx).1
  have h0:=afH hj;by_cases aa:i=j
  ·subst aa;have e:(Dl c (i+1)).Ad[i]?=some {(Dl c i).Ad[i] with bound:=(((Dl c i).Ad[i].bound++[1])++[2])++[3]}:=by
    show (A1 (A1 (A1 (Dl c i) i 1) i 2) i 3).Ad[i]?=_;rw[CJ,CJ,CJ,h0];simp
   rw[e]at hx;cases hx;simp
  ·have e:(Dl c (i+1)).Ad[j]?=_:=K5 h0 aa 3;rw[e]at hx;exact Oa i j x (h0.trans hx) (by omega)
theorem GJ(c:R.Cf):∀i,(Dl c i).Ab=(E1 c 3).Ab
 |0=>rfl
 |i+1=>GJ c i
theorem QB{kind:Int}(h1:R.CZ name=true)(h2:0<=kind/\kind<=2)(h3:¬name∈G.names)(h4:¬G.names.length=6)(h5:¬G.Ab.length=255):R.Bd G name kind=(((G.Ab.length:Int)+1,0),BJ G name kind):=by
 have he:R.BI G name=none:=by
  unfold R.BI;rw[ag0];intro x hx;simp;rintro rfl;exact h3 hx
 unfold R.Bd;rw[h1,if_neg (by simp),if_neg (by omega),he];simp only;rw[if_neg h4,if_neg h5];rfl
theorem MQ(hi:i<G.Ad.length)(hs:AF G name=some u):(R.E4 G i name).2=A1 G i u:=by
 unfold R.E4;rw[if_neg (by omega)];unfold AF at hs;cases he:R.BI G name with
 |none=>rw[he]at hs;cases hs
 |some k=>
  rw[he]at hs;simp only[af9,Option.some.injEq]at hs;simp only[hs];unfold A1;simp
theorem UX(hc:R.BD c):∀k,k<=3->R.Inv (fun _=>none) (E1 c k)/\R.Room (E1 c k)
 |0,_=>by
  have hn:R.Wj c=some (newG c):=by
   unfold R.Wj;rw[if_pos hc];rfl
  exact⟨R.Inv.new hn,R.Room.new hn⟩
 |k+1,hk=>by
  obtain⟨h1,h2⟩:=UX hc k (by omega);have e:=QB (G:=E1 c k) (name:=A6 k) (kind:=(k:Int)) (M8 k) (by omega) (QA c (by omega)) (by rw[Fj];simp;omega) (by rw[CQ];simp;omega);have g1:=h1.export (A6 k) k;have g2:=h2.export (A6 k) k;rw[e]at g1 g2;exact⟨g1,g2⟩
theorem Oq(hi:i<(newG c).Ad.length)(h:R.Inv (fun _=>none) (Dl c i)/\R.Room (Dl c i)):∀k,k<=3->R.Inv (fun _=>none) (BQ (Dl c i) i (EH 3) k)/\R.Room (BQ (Dl c i) i (EH 3) k)
 |0,_=>h
 |k+1,hk=>by
  obtain⟨h1,h2⟩:=Oq hi h k (by omega);have hu:((EH 3)[k]?).getD 0=(k:Int)+1:=by
   have h3:k=0\/k=1\/k=2:=by omega
   rcases h3 with rfl|rfl|rfl<;>rfl
  have e:(R.E4 (BQ (Dl c i) i (EH 3) k) i (A6 k)).2=A1 (BQ (Dl c i) i (EH 3) k) i (((EH 3)[k]?).getD 0):=MQ (by rw[E9,Gi];exact hi) (by rw[Eh,GI,Jq c (by omega),hu]);have g1:=h1.imports i (A6 k);have g2:=h2.imports i (A6 k);rw[e]at g1 g2;exact⟨g1,g2⟩
theorem PD(hc:R.BD c):∀i,i<=(newG c).Ad.length->R.Inv (fun _=>none) (Dl c i)/\R.Room (Dl c i)
 |0,_=>UX hc 3 (afI _)
 |i+1,hi=>Oq (by omega) (PD hc i (by omega)) 3 (afI _)
theorem Q5(c:R.Cf):(newG c).Ad.length=c.Ad.toNat:=by simp[newG]
theorem agree_start(hc:R.BD c)(D K:Value):Agree c ⟨List.replicate c.Ad.toNat 1,List.replicate (3*c.Ad.toNat) 0,EH 3,3,.slice none 0 0,D,K,[],Gl 3,Hm 3⟩ (fun _=>none) (Dl c c.Ad.toNat):=by
 have hl:=Q5 c;obtain⟨h1,h2⟩:=PD hc c.Ad.toNat (by omega);have hp:=KE c c.Ad.toNat;have ab:(Dl c c.Ad.toNat).Ad.length=c.Ad.toNat:=by rw[Gi,hl]
 have ac:(Dl c c.Ad.toNat).Ab=[⟨0,true,[]⟩,⟨1,true,[]⟩,⟨2,true,[]⟩]:=by rw[GJ,CQ];rfl
 have ad:=hc;unfold R.BD at ad;refine⟨h1,h2,hp.cf,?_,by simp[ab],fun i cl k l hi hk=>?_,rfl,fun k hk=>?_,fun i cl u hi hu=>?_,by rw[ac];rfl,by rw[ac];rfl,by rw[ac];rfl,fun u n sv hn _ h0=>?_,CY.none⟩
 ·refine agd (fun i=>?_);rw[afW];cases hi:(Dl c c.Ad.toNat).Ad[i]? with
  |none=>
   have:=ag1.1 hi;rw[af5 (by simp;omega)];rfl
  |some x=>
   have:=(afG.1 hi).1;rw[afZ,if_pos (by omega)];simp[(hp.each i x hi).2]
 ·have ae:=(afG.1 hi).1;have aa:=(afG.1 hk).1;obtain⟨e1,_⟩:=hp.each i cl hi;rw[e1]at hk aa;simp only[List.length_replicate]at aa;rw[afZ,if_pos aa]at hk;cases hk;simp only[afZ];rw[if_pos (by omega)];rfl
 ·refine⟨(k:Int)+1,?_,by rw[GI];exact Jq c hk,by rw[Kq];exact Oj c hk⟩;have h3:k=0\/k=1\/k=2:=by omega
  rcases h3 with rfl|rfl|rfl<;>rfl
 ·have ae:=(afG.1 hi).1;obtain⟨b1,b2,b3⟩:=Oa _ i cl hi (by omega);have h3:u=1\/u=2\/u=3:=by simpa [EH] using hu
  rcases h3 with rfl|rfl|rfl<;>assumption
 ·have:n=-1:=by
   simp only[Gl]at hn;rw[afZ]at hn;split at hn
   ·cases hn;rfl
   ·cases hn
  omega
structure Fit(c:R.Cf)(s:RS)(M:R.Bk)(G:R.Wd):Prop where
 inv:R.Inv M G
 room:R.Room G
 cf:G.c=c
 Ae:s.Ae=G.Ad.map (·.Ae)
 sql:s.seq.length=3*G.Ad.length
 seq:∀(i:Nat) (cl:R.Cl) (k:Nat) (l:R.Ln),G.Ad[i]?=some cl->cl.lines[k]?=some l->s.seq[3*i+k]?=some l.seq
 ul:s.uid.length=3
 uid:∀k,k<3->∃u,s.uid[k]?=some u/\AF G (A6 k)=some u/\kindOf G u=(k:Int)
 nu:s.nu=(G.Ab.length:Int)
 kinds:s.kinds=G.Ab.map (·.kind)
 dl:s.dead.length=G.Ab.length
 dead:∀(u:Nat) (n:Int) (sv:R.Sv),s.dead[u]?=some n->G.Ab[u]?=some sv->0<=n->sv.alive=false/\(sv.log.length:Int)=n
 book:CY (s.made.map (·.1)) M
theorem Agree.fit(h:Agree c s M G):Fit c s M G:=⟨h.inv,h.room,h.cf,h.Ae,h.sql,h.seq,h.ul,h.uid,h.nu,h.kinds,h.dl,h.dead,h.book⟩
theorem Fit.agree(h:Fit c s M G)(hb:∀(i:Nat) (cl:R.Cl) (u:Int),G.Ad[i]?=some cl->u∈s.uid->u∈cl.bound):Agree c s M G:=⟨h.inv,h.room,h.cf,h.Ae,h.sql,h.seq,h.ul,h.uid,hb,h.nu,h.kinds,h.dl,h.dead,h.book⟩
theorem Fit.import(h:Fit c s M G)(hi:i<G.Ad.length)(hs:AF G name=some u):Fit c s M (A1 G i u):=by
 have e:=MQ hi hs;have h1:=h.inv.imports i name;have h2:=h.room.imports i name;rw[e]at h1 h2;have hg:∀(j:Nat) (x:R.Cl),(A1 G i u).Ad[j]?=some x->∃c0,G.Ad[j]?=some c0/\x.Ae=c0.Ae/\x.lines=c0.lines:=fun j x hx=>by
  obtain⟨c0,g0,rfl⟩:=Dc hx;refine⟨c0,g0,?_,?_⟩<;>split<;>rfl
 refine⟨h1,h2,h.cf,?_,?_,fun j cl k l hj hl=>?_,h.ul,h.uid,h.nu,h.kinds,h.dl,h.dead,h.book⟩
 ·rw[h.Ae];refine agd (fun j=>?_);rw[afW,afW,CJ];cases G.Ad[j]? with
  |none=>rfl
  |some c0=>
   simp only[af9];split<;>rfl
 ·rw[h.sql];simp[A1]
 ·obtain⟨c0,g0,_,g2⟩:=hg j cl hj;rw[g2]at hl;exact h.seq j c0 k l g0 hl
theorem Fit.binds(h:Fit c s M G)(hi:i<G.Ad.length):∀k,k<=3->Fit c s M (BQ G i s.uid k)
 |0,_=>h
 |k+1,hk=>by
  have ih:=Fit.binds h hi k (by omega);obtain⟨u,h1,h2,_⟩:=h.uid k (by omega);show Fit c s M (A1 (BQ G i s.uid k) i ((s.uid[k]?).getD 0));rw[h1];exact ih.import (by rw[E9];exact hi) (name:=A6 k) (by rw[Eh];exact h2)
theorem Hz:∀(k j:Nat) (x:R.Cl),(BQ G i uid k).Ad[j]?=some x->∃c0,G.Ad[j]?=some c0/\(∀u,u∈c0.bound->u∈x.bound)/\(i=j->∀n,n<k->(uid[n]?).getD 0∈x.bound)
 |0,j,x,h=>⟨x,h,fun _ q=>q,fun _ n hn=>by omega⟩
 |k+1,j,x,h=>by
  obtain⟨y,h1,rfl⟩:=Dc (show (A1 (BQ G i uid k) i ((uid[k]?).getD 0)).Ad[j]?=some x from h);obtain⟨c0,g1,g2,g3⟩:=Hz k j y h1;refine⟨c0,g1,fun u hu=>?_,fun e n hn=>?_⟩
  ·have:=g2 u hu;split
   ·exact agK _ this
   ·exact this
  ·rw[if_pos e];by_cases hk:n=k
   ·subst hk;simp
   ·exact agK _ (g3 e n (by omega))
def CK(G:R.Wd)(uid:List Int):Nat->R.Wd
 |0=>G
 |i+1=>BQ (CK G uid i) i uid 3
theorem FI(G:R.Wd)(uid:List Int):∀i,(CK G uid i).Ad.length=G.Ad.length
 |0=>rfl
 |i+1=>(E9 _ _ _ 3).trans (FI G uid i)
theorem Jc(G:R.Wd)(uid:List Int)(n:List UInt8):∀i,AF (CK G uid i) n=AF G n
 |0=>rfl
 |i+1=>(Eh _ _ _ n 3).trans (Jc G uid n i)
theorem JK(G:R.Wd)(uid:List Int)(n:Int):∀i,kindOf (CK G uid i) n=kindOf G n
 |0=>rfl
 |i+1=>(GH _ _ _ n 3).trans (JK G uid n i)
theorem Fit.CK(h:Fit c s M G):∀i,i<=G.Ad.length->Fit c s M (CK G s.uid i)
 |0,_=>h
 |i+1,hi=>(Fit.CK h i (by omega)).binds (by rw[FI];omega) 3 (afI _)
theorem Ja(hu:uid.length=3):∀(m j:Nat) (x:R.Cl),(CK G uid m).Ad[j]?=some x->j<m->∀u∈uid,u∈x.bound
 |0,_,_,_,h=>by omega
 |m+1,j,x,hx,hj=>by
  obtain⟨c0,g1,g2,g3⟩:=Hz 3 j x hx;intro u aa;by_cases hm:m=j
  ·obtain⟨n,hn,rfl⟩:=agu aa;have:=g3 hm n (by omega);rw[afH hn]at this;exact this
  ·exact g2 u (Ja hu m j c0 g1 (by omega) u aa)
theorem Fit.all(h:Fit c s M G):Agree c s M (Go.Proofs.YtblomippkddgiabGreatDoor.CK G s.uid G.Ad.length):=
 (h.CK _ (afI _)).agree (fun i cl u hi hu=>Ja h.ul _ i cl hi (by
  have:=(afG.1 hi).1;rw[FI]at this;exact this) u hu)
def F8(dead:List Int)(sv:List R.Sv):List Int:=(List.range dead.length).map fun (u:Nat)=>if 0<=(dead[u]?).getD 0 then (dead[u]?).getD 0 else ((((sv[u]?).map (·.log)).getD []).length:Int)
theorem SX{dead:List Int}{sv:List R.Sv}{u:Nat}(h:(F8 dead sv)[u]?=some n):∃d,dead[u]?=some d/\n=if 0<=d then d else ((((sv[u]?).map (·.log)).getD []).length:Int):=by
 unfold F8 at h;rw[afW]at h;cases hr:(List.range dead.length)[u]? with
 |none=>rw[hr]at h;cases h
 |some m=>
  rw[hr]at h;obtain⟨hm,rfl⟩:=afG.1 hr;simp only[List.length_range]at hm;simp only[List.getElem_range,af9,Option.some.injEq]at h;refine⟨dead[u],afH hm,?_⟩;rw[afH hm]at h;exact h.symm
theorem Agree.ME(h:Agree c s M G):Agree c {s with dead:=F8 s.dead G.Ab} M (R.Bb G (-1)).2:=by
 have hG:(R.Bb G (-1)).2=Bs G (G.Ab.map fun s=>{s with alive:=false}) [0,0,0] (List.replicate 9 R.Cs) []:=by
  unfold R.Bb;rw[if_pos rfl]
 have hI:=h.inv.Gk (-1);have hR:=h.room.Gk h.inv.wf.cf (-1);rw[hG]at hI hR ⊢;refine⟨hI,hR,h.cf,h.Ae,h.sql,h.seq,h.ul,fun k hk=>?_,h.bound,by simpa using h.nu,?_,?_,fun u n sv hn hs h0=>?_,h.book⟩
 ·obtain⟨u,h1,h2,h3⟩:=h.uid k hk;refine⟨u,h1,h2,?_⟩;rw[<-h3];unfold kindOf;simp only[afW];cases G.Ab[(u-1).toNat]?<;>rfl
 ·show s.kinds=_;rw[h.kinds];simp
 ·show (F8 s.dead G.Ab).length=_;simp[F8,h.dl]
 ·simp only[afW]at hs;cases hs0:G.Ab[u]? with
  |none=>rw[hs0]at hs;cases hs
  |some s0=>
   rw[hs0]at hs;cases hs;obtain⟨d,d1,d2⟩:=SX hn;refine⟨rfl,?_⟩;rw[hs0]at d2;simp only[af9,af2]at d2;split at d2
   ·rename_i q;rw[d2];exact(h.dead u d s0 d1 hs0 q).2
   ·exact d2.symm
def LD(l:List Int)(i:Nat):Nat->List Int
 |0=>l
 |k+1=>(LD l i k).set (3*i+k) 0
theorem Ir(l:List Int)(i:Nat):∀k,(LD l i k).length=l.length
 |0=>rfl
 |k+1=>by
  show ((LD l i k).set (3*i+k) 0).length=_;rw[agq,Ir l i k]
theorem Q6(l:List Int)(i j:Nat):∀k,(LD l i k)[j]?=if 3*i<=j/\j<3*i+k/\j<l.length then some 0 else l[j]?
 |0=>by
  rw[if_neg (by omega)];rfl
 |k+1=>by
  show ((LD l i k).set (3*i+k) 0)[j]?=_;rw[afV,Ir,Q6 l i j k];by_cases h1:3*i+k=j
  ·subst h1;rw[if_pos rfl];by_cases h2:3*i+k<l.length
   ·rw[if_pos h2,if_pos (by omega)]
   ·rw[if_neg h2,if_neg (by omega),af5 (by omega)]
  ·rw[if_neg h1];by_cases h2:3*i<=j/\j<3*i+k/\j<l.length
   ·rw[if_pos h2,if_pos (by omega)]
   ·rw[if_neg h2,if_neg (by omega)]
theorem Qr(hi:G.Ad[i]?=some cl)(h:cl.Ae≠255):R.Bb G (i:Int)=(0,{G with Ad:=G.Ad.set i (R.FF (cl.Ae+1) G.c.lines)}):=by
 have hl:R.FP G (i:Int)=cl.Ae:=by
  unfold R.FP;rw[afY,hi];rfl
 have:=(afG.1 hi).1;unfold R.Bb;rw[if_neg (by omega),if_neg (by omega),hl,if_neg h,afY]
theorem Qs(hi:G.Ad[i]?=some cl)(h:cl.Ae=255):R.Bb G (i:Int)=(11,G):=by
 have hl:R.FP G (i:Int)=cl.Ae:=by
  unfold R.FP;rw[afY,hi];rfl
 have:=(afG.1 hi).1;unfold R.Bb;rw[if_neg (by omega),if_neg (by omega),hl,if_pos h]
theorem Es{l:Int}{x:R.Ln}(h:(R.FF l n).lines[k]?=some x):x=R.JC/\k<n.toNat:=by
 simp only[R.FF,afZ]at h;split at h
 ·rename_i q;exact⟨(Option.some.inj h).symm,q⟩
 ·cases h
theorem Agree.MD(h:Agree c s M G)(hi:G.Ad[i]?=some cl)(hl:cl.Ae≠255):
  Agree c {s with Ae:=s.Ae.set i (cl.Ae+1),seq:=LD s.seq i 3} M (BQ (R.Bb G (i:Int)).2 i s.uid 3):=by
 have ae:=(afG.1 hi).1;have hI:=h.inv.Gk (i:Int);have hR:=h.room.Gk h.inv.wf.cf (i:Int);rw[Qr hi hl]at hI hR ⊢;have af:=h.inv.wf.cf;unfold R.BD at af;have hf:Fit c {s with Ae:=s.Ae.set i (cl.Ae+1),seq:=LD s.seq i 3} M {G with Ad:=G.Ad.set i (R.FF (cl.Ae+1) G.c.lines)}:=by
  refine⟨hI,hR,h.cf,?_,?_,fun j ac k l hj hk=>?_,h.ul,h.uid,h.nu,h.kinds,h.dl,h.dead,h.book⟩
  ·show s.Ae.set i (cl.Ae+1)=(G.Ad.set i (R.FF (cl.Ae+1) G.c.lines)).map (·.Ae);rw[h.Ae,List.map_set];rfl
  ·show (LD s.seq i 3).length=_;rw[Ir,h.sql];simp
  ·show (LD s.seq i 3)[3*j+k]?=some l.seq;rw[Q6];have aa:(G.Ad.set i (R.FF (cl.Ae+1) G.c.lines))[j]?=some ac:=hj;rw[afV]at aa;by_cases ab:i=j
   ·subst ab;rw[if_pos rfl,if_pos ae]at aa;cases aa;obtain⟨rfl,ai⟩:=Es hk;rw[if_pos (by rw[h.sql];omega)];rfl
   ·rw[if_neg ab]at aa;have aj:=(afG.1 hk).1;have ak:=(h.inv.wf.cl j ac aa).lines;rw[if_neg (by omega)];exact h.seq j ac k l aa hk
 have ag:=hf.binds (i:=i) (by simpa using ae) 3 (afI _);refine ag.agree (fun j x u hx hu=>?_);obtain⟨c0,g1,g2,g3⟩:=Hz 3 j x hx;by_cases ab:i=j
 ·obtain⟨n,hn,rfl⟩:=agu hu;have al:s.uid.length=3:=h.ul;have ah:n<s.uid.length:=hn;have:=g3 ab n (by omega);rw[afH ah]at this;exact this
 ·have ad:(G.Ad.set i (R.FF (cl.Ae+1) G.c.lines))[j]?=some c0:=g1;rw[afV,if_neg ab]at ad;exact g2 u (h.bound j c0 u ad hu)
def EK(s:RS)(G:R.Wd)(k:Nat):List Int:=if ((s.dead[(((s.uid[k]?).getD 0)-1).toNat]?).getD 0)<0 then s.dead.set (((s.uid[k]?).getD 0)-1).toNat ((R.Ho G ((s.uid[k]?).getD 0)).length:Int) else s.dead
theorem Lh(s:RS)(G:R.Wd)(k:Nat):(EK s G k).length=s.dead.length:=by
 unfold EK;split<;>simp
theorem Wi(hj:j<3)(hk:k<3)(h:A6 j=A6 k):j=k:=by
 revert h
 obtain rfl|rfl|rfl:j=0\/j=1\/j=2:=by omega
 all_goals obtain rfl|rfl|rfl:k=0\/k=1\/k=2:=by omega
 all_goals decide
theorem Ol(hk:k<3)(hs:AF G (A6 k)=some u)(aa:G.Ab.length<255):
  ∃j,R.BI G (A6 k)=some j/\R.Bd G (A6 k) (k:Int)=(((G.Ab.length:Int)+1,0),{R.Ch G u with stands:=G.stands.set j ((G.Ab.length:Int)+1),Ab:=(R.Ch G u).Ab++[⟨(k:Int),true,[]⟩]}):=by
 unfold AF at hs;cases he:R.BI G (A6 k) with
 |none=>rw[he]at hs;cases hs
 |some j=>
  rw[he]at hs;have ac:G.stands.getD j 0=u:=Option.some.inj hs;refine⟨j,rfl,?_⟩;have ab:R.CZ (A6 k)=true:=by
   obtain rfl|rfl|rfl:k=0\/k=1\/k=2:=by omega
   all_goals decide
  unfold R.Bd;rw[ab,if_neg (by simp),if_neg (by omega),he];simp only[ac];rw[if_neg (by omega)];rfl
theorem NQ(hk:k<3)(hs:AF G (A6 k)=some u)(aa:G.Ab.length=255):R.Bd G (A6 k) (k:Int)=((0,11),G):=by
 unfold AF at hs;cases he:R.BI G (A6 k) with
 |none=>rw[he]at hs;cases hs
 |some j=>
  have ab:R.CZ (A6 k)=true:=by
   obtain rfl|rfl|rfl:k=0\/k=1\/k=2:=by omega
   all_goals decide
  unfold R.Bd;rw[ab,if_neg (by simp),if_neg (by omega),he];simp only;rw[if_pos aa]
abbrev JW(s:RS)(G:R.Wd)(k:Nat)(D K:Value):RS:={s with uid:=s.uid.set k (s.nu+1),nu:=s.nu+1,dead:=EK s G k++[-1],kinds:=s.kinds++[(k:Int)],D:=D,K:=K}
theorem Agree.exports(h:Agree c s M G)(hk:k<3)(ag:G.Ab.length<255)(D K:Value):
  Fit c (JW s G k D K) M (R.Bd G (A6 k) (k:Int)).2:=by
 obtain⟨u,av,am,ax⟩:=h.uid k hk;obtain⟨j,he,au⟩:=Ol hk am ag;have hI:=h.inv.export (A6 k) (k:Int);have hR:=h.room.export (A6 k) (k:Int);rw[au]at hI hR ⊢;have aq:=h.inv.wf.st;have aw:=(afG.1 (R.Ek he)).1;have ae:∀(n:List UInt8) (v:Int),AF G n=some v->1<=v/\v<=(G.Ab.length:Int):=fun n v hv=>by
  unfold AF at hv;cases hn:R.BI G n with
  |none=>rw[hn]at hv;cases hv
  |some m=>
   rw[hn]at hv;have hm:=(afG.1 (R.Ek hn)).1;have an:G.stands.getD m 0=v:=Option.some.inj hv;have ap:m<G.stands.length:=by omega
   rw[afX,afH ap]at an;have:=h.inv.wf.I5 G.stands[m] (agr ap);simp only[af2]at an;rw[<-an];omega
 obtain⟨a,rfl⟩:∃a:Nat,u=(a:Int)+1:=⟨(u-1).toNat,by have:=ae _ _ am;omega⟩;have ha:a<G.Ab.length:=by have:=ae _ _ am;omega
 have al:∀(b:Nat),(R.Ch G ((a:Int)+1)).Ab[b]?=(G.Ab[b]?).map fun x=>if a=b then {x with alive:=false} else x:=fun b=>by
  simp only[R.Ch,agm];rw[show ((a:Int)+1-1).toNat=a by omega];by_cases h:a=b<;>simp[h]
 have ab:(R.Ch G ((a:Int)+1)).Ab.length=G.Ab.length:=by simp[R.Ch]
 refine⟨hI,hR,h.cf,h.Ae,h.sql,h.seq,by simpa using h.ul,fun k' ao=>?_,?_,?_,?_,fun b n sv hn hs h0=>?_,h.book⟩
 ·by_cases aj:k=k'
  ·subst aj;refine⟨s.nu+1,?_,?_,?_⟩
   ·simp[show k<s.uid.length by rw[h.ul];exact hk]
   ·rw[h.nu];exact(Hd aq he _ _).1 rfl
   ·rw[h.nu];show kindOf _ _=_;unfold kindOf;simp[ab]
  ·obtain⟨u',g1,g2,g3⟩:=h.uid k' ao;refine⟨u',?_,?_,?_⟩
   ·simp[aj,g1]
   ·rw[<-g2];exact(Hd aq he _ _).2 (fun e=>aj (Wi hk ao e.symm))
   ·rw[<-g3];have hb:=ae _ _ g2;unfold kindOf;simp only[List.getElem?_append,ab];rw[if_pos (by omega),al];cases G.Ab[(u'-1).toNat]? with
    |none=>rfl
    |some x=>
     simp only[af9,af2];split<;>rfl
 ·show s.nu+1=_;rw[h.nu];simp[ab]
 ·show s.kinds++[(k:Int)]=_;rw[h.kinds];simp only[agw,agD,agV];congr 1;refine agd (fun b=>?_);rw[afW,afW,al];cases G.Ab[b]? with
  |none=>rfl
  |some x=>
   simp only[af9];split<;>rfl
 ·show (EK s G k++[-1]).length=_;simp[Lh,ab,h.dl]
 ·have aa:(EK s G k++[-1])[b]?=some n:=hn;have ac:((R.Ch G ((a:Int)+1)).Ab++[⟨(k:Int),true,[]⟩])[b]?=some sv:=hs;rw[List.getElem?_append,Lh,h.dl]at aa;rw[List.getElem?_append,ab]at ac;by_cases hb:b<G.Ab.length
  ·rw[if_pos hb]at aa ac;rw[al]at ac;have af:G.Ab[b]?=some G.Ab[b]:=afH hb;rw[af]at ac;simp only[af9,Option.some.injEq]at ac;have ai:s.dead[b]?=some (s.dead[b]'(by rw[h.dl];exact hb)):=afH _;unfold EK at aa;rw[av]at aa;simp only[af2,show ((a:Int)+1-1).toNat=a by omega]at aa;by_cases ah:a=b
   ·subst ah;rw[if_pos rfl]at ac;rw[ai]at aa;simp only[af2]at aa;split at aa
    ·rw[afV,if_pos rfl,if_pos (by rw[h.dl];exact ha)]at aa;have ak:=Option.some.inj aa;rw[<-ak,<-ac];refine⟨rfl,?_⟩;unfold R.Ho;rw[show ((a:Int)+1-1).toNat=a by omega,af];rfl
    ·rw[ai]at aa;have ak:=Option.some.inj aa;have:=h.dead a n _ (by rw[ai,ak]) af h0;rw[<-ac];exact⟨rfl,this.2⟩
   ·rw[if_neg ah]at ac;have ar:s.dead[b]?=some n:=by
     split at aa
     ·rw[afV,if_neg ah]at aa;exact aa
     ·exact aa
    rw[<-ac];exact h.dead b n _ ar af h0
  ·rw[if_neg hb]at aa;have ad:([(-1:Int)])[b-G.Ab.length]?=some n:=aa;cases hbb:b-G.Ab.length with
   |zero=>
    rw[hbb]at ad;have:(-1:Int)=n:=Option.some.inj ad;omega
   |succ m=>
    rw[hbb]at ad;cases ad
theorem YC{sv:List R.Sv}{u:Nat}{s:R.Sv}{e:R.En}(h:sv[u]?=some s)(he:e∈s.log):e∈A9 sv:=
 ag3.2 ⟨s,afU h,he⟩
def C9(a b:List R.Sv):Prop:=∀e,e∈A9 a->e∈A9 b
theorem C9.refl(a:List R.Sv):C9 a a:=fun _ h=>h
theorem C9.trans{b c:List R.Sv}(h:C9 a b)(k:C9 b c):C9 a c:=fun e he=>k e (h e he)
theorem C9.each{b:List R.Sv}(h:∀(u:Nat) (s:R.Sv),a[u]?=some s->∃s',b[u]?=some s'/\∃t,s'.log=s.log++t):C9 a b:=fun e he=>by
 obtain⟨s,h1,h2⟩:=ag3.1 he;obtain⟨u,hu,rfl⟩:=agu h1;obtain⟨s',g1,t,g2⟩:=h u _ (afH hu);exact YC g1 (by rw[g2];exact agK _ h2)
theorem C9.same(h:R.Sm G G'):C9 G.Ab G'.Ab:=C9.each fun u s hs=>by
 have hu:=(afG.1 hs).1;have aa:u<G'.Ab.length:=by rw[h.sv.len];exact hu
 obtain⟨s0,g1,_,_,t,g4⟩:=h.sv.each u _ (afH aa);rw[hs]at g1;cases g1;exact⟨_,afH aa,t,g4⟩
theorem C9.Gk(G:R.Wd)(aa:Int):C9 G.Ab (R.Bb G aa).2.Ab:=by
 unfold R.Bb;split
 ·refine C9.each fun u s hs=>⟨{s with alive:=false},?_,[],by simp⟩
  simp[hs]
 ·split
  ·exact C9.refl _
  ·split<;>exact C9.refl _
theorem C9.Ch(G:R.Wd)(u:Int):C9 G.Ab (R.Ch G u).Ab:=by
 refine C9.each fun k s hs=>?_
 refine⟨if (u-1).toNat=k then {s with alive:=false} else s,?_,[],?_⟩
 ·simp only[R.Ch,agm,hs];by_cases h:(u-1).toNat=k<;>simp[h]
 ·split<;>simp
theorem C9.app(a b:List R.Sv):C9 a (a++b):=fun e he=>by
 unfold A9 at *;rw[List.flatMap_append];exact agK _ he
theorem C9.export(G:R.Wd)(name:List UInt8)(kind:Int):C9 G.Ab (R.Bd G name kind).2.Ab:=by
 unfold R.Bd;split
 ·exact C9.refl _
 ·split
  ·exact C9.refl _
  ·split
   ·split
    ·exact C9.refl _
    ·split
     ·exact C9.refl _
     ·exact C9.app _ _
   ·split
    ·exact C9.refl _
    ·exact(C9.Ch _ _).trans (C9.app _ _)
theorem Mi(G:R.Wd)(i:Nat)(u:List Int):∀k,(BQ G i u k).Ab=G.Ab
 |0=>rfl
 |k+1=>Mi G i u k
theorem Mg(G:R.Wd)(u:List Int):∀i,(CK G u i).Ab=G.Ab
 |0=>rfl
 |i+1=>(Mi _ _ _ 3).trans (Mg G u i)
theorem Vy(G:R.Wd)(i k:Nat)(l:R.Ln)(d:R.Cd):(CX G i k l d).Ab=G.Ab:=by
 unfold CX R.AA R.Bg;simp only;split<;>rfl
def p7:Pk:=⟨1,0,1,0,1,1,0,1,false,[0,0,0,7]⟩
def r7:Pk:=⟨5,0,1,0,1,1,0,1,false,[0,7]⟩
theorem adC:Fh 1 0 0 [(7,e0)]=⟨1,0,[(7,e0)],R.txt [105],R.txt [99],[0,7]⟩:=by
 have:(V.CW (Hs 0 0) [(7,e0)]).2=[0,7]:=by decide +kernel
 unfold Fh;simp only[Int.natCast_zero]at *;rw[this];rfl
theorem ad7:CO (Bm p7)=some p7:=Fx (by unfold AR p7;decide)
theorem ad8:CO (Bm r7)=some r7:=Fx (by unfold AR r7;decide)
section
variable (cl li rt tr tb:Int) (names:List (List UInt8)) (stands:List Int) (b:List Int) (ls:List R.Ln) (rest:List R.Cl)
def w7(sv:List R.Sv)(fl:List R.Fl)(l:R.Ln)(Aj:List Int)(r:R.Sn)(jobs:List R.Jb):R.Wd:=⟨⟨cl,li,rt,tr,tb⟩,names,stands,sv,fl,⟨1,b,l :: ls⟩ :: rest,Aj,r :: List.replicate 8 R.Cs,jobs⟩
def Ht(log:List R.En):List R.Sv:=[⟨0,true,log⟩,⟨1,true,[]⟩,⟨2,true,[]⟩]
def l7:R.Ln:=⟨1,1,[],1,R.txt [99],[0,0,0,7],0,[],0,rt,tr⟩
def n7:R.Sn:=⟨1,1,[0,0,0,7],1,2,[],0,false,0,0⟩
def e7:R.En:=⟨0,1,0,1,0,[(7,e0)],[(7,e0)]⟩
theorem adk:CX (w7 cl li rt tr tb names stands b ls rest (Ht []) [] R.JC [0,0,0] R.Cs []) 0 0 R.JC (Fh 1 0 0 [(7,e0)])=w7 cl li rt tr tb names stands b ls rest (Ht []) [⟨-1,Bm p7,false⟩] (l7 rt tr) [0,0,0] R.Cs []:=by
 rw[adC];kernel_rfl
theorem XZ(h:1<=tb):R.Bc (w7 cl li rt tr tb names stands b ls rest (Ht []) [⟨-1,Bm p7,false⟩] (l7 rt tr) [0,0,0] R.Cs []) 0=(0,w7 cl li rt tr tb names stands b ls rest (Ht []) [] (l7 rt tr) [1,0,0] n7 [⟨0,0,1,1,1⟩]):=by
 have h0:(tb<=0)=False:=by simp;omega
 have ha:R.Er (w7 cl li rt tr tb names stands b ls rest (Ht []) [] (l7 rt tr) [0,0,0] R.Cs []) p7=w7 cl li rt tr tb names stands b ls rest (Ht []) [] (l7 rt tr) [1,0,0] n7 [⟨0,0,1,1,1⟩]:=by
  have hr:R.BZ (w7 cl li rt tr tb names stands b ls rest (Ht []) [] (l7 rt tr) [1,0,0] R.Cs [])=0:=by kernel_rfl
  have hl:R.Dr (w7 cl li rt tr tb names stands b ls rest (Ht []) [] (l7 rt tr) [0,0,0] R.Cs []) p7=w7 cl li rt tr tb names stands b ls rest (Ht []) [] (l7 rt tr) [1,0,0] R.Cs []:=by kernel_rfl
  have hk:R.Dq (R.AB (w7 cl li rt tr tb names stands b ls rest (Ht []) [] (l7 rt tr) [1,0,0] R.Cs []) 0 {R.Cs with seq:=p7.seq,uid:=p7.uid,state:=1}) 0 p7=R.CL (w7 cl li rt tr tb names stands b ls rest (Ht []) [] (l7 rt tr) [1,0,0] ⟨1,1,[],0,1,[],0,false,0,0⟩ []) 0 p7:=by kernel_rfl
  unfold R.Er;rw[if_neg (by simp[p7,w7]),hl];unfold R.JI;simp only;rw[if_neg (by simp[p7]),if_neg (by show ¬((0:Int)=1);decide),if_neg (by show ¬((1:Int)<0);decide),if_neg (by show ¬(true=false);decide),if_neg (by decide),hr,if_neg (by show ¬(_/\tb<=0);omega)];refine hk.trans ?_;unfold R.CL;simp only;rw[if_pos (by rfl),if_pos (by rfl),if_neg (by show ¬tb<=0;omega)];kernel_rfl
 unfold R.Bc;rw[if_neg (by unfold R.off w7;simp)];simp only[w7,Int.toNat_zero,List.getElem?_cons_zero,ad7,if_true,if_false,Bool.false_eq_true];exact congrArg (Prod.mk 0) ha
theorem acG:R.BV (w7 cl li rt tr tb names stands b ls rest (Ht []) [] (l7 rt tr) [1,0,0] n7 [⟨0,0,1,1,1⟩])=(0,w7 cl li rt tr tb names stands b ls rest (Ht [e7]) [⟨0,Bm r7,false⟩] (l7 rt tr) [1,0,0] ⟨1,1,[0,0,0,7],1,3,[0,7],0,false,rt,tr⟩ []):=by
 have hu:(V.D5 (R.txt [105]) [0,7]).2=[(7,e0)]:=by decide +kernel
 have hb:(R.Ba (R.txt [99]) [(7,e0)]).getD []=[0,7]:=by decide +kernel
 have hd:R.Gm (w7 cl li rt tr tb names stands b ls rest (Ht []) [] (l7 rt tr) [1,0,0] n7 []) 0=w7 cl li rt tr tb names stands b ls rest (Ht [e7]) [⟨0,Bm r7,false⟩] (l7 rt tr) [1,0,0] ⟨1,1,[0,0,0,7],1,3,[0,7],0,false,rt,tr⟩ []:=by
  unfold R.Gm;simp only;rw[show (R.AY (w7 cl li rt tr tb names stands b ls rest (Ht []) [] (l7 rt tr) [1,0,0] n7 []) 0)=n7 from rfl];rw[show (((w7 cl li rt tr tb names stands b ls rest (Ht []) [] (l7 rt tr) [1,0,0] n7 []).Ab[(n7.uid-1).toNat]?).getD ⟨0,false,[]⟩)=⟨0,true,[]⟩ from rfl];rw[show (256*((n7.message.getD 0 0).toNat:Int)+((n7.message.getD 1 0).toNat:Int))=0 by decide +kernel];rw[show ((R.C6 0 0).getD (⟨#[]⟩,⟨#[]⟩))=(R.txt [105],R.txt [99]) by decide +kernel];simp only[show n7.message.drop 2=[0,7] from rfl,hu];rw[show R.Cu 0 [] 0 [(7,e0)]=[(7,e0)] by decide +kernel,hb];kernel_rfl
 unfold R.BV;show R.Br _ [⟨0,0,1,1,1⟩]=_;unfold R.Br;rw[if_pos (by refine⟨?_,?_,?_⟩<;>rfl)];exact congrArg (Prod.mk 0) hd
theorem VG(r:R.Sn):R.Bc (w7 cl li rt tr tb names stands b ls rest (Ht [e7]) [⟨0,Bm r7,false⟩] (l7 rt tr) [1,0,0] r []) 0=(0,w7 cl li rt tr tb names stands b ls rest (Ht [e7]) [] ⟨1,2,[(7,e0)],1,R.txt [99],[0,0,0,7],1,[0,7],1,rt,tr⟩ [1,0,0] r []):=by
 have hu:(V.D5 (R.txt [99]) [0,7]).2=[(7,e0)]:=by decide +kernel
 have ha:R.Ee (w7 cl li rt tr tb names stands b ls rest (Ht [e7]) [] (l7 rt tr) [1,0,0] r []) 0 r7=w7 cl li rt tr tb names stands b ls rest (Ht [e7]) [] ⟨1,2,[(7,e0)],1,R.txt [99],[0,0,0,7],1,[0,7],1,rt,tr⟩ [1,0,0] r []:=by
  have hl:R.BH (w7 cl li rt tr tb names stands b ls rest (Ht [e7]) [] (l7 rt tr) [1,0,0] r []) 0 r7.line=l7 rt tr:=rfl;have hp:R.Ag (l7 rt tr).message=1:=by kernel_rfl
  unfold R.Ee;simp only;rw[hl];rw[if_neg (by show ¬((1:Int)≠1\/(1:Int)≠1\/(1:Int)≠1);decide),if_neg (by decide),if_neg (by decide),if_pos (by rfl)];unfold R.Dy;simp only;rw[hl,hp];rw[if_neg (by show ¬((0:Int)<1-1\/(0:Int)<0);decide),if_pos (by rfl),if_pos (by rfl)];rw[show (V.D5 (l7 rt tr).to ((l7 rt tr).came++r7.body)).2=[(7,e0)] from hu];rfl
 unfold R.Bc;rw[if_neg (by unfold R.off w7;simp)];simp only[w7,Int.toNat_zero,List.getElem?_cons_zero,ad8,if_false,Bool.false_eq_true];rw[if_neg (by decide)];exact congrArg (Prod.mk 0) ha
end
theorem acS(hc:R.BD c):∃names stands b ls rest,Dl c c.Ad.toNat=w7 c.Ad c.lines c.Ay c.tries c.table names stands b ls rest (Ht []) [] R.JC [0,0,0] R.Cs []:=by
 have hp:=KE c c.Ad.toNat;have ab:(Dl c c.Ad.toNat).Ab=Ht []:=(GJ c _).trans rfl;have aa:(Dl c c.Ad.toNat).Ad.length=c.Ad.toNat:=by
  have hI:=(PD hc c.Ad.toNat (by rw[Q5];exact afI _)).1;have h1:=hI.wf.Gt;rw[hp.cf]at h1;omega
 unfold R.BD at hc;generalize Dl c c.Ad.toNat=G at *;obtain⟨cf,names,stands,Ab,Ak,Ad,Aj,seen,jobs⟩:=G;obtain⟨h1,h2,h3,h4⟩:=hp;simp only[Prod.mk.injEq]at h1 h2 h3 h4 ab aa;obtain⟨g1,g2,g3⟩:=h3;subst h1 h2 g1 g2 g3 ab;cases Ad with
 |nil=>simp at aa;omega
 |cons x rest=>
  obtain⟨k1,k2⟩:=h4 0 x rfl;obtain⟨Ae,b,lines⟩:=x;simp only at k1 k2;subst k2;obtain⟨n,hn⟩:∃n,cf.lines.toNat=n+1:=⟨cf.lines.toNat-1,by omega⟩;rw[hn,age]at k1;subst k1;exact⟨names,stands,b,List.replicate n R.JC,rest,rfl⟩
theorem Au.adn{q:RP}(h:Au w0 q p c s G w)(hA:Agree c s M G){l:R.Ln}(hc:G.Ad[i]?=some cl)(hl:cl.lines[k]?=some l)(ad:kd<3)(h1:l.state≠1)(h9:l.seq≠999){a b prv:Int}{pr0:Nat}(aj:∀w,Calls Tryz.prog 27 #[.int .i64 b,.int .i64 2] w fun e w'=>e=.returned (.int .i64 (pr0:Int))/\w'=w)(ac:(((kd:Int)==2)=true/\prv=0)\/(((kd:Int)==2)=false/\prv=(pr0:Int)))(hF:Fits (Hs kd prv) v)(hE:KM kd prv=0)(al:∀w,Calls Tryz.prog 51 #[.int .i64 (kd:Int),.int .i64 prv,.int .i64 a,.int .i64 b] w (Cz v w))(hu:s.uid[kd]?=some u):
  Calls Tryz.prog 28 #[ptr q.r,.int .i64 (i:Int),.int .i64 (k:Int),.int .i64 (kd:Int),.int .i64 a,.int .i64 b] w fun e w'=>e=.returned (.bool true)/\∃s' M',Au w0 q p c s' (CX G i k l (Fh u kd prv v)) w'/\Agree c s' M' (CX G i k l (Fh u kd prv v)):=by
 have ai:kindOf G u=(kd:Int):=by
  obtain⟨u',h1,_,h3⟩:=hA.uid kd ad;rw[hu]at h1;cases h1;exact h3
 have ag:=hA.bound i cl u hc (afU hu);have hi:=(afG.1 hc).1;have ax:=(afG.1 hl).1;have ao:=hA.inv.wf.cf;unfold R.BD at ao;have ar:=hA.inv.wf.Gt;have ay:=(hA.inv.wf.cl i cl hc).lines;have au:=hA.seq i cl k l hc hl;have ap:s.Ae[i]?=some cl.Ae:=by rw[hA.Ae];simp[hc]
 obtain⟨e3,e4⟩:=aaa i k (by omega) (by omega);have az:1<=u/\u<=(G.Ab.length:Int):=(hA.inv.wf.cl i cl hc).bound u ag;have an:=hA.inv.wf.sv;have av:=(hA.inv.wf.cl i cl hc).line k l hl;have ah:=Kr hA.inv.wf hc hl ag ai ad hF hE;have ak:Hid (∀w',Below w.heap.size w w'->Calls Tryz.prog 19 #[ptr q.x,.int .i64 (i:Int),.int .i64 (k:Int)] w' fun e ab=>(∃oa on oc,e=.returned (.tuple #[.agg #[.int .i64 l.state,.int .i64 l.seq,.slice oa on oc],.int .i64 0]))/\Below w'.heap.size w' ab):=fun w' hb=>by
  refine((h.still hb).RL hA hc hl).mono ?_;rintro e ab ⟨⟨oa,on,oc,r1,_⟩,r2⟩;exact⟨⟨oa,on,oc,r1⟩,r2⟩
 have am:∀(n f:Int) (G':R.Wd),R.Cw G i k u prv v=((n,f),G')->Hid (∀w' W X,Below w.heap.size w w'->Below w'.heap.size w' W->BF W (fun k=>w.heap.size<=k) X v->Calls Tryz.prog 52 #[ptr q.x,.int .i64 (i:Int),.int .i64 (k:Int),.int .i64 u,.int .i64 prv,X] W fun e ab=>e=.returned (.tuple #[.int .i64 n,.int .i64 f])/\Au w0 q p c s G' ab/\∀b,w'.heap.size<=b->b<W.heap.size->ab.heap[b]?=W.heap[b]?):=fun n f G' he w' W X af ae hX=>by
  have h':=(h.still af).still ae;obtain⟨tp,E,F,hr,hw,hd,aq⟩:=(h.still af).run;have aa:=(hw.below ae).call h'.t0 (i:Int) (k:Int) u prv (by omega) hX.items (by have:=hF.few;omega);rw[he]at aa;rw[h.x];refine aa.mono ?_;rintro e ab ⟨rfl,F',q1,q2⟩;exact⟨rfl,h'.world (hr.below ae) hd aq q1 q2,fun b h1 h2=>q2.keeps.block b h2 (fun hf=>by have:=hw.lt b hf;omega)⟩
 rw[if_neg h1,if_neg h9]at ah;have aw:=av.seq;refine(K7 w0 q p c s G _ w i k (3*i+k) kd pr0 a b prv l.seq l.state u cl.Ae v h ad hA.ul hu au ap hA.ml e3 e4 (Ac aj) ac (Ac al) ak (am _ _ _ ah) h1 (by omega)).mono ?_;rintro e w' ⟨rfl,X,Mv,hB⟩;exact⟨rfl,_,_,hB,hA.called hc hl hu ai ad hF hE h1 h9 Mv X⟩
theorem ad4(w:World):Calls Tryz.prog 27 #[.int .i64 32775,.int .i64 65536] w fun e w'=>e=.returned (.int .i64 32775)/\w'=w:=by
 go_enter Tryz.func27,Tryz.ntmps27;go_wp2
 go_ret
 exact⟨rfl,rfl⟩
theorem ad3(w:World):Calls Tryz.prog 27 #[.int .i64 0,.int .i64 2] w fun e w'=>e=.returned (.int .i64 ((0:Nat):Int))/\w'=w:=by
 go_enter Tryz.func27,Tryz.ntmps27;go_wp2
 go_ret
 exact⟨rfl,rfl⟩
theorem aep(w:World):Calls Tryz.prog 51 #[.int .i64 ((0:Nat):Int),.int .i64 0,.int .i64 32775,.int .i64 0] w (Cz [(7,e0)] w):=by
 have HI:=Ac (MU w (7,e0));unfold Cz;go_enter Tryz.func51,Tryz.ntmps51;go_wp2_with (first|(go_at_call 27;refine(ad4 _).mono ?_;rintro e w1 ⟨rfl,aa⟩;rw[aa];clear aa))
 go_returns;exact⟨_,rfl,Aa HI,(Below.refl _ _).alloc (afI _) _⟩
theorem L5(h:G.Ak.length=0):R.off G 0:=afM (by omega)
theorem PO(h:i<G.Ak.length):¬R.off G i:=by unfold R.off;omega
theorem K9(h:G.Ak.length=0):(R.Bc G 0).1=9:=by unfold R.Bc;rw[if_pos (L5 h)]
theorem drop_nil(h:G.Ak.length=0):(R.Ej G 0).1=9:=by unfold R.Ej;rw[if_pos (L5 h)]
theorem XV(h:G.Ak.length=0):(R.DG G 0).1=9:=by unfold R.DG;rw[if_pos (L5 h)]
theorem XK(h:G.Ak.length=0)(a b:Int):(R.Dt G 0 a b).1=9:=by unfold R.Dt;rw[if_pos (L5 h)]
theorem MG(h:i<G.Ak.length):(R.Bc G i).1=0:=by
 unfold R.Bc;rw[if_neg (PO h)];simp[List.getElem?_eq_getElem h]
theorem aaC(h:i<G.Ak.length):(R.Ej G i).1=0:=by
 unfold R.Ej;rw[if_neg (PO h)]
theorem UN(h:i<G.Ak.length):(R.DG G i).1=if 40<=G.Ak.length then 12 else 0:=by
 unfold R.DG;rw[if_neg (PO h)];split
 ·rfl
 ·simp[List.getElem?_eq_getElem h]
theorem aaj(hL:R.Long G)(h:i<G.Ak.length){a b:Int}(ha:0<=a/\a<13)(hb:1<=b/\b<=255):(R.Dt G i a b).1=0\/(R.Dt G i a b).1=18:=by
 unfold R.Dt;rw[if_neg (PO h)];have aa:=hL _ (agr h);simp only[afY,afH h];rw[if_neg (by omega)];split
 ·exact afM rfl
 ·exact afJ rfl
structure GB(w0:World)(q:RP)(p:Pl)(c:R.Cf)(s:RS)(M:R.Bk)(G:R.Wd)(w:World):Prop where
 both:Au w0 q p c s G w
 agree:Agree c s M G
 long:R.Long G
 did:∃e,e∈A9 G.Ab
def Ge(w0:World)(q:RP)(p:Pl)(c:R.Cf)(w:World):Prop:=∃s M G,GB w0 q p c s M G w
theorem GB.same{q:RP}(h:GB w0 q p c s M G w)(hB:Au w0 q p c s G' w')(hA:Agree c s M G')(hL:R.Lo G G')(hS:R.Sm G G'):Ge w0 q p c w':=
 ⟨s,M,G',hB,hA,hL h.long,h.did.elim fun e he=>⟨e,C9.same hS e he⟩⟩
theorem GB.still{q:RP}(h:GB w0 q p c s M G w)(hb:Below w.heap.size w w'):GB w0 q p c s M G w':=⟨h.both.still hb,h.agree,h.long,h.did⟩
theorem GB.made{q:RP}(h:GB w0 q p c s M G w):0<s.made.length/\0<s.dead.length/\0<(A9 G.Ab).length:=by
 obtain⟨e,he⟩:=h.did;obtain⟨u,sv,hs,hm⟩:=PH he;obtain⟨d,h1,_⟩:=JU h.agree.inv hs hm;obtain⟨m,aa,_⟩:=h.agree.book.some _ _ h1;have hu:=(afG.1 hs).1;refine⟨?_,by rw[h.agree.dl];omega,List.length_pos_of_mem he⟩;have:=List.length_pos_of_mem aa
 rwa [af0]at this
theorem GB.Cr{q:RP}(h:GB w0 q p c s M G w)(i:Int):Calls Tryz.prog 29 #[ptr q.x,.int .i64 i] w fun e w'=>e=.returned (.int .i64 (R.Bc G i).1)/\Ge w0 q p c w':=by
 refine(h.both.MF h.agree.inv h.agree.room i).mono ?_;rintro e w' ⟨rfl,hB⟩;exact⟨rfl,h.same hB (h.agree.Cr i) (R.Lo.Cr G i) (R.Sm.Cr G i)⟩
theorem GB.drop{q:RP}(h:GB w0 q p c s M G w)(i:Int):Calls Tryz.prog 61 #[ptr q.x,.int .i64 i] w fun e w'=>e=.returned (.int .i64 (R.Ej G i).1)/\Ge w0 q p c w':=by
 refine(h.both.adD i).mono ?_;rintro e w' ⟨rfl,hB⟩;exact⟨rfl,h.same hB (h.agree.drop i) (R.Lo.drop G i) (R.Sm.drop G i)⟩
theorem GB.copy{q:RP}(h:GB w0 q p c s M G w)(i:Int):Calls Tryz.prog 62 #[ptr q.x,.int .i64 i] w fun e w'=>e=.returned (.int .i64 (R.DG G i).1)/\Ge w0 q p c w':=by
 refine(h.both.adB i).mono ?_;rintro e w' ⟨rfl,hB⟩;exact⟨rfl,h.same hB (h.agree.copy i) (R.Lo.copy G i) (R.Sm.copy G i)⟩
theorem GB.Ji{q:RP}(h:GB w0 q p c s M G w)(i a b:Int):Calls Tryz.prog 63 #[ptr q.x,.int .i64 i,.int .i64 a,.int .i64 b] w fun e w'=>e=.returned (.int .i64 (R.Dt G i a b).1)/\Ge w0 q p c w':=by
 refine(h.both.adg i a b).mono ?_;rintro e w' ⟨rfl,hB⟩;exact⟨rfl,h.same hB (h.agree.Ji i a b) (R.Lo.Ji G i a b) (R.Sm.Ji G i a b)⟩
theorem GB.tick{q:RP}(h:GB w0 q p c s M G w):Calls Tryz.prog 32 #[ptr q.x] w fun e w'=>e=.returned (.tuple #[])/\Ge w0 q p c w':=by
 refine h.both.Jf.mono ?_;rintro e w' ⟨rfl,hB⟩;exact⟨rfl,h.same hB h.agree.tick (R.Lo.tick G) (R.Sm.tick G)⟩
theorem WT(G:R.Wd):(R.BV G).1=0\/(R.BV G).1=19:=by
 unfold R.BV;generalize G.jobs=js;induction js with
 |nil=>exact afM rfl
 |cons j js ih=>
  unfold R.Br;split
  ·exact afJ rfl
  ·exact ih
theorem GB.serve{q:RP}(h:GB w0 q p c s M G w):Calls Tryz.prog 30 #[ptr q.x] w fun e w'=>(∃n,e=.returned (.int .i64 n)/\(n=0\/n=19))/\Ge w0 q p c w':=by
 refine(h.both.ZH h.agree.inv).mono ?_;rintro e w' ⟨rfl,hB⟩;exact⟨⟨_,rfl,WT G⟩,h.same hB h.agree.serve (R.Lo.serve G) (R.Sm.serve h.agree.inv)⟩
theorem GB.looked{q:RP}(h:GB w0 q p c s M G w)(hi:(i:Int)<c.Ad)(hk:(k:Int)<c.lines):Calls Tryz.prog 8 #[ptr q.r,.int .i64 (i:Int),.int .i64 (k:Int)] w fun e w'=>e=.returned (.bool true)/\GB w0 q p c s M G w'/\Below w.heap.size w w':=by
 have aa:=h.agree.inv.wf.Gt;have ab:=h.agree.cf;have ac:i<G.Ad.length:=by rw[ab]at aa;omega
 have ae:=(h.agree.inv.wf.cl i _ (afH ac)).lines;have ad:k<(G.Ad[i]).lines.length:=by rw[ab]at ae;omega
 refine(h.both.aa2 h.agree (afH ac) (afH ad)).mono ?_;rintro e w' ⟨rfl,hB⟩;exact⟨rfl,h.still hB,hB⟩
theorem GB.call{q:RP}(h:GB w0 q p c s M G w)(hi:(i:Int)<c.Ad)(hk:(k:Int)<c.lines)(ae:kd<3)(a b:Int)(ha:In64 a)(hb:In64 b):Calls Tryz.prog 28 #[ptr q.r,.int .i64 (i:Int),.int .i64 (k:Int),.int .i64 (kd:Int),.int .i64 a,.int .i64 b] w fun e w'=>e=.returned (.bool true)/\Ge w0 q p c w':=by
 have aa:=h.agree.inv.wf.Gt;have ab:=h.agree.cf;have ac:i<G.Ad.length:=by rw[ab]at aa;omega
 have af:=(h.agree.inv.wf.cl i _ (afH ac)).lines;have ad:k<(G.Ad[i]).lines.length:=by rw[ab]at af;omega
 refine(h.both.adm h.agree (afH ac) (afH ad) ae a b ha hb).mono ?_;rintro e w' ⟨rfl,s',M',G',hB,hA,hT⟩;suffices R.Long G'/\∃e,e∈A9 G'.Ab from ⟨rfl,s',M',G',hB,hA,this.1,this.2⟩
 by_cases hn:(G.Ad[i]).lines[k].state=1\/(G.Ad[i]).lines[k].seq=999
 ·obtain⟨_,_,rfl⟩:=hT.no hn;exact⟨h.long,h.did⟩
 ·obtain⟨u,pr,v,X,Mv,_,_,_,_,_,_,rfl⟩:=hT.yes (fun e=>hn (afJ e)) (fun e=>hn (afM e));refine⟨(R.Lo.line.trans (R.Lo.piece _ _ _ _)) h.long,?_⟩;rw[Vy];exact h.did
theorem Gj(w:World)(k a b d:Int):Below w.heap.size w (w.alloc (.cells #[.int .i64 k,.int .i64 a,.int .i64 b,.int .i64 d] 59))/\(w.alloc (.cells #[.int .i64 k,.int .i64 a,.int .i64 b,.int .i64 d] 59)).heap[w.heap.size]?=some (.cells #[.int .i64 k,.int .i64 a,.int .i64 b,.int .i64 d] 59 (0,0)):=⟨(Below.refl _ _).alloc (afI _) _,heap_alloc_new w _⟩
theorem PI(w0:World)(q:RP)(p:Pl)(c:R.Cf)(s:RS)(M:R.Bk)(G:R.Wd)(w:World)(h:GB w0 q p c s M G w)(k a b d:Int)(ha:In64 a)(af:Hid (∀w,Calls Tryz.prog 27 #[.int .i64 k,.int .i64 12] w fun e w'=>e=.returned (.int .i64 1)/\w'=w)):
  Calls Tryz.prog 34 #[ptr q.r,.agg #[.int .i64 k,.int .i64 a,.int .i64 b,.int .i64 d]] w fun e w'=>e=.returned (.bool true)/\Ge w0 q p c w':=by
 obtain⟨ae,ab⟩:=Gj w k a b d;obtain⟨W1,ad⟩:∃W1,w.alloc (.cells #[.int .i64 k,.int .i64 a,.int .i64 b,.int .i64 d] 59)=W1:=⟨_,rfl⟩;rw[ad]at ae ab;have ag:=Ac ad;have hK:=h.still ae;have a0:=hK.both.cells.a0;have lr:=hK.both.cells.EA;have ai:=h.both.cells.a0;have ak:=h.both.cells.EA;have c0:W1.cell? ⟨w.heap.size,0,none⟩=some (.int .i64 k):=cell_of ab 0 _ rfl;have c1:W1.cell? ⟨w.heap.size,1,none⟩=some (.int .i64 a):=cell_of ab 1 _ rfl;have lx:=lt_of_block ab;have HF:=Ac hK.both.VW;by_cases hn:G.Ak.length=0
 ·have HD:Hid (Calls Tryz.prog 29 #[ptr q.x,.int .i64 0] W1 fun e w'=>e=.returned (.int .i64 9)/\Ge w0 q p c w'):=by
   have:=hK.Cr 0;rw[K9 hn]at this;exact this
  rw[hn]at HF;clear h hK ae ab ad hn;go_enter Tryz.func34,Tryz.ntmps34;go_wp2_with fail
  rw[Aa ag];refine(Aa HF).mono ?_;rintro e w2 ⟨rfl,aa⟩;rw[aa];clear aa w2;go_wp2_with fail
  refine((Aa af) _).mono ?_;rintro e w3 ⟨rfl,ac⟩;rw[ac];clear ac w3;go_wp2_with fail
  refine(Aa HD).mono ?_;rintro e w4 ⟨rfl,hO⟩;have HO:=Ac hO;clear hO;go_wp2_with fail
  go_returns;exact⟨rfl,Aa HO⟩
 ·obtain⟨j,hj,HP⟩:=A4 a G.Ak.length ha (by omega) (by have:=hK.agree.inv.wf.E3;omega);have ah:=Ac HP;have aj:=hj;have HD:Hid (Calls Tryz.prog 29 #[ptr q.x,.int .i64 (j:Int)] W1 fun e w'=>e=.returned (.int .i64 0)/\Ge w0 q p c w'):=by
   have:=hK.Cr j;rw[MG hj]at this;exact this
  generalize G.Ak.length=n at *;have n0:(0:Int)<(n:Int):=by omega
  have n1:((n:Int)==0)=false:=by simp;omega
  clear h hK ae ab ad HP;go_enter Tryz.func34,Tryz.ntmps34;go_wp2_with fail
  rw[Aa ag];refine(Aa HF).mono ?_;rintro e w2 ⟨rfl,aa⟩;rw[aa];clear aa w2;go_wp2_with fail
  refine((Aa ah) _).mono ?_;rintro e w2 ⟨rfl,aa⟩;rw[aa];clear aa w2;go_wp2_with fail
  refine((Aa af) _).mono ?_;rintro e w3 ⟨rfl,ac⟩;rw[ac];clear ac w3;go_wp2_with fail
  refine(Aa HD).mono ?_;rintro e w4 ⟨rfl,hO⟩;have HO:=Ac hO;clear hO;go_wp2_with fail
  go_returns;exact⟨rfl,Aa HO⟩
theorem PK(w0:World)(q:RP)(p:Pl)(c:R.Cf)(s:RS)(M:R.Bk)(G:R.Wd)(w:World)(h:GB w0 q p c s M G w)(k a b d:Int)(ha:In64 a)(af:Hid (∀w,Calls Tryz.prog 27 #[.int .i64 k,.int .i64 12] w fun e w'=>e=.returned (.int .i64 2)/\w'=w)):
  Calls Tryz.prog 34 #[ptr q.r,.agg #[.int .i64 k,.int .i64 a,.int .i64 b,.int .i64 d]] w fun e w'=>e=.returned (.bool true)/\Ge w0 q p c w':=by
 obtain⟨ae,ab⟩:=Gj w k a b d;obtain⟨W1,ad⟩:∃W1,w.alloc (.cells #[.int .i64 k,.int .i64 a,.int .i64 b,.int .i64 d] 59)=W1:=⟨_,rfl⟩;rw[ad]at ae ab;have ag:=Ac ad;have hK:=h.still ae;have a0:=hK.both.cells.a0;have lr:=hK.both.cells.EA;have ai:=h.both.cells.a0;have ak:=h.both.cells.EA;have c0:W1.cell? ⟨w.heap.size,0,none⟩=some (.int .i64 k):=cell_of ab 0 _ rfl;have c1:W1.cell? ⟨w.heap.size,1,none⟩=some (.int .i64 a):=cell_of ab 1 _ rfl;have lx:=lt_of_block ab;have HF:=Ac hK.both.VW;by_cases hn:G.Ak.length=0
 ·have HD:Hid (Calls Tryz.prog 29 #[ptr q.x,.int .i64 0] W1 fun e w'=>e=.returned (.int .i64 9)/\Ge w0 q p c w'):=by
   have:=hK.Cr 0;rw[K9 hn]at this;exact this
  rw[hn]at HF;clear h hK ae ab ad hn;go_enter Tryz.func34,Tryz.ntmps34;go_wp2_with fail
  rw[Aa ag];refine(Aa HF).mono ?_;rintro e w2 ⟨rfl,aa⟩;rw[aa];clear aa w2;go_wp2_with fail
  refine((Aa af) _).mono ?_;rintro e w3 ⟨rfl,ac⟩;rw[ac];clear ac w3;go_wp2_with fail
  refine(Aa HD).mono ?_;rintro e w4 ⟨rfl,hO⟩;have HO:=Ac hO;clear hO;go_wp2_with fail
  go_returns;exact⟨rfl,Aa HO⟩
 ·obtain⟨j,hj,HP⟩:=A4 a G.Ak.length ha (by omega) (by have:=hK.agree.inv.wf.E3;omega);have ah:=Ac HP;have aj:=hj;have HD:Hid (Calls Tryz.prog 29 #[ptr q.x,.int .i64 (j:Int)] W1 fun e w'=>e=.returned (.int .i64 0)/\Ge w0 q p c w'):=by
   have:=hK.Cr j;rw[MG hj]at this;exact this
  generalize G.Ak.length=n at *;have n0:(0:Int)<(n:Int):=by omega
  have n1:((n:Int)==0)=false:=by simp;omega
  clear h hK ae ab ad HP;go_enter Tryz.func34,Tryz.ntmps34;go_wp2_with fail
  rw[Aa ag];refine(Aa HF).mono ?_;rintro e w2 ⟨rfl,aa⟩;rw[aa];clear aa w2;go_wp2_with fail
  refine((Aa ah) _).mono ?_;rintro e w2 ⟨rfl,aa⟩;rw[aa];clear aa w2;go_wp2_with fail
  refine((Aa af) _).mono ?_;rintro e w3 ⟨rfl,ac⟩;rw[ac];clear ac w3;go_wp2_with fail
  refine(Aa HD).mono ?_;rintro e w4 ⟨rfl,hO⟩;have HO:=Ac hO;clear hO;go_wp2_with fail
  go_returns;exact⟨rfl,Aa HO⟩
theorem YN(w0:World)(q:RP)(p:Pl)(c:R.Cf)(s:RS)(M:R.Bk)(G:R.Wd)(w:World)(h:GB w0 q p c s M G w)(k a b d:Int)(ha:In64 a)(af:Hid (∀w,Calls Tryz.prog 27 #[.int .i64 k,.int .i64 12] w fun e w'=>e=.returned (.int .i64 3)/\w'=w)):
  Calls Tryz.prog 34 #[ptr q.r,.agg #[.int .i64 k,.int .i64 a,.int .i64 b,.int .i64 d]] w fun e w'=>e=.returned (.bool true)/\Ge w0 q p c w':=by
 obtain⟨ae,ab⟩:=Gj w k a b d;obtain⟨W1,ad⟩:∃W1,w.alloc (.cells #[.int .i64 k,.int .i64 a,.int .i64 b,.int .i64 d] 59)=W1:=⟨_,rfl⟩;rw[ad]at ae ab;have ag:=Ac ad;have hK:=h.still ae;have a0:=hK.both.cells.a0;have lr:=hK.both.cells.EA;have ai:=h.both.cells.a0;have ak:=h.both.cells.EA;have c0:W1.cell? ⟨w.heap.size,0,none⟩=some (.int .i64 k):=cell_of ab 0 _ rfl;have c1:W1.cell? ⟨w.heap.size,1,none⟩=some (.int .i64 a):=cell_of ab 1 _ rfl;have lx:=lt_of_block ab;have HF:=Ac hK.both.VW;by_cases hn:G.Ak.length=0
 ·have HD:Hid (Calls Tryz.prog 61 #[ptr q.x,.int .i64 0] W1 fun e w'=>e=.returned (.int .i64 9)/\Ge w0 q p c w'):=by
   have:=hK.drop 0;rw[drop_nil hn]at this;exact this
  rw[hn]at HF;clear h hK ae ab ad hn;go_enter Tryz.func34,Tryz.ntmps34;go_wp2_with fail
  rw[Aa ag];refine(Aa HF).mono ?_;rintro e w2 ⟨rfl,aa⟩;rw[aa];clear aa w2;go_wp2_with fail
  refine((Aa af) _).mono ?_;rintro e w3 ⟨rfl,ac⟩;rw[ac];clear ac w3;go_wp2_with fail
  refine(Aa HD).mono ?_;rintro e w4 ⟨rfl,hO⟩;have HO:=Ac hO;clear hO;go_wp2_with fail
  go_returns;exact⟨rfl,Aa HO⟩
 ·obtain⟨j,hj,HP⟩:=A4 a G.Ak.length ha (by omega) (by have:=hK.agree.inv.wf.E3;omega);have ah:=Ac HP;have aj:=hj;have HD:Hid (Calls Tryz.prog 61 #[ptr q.x,.int .i64 (j:Int)] W1 fun e w'=>e=.returned (.int .i64 0)/\Ge w0 q p c w'):=by
   have:=hK.drop j;rw[aaC hj]at this;exact this
  generalize G.Ak.length=n at *;have n0:(0:Int)<(n:Int):=by omega
  have n1:((n:Int)==0)=false:=by simp;omega
  clear h hK ae ab ad HP;go_enter Tryz.func34,Tryz.ntmps34;go_wp2_with fail
  rw[Aa ag];refine(Aa HF).mono ?_;rintro e w2 ⟨rfl,aa⟩;rw[aa];clear aa w2;go_wp2_with fail
  refine((Aa ah) _).mono ?_;rintro e w2 ⟨rfl,aa⟩;rw[aa];clear aa w2;go_wp2_with fail
  refine((Aa af) _).mono ?_;rintro e w3 ⟨rfl,ac⟩;rw[ac];clear ac w3;go_wp2_with fail
  refine(Aa HD).mono ?_;rintro e w4 ⟨rfl,hO⟩;have HO:=Ac hO;clear hO;go_wp2_with fail
  go_returns;exact⟨rfl,Aa HO⟩
theorem YL(w0:World)(q:RP)(p:Pl)(c:R.Cf)(s:RS)(M:R.Bk)(G:R.Wd)(w:World)(h:GB w0 q p c s M G w)(k a b d:Int)(ha:In64 a)(ag:Hid (∀w,Calls Tryz.prog 27 #[.int .i64 k,.int .i64 12] w fun e w'=>e=.returned (.int .i64 4)/\w'=w)):
  Calls Tryz.prog 34 #[ptr q.r,.agg #[.int .i64 k,.int .i64 a,.int .i64 b,.int .i64 d]] w fun e w'=>e=.returned (.bool true)/\Ge w0 q p c w':=by
 obtain⟨ae,ac⟩:=Gj w k a b d;obtain⟨W1,ad⟩:∃W1,w.alloc (.cells #[.int .i64 k,.int .i64 a,.int .i64 b,.int .i64 d] 59)=W1:=⟨_,rfl⟩;rw[ad]at ae ac;have ah:=Ac ad;have hK:=h.still ae;have a0:=hK.both.cells.a0;have lr:=hK.both.cells.EA;have al:=h.both.cells.a0;have am:=h.both.cells.EA;have c0:W1.cell? ⟨w.heap.size,0,none⟩=some (.int .i64 k):=cell_of ac 0 _ rfl;have c1:W1.cell? ⟨w.heap.size,1,none⟩=some (.int .i64 a):=cell_of ac 1 _ rfl;have lx:=lt_of_block ac;have HF:=Ac hK.both.VW;by_cases hn:G.Ak.length=0
 ·have HD:Hid (Calls Tryz.prog 62 #[ptr q.x,.int .i64 0] W1 fun e w'=>e=.returned (.int .i64 9)/\Ge w0 q p c w'):=by
   have:=hK.copy 0;rw[XV hn]at this;exact this
  rw[hn]at HF;clear h hK ae ac ad hn;go_enter Tryz.func34,Tryz.ntmps34;go_wp2_with fail
  rw[Aa ah];refine(Aa HF).mono ?_;rintro e w2 ⟨rfl,aa⟩;rw[aa];clear aa w2;go_wp2_with fail
  refine((Aa ag) _).mono ?_;rintro e w3 ⟨rfl,ab⟩;rw[ab];clear ab w3;go_wp2_with fail
  refine(Aa HD).mono ?_;rintro e w4 ⟨rfl,hO⟩;have HO:=Ac hO;clear hO;go_wp2_with fail
  go_returns;exact⟨rfl,Aa HO⟩
 by_cases ai:40<=G.Ak.length
 ·obtain⟨j,hj,HP⟩:=A4 a G.Ak.length ha (by omega) (by have:=hK.agree.inv.wf.E3;omega);have af:=Ac HP;have ak:=hj;have HD:Hid (Calls Tryz.prog 62 #[ptr q.x,.int .i64 (j:Int)] W1 fun e w'=>e=.returned (.int .i64 12)/\Ge w0 q p c w'):=by
   have:=hK.copy j;rw[UN hj,if_pos ai]at this;exact this
  have aj:(G.Ak.length:Int)=40:=by have:=hK.agree.inv.wf.E3;omega
  rw[aj]at HF af;clear h hK ae ac ad HP;go_enter Tryz.func34,Tryz.ntmps34;go_wp2_with fail
  rw[Aa ah];refine(Aa HF).mono ?_;rintro e w2 ⟨rfl,aa⟩;rw[aa];clear aa w2;go_wp2_with fail
  refine((Aa af) _).mono ?_;rintro e w2 ⟨rfl,aa⟩;rw[aa];clear aa w2;go_wp2_with fail
  refine((Aa ag) _).mono ?_;rintro e w3 ⟨rfl,ab⟩;rw[ab];clear ab w3;go_wp2_with fail
  refine(Aa HD).mono ?_;rintro e w4 ⟨rfl,hO⟩;have HO:=Ac hO;clear hO;go_wp2_with fail
  go_returns;exact⟨rfl,Aa HO⟩
 ·obtain⟨j,hj,HP⟩:=A4 a G.Ak.length ha (by omega) (by have:=hK.agree.inv.wf.E3;omega);have af:=Ac HP;have ak:=hj;have HD:Hid (Calls Tryz.prog 62 #[ptr q.x,.int .i64 (j:Int)] W1 fun e w'=>e=.returned (.int .i64 0)/\Ge w0 q p c w'):=by
   have:=hK.copy j;rw[UN hj,if_neg ai]at this;exact this
  generalize G.Ak.length=n at *;have n0:(0:Int)<(n:Int):=by omega
  have n1:((n:Int)==0)=false:=by simp;omega
  have aj:((n:Int)==40)=false:=by simp;omega
  clear h hK ae ac ad HP;go_enter Tryz.func34,Tryz.ntmps34;go_wp2_with fail
  rw[Aa ah];refine(Aa HF).mono ?_;rintro e w2 ⟨rfl,aa⟩;rw[aa];clear aa w2;go_wp2_with fail
  refine((Aa af) _).mono ?_;rintro e w2 ⟨rfl,aa⟩;rw[aa];clear aa w2;go_wp2_with fail
  refine((Aa ag) _).mono ?_;rintro e w3 ⟨rfl,ab⟩;rw[ab];clear ab w3;go_wp2_with fail
  refine(Aa HD).mono ?_;rintro e w4 ⟨rfl,hO⟩;have HO:=Ac hO;clear hO;go_wp2_with fail
  go_returns;exact⟨rfl,Aa HO⟩
theorem K8:∀args w,(callFunc 27 args).run Tryz.prog w=.ok (.enter 27 args) w:=fun _ _=>rfl
theorem abM:∀args w,(callFunc 63 args).run Tryz.prog w=.ok (.enter 63 args) w:=fun _ _=>rfl
theorem YK(w0:World)(q:RP)(p:Pl)(c:R.Cf)(s:RS)(M:R.Bk)(G:R.Wd)(w:World)(h:GB w0 q p c s M G w)(k a b d:Int)(ha:In64 a)(hb:In64 b)(hd:In64 d)(ah:Hid (∀w,Calls Tryz.prog 27 #[.int .i64 k,.int .i64 12] w fun e w'=>e=.returned (.int .i64 5)/\w'=w)):
  Calls Tryz.prog 34 #[ptr q.r,.agg #[.int .i64 k,.int .i64 a,.int .i64 b,.int .i64 d]] w fun e w'=>e=.returned (.bool true)/\Ge w0 q p c w':=by
 obtain⟨af,ac⟩:=Gj w k a b d;obtain⟨W1,ae⟩:∃W1,w.alloc (.cells #[.int .i64 k,.int .i64 a,.int .i64 b,.int .i64 d] 59)=W1:=⟨_,rfl⟩;rw[ae]at af ac;have ak:=Ac ae;have hK:=h.still af;have a0:=hK.both.cells.a0;have lr:=hK.both.cells.EA;have am:=h.both.cells.a0;have ar:=h.both.cells.EA;have c0:W1.cell? ⟨w.heap.size,0,none⟩=some (.int .i64 k):=cell_of ac 0 _ rfl;have c1:W1.cell? ⟨w.heap.size,1,none⟩=some (.int .i64 a):=cell_of ac 1 _ rfl;have lx:=lt_of_block ac;have HF:=Ac hK.both.VW;have c2:W1.cell? ⟨w.heap.size,2,none⟩=some (.int .i64 b):=cell_of ac 2 _ rfl;have c3:W1.cell? ⟨w.heap.size,3,none⟩=some (.int .i64 d):=cell_of ac 3 _ rfl;obtain⟨ja,ao,HA⟩:=A4 b 13 hb (by omega) (by omega);obtain⟨jb,ap,HB⟩:=A4 d 255 hd (by omega) (by omega);have ai:=Ac HA;have aj:=Ac HB;have aq:IntKind.i64.wrap (1+(jb:Int))=1+(jb:Int):=by rw[IntKind.wrap_i64];omega
 clear HA HB;by_cases hn:G.Ak.length=0
 ·have HD:Hid (Calls Tryz.prog 63 #[ptr q.x,.int .i64 0,.int .i64 (ja:Int),.int .i64 (1+(jb:Int))] W1.drew fun e w'=>(∃an:Int,e=.returned (.int .i64 an)/\an=9)/\Ge w0 q p c w'):=by
   refine((hK.still (Below.refl _ _).drew).Ji 0 ja (1+(jb:Int))).mono ?_;rintro e w' ⟨rfl,hO⟩;exact⟨⟨_,rfl,XK hn _ _⟩,hO⟩
  rw[hn]at HF;clear h hK af ac ae hn;go_enter Tryz.func34,Tryz.ntmps34;go_wp2_with fail
  rw[Aa ak];refine(Aa HF).mono ?_;rintro e w2 ⟨rfl,ab⟩;rw[ab];clear ab w2;go_wp2_with fail
  refine((Aa ah) _).mono ?_;rintro e w3 ⟨rfl,ad⟩;rw[ad];clear ad w3;go_wp2;go_region_law (first
   |(refine Av rfl 27 #[.tmp 28,.const (.int .i64 13)] #[3,3] rfl K8 #[.int .i64 b,.int .i64 13] rfl _ ((Aa ai) _) ?_;rintro e w5 ⟨rfl,aa⟩;rw[aa];clear aa;refine⟨_,rfl,?_⟩)
   |(refine Av rfl 27 #[.tmp 31,.const (.int .i64 255)] #[3,3] rfl K8 #[.int .i64 d,.int .i64 255] rfl _ ((Aa aj) _) ?_;rintro e w5 ⟨rfl,aa⟩;rw[aa];clear aa;refine⟨_,rfl,?_⟩)
   |(refine Av rfl 63 #[.tmp 25,.tmp 26,.tmp 29,.tmp 33] #[28,3,3,3] rfl abM #[ptr q.x,.int .i64 0,.int .i64 (ja:Int),.int .i64 (1+(jb:Int))] rfl _ (Aa HD) ?_;rintro e w6 ⟨⟨an,rfl,ag⟩,hO⟩;have HO:=Ac hO;clear hO;refine⟨_,rfl,?_⟩))
  all_goals
   subst ag;go_wp2;go_returns;exact⟨rfl,Aa HO⟩
 ·obtain⟨j,hj,HP⟩:=A4 a G.Ak.length ha (by omega) (by have:=hK.agree.inv.wf.E3;omega);have al:=Ac HP;have HD:Hid (Calls Tryz.prog 63 #[ptr q.x,.int .i64 (j:Int),.int .i64 (ja:Int),.int .i64 (1+(jb:Int))] W1.drew fun e w'=>(∃an:Int,e=.returned (.int .i64 an)/\(an=0\/an=18))/\Ge w0 q p c w'):=by
   refine((hK.still (Below.refl _ _).drew).Ji j ja (1+(jb:Int))).mono ?_;rintro e w' ⟨rfl,hO⟩;exact⟨⟨_,rfl,aaj hK.long hj (by omega) (by omega)⟩,hO⟩
  generalize G.Ak.length=n at *;have n0:(0:Int)<(n:Int):=by omega
  have n1:((n:Int)==0)=false:=by simp;omega
  clear h hK af ac ae HP;go_enter Tryz.func34,Tryz.ntmps34;go_wp2_with fail
  rw[Aa ak];refine(Aa HF).mono ?_;rintro e w2 ⟨rfl,ab⟩;rw[ab];clear ab w2;go_wp2_with fail
  refine((Aa al) _).mono ?_;rintro e w2 ⟨rfl,ab⟩;rw[ab];clear ab w2;go_wp2_with fail
  refine((Aa ah) _).mono ?_;rintro e w3 ⟨rfl,ad⟩;rw[ad];clear ad w3;go_wp2;go_region_law (first
   |(refine Av rfl 27 #[.tmp 28,.const (.int .i64 13)] #[3,3] rfl K8 #[.int .i64 b,.int .i64 13] rfl _ ((Aa ai) _) ?_;rintro e w5 ⟨rfl,aa⟩;rw[aa];clear aa;refine⟨_,rfl,?_⟩)
   |(refine Av rfl 27 #[.tmp 31,.const (.int .i64 255)] #[3,3] rfl K8 #[.int .i64 d,.int .i64 255] rfl _ ((Aa aj) _) ?_;rintro e w5 ⟨rfl,aa⟩;rw[aa];clear aa;refine⟨_,rfl,?_⟩)
   |(refine Av rfl 63 #[.tmp 25,.tmp 26,.tmp 29,.tmp 33] #[28,3,3,3] rfl abM #[ptr q.x,.int .i64 (j:Int),.int .i64 (ja:Int),.int .i64 (1+(jb:Int))] rfl _ (Aa HD) ?_;rintro e w6 ⟨⟨an,rfl,ag⟩,hO⟩;have HO:=Ac hO;clear hO;refine⟨_,rfl,?_⟩))
  all_goals
   rcases ag with rfl|rfl;all_goals
    go_wp2;go_returns;exact⟨rfl,Aa HO⟩
structure DAt(w:World)(s:RS)(g cap:Nat):Prop where
 eq:s.D=.slice (some ⟨g,0,none⟩) s.dead.length cap
 open':∀o,w.frozen? ⟨g,o,none⟩=false
 get:∀(k:Nat) (v:Int),s.dead[k]?=some v->w.cell? ⟨g,k,none⟩=some (.int .i64 v)
 cap:s.dead.length<=cap
 lt:g<w.heap.size
theorem Au.dAt{q:RP}(h:Au w0 q p c s G w)(hn:0<s.dead.length):∃g cap,DAt w s g cap:=by
 obtain⟨tp,E,F,hr,hw,hd,ac⟩:=h.run;obtain⟨hl,hD⟩:=hr.D;rcases hD with ⟨_,h0⟩|⟨g,cap,ab,e,_,hb,hc,_,hs,ht⟩
 ·omega
 ·have aa:w.heap[g]?=some (.cells ab.toList.toArray 3 (0,0)):=by simpa using hb
  refine⟨g,cap,e,fun o=>open_list aa,fun k v hv=>?_,hc,lt_of_block hb⟩;refine AP aa ?_;have h1:(ints s.dead)[k]?=some (.int .i64 v):=Ew hv;rw[<-ht,af7]at h1;split at h1
  ·exact h1
  ·cases h1
theorem Au.ad5{q:RP}(h:Au w0 q p c s G w)(hg:s.D=.slice (some ⟨g,0,none⟩) s.dead.length cap)(k:Nat)(v:Int):Au w0 q p c {s with dead:=s.dead.set k v} G (w.setCell ⟨g,k,none⟩ (.int .i64 v)):=by
 obtain⟨tp,E,F,hr,hw,hd,ah⟩:=h.run;have ai:=hr.D;obtain⟨hl,hD⟩:=ai;have aa:s.D.ownBlock=some g:=by rw[hg];rfl
 have ae:E g:=hr.rows g (afM (afJ aa));rcases hD with ⟨e,_⟩|⟨g',ad,ac,e,ag,hb,hc,hm,hs,ht⟩
 ·rw[hg]at e;cases e
 ·rw[hg]at e;cases e;have af:w.heap[g]?=some (.cells ac.toList.toArray 3 (0,0)):=by simpa using hb
  have sz:(w.setCell ⟨g,k,none⟩ (.int .i64 v)).heap.size=w.heap.size:=by simp[World.setCell]
  have ab:∀{b:Nat} {o:Obj},w.heap[b]?=some o->b≠g->(w.setCell ⟨g,k,none⟩ (.int .i64 v)).heap[b]?=some o:=fun hb ht=>by
   rw[Below.heap_setCell _ _ _ _ ht];exact hb
  have aj:q.lf≠g:=fun e=>hr.nD.1 (by rw[aa,e])
  have ak:q.sq≠g:=fun e=>hr.nD.2.1 (by rw[aa,e])
  have al:q.ud≠g:=fun e=>hr.nD.2.2 (by rw[aa,e])
  refine h.own (s':={s with dead:=s.dead.set k v}) hw hd ah (E':=E) ⟨?_,ab hr.lf aj,ab hr.sq ak,ab hr.ud al,?_,?_,?_,?_,hr.BP,hr.rows,hr.ne,hr.nD,hr.nK,hr.Xu,fun k hk=>by rw[sz];exact hr.lt k hk⟩ ⟨MW ae _,fun _ e=>afJ e⟩
  ·exact ab hr.cell (AZ hr.cell hb (by decide))
  ·exact A7 hr.M (AV hr.M hb (by decide)) _
  ·refine⟨by simp[ints],afM ⟨g,cap,(ac.toList.set k (.int .i64 v)).toArray,by simpa using hg,ag,Ai af _,by simpa using hc,hm,by simpa using hs,?_⟩⟩;rw[<-ints_set,<-ht];simp only[agq,Nat.mul_one];rw[List.take_set]
  ·exact A7 hr.K (hr.Xu g aa) _
  ·exact EL hr.args hb (by decide) _
theorem NS(w0:World)(q:RP)(p:Pl)(c:R.Cf)(s:RS)(G:R.Wd)(w:World)(k:Nat)(hk:k<3)(h:Au w0 q p c s G w)(aa:s.nu=255)
  (ac:Hid (∀W,Au w0 q p c s G W->Calls Tryz.prog 48 #[ptr q.x,.string (str (A6 k)),.int .i64 (k:Int)] W fun e w'=>e=.returned (.tuple #[.int .i64 0,.int .i64 11])/\Au w0 q p c s G w')):
  Calls Tryz.prog 25 #[ptr q.r,.int .i64 (k:Int)] w fun e w'=>e=.returned (.bool true)/\Au w0 q p c s G w':=by
 obtain⟨a0,a6,a7,a8,a9,JB,NP,a12,z,zu,zs,zl,fu,fs,fl,nur,nsr,EA,Yy⟩:=h.cells;have af:=Ac (Iq k hk);generalize str (A6 k)=SN at *;rw[aa]at JB;have ad:=Ac h;clear h a6 a7 a8 a9 NP a12 z zu zs zl fu fs fl aa nur nsr Yy;go_enter Tryz.func25,Tryz.ntmps25;go_wp2;go_region_law (first
  |(refine Av rfl 49 #[.tmp 22] #[3] rfl XT #[.int .i64 (k:Int)] rfl _ ((Aa af) _) ?_;rintro e w1 ⟨rfl,ab⟩;rw[ab];clear ab;refine⟨_,rfl,?_⟩)
  |(refine Av rfl 48 #[.tmp 21,.tmp 23,.tmp 24] #[28,9,3] rfl aao #[ptr q.x,.string SN,.int .i64 (k:Int)] rfl _ ((Aa ac) _ (by have hb:=(Aa ad).still (Below.refl _ _).drew;exact hb)) ?_;rintro e w2 ⟨rfl,hB⟩;have ae:=Ac hB;clear hB;refine⟨_,rfl,?_⟩))
 all_goals
  go_wp2;go_returns;exact⟨rfl,Aa ae⟩
theorem Ps(w0:World)(q:RP)(p:Pl)(c:R.Cf)(s:RS)(G G':R.Wd)(w:World)(k:Nat)(hk:k<3)(h:Au w0 q p c s G w)(be:s.uid.length=3){a:Nat}(aX:u0=(a:Int)+1)(hu:s.uid[k]?=some u0)(bd:0<=s.nu/\s.nu<255)(aM:s.dead[a]?=some n0)(ba:0<=n0)(bb:s.dead.length<=255)(bc:s.kinds.length<=255)
  (aG:Hid (∀W,Au w0 q p c s G W->Calls Tryz.prog 48 #[ptr q.x,.string (str (A6 k)),.int .i64 (k:Int)] W fun e w'=>e=.returned (.tuple #[.int .i64 (s.nu+1),.int .i64 0])/\Au w0 q p c s G' w')):
  Calls Tryz.prog 25 #[ptr q.r,.int .i64 (k:Int)] w fun e w'=>e=.returned (.bool true)/\∃D K,Au w0 q p c ⟨s.Ae,s.seq,s.uid.set k (s.nu+1),s.nu+1,s.M,D,K,s.made,s.dead++[-1],s.kinds++[(k:Int)]⟩ G' w':=by
 obtain⟨a0,a6,a7,a8,a9,JB,NP,a12,z,zu,zs,zl,fu,fs,fl,nur,nsr,EA,Yy⟩:=h.cells;have b1:=fu k u0 hu;have b7:=(afG.1 aM).1;obtain⟨g,cap,hD⟩:=h.dAt (by omega);have d1:=hD.get a n0 aM;have aR:=hD.lt;rw[hD.eq]at NP;have b9:(k:Int)<(s.uid.length:Int):=by omega
 have aS:(s.nu==255)=false:=by simp;omega
 have eu:(u0-1)=(a:Int):=by omega
 have b4:¬u0<=0:=by omega
 have b5:0<u0:=by omega
 have bg:IntKind.i64.wrap (u0-1)=(a:Int):=by rw[IntKind.wrap_i64];omega
 have aW:(a:Int)<(s.dead.length:Int):=by omega
 have b3:¬n0<0:=by omega
 have aJ:=Ac (Iq k hk);have bf:IntKind.i64.wrap (s.nu+1)=s.nu+1:=by rw[IntKind.wrap_i64];omega
 generalize str (A6 k)=SN at *;obtain⟨i0,hi,aO,aP,aQ⟩:=info_parts Yk;have aH:=Ac h;clear h a6 a7 a9 a12 z zu zs zl fu fs fl hD aX;go_enter Tryz.func25,Tryz.ntmps25;go_wp2;go_region_law (first
  |(refine Av rfl 49 #[.tmp 78] #[3] rfl XT #[.int .i64 (k:Int)] rfl _ ((Aa aJ) _) ?_;rintro e w1 ⟨rfl,aN⟩;rw[aN];clear aN;refine⟨_,rfl,?_⟩)
  |(refine Av rfl 48 #[.tmp 77,.tmp 79,.tmp 80] #[28,9,3] rfl aao #[ptr q.x,.string SN,.int .i64 (k:Int)] rfl _ ((Aa aG) _ (by have hb:=(Aa aH).still (Below.refl _ _).drew;exact hb)) ?_;rintro e w2 ⟨rfl,hB⟩;have ay:=Ac hB;clear hB;refine⟨_,rfl,?_⟩))
 all_goals
  clear a0 a8 JB NP b1 d1 aR EA Yy aG aJ aH;have ar:=(Aa ay).cells;have b2:=ar.JB;have aF:=ar.z 10;have y0:=ar.EA;have ax:=Ac ((Aa ay).Lp (s.nu+1));clear ar ay;go_wp2;generalize w2.setCell ⟨q.r,10,none⟩ (.int .i64 (s.nu+1))=W2 at *;have af:=(Aa ax).cells;have x8:=af.a8;have an:=af.JB;have xk:=af.zu k;have xu:=af.u k u0 (by assumption);simp only at x8 an;have xl:=af.Yy;have ag:=Ac (((Aa ax).acB k (s.nu+1)).still (Below.refl _ _).drew);clear af ax b2 aF y0
  go_region
  all_goals
   generalize (W2.setCell ⟨q.ud,k,none⟩ (.int .i64 (s.nu+1))).drew=W3 at *;clear x8 an xk xu xl;have au:=(Aa ag).cells;have ac:=(Aa ag).run;obtain⟨tp,E,F,hr,ai⟩:=ac;have al:=hr.D;have aD:=AX al;obtain⟨da,dc,hD⟩:=aD;have av:=au.NP;have ao:=au.z 11;have xr:=au.EA;simp only at hD al av;rw[hD]at av al;have aA:=Ac al;have HD:=Ac hD;clear au hr ai al hD;go_wp2_with (at_builtin;go_must (refine wpList_append_own_at _ rfl (.tmp 105) (.tmp 106) 29 rfl 0 3 i0 (.int .i64 0) 1 8 Tryz.underlying29 hi aO aP aQ rfl (by decide) (.slice da s.dead.length dc) s.dead.length (ints s.dead) rfl (by exact(Aa aA).alloc _) ⟨W3.heap.size,0,none⟩ 1 1 [.int .i64 (-1)] rfl rfl (by exact one_num W3 (-1)) (by simp[Value.oneCell']) (by unfold maxLen;omega) (by omega) (by omega) ?_))
   intro v' wz ab aa _ aj;obtain⟨va,vn,vc,aE⟩:=Ar ab;subst aE;have ah:=Ac ((Aa ag).Zk (o:=.cells #[.int .i64 (-1)] 3) (n:=-1) (D':=.slice va vn vc) ab (by rw[Aa HD];exact aa) (by rw[Aa HD];exact Ij (by simpa using aj)));have ae:wz.heap[q.r]?=W3.heap[q.r]?:=by
    refine(aa.block q.r (by simp;omega) (fun e=>?_)).trans (Below.heap_alloc _ _ _ xr);have ac:=(Aa ag).run;obtain⟨tp,E,F,hr,ai⟩:=ac;have ad:=hr.cell;exact AV (Aa aA) ad (by decide) e.symm
   have aK:wz.cell? ⟨q.r,11,none⟩=some (.slice da s.dead.length dc):=(World.cell?_of_block ae).trans av;have aC:wz.frozen? ⟨q.r,11,none⟩=false:=(World.frozen?_of_block ae).trans ao;have aV:q.r<wz.heap.size:=lt_of_cell aK;clear ab aa aj ae av ao aA HD ag;have ak:=(Aa ah).cells;have ac:=(Aa ah).run;obtain⟨tp,E,F,hr,ai⟩:=ac;have am:=hr.K;have aD:=AX am;obtain⟨ka,kc,aq⟩:=aD;have aw:=ak.a12;have ap:=ak.z 12;have an:=ak.JB;have aZ:=ak.EA;simp only at aq am aw an;rw[aq]at aw am;have aB:=Ac am;have az:=Ac aq;clear ak hr ai am aq;go_wp2_with (at_builtin;go_must (refine wpList_append_own_at _ rfl (.tmp 114) (.tmp 116) 29 rfl 0 3 i0 (.int .i64 0) 1 8 Tryz.underlying29 hi aO aP aQ rfl (by decide) (.slice ka s.kinds.length kc) s.kinds.length (ints s.kinds) rfl (by exact(Aa aB).alloc _) ⟨wz.heap.size,0,none⟩ 1 1 [.int .i64 (k:Int)] rfl rfl (by exact Ju _ (k:Int) (by simp)) (by simp[Value.oneCell']) (by unfold maxLen;omega) (by omega) (by omega) ?_))
   intro v2 wy ab aa _ aj;obtain⟨ua,un,uc,aE⟩:=Ar ab;subst aE;have aI:=Ac ((Aa ah).Zl (o:=.cells #[.int .i64 (k:Int)] 3) (n:=(k:Int)) (K':=.slice ua un uc) ab (by rw[Aa az];exact aa) (by rw[Aa az];exact Ij (by simpa using aj)));generalize wz.setCell ⟨q.r,11,none⟩ (.slice va vn vc)=W4 at *;have ae:wy.heap[q.r]?=W4.heap[q.r]?:=by
    refine(aa.block q.r (by simp;omega) (fun e=>?_)).trans (Below.heap_alloc _ _ _ aZ);have ac:=(Aa ah).run;obtain⟨tp,E,F,hr,ai⟩:=ac;have ad:=hr.cell;exact AV (Aa aB) ad (by decide) e.symm
   have aT:wy.cell? ⟨q.r,12,none⟩=some (.slice ka s.kinds.length kc):=(World.cell?_of_block ae).trans aw;have aU:wy.frozen? ⟨q.r,12,none⟩=false:=(World.frozen?_of_block ae).trans ap;have b6:q.r<wy.heap.size:=lt_of_cell aT;have aL:=(Aa aI).cells;have aY:=aL.JB;simp only at aY;clear ab aa aj ae aw ap an aB az ah aK aC aV aL;go_wp2;go_returns;exact⟨rfl,_,_,Aa aI⟩
theorem NR(w0:World)(q:RP)(p:Pl)(c:R.Cf)(s S:RS)(G G':R.Wd)(w:World)(k:Nat)(hk:k<3)(h:Au w0 q p c s G w)(aZ:s.uid.length=3){a:Nat}(bi:u0=(a:Int)+1)(hu:s.uid[k]?=some u0)(aY:0<=s.nu/\s.nu<255)(ay:s.dead[a]?=some n0)(bv:n0<0)(aW:s.dead.length<=255)(aX:s.kinds.length<=255)(hS:S={s with dead:=s.dead.set a m})
  (aO:Hid (∀W,Au w0 q p c s G W->Calls Tryz.prog 9 #[ptr q.x,.int .i64 u0] W fun e w'=>e=.returned (.tuple #[.int .i64 m,.int .i64 0])/\Below W.heap.size W w'))
  (aN:Hid (∀W,Au w0 q p c S G W->Calls Tryz.prog 48 #[ptr q.x,.string (str (A6 k)),.int .i64 (k:Int)] W fun e w'=>e=.returned (.tuple #[.int .i64 (S.nu+1),.int .i64 0])/\Au w0 q p c S G' w')):
  Calls Tryz.prog 25 #[ptr q.r,.int .i64 (k:Int)] w fun e w'=>e=.returned (.bool true)/\∃D K,Au w0 q p c ⟨S.Ae,S.seq,S.uid.set k (S.nu+1),S.nu+1,S.M,D,K,S.made,S.dead++[-1],S.kinds++[(k:Int)]⟩ G' w':=by
 obtain⟨a0,a6,a7,a8,a9,JB,NP,a12,z,zu,zs,zl,fu,fs,fl,nur,nsr,EA,Yy⟩:=h.cells;have b1:=fu k u0 hu;have be:=(afG.1 ay).1;obtain⟨g,cap,hD⟩:=h.dAt (by omega);have d1:=hD.get a n0 ay;have b9:=hD.lt;have au:=hD.eq;rw[au]at NP;have aV:(k:Int)<(s.uid.length:Int):=by omega
 have ba:(s.nu==255)=false:=by simp;omega
 have br:¬u0<=0:=by omega
 have bt:0<u0:=by omega
 have bl:IntKind.i64.wrap (u0-1)=(a:Int):=by rw[IntKind.wrap_i64];omega
 have aI:(a:Int)<(s.dead.length:Int):=by omega
 have aR:=Ac (Iq k hk);have bj:S.uid.length=3:=by rw[hS];exact aZ
 have bh:0<=S.nu/\S.nu<255:=by rw[hS];exact aY
 have bz:IntKind.i64.wrap (S.nu+1)=S.nu+1:=by rw[IntKind.wrap_i64];omega
 have bf:S.dead.length<=255:=by rw[hS];simpa using aW
 have bg:S.kinds.length<=255:=by rw[hS];exact aX
 have bw:S.uid[k]?=some u0:=by rw[hS];exact hu
 have HP:Hid (∀W,Below w.heap.size w W->Au w0 q p c S G (W.setCell ⟨g,a,none⟩ (.int .i64 m))/\W.cell? ⟨q.r,11,none⟩=some (.slice (some ⟨g,0,none⟩) s.dead.length cap)/\W.cell? ⟨g,a,none⟩=some (.int .i64 n0)/\W.frozen? ⟨g,a,none⟩=false/\g<W.heap.size/\q.r<W.heap.size):=fun W hW=>by
  have hb:=h.still hW;have hc:=hb.cells;have b5:=hc.NP;obtain⟨g',b7,ar⟩:=hb.dAt (by omega);have e:=ar.eq;rw[au]at e;cases e;rw[au]at b5;exact⟨by rw[hS];exact hb.ad5 au a m,b5,ar.get a n0 ay,ar.open' a,ar.lt,hc.EA⟩
 generalize str (A6 k)=SN at *;obtain⟨i0,hi,b2,b3,b4⟩:=info_parts Yk;have aP:=Ac h;clear h a6 a7 a9 a12 z zu zs zl fu fs fl hD bi;go_enter Tryz.func25,Tryz.ntmps25;go_wp2_with (go_at_call 9;refine((Aa aO) _ (by exact Aa aP)).mono ?_;rintro e w1 ⟨rfl,al⟩;have hh:=(Aa HP) w1 al;obtain⟨aT,b6,cg,cz,cl,cr⟩:=hh;have aB:=Ac aT;clear aT al)
 generalize w1.setCell ⟨g,a,none⟩ (.int .i64 m)=W1 at *;clear a0 a8 JB NP b1 d1 b9 EA Yy b6 cg cz cl cr HP aP aO nur nsr;have aJ:=(Aa aB).cells;have a0:=aJ.a0;have EA:=aJ.EA;clear aJ ay be aI bl aZ aY aW aX hu hS aV;have aV:(k:Int)<(S.uid.length:Int):=by omega
 go_region_law (first
  |(refine Av rfl 49 #[.tmp 78] #[3] rfl XT #[.int .i64 (k:Int)] rfl _ ((Aa aR) _) ?_;rintro e w1 ⟨rfl,al⟩;rw[al];clear al;refine⟨_,rfl,?_⟩)
  |(refine Av rfl 48 #[.tmp 77,.tmp 79,.tmp 80] #[28,9,3] rfl aao #[ptr q.x,.string SN,.int .i64 (k:Int)] rfl _ ((Aa aN) _ (by have hb:=(Aa aB).still (Below.refl _ _).drew;exact hb)) ?_;rintro e w2 ⟨rfl,hB⟩;have aD:=Ac hB;clear hB;refine⟨_,rfl,?_⟩))
 all_goals
  clear a0 EA aN aR aB;have aw:=(Aa aD).cells;have bq:=aw.JB;have aM:=aw.z 10;have y0:=aw.EA;have aC:=Ac ((Aa aD).Lp (S.nu+1));clear aw aD;go_wp2;generalize w2.setCell ⟨q.r,10,none⟩ (.int .i64 (S.nu+1))=W2 at *;have af:=(Aa aC).cells;have x8:=af.a8;have ao:=af.JB;have xk:=af.zu k;have xu:=af.u k u0 (by assumption);simp only at x8 ao;have xl:=af.Yy;have ag:=Ac (((Aa aC).acB k (S.nu+1)).still (Below.refl _ _).drew);clear af aC bq aM y0
  go_region
  all_goals
   generalize (W2.setCell ⟨q.ud,k,none⟩ (.int .i64 (S.nu+1))).drew=W3 at *;clear x8 ao xk xu xl;have ax:=(Aa ag).cells;have ac:=(Aa ag).run;obtain⟨tp,E,F,hr,ai⟩:=ac;have am:=hr.D;have aK:=AX am;obtain⟨da,dc,hD⟩:=aK;have az:=ax.NP;have ap:=ax.z 11;have xr:=ax.EA;simp only at hD am az;rw[hD]at az am;have aF:=Ac am;have HD:=Ac hD;clear ax hr ai am hD;go_wp2_with (at_builtin;go_must (refine wpList_append_own_at _ rfl (.tmp 105) (.tmp 106) 29 rfl 0 3 i0 (.int .i64 0) 1 8 Tryz.underlying29 hi b2 b3 b4 rfl (by decide) (.slice da S.dead.length dc) S.dead.length (ints S.dead) rfl (by exact(Aa aF).alloc _) ⟨W3.heap.size,0,none⟩ 1 1 [.int .i64 (-1)] rfl rfl (by exact one_num W3 (-1)) (by simp[Value.oneCell']) (by unfold maxLen;omega) (by omega) (by omega) ?_))
   intro v' wz ab aa _ aj;obtain⟨va,vn,vc,aL⟩:=Ar ab;subst aL;have ah:=Ac ((Aa ag).Zk (o:=.cells #[.int .i64 (-1)] 3) (n:=-1) (D':=.slice va vn vc) ab (by rw[Aa HD];exact aa) (by rw[Aa HD];exact Ij (by simpa using aj)));have ae:wz.heap[q.r]?=W3.heap[q.r]?:=by
    refine(aa.block q.r (by simp;omega) (fun e=>?_)).trans (Below.heap_alloc _ _ _ xr);have ac:=(Aa ag).run;obtain⟨tp,E,F,hr,ai⟩:=ac;have ad:=hr.cell;exact AV (Aa aF) ad (by decide) e.symm
   have aS:wz.cell? ⟨q.r,11,none⟩=some (.slice da S.dead.length dc):=(World.cell?_of_block ae).trans az;have aH:wz.frozen? ⟨q.r,11,none⟩=false:=(World.frozen?_of_block ae).trans ap;have bd:q.r<wz.heap.size:=lt_of_cell aS;clear ab aa aj ae az ap aF HD ag;have ak:=(Aa ah).cells;have ac:=(Aa ah).run;obtain⟨tp,E,F,hr,ai⟩:=ac;have an:=hr.K;have aK:=AX an;obtain⟨ka,kc,av⟩:=aK;have aA:=ak.a12;have aq:=ak.z 12;have ao:=ak.JB;have bp:=ak.EA;simp only at av an aA ao;rw[av]at aA an;have aG:=Ac an;have aE:=Ac av;clear ak hr ai an av;go_wp2_with (at_builtin;go_must (refine wpList_append_own_at _ rfl (.tmp 114) (.tmp 116) 29 rfl 0 3 i0 (.int .i64 0) 1 8 Tryz.underlying29 hi b2 b3 b4 rfl (by decide) (.slice ka S.kinds.length kc) S.kinds.length (ints S.kinds) rfl (by exact(Aa aG).alloc _) ⟨wz.heap.size,0,none⟩ 1 1 [.int .i64 (k:Int)] rfl rfl (by exact Ju _ (k:Int) (by simp)) (by simp[Value.oneCell']) (by unfold maxLen;omega) (by omega) (by omega) ?_))
   intro v2 wy ab aa _ aj;obtain⟨ua,un,uc,aL⟩:=Ar ab;subst aL;have aQ:=Ac ((Aa ah).Zl (o:=.cells #[.int .i64 (k:Int)] 3) (n:=(k:Int)) (K':=.slice ua un uc) ab (by rw[Aa aE];exact aa) (by rw[Aa aE];exact Ij (by simpa using aj)));generalize wz.setCell ⟨q.r,11,none⟩ (.slice va vn vc)=W4 at *;have ae:wy.heap[q.r]?=W4.heap[q.r]?:=by
    refine(aa.block q.r (by simp;omega) (fun e=>?_)).trans (Below.heap_alloc _ _ _ bp);have ac:=(Aa ah).run;obtain⟨tp,E,F,hr,ai⟩:=ac;have ad:=hr.cell;exact AV (Aa aG) ad (by decide) e.symm
   have bb:wy.cell? ⟨q.r,12,none⟩=some (.slice ka S.kinds.length kc):=(World.cell?_of_block ae).trans aA;have bc:wy.frozen? ⟨q.r,12,none⟩=false:=(World.frozen?_of_block ae).trans aq;have bu:q.r<wy.heap.size:=lt_of_cell bb;have aU:=(Aa aQ).cells;have bo:=aU.JB;simp only at bo;clear ab aa aj ae aA aq ao aG aE ah aS aH bd aU;go_wp2;go_returns;exact⟨rfl,_,_,Aa aQ⟩
theorem U6(hk:k<3):R.CZ (A6 k)=true:=by
 obtain rfl|rfl|rfl:k=0\/k=1\/k=2:=by omega
 all_goals decide
theorem MN(G:R.Wd)(n:List UInt8)(k:Int):(R.Bd G n k).2.Ak=G.Ak:=by
 unfold R.Bd;split
 ·rfl
 ·split
  ·rfl
  ·split
   ·split
    ·rfl
    ·split
     ·rfl
     ·rfl
   ·split
    ·rfl
    ·rfl
theorem Au.aaJ{q:RP}(h:Au w0 q p c s G w)(hA:Agree c s M G)(hk:k<3):
  Calls Tryz.prog 25 #[ptr q.r,.int .i64 (k:Int)] w fun e w'=>e=.returned (.bool true)/\∃s' G',Au w0 q p c s' G' w'/\Fit c s' M G'/\C9 G.Ab G'.Ab/\G'.Ak=G.Ak:=by
 obtain⟨u,hu,aa,ap⟩:=hA.uid k hk;have ah:=hA.inv.wf.sv;by_cases hs:G.Ab.length=255
 ·have he:=NQ hk aa hs;obtain⟨j,hj⟩:∃j,R.BI G (A6 k)=some j:=by
   unfold AF at aa;cases hn:R.BI G (A6 k) with
   |none=>rw[hn]at aa;cases aa
   |some j=>exact⟨j,rfl⟩
  refine(NS w0 q p c s G w k hk h (by rw[hA.nu,hs];rfl) (Ac fun W hW=>?_)).mono ?_
  ·have:=hW.UT (U6 hk) (kind:=k) (by omega) hj;rw[he]at this;exact this
  ·rintro e w' ⟨rfl,hB⟩;exact⟨rfl,s,G,hB,hA.fit,C9.refl _,rfl⟩
 ·have ac:G.Ab.length<255:=by omega
  obtain⟨j,hj,aj⟩:=Ol hk aa ac;have aq:1<=u/\u<=(G.Ab.length:Int):=by
   have ao:=(afG.1 (R.Ek hj)).1;have am:=hA.inv.wf.st;have ae:j<G.stands.length:=by omega
   have:=hA.inv.wf.I5 G.stands[j] (agr ae);unfold AF at aa;rw[hj]at aa;have hv:G.stands.getD j 0=u:=Option.some.inj aa;rw[afX,afH ae]at hv;simp only[af2]at hv;rw[<-hv];omega
  obtain⟨a,ha⟩:∃a:Nat,u=(a:Int)+1:=⟨(u-1).toNat,by omega⟩;have ai:a<G.Ab.length:=by omega
  have ag:G.Ab[a]?=some G.Ab[a]:=afH ai;have an:=hA.dl;have ab:s.dead[a]?=some (s.dead[a]'(by omega)):=afH _;have al:=hA.nu;have af:s.kinds.length<=255:=by rw[hA.kinds,af0];omega
  have ad:∀(S:RS),S.nu=s.nu->∀W,Au w0 q p c S G W->Calls Tryz.prog 48 #[ptr q.x,.string (str (A6 k)),.int .i64 (k:Int)] W fun e w'=>e=.returned (.tuple #[.int .i64 (S.nu+1),.int .i64 0])/\Au w0 q p c S (R.Bd G (A6 k) (k:Int)).2 w':=fun S hS W hW=>by
   have:=hW.UT (U6 hk) (kind:=k) (by omega) hj;rw[show (R.Bd G (A6 k) (k:Int)).1=(S.nu+1,0) by rw[aj,hS,al]]at this;exact this
  have hold:((s.dead[(((s.uid[k]?).getD 0)-1).toNat]?).getD 0)=s.dead[a]'(by omega)/\(((s.uid[k]?).getD 0)-1).toNat=a/\(s.uid[k]?).getD 0=u:=by
   rw[hu];simp only[af2];have:(u-1).toNat=a:=by omega
   rw[this,ab];exact⟨rfl,rfl,trivial⟩
  by_cases hd:s.dead[a]'(by omega)<0
  ·have ak:∀W,Au w0 q p c s G W->Calls Tryz.prog 9 #[ptr q.x,.int .i64 u] W fun e w'=>e=.returned (.tuple #[.int .i64 (G.Ab[a].log.length:Int),.int .i64 0])/\Below W.heap.size W w':=fun W hW=>by
    rw[ha];exact hW.aa0 ag
   refine(NR w0 q p c s {s with dead:=s.dead.set a (G.Ab[a].log.length:Int)} G (R.Bd G (A6 k) (k:Int)).2 w k hk h hA.ul ha hu (by omega) ab hd (by omega) af rfl (Ac ak) (Ac (ad _ rfl))).mono ?_;rintro e w' ⟨rfl,D,K,hB⟩;have ho:EK s G k=s.dead.set a (G.Ab[a].log.length:Int):=by
    unfold EK;rw[hold.1,hold.2.1,hold.2.2,if_pos hd];unfold R.Ho;rw[show (u-1).toNat=a by omega,ag];rfl
   have hf:=hA.exports hk ac D K;refine⟨rfl,JW s G k D K,_,?_,hf,C9.export _ _ _,MN _ _ _⟩;unfold JW;rw[ho];exact hB
  ·refine(Ps w0 q p c s G (R.Bd G (A6 k) (k:Int)).2 w k hk h hA.ul ha hu (by omega) ab (by omega) (by omega) af (Ac (ad _ rfl))).mono ?_;rintro e w' ⟨rfl,D,K,hB⟩;have ho:EK s G k=s.dead:=by
    unfold EK;rw[hold.1,if_neg hd]
   have hf:=hA.exports hk ac D K;refine⟨rfl,JW s G k D K,_,?_,hf,C9.export _ _ _,MN _ _ _⟩;unfold JW;rw[ho];exact hB
def Et(dead:List Int)(sv:List R.Sv)(n:Nat):List Int:=(List.range dead.length).map fun (u:Nat)=>if u<n/\(dead[u]?).getD 0<0 then ((((sv[u]?).map (·.log)).getD []).length:Int) else (dead[u]?).getD 0
theorem Cx(dead:List Int)(sv:List R.Sv)(n:Nat):(Et dead sv n).length=dead.length:=by simp[Et]
theorem Ed{dead:List Int}{sv:List R.Sv}{n u:Nat}(h:u<dead.length):(Et dead sv n)[u]?=some (if u<n/\dead[u]<0 then ((((sv[u]?).map (·.log)).getD []).length:Int) else dead[u]):=by
 unfold Et;rw[afW,List.getElem?_range h];simp only[af9];rw[afH h];rfl
theorem Qv(dead:List Int)(sv:List R.Sv):Et dead sv 0=dead:=by
 refine agd (fun u=>?_);by_cases h:u<dead.length
 ·rw[Ed h,if_neg (by omega),afH h]
 ·rw[af5 (by rw[Cx];omega),af5 (by omega)]
theorem SZ(dead:List Int)(sv:List R.Sv):Et dead sv dead.length=F8 dead sv:=by
 refine agd (fun u=>?_);by_cases h:u<dead.length
 ·rw[Ed h];unfold F8;rw[afW,List.getElem?_range h];simp only[af9];rw[afH h];simp only[af2];by_cases hd:dead[u]<0
  ·rw[if_pos ⟨h,hd⟩,if_neg (by omega)]
  ·rw[if_neg (by omega),if_pos (by omega)]
 ·rw[af5 (by rw[Cx];omega),af5 (by simp[F8];omega)]
theorem Qu{dead:List Int}{sv:List R.Sv}{n:Nat}(h:n<dead.length)(hd:¬dead[n]<0):Et dead sv (n+1)=Et dead sv n:=by
 refine agd (fun u=>?_);by_cases hu:u<dead.length
 ·rw[Ed hu,Ed hu];by_cases e:u=n
  ·subst e;rw[if_neg (by omega),if_neg (by omega)]
  ·by_cases hq:u<n/\dead[u]<0
   ·rw[if_pos (by omega),if_pos hq]
   ·rw[if_neg (by omega),if_neg hq]
 ·rw[af5 (by rw[Cx];omega),af5 (by rw[Cx];omega)]
theorem S7{dead:List Int}{sv:List R.Sv}{n:Nat}{s:R.Sv}(h:n<dead.length)(hs:sv[n]?=some s)(hd:dead[n]<0):Et dead sv (n+1)=(Et dead sv n).set n (s.log.length:Int):=by
 refine agd (fun u=>?_);rw[afV,Cx];by_cases hu:u<dead.length
 ·rw[Ed hu,Ed hu];by_cases e:n=u
  ·subst e;rw[if_pos rfl,if_pos h,if_pos (by omega),hs];rfl
  ·rw[if_neg e];by_cases hq:u<n/\dead[u]<0
   ·rw[if_pos (by omega),if_pos hq]
   ·rw[if_neg (by omega),if_neg hq]
 ·rw[af5 (by rw[Cx];omega),af5 (by rw[Cx];omega),if_neg (by omega)]
theorem Pg(w0:World)(q:RP)(p:Pl)(c:R.Cf)(s:RS)(G:R.Wd)(w:World)(h:Au w0 q p c s G w)(ay:s.nu=(G.Ab.length:Int))(ax:s.dead.length=G.Ab.length)(aw:G.Ab.length<=255)(h0:0<G.Ab.length):
  Calls Tryz.prog 33 #[ptr q.r,.int .i64 (-1)] w fun e w'=>e=.returned (.bool true)/\Au w0 q p c {s with dead:=F8 s.dead G.Ab} (R.Bb G (-1)).2 w':=by
 obtain⟨G',al⟩:∃G',(R.Bb G (-1)).2=G':=⟨_,rfl⟩;rw[al];have ah:Hid (∀W S,Au w0 q p c S G W->Calls Tryz.prog 60 #[ptr q.x,.int .i64 (-1)] W fun e w'=>e=.returned (.int .i64 0)/\Au w0 q p c S G' w'):=fun W S hW=>by
  have:=hW.SK (-1);have e1:(R.Bb G (-1)).1=0:=by unfold R.Bb;rw[if_pos rfl]
  rw[e1,al]at this;exact this
 clear al;have ai:Hid (∀W S (u:Nat),Au w0 q p c S G W->u<G.Ab.length->Calls Tryz.prog 9 #[ptr q.x,.int .i64 ((u:Int)+1)] W fun e w'=>e=.returned (.tuple #[.int .i64 ((((G.Ab[u]?).map (·.log)).getD []).length:Int),.int .i64 0])/\Below W.heap.size W w'):=fun W S u hW hu=>by
  have au:G.Ab[u]?=some G.Ab[u]:=afH hu;rw[au];exact hW.aa0 au
 have HH:=Ac h;generalize hm:G.Ab.length=m at *;have an:=h.cells.JB;clear h;go_enter Tryz.func33,Tryz.ntmps33;go_wp2;go_loopw [5] (fun kv wr=>∃k:Nat,k<=m/\kv=.int .i64 ((k:Int)+1)/\Au w0 q p c {s with dead:=Et s.dead G.Ab k} G wr) (fun kv _=>m+1-(intOf kv).toNat)
 case atStart=>exact⟨0,by omega,rfl,by rw[Qv];exact Aa HH⟩
 case round=>
  obtain⟨k,hk,rfl,hB⟩:=hrel;have ac:=hB.cells;have a0:=ac.a0;have JB:=ac.JB;have NP:=ac.NP;have EA:=ac.EA;simp only[ay]at JB;by_cases aC:k<m
  ·have am:k<s.dead.length:=by omega
   obtain⟨g,cap,hD⟩:=hB.dAt (by simp only[Cx];omega);have aa:=Ed (sv:=G.Ab) (n:=k) am;rw[if_neg (by omega)]at aa;have d1:=hD.get k _ aa;have dz:=hD.open' k;have aA:=hD.lt;have ab:=hD.eq;simp only at ab NP;rw[ab]at NP;simp only[Cx]at NP;have q1:(k:Int)+1<=(m:Int):=by omega
   have aD:IntKind.i64.wrap ((k:Int)+1-1)=(k:Int):=by rw[IntKind.wrap_i64];omega
   have aB:(k:Int)<(s.dead.length:Int):=by omega
   by_cases hd:s.dead[k]<0
   ·have HL:=Ac ((Aa ai) wr _ k hB (by omega));obtain⟨n,hn⟩:∃n:Int,((((G.Ab[k]?).map (·.log)).getD []).length:Int)=n:=⟨_,rfl⟩;rw[hn]at HL;have ap:k<G.Ab.length:=by omega
    have ad:=S7 (sv:=G.Ab) (s:=G.Ab[k]) am (afH ap) hd;have aq:(G.Ab[k].log.length:Int)=n:=by
     rw[<-hn,afH ap];rfl
    rw[aq]at ad;have HP:Hid (∀W,Below wr.heap.size wr W->Au w0 q p c {s with dead:=Et s.dead G.Ab (k+1)} G (W.setCell ⟨g,k,none⟩ (.int .i64 n))/\W.cell? ⟨q.r,11,none⟩=some (.slice (some ⟨g,0,none⟩) s.dead.length cap)/\W.cell? ⟨g,k,none⟩=some (.int .i64 s.dead[k])/\W.frozen? ⟨g,k,none⟩=false/\g<W.heap.size/\q.r<W.heap.size):=fun W hW=>by
     have hb:=hB.still hW;have hc:=hb.cells;have ak:=hc.NP;obtain⟨g',av,aj⟩:=hb.dAt (by simp only[Cx];omega);have e:=aj.eq;simp only at e ak;rw[ab]at e;simp only[Value.slice.injEq,Option.some.injEq,Addr.mk.injEq]at e;obtain⟨⟨rfl,_⟩,_,rfl⟩:=e;rw[ab]at ak;simp only[Cx]at ak;refine⟨?_,ak,aj.get k _ aa,aj.open' k,aj.lt,hc.EA⟩;rw[ad];exact hb.ad5 ab k n
    generalize s.dead[k]=n0 at *;clear hB ac hD aa ab ad hn aq HH ah ai an;go_wp2_with (go_at_call 9;refine(Aa HL).mono ?_;rintro e w1 ⟨rfl,ag⟩;have hh:=(Aa HP) w1 ag;obtain⟨ao,az,cg,cz,cl,cr⟩:=hh;have ae:=Ac ao;clear ao ag)
    go_roundw
    case rel=>exact⟨k+1,by omega,by go_num,Aa ae⟩
    case measure=>simp[intOf];omega
   ·have ar:=Qu (sv:=G.Ab) am hd;have ae:Hid (Au w0 q p c {s with dead:=Et s.dead G.Ab (k+1)} G wr):=by rw[ar];exact hB
    generalize s.dead[k]=n0 at *;clear hB ac hD aa ab ar HH ah ai an;go_wp2;go_roundw
    case rel=>exact⟨k+1,by omega,by go_num,Aa ae⟩
    case measure=>simp[intOf];omega
  ·obtain rfl:k=m:=by omega
   have q1:¬(k:Int)+1<=(k:Int):=by omega
   have HC:=Ac ((Aa ah) wr _ hB);have af:Et s.dead G.Ab k=F8 s.dead G.Ab:=by rw[<-ax];exact SZ _ _
   rw[af]at HC;clear hB ac HH ah ai an af;go_wp2_with (go_at_call 60;refine(Aa HC).mono ?_;rintro e w1 ⟨rfl,ag⟩;have ae:=Ac ag;clear ag)
   go_returns;exact⟨rfl,Aa ae⟩
theorem Pf(w0:World)(q:RP)(p:Pl)(c:R.Cf)(s:RS)(G:R.Wd)(w:World)(h:Au w0 q p c s G w)(hi:G.Ad[i]?=some cl)(ay:i<3)(aB:s.Ae.length=G.Ad.length)(aw:s.Ae[i]?=some cl.Ae)(aE:s.seq.length=3*G.Ad.length)(aA:0<=cl.Ae/\cl.Ae<255)(ax:s.uid.length=3)(ap:∀k,k<3->∃u,s.uid[k]?=some u/\AF G (A6 k)=some u/\kindOf G u=(k:Int)):
  Calls Tryz.prog 33 #[ptr q.r,.int .i64 (i:Int)] w fun e w'=>e=.returned (.bool true)/\Au w0 q p c {s with Ae:=s.Ae.set i (cl.Ae+1),seq:=LD s.seq i 3} (BQ (R.Bb G (i:Int)).2 i s.uid 3) w':=by
 have av:=(afG.1 hi).1;have ad:=Qr hi (by omega);have af:Hid (Calls Tryz.prog 60 #[ptr q.x,.int .i64 (i:Int)] w fun e w'=>e=.returned (.int .i64 0)/\Au w0 q p c s (R.Bb G (i:Int)).2 w'):=by
  have:=h.SK (i:Int);have e1:(R.Bb G (i:Int)).1=0:=by rw[ad]
  rw[e1]at this;exact this
 have au:∃G',(R.Bb G (i:Int)).2=G'/\i<G'.Ad.length/\∀k,k<3->∃u,s.uid[k]?=some u/\AF G' (A6 k)=some u/\kindOf G' u=(k:Int):=by
  refine⟨_,rfl,?_,?_⟩
  ·rw[ad];simpa using av
  ·rw[ad];exact ap
 obtain⟨G',al,am,an⟩:=au;rw[al]at af ⊢;obtain⟨G2,ah⟩:∃G2,BQ G' i s.uid 3=G2:=⟨_,rfl⟩;rw[ah];have aj:Hid (∀W S,Au w0 q p c S G' W->S.uid=s.uid->Calls Tryz.prog 26 #[ptr q.r,.int .i64 (i:Int)] W fun e w'=>e=.returned (.bool true)/\Au w0 q p c S G2 w'):=fun W S hW hS=>by
  have:=Mh w0 q p c S G' W i hW am (by rw[hS];exact ax) (by rw[hS];exact an);rw[hS,ah]at this;exact this
 clear ah;have a0:=h.cells.a0;have EA:=h.cells.EA;have ao:(i:Int)<(s.Ae.length:Int):=by omega
 have aD:¬((i:Int)==-1)=true:=by simp
 have aF:IntKind.i64.wrap (cl.Ae+1)=cl.Ae+1:=by rw[IntKind.wrap_i64];omega
 have aG:IntKind.i64.wrap (3*(i:Int))=3*(i:Int):=by rw[IntKind.wrap_i64];omega
 have ar:(cl.Ae==255)=false:=by simp;omega
 have ak:=Ac aw;generalize cl.Ae=lf at *;clear h hi ad al an ap am;go_enter Tryz.func33,Tryz.ntmps33;go_wp2_with (go_at_call 60;refine(Aa af).mono ?_;rintro e w1 ⟨rfl,ag⟩;have ab:=ag.cells;have b6:=ab.a6;have bl:=ab.lf i _ (Aa ak);have bz:=ab.zl i;have br:=ab.EA;have ai:=Ac (ag.ad6 i (lf+1));clear ab ag)
 generalize w1.setCell ⟨q.lf,i,none⟩ (.int .i64 (lf+1))=W1 at *;clear a0 EA b6 bl bz br af ak;go_loopw [10] (fun kv wr=>∃k:Nat,k<=3/\kv=.int .i64 (k:Int)/\Au w0 q p c {s with Ae:=s.Ae.set i (lf+1),seq:=LD s.seq i k} G' wr) (fun kv _=>3-(intOf kv).toNat)
 case atStart=>exact⟨0,by omega,rfl,Aa ai⟩
 case round=>
  obtain⟨k,hk,rfl,hB⟩:=hrel;have aa:=hB.cells;have a7:=aa.a7;have EA:=aa.EA;simp only[Ir]at a7;by_cases aC:k<3
  ·have hx:3*i+k<s.seq.length:=by omega
   have ac:∃v,(LD s.seq i k)[3*i+k]?=some v:=⟨_,afH (by rw[Ir];exact hx)⟩;obtain⟨v,hv⟩:=ac;have d1:=aa.sq (3*i+k) v hv;have dz:=aa.zs (3*i+k);have aH:IntKind.i64.wrap (3*(i:Int)+(k:Int))=((3*i+k:Nat):Int):=by rw[IntKind.wrap_i64];omega
   have az:((3*i+k:Nat):Int)<(s.seq.length:Int):=by omega
   have q1:(k:Int)<3:=by omega
   have ae:=Ac (hB.acA (3*i+k) 0);generalize hz:3*i+k=z at *;clear hB aa hv hx;go_wp2;go_roundw
   case rel=>
    refine⟨k+1,by omega,by go_num,?_⟩;have:=Aa ae;subst hz;exact this
   case measure=>simp[intOf];omega
  ·obtain rfl:k=3:=by omega
   have HC:=Ac ((Aa aj) wr _ hB rfl);clear hB aa aj ai;go_wp2_with (go_at_call 26;refine(Aa HC).mono ?_;rintro e w2 ⟨rfl,aq⟩;have ae:=Ac aq;clear aq)
   go_returns;exact⟨rfl,Aa ae⟩
theorem Ph(w0:World)(q:RP)(p:Pl)(c:R.Cf)(s:RS)(G:R.Wd)(w:World)(h:Au w0 q p c s G w)(hi:G.Ad[i]?=some cl)(aj:s.Ae.length=G.Ad.length)(ac:s.Ae[i]?=some cl.Ae)(hl:cl.Ae=255):
  Calls Tryz.prog 33 #[ptr q.r,.int .i64 (i:Int)] w fun e w'=>e=.returned (.bool true)/\Au w0 q p c s G w':=by
 have ai:=(afG.1 hi).1;have ad:=Qs hi hl;have ag:Hid (Calls Tryz.prog 60 #[ptr q.x,.int .i64 (i:Int)] w fun e w'=>e=.returned (.int .i64 11)/\Au w0 q p c s G w'):=by
  have:=h.SK (i:Int);rw[ad]at this;exact this
 rw[hl]at ac;have a0:=h.cells.a0;have EA:=h.cells.EA;have ae:(i:Int)<(s.Ae.length:Int):=by omega
 have ak:¬((i:Int)==-1)=true:=by simp
 have ah:=Ac ac;clear h hi ad ac;go_enter Tryz.func33,Tryz.ntmps33;go_wp2_with (go_at_call 60;refine(Aa ag).mono ?_;rintro e w1 ⟨rfl,ab⟩;have aa:=ab.cells;have b6:=aa.a6;have bl:=aa.lf i _ (Aa ah);have br:=aa.EA;have af:=Ac ab;clear aa ab)
 go_returns;exact⟨rfl,Aa af⟩
theorem Kp(G:R.Wd)(i:Nat)(u:List Int):∀k,(BQ G i u k).Ak=G.Ak
 |0=>rfl
 |k+1=>Kp G i u k
theorem K4(G:R.Wd)(u:List Int):∀i,(CK G u i).Ak=G.Ak
 |0=>rfl
 |i+1=>(Kp _ i u 3).trans (K4 G u i)
theorem GB.ME{q:RP}(h:GB w0 q p c s M G w):Calls Tryz.prog 33 #[ptr q.r,.int .i64 (-1)] w fun e w'=>e=.returned (.bool true)/\Ge w0 q p c w':=by
 have h2:=h.made.2.1;have aa:=h.agree.dl;refine(Pg w0 q p c s G w h.both h.agree.nu aa h.agree.inv.wf.sv (by omega)).mono ?_;rintro e w' ⟨rfl,hB⟩;exact⟨rfl,_,M,_,hB,h.agree.ME,R.Lo.Gk G (-1) h.long,h.did.elim fun e he=>⟨e,C9.Gk G (-1) e he⟩⟩
theorem GB.MD{q:RP}(h:GB w0 q p c s M G w)(hi:(i:Int)<c.Ad):Calls Tryz.prog 33 #[ptr q.r,.int .i64 (i:Int)] w fun e w'=>e=.returned (.bool true)/\Ge w0 q p c w':=by
 have aa:=h.agree.inv.wf.Gt;have ad:=h.agree.cf;have af:=h.agree.inv.wf.cf;unfold R.BD at af;have ae:i<G.Ad.length:=by rw[ad]at aa;omega
 have hg:=afH ae;have ag:=(h.agree.inv.wf.cl i _ hg).Ae;have ac:s.Ae.length=G.Ad.length:=by rw[h.agree.Ae];simp
 have ab:s.Ae[i]?=some G.Ad[i].Ae:=by rw[h.agree.Ae];simp[hg]
 by_cases h5:G.Ad[i].Ae=255
 ·refine(Ph w0 q p c s G w h.both hg ac ab h5).mono ?_;rintro e w' ⟨rfl,hB⟩;exact⟨rfl,s,M,G,hB,h.agree,h.long,h.did⟩
 ·refine(Pf w0 q p c s G w h.both hg (by omega) ac ab h.agree.sql (by omega) h.agree.ul h.agree.uid).mono ?_;rintro e w' ⟨rfl,hB⟩;refine⟨rfl,_,M,_,hB,h.agree.MD hg h5,?_,?_⟩
  ·exact R.Lo.same (Kp _ _ _ 3) (R.Lo.Gk G i h.long)
  ·rw[Mi];exact h.did.elim fun e he=>⟨e,C9.Gk G i e he⟩
theorem Au.conf{q:RP}(h:Au w0 q p c s G w):w.cell? ⟨q.r,1,none⟩=some (.int .i64 c.Ad)/\w.cell? ⟨q.r,2,none⟩=some (.int .i64 c.lines)/\w.cell? ⟨q.r,3,none⟩=some (.int .i64 c.Ay):=by
 obtain⟨t,E,F,hr,_⟩:=h.run;exact⟨cell_of hr.cell 1 _ rfl,cell_of hr.cell 2 _ rfl,cell_of hr.cell 3 _ rfl⟩
theorem adx:∀args w,(callFunc 28 args).run Tryz.prog w=.ok (.enter 28 args) w:=fun _ _=>rfl
theorem ady:∀args w,(callFunc 33 args).run Tryz.prog w=.ok (.enter 33 args) w:=fun _ _=>rfl
theorem aeg{d:Int}(h:In64 d):In64 (d.tdiv 3):=by
 obtain⟨h1,h2⟩:=h;by_cases h0:0<=d
 ·rw[ag8 h0];constructor<;>omega
 ·have e:d.tdiv 3=-((-d) / 3):=by
   rw[<-ag8 (show 0<=-d by omega),Int.neg_tdiv,Int.neg_neg]
  rw[e];constructor<;>omega
theorem Wh(w0:World)(q:RP)(p:Pl)(c:R.Cf)(s:RS)(M:R.Bk)(G:R.Wd)(w:World)(h:GB w0 q p c s M G w)(k a b d n:Int)(ha:In64 a)(hb:In64 b)(hd:In64 d)(hn:n=0\/n=1\/n=2\/n=3\/n=4\/n=5\/n=6\/n=7\/n=8\/n=9\/n=10\/n=11)(ag:Hid (∀w,Calls Tryz.prog 27 #[.int .i64 k,.int .i64 12] w fun e w'=>e=.returned (.int .i64 n)/\w'=w)):
  Calls Tryz.prog 18 #[ptr q.r,.agg #[.int .i64 k,.int .i64 a,.int .i64 b,.int .i64 d]] w fun e w'=>e=.returned (.bool true)/\Ge w0 q p c w':=by
 obtain⟨au,ah⟩:=Gj w k a b d;obtain⟨W1,ar⟩:∃W1,w.alloc (.cells #[.int .i64 k,.int .i64 a,.int .i64 b,.int .i64 d] 59)=W1:=⟨_,rfl⟩;rw[ar]at au ah;have aO:=Ac ar;have aB:=h.agree.inv.wf.cf;rw[h.agree.cf]at aB;unfold R.BD at aB;have hK:=h.still au;obtain⟨ci,aT,HC⟩:=A4 a c.Ad.toNat ha (by omega) (by omega);obtain⟨li,aW,HL⟩:=A4 b c.lines.toNat hb (by omega) (by omega);rw[show ((c.Ad.toNat:Nat):Int)=c.Ad by omega]at HC;rw[show ((c.lines.toNat:Nat):Int)=c.lines by omega]at HL;have aJ:=Ac HC;have aM:=Ac HL;have ak:(ci:Int)<c.Ad:=by omega
 have al:(li:Int)<c.lines:=by omega
 have aa:=hK.still (w':=W1.drew.drew) (Below.refl _ _).drew.drew;have af:W1.drew.drew.heap[w.heap.size]?=some (.cells #[.int .i64 k,.int .i64 a,.int .i64 b,.int .i64 d] 59 (0,0)):=ah;obtain⟨D1,ap⟩:∃D1,W1.drew=D1:=⟨_,rfl⟩;obtain⟨D2,aq⟩:∃D2,D1.drew=D2:=⟨_,rfl⟩;have am:=hK.still (w':=W1.drew) (Below.refl _ _).drew;have ad:W1.drew.heap[w.heap.size]?=some (.cells #[.int .i64 k,.int .i64 a,.int .i64 b,.int .i64 d] 59 (0,0)):=ah;rw[ap]at am aa af ad;rw[aq]at aa af;have aK:=Ac ap;have aL:=Ac aq;have a0:=hK.both.cells.a0;have lr:=hK.both.cells.EA;have aY:=h.both.cells.EA;have f0:=h.both.conf.1;have f1:=hK.both.conf.1;have c1:W1.cell? ⟨w.heap.size,1,none⟩=some (.int .i64 a):=cell_of ah 1 _ rfl;have lx:=lt_of_block ah;have aZ:=am.both.cells.EA;have f2:=am.both.conf.2.1;have c2:D1.cell? ⟨w.heap.size,2,none⟩=some (.int .i64 b):=cell_of ad 2 _ rfl;have b2:=lt_of_block ad;have aS:=aa.both.cells.a0;have b1:=aa.both.cells.EA;have b3:=lt_of_block af;have e0:D2.cell? ⟨w.heap.size,0,none⟩=some (.int .i64 k):=cell_of af 0 _ rfl;have e1:D2.cell? ⟨w.heap.size,1,none⟩=some (.int .i64 a):=cell_of af 1 _ rfl;have e2:D2.cell? ⟨w.heap.size,2,none⟩=some (.int .i64 b):=cell_of af 2 _ rfl;have e3:D2.cell? ⟨w.heap.size,3,none⟩=some (.int .i64 d):=cell_of af 3 _ rfl;have g1:=aa.both.conf.1;have g3:=aa.both.conf.2.2;have ab:=Ac aa;have HN:=Ac hn;have HD:=Ac hd;clear h hK am HC HL au ah ad af ar ap aq aa hd hn;go_enter Tryz.func18,Tryz.ntmps18;go_wp2;rw[Aa aO];go_region_law (refine Av rfl 27 #[.tmp 13,.tmp 18] #[3,3] rfl K8 #[.int .i64 a,.int .i64 c.Ad] rfl _ ((Aa aJ) _) ?_;rintro e w2 ⟨rfl,ax⟩;rw[ax];clear ax;refine⟨_,rfl,?_⟩)
 all_goals
  rw[Aa aK];go_wp2;go_region_law (refine Av rfl 27 #[.tmp 21,.tmp 26] #[3,3] rfl K8 #[.int .i64 b,.int .i64 c.lines] rfl _ ((Aa aM) _) ?_;rintro e w3 ⟨rfl,aF⟩;rw[aF];clear aF;refine⟨_,rfl,?_⟩)
  all_goals
   rw[Aa aL];go_wp2_with fail
   refine((Aa ag) _).mono ?_;rintro e w4 ⟨rfl,aG⟩;rw[aG];clear aG w4;rcases Aa HN with rfl|rfl|rfl|rfl|rfl|rfl|rfl|rfl|rfl|rfl|rfl|rfl
   ·have aa:=Aa ab;have hd:=Aa HD;obtain⟨kd,av,HP⟩:=A4 d 3 hd (by omega) (by omega);have ai:=Ac HP;have aC:In64 (d.tdiv 3):=aeg hd;have aU:IntKind.i64.wrap (d.tdiv 3)=d.tdiv 3:=by rw[IntKind.wrap_i64];obtain⟨h1,h2⟩:=aC;omega
    have HT:Hid (Calls Tryz.prog 28 #[ptr q.r,.int .i64 (ci:Int),.int .i64 (li:Int),.int .i64 (kd:Int),.int .i64 a,.int .i64 (d.tdiv 3)] D2.drew fun e w'=>e=.returned (.bool true)/\Ge w0 q p c w'):=(aa.still (Below.refl _ _).drew).call ak al av a (d.tdiv 3) ha aC;clear aa;go_wp2_with fail
    go_region_law (first
     |(refine Av rfl 27 #[.tmp 37,.const (.int .i64 3)] #[3,3] rfl K8 #[.int .i64 d,.int .i64 3] rfl _ ((Aa ai) _) ?_;rintro e w5 ⟨rfl,ae⟩;rw[ae];clear ae;refine⟨_,rfl,?_⟩)
     |(refine Av rfl 28 #[.tmp 33,.tmp 34,.tmp 35,.tmp 38,.tmp 40,.tmp 43] #[25,3,3,3,3,3] rfl adx #[ptr q.r,.int .i64 (ci:Int),.int .i64 (li:Int),.int .i64 (kd:Int),.int .i64 a,.int .i64 (d.tdiv 3)] rfl _ (Aa HT) ?_;rintro e w6 ⟨rfl,hO⟩;have HO:=Ac hO;clear hO;refine⟨_,rfl,?_⟩))
    all_goals
     go_wp2;go_returns;exact⟨rfl,Aa HO⟩
   ·have aa:=Aa ab;have HT:=Ac (PI w0 q p c s M G D2 aa k a b d ha ag);clear aa;go_wp2_with fail
    refine(Aa HT).mono ?_;rintro e w5 ⟨rfl,hO⟩;have HO:=Ac hO;clear hO;go_wp2_with fail
    go_returns;exact⟨rfl,Aa HO⟩
   ·have aa:=Aa ab;have HT:=Ac (PK w0 q p c s M G D2 aa k a b d ha ag);clear aa;go_wp2_with fail
    refine(Aa HT).mono ?_;rintro e w5 ⟨rfl,hO⟩;have HO:=Ac hO;clear hO;go_wp2_with fail
    go_returns;exact⟨rfl,Aa HO⟩
   ·have aa:=Aa ab;have HT:=Ac (YN w0 q p c s M G D2 aa k a b d ha ag);clear aa;go_wp2_with fail
    refine(Aa HT).mono ?_;rintro e w5 ⟨rfl,hO⟩;have HO:=Ac hO;clear hO;go_wp2_with fail
    go_returns;exact⟨rfl,Aa HO⟩
   ·have aa:=Aa ab;have HT:=Ac (YL w0 q p c s M G D2 aa k a b d ha ag);clear aa;go_wp2_with fail
    refine(Aa HT).mono ?_;rintro e w5 ⟨rfl,hO⟩;have HO:=Ac hO;clear hO;go_wp2_with fail
    go_returns;exact⟨rfl,Aa HO⟩
   ·have aa:=Aa ab;have hd:=Aa HD;have HT:=Ac (YK w0 q p c s M G D2 aa k a b d ha hb hd ag);clear aa;go_wp2_with fail
    refine(Aa HT).mono ?_;rintro e w5 ⟨rfl,hO⟩;have HO:=Ac hO;clear hO;go_wp2_with fail
    go_returns;exact⟨rfl,Aa HO⟩
   ·have aa:=Aa ab;have HT:=Ac aa.tick;clear aa;go_wp2_with fail
    refine(Aa HT).mono ?_;rintro e w5 ⟨rfl,hO⟩;have HO:=Ac hO;clear hO;go_wp2_with fail
    go_returns;exact⟨rfl,Aa HO⟩
   ·have aa:=Aa ab;have HT:=Ac aa.serve;clear aa;go_wp2_with fail
    refine(Aa HT).mono ?_;rintro e w5 ⟨⟨n,rfl,hn⟩,hO⟩;have HO:=Ac hO;clear hO;rcases hn with rfl|rfl;all_goals
     go_wp2_with fail
     go_returns;exact⟨rfl,Aa HO⟩
   ·have aa:=Aa ab;obtain⟨ho,aV,HP⟩:=A4 a (c.Ad.toNat+1) ha (by omega) (by omega);rw[show ((c.Ad.toNat+1:Nat):Int)=c.Ad+1 by omega]at HP;have ai:=Ac HP;have aX:IntKind.i64.wrap (c.Ad+1)=c.Ad+1:=by rw[IntKind.wrap_i64];omega
    have ax:IntKind.i64.wrap ((ho:Int)-1)=(ho:Int)-1:=by rw[IntKind.wrap_i64];omega
    have HT:Hid (Calls Tryz.prog 33 #[ptr q.r,.int .i64 ((ho:Int)-1)] D2.drew fun e w'=>e=.returned (.bool true)/\Ge w0 q p c w'):=by
     have aE:=aa.still (Below.refl D2.heap.size D2).drew;by_cases h0:ho=0
     ·subst h0;exact aE.ME
     ·obtain⟨n,rfl⟩:∃n,ho=n+1:=⟨ho-1,by omega⟩;rw[show (((n+1:Nat):Int)-1)=(n:Int) by omega];exact aE.MD (by omega)
    clear aa;go_wp2_with fail
    go_region_law (first
     |(refine Av rfl 27 #[.tmp 69,.tmp 75] #[3,3] rfl K8 #[.int .i64 a,.int .i64 (c.Ad+1)] rfl _ ((Aa ai) _) ?_;rintro e w5 ⟨rfl,ae⟩;rw[ae];clear ae;refine⟨_,rfl,?_⟩)
     |(refine Av rfl 33 #[.tmp 67,.tmp 77] #[25,3] rfl ady #[ptr q.r,.int .i64 ((ho:Int)-1)] rfl _ (Aa HT) ?_;rintro e w6 ⟨rfl,hO⟩;have HO:=Ac hO;clear hO;refine⟨_,rfl,?_⟩))
    all_goals
     go_wp2;go_returns;exact⟨rfl,Aa HO⟩
   ·have aa:=Aa ab;obtain⟨kd,av,HP⟩:=A4 a 3 ha (by omega) (by omega);have ai:=Ac HP;have HE:=Ac (aa.both.aaJ aa.agree av);have az:=Ac (And.intro aa.long aa.did);have aN:Hid (∀(s':RS) (G':R.Wd),Fit c s' M G'->C9 G.Ab G'.Ab->G'.Ak=G.Ak->(G'.Ad.length:Int)=c.Ad/\(∀(i:Nat) (W:World),(i:Int)<c.Ad->Au w0 q p c s' (CK G' s'.uid i) W->Calls Tryz.prog 26 #[ptr q.r,.int .i64 (i:Int)] W fun e w'=>e=.returned (.bool true)/\Au w0 q p c s' (CK G' s'.uid (i+1)) w')/\∀(i:Nat) (W:World),(i:Int)=c.Ad->Au w0 q p c s' (CK G' s'.uid i) W->Ge w0 q p c W):=fun s' G' hF hS an=>by
     have aw:=hF.inv.wf.Gt;rw[hF.cf]at aw;refine⟨aw,fun i W hi ac=>?_,fun i W hi ac=>?_⟩
     ·exact Mh w0 q p c s' (CK G' s'.uid i) W i ac (by rw[FI];omega) hF.ul (fun k hk=>by
       obtain⟨u,u1,u2,u3⟩:=hF.uid k hk;exact⟨u,u1,by rw[Jc];exact u2,by rw[JK];exact u3⟩)
     ·have aQ:i=G'.Ad.length:=by omega
      subst aQ;refine⟨s',M,_,ac,hF.all,R.Lo.same (G:=G) ((K4 _ _ _).trans an) (Aa az).1,?_⟩;rw[Mg];exact(Aa az).2.elim fun e he=>⟨e,hS e he⟩
    clear aa;go_wp2_with fail
    refine((Aa ai) _).mono ?_;rintro e w5 ⟨rfl,ae⟩;rw[ae];clear ae w5;go_wp2_with fail
    refine(Aa HE).mono ?_;rintro e w6 ⟨rfl,s',G',hB,hF,hS,an⟩;obtain⟨aw,ay,aA⟩:=(Aa aN) s' G' hF hS an;have aI:=Ac ay;have HZ:=Ac aA;have aH:=Ac hB;clear ay aA hB hF hS an;go_wp2_with fail
    go_loopw [8,9] (fun ov iv wr=>∃i:Nat,(i:Int)<=c.Ad/\ov=.bool true/\iv=.int .i64 (i:Int)/\Au w0 q p c s' (CK G' s'.uid i) wr) (fun _ iv _=>3-(intOf iv).toNat)
    case atStart=>exact⟨0,by omega,rfl,rfl,Aa aH⟩
    case round=>
     obtain⟨i,hi,rfl,rfl,ac⟩:=hrel;have r1:=ac.conf.1;have rl:=ac.cells.EA;by_cases aD:(i:Int)<c.Ad
     ·have HC:=Ac ((Aa aI) i wr aD ac);have aR:IntKind.i64.wrap ((i:Int)+1)=(i:Int)+1:=by rw[IntKind.wrap_i64];omega
      clear ac;go_wp2_with fail
      refine(Aa HC).mono ?_;rintro e w7 ⟨rfl,aj⟩;have ao:=Ac aj;clear aj;go_wp2_with fail
      go_roundw
      case rel=>exact⟨i+1,by omega,rfl,by go_num,Aa ao⟩
      case measure=>simp[intOf];omega
     ·have HO:=Ac ((Aa HZ) i wr (by omega) ac);clear ac;go_wp2_with fail
      go_returns;exact⟨rfl,Aa HO⟩
   ·have aa:=Aa ab;have HT:Hid (Calls Tryz.prog 8 #[ptr q.r,.int .i64 (ci:Int),.int .i64 (li:Int)] D2 fun e w'=>e=.returned (.bool true)/\Ge w0 q p c w'):=by
     refine(aa.looked ak al).mono ?_;rintro e w' ⟨r1,r2,_⟩;exact⟨r1,s,M,G,r2⟩
    clear aa;go_wp2_with fail
    refine(Aa HT).mono ?_;rintro e w5 ⟨rfl,hO⟩;have HO:=Ac hO;clear hO;go_wp2_with fail
    go_returns;exact⟨rfl,Aa HO⟩
   ·have aa:=Aa ab;have HX:Hid (Ge w0 q p c D2):=⟨s,M,G,aa⟩;clear aa;go_wp2_with fail
    go_loopw [11] (fun iv wr=>∃i:Nat,(i:Int)<=c.Ay/\iv=.int .i64 (i:Int)/\Ge w0 q p c wr) (fun iv _=>8-(intOf iv).toNat)
    case atStart=>exact⟨0,by omega,rfl,Aa HX⟩
    case round=>
     obtain⟨i,hi,rfl,aP⟩:=hrel;obtain⟨s1,M1,G1,hO⟩:=aP;have r0:=hO.both.cells.a0;have r3:=hO.both.conf.2.2;have rl:=hO.both.cells.EA;by_cases aD:(i:Int)<c.Ay
     ·have HC:=Ac hO.tick;have aR:IntKind.i64.wrap ((i:Int)+1)=(i:Int)+1:=by rw[IntKind.wrap_i64];omega
      clear hO;go_wp2_with fail
      refine(Aa HC).mono ?_;rintro e w7 ⟨rfl,aj⟩;have ao:=Ac aj;clear aj;go_wp2_with fail
      go_roundw
      case rel=>exact⟨i+1,by omega,by go_num,Aa ao⟩
      case measure=>simp[intOf];omega
     ·have HO:Hid (Ge w0 q p c wr):=⟨s1,M1,G1,hO⟩;clear hO;go_wp2_with fail
      go_returns;exact⟨rfl,Aa HO⟩
theorem YE(w0:World)(q:RP)(p:Pl)(c:R.Cf)(w:World)(h:Ge w0 q p c w)(k a b d:Int)(hk:In64 k)(ha:In64 a)(hb:In64 b)(hd:In64 d):
  Calls Tryz.prog 18 #[ptr q.r,.agg #[.int .i64 k,.int .i64 a,.int .i64 b,.int .i64 d]] w fun e w'=>e=.returned (.bool true)/\Ge w0 q p c w':=by
 obtain⟨s,M,G,hO⟩:=h;obtain⟨n,hn,H⟩:=A4 k 12 hk (by omega) (by omega);exact Wh w0 q p c s M G w hO k a b d n ha hb hd (by omega) (Ac H)
theorem adJ:Fits (Hs 0 0) [(7,e0)]:=⟨by decide +kernel,by decide +kernel,by decide +kernel,by decide⟩
structure Seven(w0:World)(q:RP)(p:Pl)(c:R.Cf)(s:RS)(M:R.Bk)(G:R.Wd)(w:World):Prop where
 both:Au w0 q p c s G w
 agree:Agree c s M G
theorem VT(w0:World)(q:RP)(p:Pl)(c:R.Cf)(hc:R.BD c)(D K:Value)(w:World)(hB:Au w0 q p c ⟨List.replicate c.Ad.toNat 1,List.replicate (3*c.Ad.toNat) 0,EH 3,3,.slice none 0 0,D,K,[],Gl 3,Hm 3⟩ (Dl c c.Ad.toNat) w):
  Calls Tryz.prog 17 #[ptr q.r] w fun e w'=>e=.returned (.bool true)/\Ge w0 q p c w':=by
 have hA:=agree_start hc D K;obtain⟨names,stands,b,ls,rest,hG⟩:=acS hc;have ar:=hc;unfold R.BD at ar;rw[hG]at hB hA;have HC:Hid (Calls Tryz.prog 28 #[ptr q.r,.int .i64 0,.int .i64 0,.int .i64 0,.int .i64 32775,.int .i64 0] w fun e w'=>e=.returned (.bool true)/\∃s M,Seven w0 q p c s M (w7 c.Ad c.lines c.Ay c.tries c.table names stands b ls rest (Ht []) [⟨-1,Bm p7,false⟩] (l7 c.Ay c.tries) [0,0,0] R.Cs []) w'):=by
  refine(hB.adn hA (i:=0) (k:=0) (kd:=0) (cl:=⟨1,b,R.JC :: ls⟩) (l:=R.JC) rfl rfl (by omega) (by simp[R.JC]) (by simp[R.JC]) (a:=32775) (b:=0) (prv:=0) (pr0:=0) ad3 (afM ⟨rfl,rfl⟩) adJ rfl aep (u:=1) rfl).mono ?_;rintro e w' ⟨rfl,s,M,h1,h2⟩;rw[adk]at h1 h2;exact⟨rfl,s,M,h1,h2⟩
 have ag:Hid (∀s M W,Seven w0 q p c s M (w7 c.Ad c.lines c.Ay c.tries c.table names stands b ls rest (Ht []) [⟨-1,Bm p7,false⟩] (l7 c.Ay c.tries) [0,0,0] R.Cs []) W->Calls Tryz.prog 29 #[ptr q.x,.int .i64 0] W fun e w'=>e=.returned (.int .i64 0)/\Seven w0 q p c s M (w7 c.Ad c.lines c.Ay c.tries c.table names stands b ls rest (Ht []) [] (l7 c.Ay c.tries) [1,0,0] n7 [⟨0,0,1,1,1⟩]) w'):=fun s M W h=>by
  have h1:=h.both.MF h.agree.inv h.agree.room 0;have h2:=h.agree.Cr 0;rw[XZ _ _ _ _ _ _ _ _ _ _ (by omega)]at h1 h2;refine h1.mono ?_;rintro e w' ⟨rfl,h3⟩;exact⟨rfl,h3,h2⟩
 have HS:Hid (∀s M W,Seven w0 q p c s M (w7 c.Ad c.lines c.Ay c.tries c.table names stands b ls rest (Ht []) [] (l7 c.Ay c.tries) [1,0,0] n7 [⟨0,0,1,1,1⟩]) W->Calls Tryz.prog 30 #[ptr q.x] W fun e w'=>e=.returned (.int .i64 0)/\Seven w0 q p c s M (w7 c.Ad c.lines c.Ay c.tries c.table names stands b ls rest (Ht [e7]) [⟨0,Bm r7,false⟩] (l7 c.Ay c.tries) [1,0,0] ⟨1,1,[0,0,0,7],1,3,[0,7],0,false,c.Ay,c.tries⟩ []) w'):=fun s M W h=>by
  have h1:=h.both.ZH h.agree.inv;have h2:=h.agree.serve;rw[acG]at h1 h2;refine h1.mono ?_;rintro e w' ⟨rfl,h3⟩;exact⟨rfl,h3,h2⟩
 have ah:Hid (∀s M W,Seven w0 q p c s M (w7 c.Ad c.lines c.Ay c.tries c.table names stands b ls rest (Ht [e7]) [⟨0,Bm r7,false⟩] (l7 c.Ay c.tries) [1,0,0] ⟨1,1,[0,0,0,7],1,3,[0,7],0,false,c.Ay,c.tries⟩ []) W->Calls Tryz.prog 29 #[ptr q.x,.int .i64 0] W fun e w'=>e=.returned (.int .i64 0)/\Seven w0 q p c s M (w7 c.Ad c.lines c.Ay c.tries c.table names stands b ls rest (Ht [e7]) [] ⟨1,2,[(7,e0)],1,R.txt [99],[0,0,0,7],1,[0,7],1,c.Ay,c.tries⟩ [1,0,0] ⟨1,1,[0,0,0,7],1,3,[0,7],0,false,c.Ay,c.tries⟩ []) w'):=fun s M W h=>by
  have h1:=h.both.MF h.agree.inv h.agree.room 0;have h2:=h.agree.Cr 0;rw[VG]at h1 h2;refine h1.mono ?_;rintro e w' ⟨rfl,h3⟩;exact⟨rfl,h3,h2⟩
 have HT:Hid (∀s M W,Seven w0 q p c s M (w7 c.Ad c.lines c.Ay c.tries c.table names stands b ls rest (Ht [e7]) [] ⟨1,2,[(7,e0)],1,R.txt [99],[0,0,0,7],1,[0,7],1,c.Ay,c.tries⟩ [1,0,0] ⟨1,1,[0,0,0,7],1,3,[0,7],0,false,c.Ay,c.tries⟩ []) W->Ge w0 q p c W/\(Calls Tryz.prog 31 #[ptr q.x] W fun e w'=>e=.returned (.int .i64 0)/\w'=W)/\Calls Tryz.prog 19 #[ptr q.x,.int .i64 0,.int .i64 0] W fun e w'=>(∃g o cap,e=.returned (.tuple #[.agg #[.int .i64 2,.int .i64 1,.slice (some ⟨g,o,none⟩) 1 cap],.int .i64 0])/\w'.cell? ⟨g,o,none⟩=some (.int .i64 7)/\g<w'.heap.size)/\Below W.heap.size W w'):=fun s M W h=>by
  refine⟨⟨s,M,_,h.both,h.agree,(fun f hf=>by cases hf),⟨e7,by simp[A9,w7,Ht]⟩⟩,h.both.VW,?_⟩;refine(h.both.RL h.agree (i:=0) (k:=0) (cl:=⟨1,b,⟨1,2,[(7,e0)],1,R.txt [99],[0,0,0,7],1,[0,7],1,c.Ay,c.tries⟩ :: ls⟩) (l:=⟨1,2,[(7,e0)],1,R.txt [99],[0,0,0,7],1,[0,7],1,c.Ay,c.tries⟩) rfl rfl).mono ?_;rintro e w' ⟨⟨oa,on,oc,rfl,hI⟩,hb⟩;refine⟨?_,hb⟩;obtain⟨au,ap,hV,aq,af⟩:=hI;cases hV;rcases af with af|⟨g,o,rfl,hl,hx⟩
  ·cases af
  ·exact⟨g,o,oc,rfl,(hx 0 _ rfl).1,hl⟩
 have ab:Hid (∀s M G W,Seven w0 q p c s M G W->W.cell? ⟨q.r,0,none⟩=some (ptr q.x)/\q.r<W.heap.size):=fun s M G W h=>⟨h.both.cells.a0,h.both.cells.EA⟩
 clear hB hA hG hc;generalize w7 c.Ad c.lines c.Ay c.tries c.table names stands b ls rest (Ht []) [⟨-1,Bm p7,false⟩] (l7 c.Ay c.tries) [0,0,0] R.Cs []=G1 at *;generalize w7 c.Ad c.lines c.Ay c.tries c.table names stands b ls rest (Ht []) [] (l7 c.Ay c.tries) [1,0,0] n7 [⟨0,0,1,1,1⟩]=G2 at *;generalize w7 c.Ad c.lines c.Ay c.tries c.table names stands b ls rest (Ht [e7]) [⟨0,Bm r7,false⟩] (l7 c.Ay c.tries) [1,0,0] ⟨1,1,[0,0,0,7],1,3,[0,7],0,false,c.Ay,c.tries⟩ []=G3 at *;generalize w7 c.Ad c.lines c.Ay c.tries c.table names stands b ls rest (Ht [e7]) [] ⟨1,2,[(7,e0)],1,R.txt [99],[0,0,0,7],1,[0,7],1,c.Ay,c.tries⟩ [1,0,0] ⟨1,1,[0,0,0,7],1,3,[0,7],0,false,c.Ay,c.tries⟩ []=G4 at *;go_enter Tryz.func17,Tryz.ntmps17;go_wp2_with fail
 refine(Aa HC).mono ?_;rintro e w1 ⟨rfl,s,M,h1⟩;obtain⟨a1,l1⟩:=(Aa ab) s M _ w1 h1;have ai:=Ac ((Aa ag) s M w1 h1);clear h1 HC ag;go_wp2_with fail
 refine(Aa ai).mono ?_;rintro e w2 ⟨rfl,h2⟩;obtain⟨a2,l2⟩:=(Aa ab) s M _ w2 h2;have aj:=Ac ((Aa HS) s M w2 h2);clear h2 ai HS a1 l1;go_wp2_with fail
 refine(Aa aj).mono ?_;rintro e w3 ⟨rfl,h3⟩;obtain⟨a3,l3⟩:=(Aa ab) s M _ w3 h3;have ak:=Ac ((Aa ah) s M w3 h3);clear h3 aj ah a2 l2;go_wp2_with fail
 refine(Aa ak).mono ?_;rintro e w4 ⟨rfl,h4⟩;obtain⟨a4,l4⟩:=(Aa ab) s M _ w4 h4;have al:=Ac ((Aa HT) s M w4 h4).2.2;have H4:=Ac h4;clear h4 ak a3 l3;go_wp2_with fail
 refine(Aa al).mono ?_;rintro e w5 ⟨⟨g,o,cap,rfl,hg,am⟩,ad⟩;obtain⟨W6,ac⟩:∃W6,w5.alloc (.cells #[.int .i64 2,.int .i64 1,.slice (some ⟨g,o,none⟩) 1 cap] 64)=W6:=⟨_,rfl⟩;have ae:Below w5.heap.size w5 W6:=by rw[<-ac];exact(Below.refl _ _).alloc (afI _) _
 have h6:Seven w0 q p c s M G4 W6:=⟨((Aa H4).both.still ad).still ae,(Aa H4).agree⟩;have aa:W6.heap[w5.heap.size]?=some (.cells #[.int .i64 2,.int .i64 1,.slice (some ⟨g,o,none⟩) 1 cap] 64 (0,0)):=by
  rw[<-ac];exact heap_alloc_new w5 _
 have b0:W6.cell? ⟨w5.heap.size,0,none⟩=some (.int .i64 2):=cell_of aa 0 _ rfl;have b2:W6.cell? ⟨w5.heap.size,2,none⟩=some (.slice (some ⟨g,o,none⟩) 1 cap):=cell_of aa 2 _ rfl;have bg:W6.cell? ⟨g,o,none⟩=some (.int .i64 7):=(ae.cell (p:=⟨g,o,none⟩) am).trans hg;have lg:=lt_of_cell bg;have lb:=lt_of_block aa;obtain⟨a6,l6⟩:=(Aa ab) s M _ W6 h6;obtain⟨a5,l5⟩:=(Aa ab) s M _ w5 ⟨(Aa H4).both.still ad,(Aa H4).agree⟩;have hx:=(Aa HT) s M W6 h6;have HO:=Ac hx.1;have HF:=Ac hx.2.1;have ao:=Ac ac;clear hx h6 ae aa ac ad hg am H4 al HT a4 l4;go_wp2_with fail
 rw[Aa ao];refine(Aa HF).mono ?_;rintro e w7 ⟨rfl,an⟩;rw[an];clear an w7;go_wp2_with fail
 go_returns;exact⟨rfl,Aa HO⟩
def KX(w:World)(va:Option Addr)(vn:Nat):Prop:=vn=0\/∃vb off,va=some ⟨vb,off,none⟩/\∀i,i<vn->∃k a b d:Int,(In64 k/\In64 a/\In64 b/\In64 d)/\w.cell? ⟨vb,off+i*4,none⟩=some (.int .i64 k)/\w.cell? ⟨vb,off+i*4+1,none⟩=some (.int .i64 a)/\w.cell? ⟨vb,off+i*4+2,none⟩=some (.int .i64 b)/\w.cell? ⟨vb,off+i*4+3,none⟩=some (.int .i64 d)
theorem KX.below{va:Option Addr}{vn:Nat}(h:KX w va vn)(hb:Below w.heap.size w w'):KX w' va vn:=by
 rcases h with h|⟨vb,off,h1,h2⟩
 ·exact afJ h
 ·refine afM ⟨vb,off,h1,fun i hi=>?_⟩;obtain⟨k,a,b,d,h3,c0,c1,c2,c3⟩:=h2 i hi;exact⟨k,a,b,d,h3,(hb.cell (p:=⟨vb,_,none⟩) (lt_of_cell c0)).trans c0,(hb.cell (p:=⟨vb,_,none⟩) (lt_of_cell c1)).trans c1,(hb.cell (p:=⟨vb,_,none⟩) (lt_of_cell c2)).trans c2,(hb.cell (p:=⟨vb,_,none⟩) (lt_of_cell c3)).trans c3⟩
structure ab1(w:World)(w0:World)(q:RP)(p:Pl)(c:R.Cf)(w':World):Prop where
 ok:Ge w0 q p c w'
 below:Below w.heap.size w w'
 cf:R.BD c
def aag(w:World)(e:Ending)(w':World):Prop:=∃w0 q p c,e=.returned (ptr q.r)/\ab1 w w0 q p c w'
theorem TS(cl ln rt tr tb:Int)(va:Option Addr)(vn vc:Nat)(am:In64 cl)(an:In64 ln)(ap:In64 rt)(ar:In64 tr)(aq:In64 tb)(w:World)(hV:KX w va vn)(au:vn<=maxLen)(ht:Ec w)(h0:0<w.heap.size):
  Calls Tryz.prog 6 #[UK cl ln rt tr tb,.slice va vn vc] w (aag w):=by
 have H8:=Ac (fun w=>TW cl ln rt tr tb am an ap ar aq w);have HT:=Ac ht;have HV:Hid (KX w va vn):=hV;have HN:Hid (vn<=maxLen):=au;clear am an ap ar aq ht hV au;obtain⟨BX,ac⟩:∃BX,w.alloc (.cells #[.int .i64 cl,.int .i64 ln,.int .i64 rt,.int .i64 tr,.int .i64 tb] 23)=BX:=⟨_,rfl⟩;have ae:Hid (Below w.heap.size w BX):=by
  rw[<-ac];exact(Below.refl _ _).alloc (afI _) _
 have al:BX.heap[w.heap.size]?=some (.cells #[.int .i64 cl,.int .i64 ln,.int .i64 rt,.int .i64 tr,.int .i64 tb] 23 (0,0)):=by
  rw[<-ac];exact heap_alloc_new w _
 have af:=Ac ac;have aA:=lt_of_block al;clear ac al;go_enter Tryz.func6,Tryz.ntmps6;go_wp2_with fail
 rw[Aa af];refine((Aa H8) _).mono ?_;rintro e w1 ⟨⟨c,hc,rfl⟩,ak⟩;have ab:=Ac ((Aa ae).trans (ak.mono (Aa ae).size));have HC:=Ac hc;have ao:0<w1.heap.size:=by have:=(Aa ab).size;omega
 have aj:=(Aa HT).below (Aa ab);clear ak H8 af;go_wp2_with fail
 refine(Vt w1 w1 c hc (Below.refl _ _) aj ao).mono ?_;rintro e w3 ⟨q,p,D,K,rfl,ag⟩;have hq:∀w,(binOp .eql 25 (ptr q.r) (.pointer none)).run Tryz.prog w=.ok (.bool false) w:=fun w=>by kernel_rfl
 have HF:=Ac (VT w1 q p c hc D K w3 ag);have HM:=Ac (fun w h=>YE w1 q p c w h);have HW:Hid (∀wr,Ge w1 q p c wr->Below w.heap.size w wr):=fun wr ⟨s,M,G,h⟩=>(Aa ab).trans (h.both.below.mono (Aa ab).size)
 clear ag aj ao;go_wp2_with fail
 refine(Aa HF).mono ?_;rintro e w4 ⟨rfl,ah⟩;have aw:=Ac ah;clear ah HF;go_wp2_with fail
 go_loopw [7] (fun iv wr=>∃i:Nat,i<=vn/\iv=.int .i64 (i:Int)/\Ge w1 q p c wr) (fun iv _=>vn-(intOf iv).toNat)
 case atStart=>exact⟨0,by omega,rfl,Aa aw⟩
 case round=>
  obtain⟨i,hi,rfl,hO⟩:=hrel;by_cases ay:i<vn
  ·rcases Aa HV with az|⟨vb,off,rfl,hx⟩
   ·omega
   ·obtain⟨k,a,b,d,⟨i1,i2,i3,i4⟩,c0,c1,c2,c3⟩:=hx i ay;have aa:=(Aa HW) wr hO;have d0:=(aa.cell (p:=⟨vb,off+i*4,none⟩) (lt_of_cell c0)).trans c0;have d1:=(aa.cell (p:=⟨vb,off+i*4+1,none⟩) (lt_of_cell c1)).trans c1;have d2:=(aa.cell (p:=⟨vb,off+i*4+2,none⟩) (lt_of_cell c2)).trans c2;have d3:=(aa.cell (p:=⟨vb,off+i*4+3,none⟩) (lt_of_cell c3)).trans c3;have dl:=lt_of_cell d0;have av:=Ac ((Aa HM) wr hO k a b d i1 i2 i3 i4);have aB:IntKind.i64.wrap ((i:Int)+1)=(i:Int)+1:=by
     have:=Aa HN;simp only[maxLen]at this;rw[IntKind.wrap_i64];omega
    have ad:(i:Int)<(vn:Int):=by omega
    clear hO aa c0 c1 c2 c3 hx;go_wp2_with fail
    refine(Aa av).mono ?_;rintro e w5 ⟨rfl,ai⟩;have ax:=Ac ai;clear ai;go_wp2_with fail
    go_roundw
    case rel=>exact⟨i+1,by omega,by go_num,Aa ax⟩
    case measure=>simp[intOf];omega
  ·have ad:¬(i:Int)<(vn:Int):=by omega
   have HO:=Ac (And.intro hO ((Aa HW) wr hO));clear hO;go_wp2_with fail
   go_returns;exact⟨w1,q,p,c,rfl,(Aa HO).1,(Aa HO).2,Aa HC⟩
abbrev aeN:Value:=.slice none 0 0
abbrev enV(a b c d pr:Int)(X Y:Value):Value:=.agg #[.int .i64 a,.int .i64 b,.int .i64 c,.int .i64 d,.int .i64 pr,X,Y]
structure aeT(w:World)(S:Nat->Prop)(O:Value)(out:List R.It)(w':World):Prop where
 out:V.Items w' O out
 keeps:Af S w w'
theorem afu(hU:w.heap.size<=U.heap.size)(hk:Af S w U):aeT w S (.slice (some ⟨U.heap.size,0,none⟩) 1 1) [R.num m] (U.alloc (.cells #[.int .i64 m,.string ⟨#[]⟩] 73)).drew:=
 ⟨(KJ (row_in w U hU m ⟨#[]⟩)).below (Below.refl _ _).drew,(hk.alloc _).drew⟩
theorem afD(h:w.heap[b]?=some (.cells #[v0,v1,v2,v3,v4] 40 (0,0)))(u:Value):(w.setCell ⟨b,0,none⟩ u).heap[b]?=some (.cells #[u,v1,v2,v3,v4] 40 (0,0)):=by
 have h0:w.heap[b]?=some (.cells [v0,v1,v2,v3,v4].toArray 40 (0,0)):=h;exact Ai h0 u
theorem aeV(h:w.heap[b]?=some (.cells #[v0,v1,v2,v3,v4] 40 (0,0)))(N m:Int)(E:Obj):aeT w (fun k=>k=b) (.slice (some ⟨w.heap.size+1,0,none⟩) 1 1) [R.num m] (((w.setCell ⟨b,0,none⟩ (.int .i64 N)).alloc E).alloc (.cells #[.int .i64 m,.string ⟨#[]⟩] 73)).drew/\(((w.setCell ⟨b,0,none⟩ (.int .i64 N)).alloc E).alloc (.cells #[.int .i64 m,.string ⟨#[]⟩] 73)).drew.heap[b]?=some (.cells #[.int .i64 N,v1,v2,v3,v4] 40 (0,0)):=by
 have hs:((w.setCell ⟨b,0,none⟩ (.int .i64 N)).alloc E).heap.size=w.heap.size+1:=by simp
 have hl:=lt_of_block h;have hk:Af (fun k=>k=b) w ((w.setCell ⟨b,0,none⟩ (.int .i64 N)).alloc E):=(Af.setCell (F:=fun k=>k=b) (Af.refl _ w) (p:=⟨b,0,none⟩) (afJ rfl) _).alloc _;have h1:=afu (m:=m) (by rw[hs];omega) hk;rw[hs]at h1;refine⟨h1,?_⟩;show (((w.setCell ⟨b,0,none⟩ (.int .i64 N)).alloc E).alloc (.cells #[.int .i64 m,.string ⟨#[]⟩] 73)).heap[b]?=_;rw[heap_alloc_old _ _ (by rw[hs];omega),heap_alloc_old _ _ (by simpa using hl)];exact afD h _
theorem afw(w:World)(b:Nat)(N n:Int)(a0 a1 a2 a3:Int)(xb xo xn xc:Nat)(Y:Value)(h:w.heap[b]?=some (.cells #[.int .i64 N,aeN,aeN,aeN,aeN] 40 (0,0)))(hN:0<=N/\N<=65535)(hn:-32768<=n/\n<=32767)(hx:w.cell? ⟨xb,xo,none⟩=some (.int .i64 n))(ad:0<xn):
  Calls Tryz.prog 12 #[ptr b,.int .i64 0,enV a0 a1 a2 a3 0 (.slice (some ⟨xb,xo,none⟩) xn xc) Y] w fun e w'=>∃O,e=.returned O/\aeT w (fun k=>k=b) O [R.num ((N+n+65536) % 65536)] w'/\w'.heap[b]?=some (.cells #[.int .i64 ((N+n+65536) % 65536),aeN,aeN,aeN,aeN] 40 (0,0)):=by
 have c0:w.cell? ⟨b,0,none⟩=some (.int .i64 N):=cell_of h 0 _ rfl;have z0:w.frozen? ⟨b,0,none⟩=false:=L6 h 0;have hl:=lt_of_block h;have lx:=lt_of_cell hx;have aa:IntKind.i64.wrap (N+n)=N+n:=by rw[IntKind.wrap_i64];omega
 have ab:IntKind.i64.wrap (N+n+65536)=N+n+65536:=by rw[IntKind.wrap_i64];omega
 have ac:(0:Int)<(xn:Int):=by omega
 have e:(N+n+65536) % 65536=(N+n) % 65536:=by omega
 rw[e];have HF:=Ac (aeV h ((N+n) % 65536) ((N+n) % 65536));clear h e;go_enter Tryz.func12,Tryz.ntmps12;go_wp2
 go_region
 all_goals
  go_wp2;go_returns;exact⟨_,rfl,(Aa HF) _⟩
theorem afc(w:World)(b:Nat)(N n:Int)(a0 a1 a2 a3:Int)(xb xo xn xc:Nat)(Y:Value)(h:w.heap[b]?=some (.cells #[.int .i64 N,aeN,aeN,aeN,aeN] 40 (0,0)))(hN:0<=N/\N<=65535)(hn:n=0\/n=1)(hx:w.cell? ⟨xb,xo,none⟩=some (.int .i64 n))(ab:0<xn):
  Calls Tryz.prog 12 #[ptr b,.int .i64 0,enV a0 a1 a2 a3 1 (.slice (some ⟨xb,xo,none⟩) xn xc) Y] w fun e w'=>∃O,e=.returned O/\aeT w (fun k=>k=b) O [R.num N] w'/\w'.heap[b]?=some (.cells #[.int .i64 (if n=1 then 0 else N),aeN,aeN,aeN,aeN] 40 (0,0)):=by
 have c0:w.cell? ⟨b,0,none⟩=some (.int .i64 N):=cell_of h 0 _ rfl;have z0:w.frozen? ⟨b,0,none⟩=false:=L6 h 0;have hl:=lt_of_block h;have lx:=lt_of_cell hx;have aa:(0:Int)<(xn:Int):=by omega
 have hw:IntKind.i64.wrap N=N:=by rw[IntKind.wrap_i64];omega
 rcases hn with rfl|rfl
 ·rw[if_neg (by omega)];have HF:=Ac (aeV h N N);clear h;go_enter Tryz.func12,Tryz.ntmps12;go_wp2
  go_region
  all_goals
   go_wp2;go_returns;exact⟨_,rfl,(Aa HF) _⟩
 ·rw[if_pos rfl];have HF:=Ac (aeV h 0 N);clear h;go_enter Tryz.func12,Tryz.ntmps12;go_wp2
  go_region
  all_goals
   go_wp2;go_returns;exact⟨_,rfl,(Aa HF) _⟩
theorem aeZ{P:Program}(w:World)(t ty e:TypeId)(i:TypeInfo)(ht:P.underlying t=some (.slice e))(hi:P.info? e=some i)(g n cap:Nat)(hn:n<=cap)(x:Option Addr)(c:Nat):(Builtin.append_ #[t,t] ty #[.slice (some ⟨g,0,none⟩) n cap,.slice x 0 c]).run P w=.ok (.slice (some ⟨g,0,none⟩) n cap) w:=by
 cases x with
 |none=>simp[Builtin.append_,run_underlying ht,sizeOf,typeInfo,hi,Builtin.lenOf,Builtin.firstCells,loadCells,storeCells,hn]
 |some a=>simp[Builtin.append_,run_underlying ht,sizeOf,typeInfo,hi,Builtin.lenOf,Builtin.firstCells,loadCells,loadCellsFrom,storeCells,hn]
theorem aeQ{P:Program}{ab:Array Oper}{rest:List Oper}{o:Oper}{a:Act}{Q:Exit->Act->World->Prop}(ac:o.guard=none)(s x:Operand)(t:TypeId)
  (ho:o.op=.call {callee:=.builtin .append,args:=#[s,x],argTypes:=#[t,t]})
  (e:TypeId) (i:TypeInfo) (ht:P.underlying t=some (.slice e)) (hi:P.info? e=some i) (g n cap:Nat) (hn:n<=cap) (y:Option Addr) (c:Nat)
  (hs:a.eval s=.slice (some ⟨g,0,none⟩) n cap) (hx:a.eval x=.slice y 0 c)
  (h:wpList P ab Q rest (a.put o.dst (.slice (some ⟨g,0,none⟩) n cap)) w):wpList P ab Q (o :: rest) a w:=by
 refine wpList_plain ac fun K hK=>?_
 have aa:=aeZ (P:=P) w t o.type e i ht hi g n cap hn y c;unfold Oper.wp;simp[execOp,ho,resolve,invoke,builtin,hs,hx,aa,Result.andThen];exact hK _ _ h
abbrev afp(bb off n cap:Nat):Value:=.slice (some ⟨bb,if cap=2 then off else off+4,none⟩) (n-2) (cap-2)
theorem aeU{cs:List Value}{E:Obj}{u:Value}(h:w.heap[b]?=some (.cells cs.toArray 40 (0,0)))(hS:S b):Af S w ((w.setCell ⟨b,j,none⟩ u).alloc E)/\((w.setCell ⟨b,j,none⟩ u).alloc E).heap.size=w.heap.size+1/\((w.setCell ⟨b,j,none⟩ u).alloc E).heap[b]?=some (.cells (cs.set j u).toArray 40 (0,0)):=by
 have hl:=lt_of_block h;refine⟨(Af.setCell (F:=S) (Af.refl _ w) (p:=⟨b,j,none⟩) (afJ hS) _).alloc _,by simp,?_⟩;rw[heap_alloc_old _ _ (by simpa using hl)];exact Ai h u
theorem afv(hU:w.heap.size<=U.heap.size)(hk:Af S w U):aeT w S (.slice (some ⟨U.heap.size,0,none⟩) 2 2) [R.num m,R.num n] (U.alloc (.cells #[.int .i64 m,.string ⟨#[]⟩,.int .i64 n,.string ⟨#[]⟩] 73)).drew:=
 ⟨(KJ (abp w U hU m n ⟨#[]⟩ ⟨#[]⟩)).below (Below.refl _ _).drew,(hk.alloc _).drew⟩
theorem afd(w:World)(b dn bb off n cap dc:Nat)(da:Option Addr)(cs:List Value)(a0 a1 a2 a3:Int)(Y:Value)(ag:dn<3)(hn:2<=n)(ab:n<=cap)(h:w.heap[b]?=some (.cells cs.toArray 40 (0,0)))(hd:cs[2+dn]?=some (.slice da 0 dc))(c0:w.cell? ⟨bb,off,none⟩=some (.int .i64 (dn:Int))):
  Calls Tryz.prog 12 #[ptr b,.int .i64 2,enV a0 a1 a2 a3 0 (.slice (some ⟨bb,off,none⟩) n cap) Y] w fun e w'=>∃O,e=.returned O/\aeT w (fun k=>k=b) O [R.num 0,R.num 0] w'/\w'.heap[b]?=some (.cells (cs.set (2+dn) (afp bb off n cap)).toArray 40 (0,0)):=by
 have q1:(0:Int)<=(dn:Int):=by omega
 have q2:(dn:Int)<3:=by omega
 have q3:(0:Int)<(n:Int):=by omega
 have db:w.cell? ⟨b,2+dn,none⟩=some (.slice da 0 dc):=by
  simp only[World.cell?,h];simpa using hd
 have z:w.frozen? ⟨b,2+dn,none⟩=false:=open_list h;have hl:=lt_of_block h;have lx:=lt_of_cell c0;obtain⟨i0,hi,ad,ae,af⟩:=info_parts V.MR;have HP:Hid (∀(u:Value) (E:Obj),aeT w (fun k=>k=b) (.slice (some ⟨w.heap.size+1,0,none⟩) 2 2) [R.num 0,R.num 0] (((w.setCell ⟨b,2+dn,none⟩ u).alloc E).alloc (.cells #[.int .i64 0,.string ⟨#[]⟩,.int .i64 0,.string ⟨#[]⟩] 73)).drew/\(((w.setCell ⟨b,2+dn,none⟩ u).alloc E).alloc (.cells #[.int .i64 0,.string ⟨#[]⟩,.int .i64 0,.string ⟨#[]⟩] 73)).drew.heap[b]?=some (.cells (cs.set (2+dn) u).toArray 40 (0,0))):=fun u E=>by
  obtain⟨g1,g2,g3⟩:=aeU (S:=fun k=>k=b) (E:=E) (j:=2+dn) (u:=u) h rfl;have g4:=afv (m:=0) (n:=0) (by rw[g2];omega) g1;rw[g2]at g4;refine⟨g4,?_⟩;show (((w.setCell ⟨b,2+dn,none⟩ u).alloc E).alloc (.cells #[.int .i64 0,.string ⟨#[]⟩,.int .i64 0,.string ⟨#[]⟩] 73)).heap[b]?=_;rw[heap_alloc_old _ _ (by rw[g2];omega)];exact g3
 clear h hd ad ae af;by_cases aa:cap=2
 ·subst aa;have ac:n=2:=by omega
  subst ac;go_enter Tryz.func12,Tryz.ntmps12;go_wp2
  go_region
  all_goals
   go_wp2_with (at_builtin;go_must (refine aeQ rfl (.tmp 180) (.tmp 181) 37 rfl 73 i0 Tryz.underlying37 hi (w.heap.size+1) 2 2 (by omega) da dc rfl rfl ?_))
   go_returns;exact⟨_,rfl,(Aa HP) _ _⟩
 ·have h2:¬cap-2=0:=by omega
  have h3:2<cap:=by omega
  unfold afp;rw[if_neg aa];go_enter Tryz.func12,Tryz.ntmps12;go_wp2
  go_region
  all_goals
   go_wp2_with (at_builtin;go_must (refine aeQ rfl (.tmp 180) (.tmp 181) 37 rfl 73 i0 Tryz.underlying37 hi (w.heap.size+1) 2 2 (by omega) da dc rfl rfl ?_))
   go_returns;exact⟨_,rfl,(Aa HP) _ _⟩
theorem afB(w U:World)(hU:w.heap.size<=U.heap.size)(n:Int):(U.alloc (.cells #[.int .i64 1,.string ⟨#[]⟩,.int .i64 n,.string ⟨#[]⟩] 73)).drew.ownsRow w.heap.size 73 2 (.slice (some ⟨U.heap.size,0,none⟩) 2 2) 2 [.int .i64 1,.string ⟨#[]⟩,.int .i64 n,.string ⟨#[]⟩]:=
 ⟨rfl,afM ⟨U.heap.size,2,#[.int .i64 1,.string ⟨#[]⟩,.int .i64 n,.string ⟨#[]⟩],rfl,hU,heap_alloc_new U _,afI _,by decide,rfl,rfl⟩⟩
theorem afl(w:World)(b dn bb off n cap lb lo dc:Nat)(l:List V.It)(cs:List Value)(a0 a1 a2 a3:Int)(Y:Value)(av:dn<3)(hn:2<=n)(ap:n<=cap)(ak:l≠[])(aw:l.length<=100)(h:w.heap[b]?=some (.cells cs.toArray 40 (0,0)))(hd:cs[2+dn]?=some (.slice (some ⟨lb,lo,none⟩) l.length dc))(c0:w.cell? ⟨bb,off,none⟩=some (.int .i64 (dn:Int)))(aq:lb<w.heap.size)(ao:¬lb=b)(ad:∀j x,l[j]?=some x->w.cell? ⟨lb,lo+j*2,none⟩=some (.int .i64 x.1)/\w.cell? ⟨lb,lo+j*2+1,none⟩=some (.string x.2)):
  Calls Tryz.prog 12 #[ptr b,.int .i64 2,enV a0 a1 a2 a3 0 (.slice (some ⟨bb,off,none⟩) n cap) Y] w fun e w'=>∃O,e=.returned O/\aeT w (fun k=>k=b) O (R.num 1 :: R.num l.length :: l) w'/\w'.heap[b]?=some (.cells (cs.set (2+dn) (afp bb off n cap)).toArray 40 (0,0)):=by
 have q1:(0:Int)<=(dn:Int):=by omega
 have q2:(dn:Int)<3:=by omega
 have q3:(0:Int)<(n:Int):=by omega
 have db:w.cell? ⟨b,2+dn,none⟩=some (.slice (some ⟨lb,lo,none⟩) l.length dc):=by
  simp only[World.cell?,h];simpa using hd
 have z:w.frozen? ⟨b,2+dn,none⟩=false:=open_list h;have hl:=lt_of_block h;have lx:=lt_of_cell c0;have au:0<l.length:=agN.2 ak;have e1:((l.length:Int)==0)=false:=by simp[ak]
 obtain⟨i0,hi,al,am,an⟩:=info_parts V.MR;have aj:=V.FM l;have af:Hid (∀(u:Value) (E:Obj),∀j v,(V.flat l)[j]?=some v->(((w.setCell ⟨b,2+dn,none⟩ u).alloc E).alloc (.cells #[.int .i64 1,.string ⟨#[]⟩,.int .i64 (l.length:Int),.string ⟨#[]⟩] 73)).drew.cell? ((⟨lb,lo,none⟩:Addr).add j)=some v):=fun u E=>by
  refine QJ (w:=(((w.setCell ⟨b,2+dn,none⟩ u).alloc E).alloc (.cells #[.int .i64 1,.string ⟨#[]⟩,.int .i64 (l.length:Int),.string ⟨#[]⟩] 73)).drew) l (fun j x hx=>?_);have h3:∀q v,w.cell? ⟨lb,q,none⟩=some v->(((w.setCell ⟨b,2+dn,none⟩ u).alloc E).alloc (.cells #[.int .i64 1,.string ⟨#[]⟩,.int .i64 (l.length:Int),.string ⟨#[]⟩] 73)).drew.cell? ⟨lb,q,none⟩=some v:=fun q v hv=>by
   have hA:Below (w.setCell ⟨b,2+dn,none⟩ u).heap.size (w.setCell ⟨b,2+dn,none⟩ u) (((w.setCell ⟨b,2+dn,none⟩ u).alloc E).alloc (.cells #[.int .i64 1,.string ⟨#[]⟩,.int .i64 (l.length:Int),.string ⟨#[]⟩] 73)).drew:=(((Below.refl _ _).alloc (afI _) _).alloc (by simp) _).drew;rw[hA.cell (p:=⟨lb,q,none⟩) (by simpa using aq),World.cell?_setCell_far _ _ _ _ (fun e=>ao e.symm)];exact hv
  exact⟨h3 _ _ (ad j x hx).1,h3 _ _ (ad j x hx).2⟩
 have ae:Hid (∀(u:Value) (E:Obj),(((w.setCell ⟨b,2+dn,none⟩ u).alloc E).alloc (.cells #[.int .i64 1,.string ⟨#[]⟩,.int .i64 (l.length:Int),.string ⟨#[]⟩] 73)).drew.ownsRow w.heap.size 73 2 (.slice (some ⟨w.heap.size+1,0,none⟩) 2 2) 2 [.int .i64 1,.string ⟨#[]⟩,.int .i64 (l.length:Int),.string ⟨#[]⟩]):=fun u E=>by
  obtain⟨g1,g2,g3⟩:=aeU (S:=fun k=>k=b) (E:=E) (j:=2+dn) (u:=u) h rfl;have:=afB w ((w.setCell ⟨b,2+dn,none⟩ u).alloc E) (by rw[g2];omega) (l.length:Int);rw[g2]at this;exact this
 have HP:Hid (∀(u:Value) (E:Obj) (O:Value) (wz:World),(((w.setCell ⟨b,2+dn,none⟩ u).alloc E).alloc (.cells #[.int .i64 1,.string ⟨#[]⟩,.int .i64 (l.length:Int),.string ⟨#[]⟩] 73)).drew.grownBy wz (some (w.heap.size+1))->wz.ownsRow w.heap.size 73 2 O (2+l.length) ([.int .i64 1,.string ⟨#[]⟩,.int .i64 (l.length:Int),.string ⟨#[]⟩]++V.flat l)->aeT w (fun k=>k=b) O (R.num 1 :: R.num l.length :: l) wz/\wz.heap[b]?=some (.cells (cs.set (2+dn) u).toArray 40 (0,0))):=fun u E O wz hg ho=>by
  obtain⟨g1,g2,g3⟩:=aeU (S:=fun k=>k=b) (E:=E) (j:=2+dn) (u:=u) h rfl;have ah:Below (w.heap.size+1) ((w.setCell ⟨b,2+dn,none⟩ u).alloc E) wz:=by
   have h0:Below (w.heap.size+1) ((w.setCell ⟨b,2+dn,none⟩ u).alloc E) (((w.setCell ⟨b,2+dn,none⟩ u).alloc E).alloc (.cells #[.int .i64 1,.string ⟨#[]⟩,.int .i64 (l.length:Int),.string ⟨#[]⟩] 73)).drew:=((Below.refl _ _).alloc (by rw[g2];exact afI _) _).drew;exact h0.grown hg (by simp) (fun k hk=>by cases hk;exact afI _)
  refine⟨⟨KJ (B:=w.heap.size) ?_,?_⟩,?_⟩
  ·have e:V.flat (R.num 1 :: R.num l.length :: l)=[.int .i64 1,.string ⟨#[]⟩,.int .i64 (l.length:Int),.string ⟨#[]⟩]++V.flat l:=rfl;have e2:(R.num 1 :: R.num l.length :: l:List V.It).length=2+l.length:=by simp;omega
   unfold V.Row;rw[e,e2];exact ho
  ·exact g1.trans (Af.Al (by rw[g2];exact ah) _)
  ·rw[ah.block b (by omega)];exact g3
 clear h hd ad;by_cases ai:cap=2
 ·subst ai;have ar:n=2:=by omega
  subst ar;go_enter Tryz.func12,Tryz.ntmps12;go_wp2
  go_region
  all_goals
   go_wp2_with (at_builtin;go_must (refine wpList_append_own_at _ rfl (.tmp 180) (.tmp 181) 37 rfl w.heap.size 73 i0 (.agg #[.int .i64 0,.string ⟨#[]⟩]) 2 24 Tryz.underlying37 hi al am an rfl (by decide) (.slice (some ⟨w.heap.size+1,0,none⟩) 2 2) 2 [.int .i64 1,.string ⟨#[]⟩,.int .i64 (l.length:Int),.string ⟨#[]⟩] rfl ((Aa ae) _ _) ⟨lb,lo,none⟩ l.length dc (V.flat l) rfl aj ((Aa af) _ _) (V.JX l) (by unfold maxLen;omega) (by omega) (by simp;omega) ?_))
   intro v' wz ab aa ac _;obtain⟨va,vn,vc,ag⟩:=Ar ab;subst ag;have HF:=Ac ((Aa HP) _ _ (.slice va vn vc) wz aa ab);clear ab aa ac;go_wp2;go_returns;exact⟨_,rfl,Aa HF⟩
 ·have h2:¬cap-2=0:=by omega
  have h3:2<cap:=by omega
  unfold afp;rw[if_neg ai];go_enter Tryz.func12,Tryz.ntmps12;go_wp2
  go_region
  all_goals
   go_wp2_with (at_builtin;go_must (refine wpList_append_own_at _ rfl (.tmp 180) (.tmp 181) 37 rfl w.heap.size 73 i0 (.agg #[.int .i64 0,.string ⟨#[]⟩]) 2 24 Tryz.underlying37 hi al am an rfl (by decide) (.slice (some ⟨w.heap.size+1,0,none⟩) 2 2) 2 [.int .i64 1,.string ⟨#[]⟩,.int .i64 (l.length:Int),.string ⟨#[]⟩] rfl ((Aa ae) _ _) ⟨lb,lo,none⟩ l.length dc (V.flat l) rfl aj ((Aa af) _ _) (V.JX l) (by unfold maxLen;omega) (by omega) (by simp;omega) ?_))
   intro v' wz ab aa ac _;obtain⟨va,vn,vc,ag⟩:=Ar ab;subst ag;have HF:=Ac ((Aa HP) _ _ (.slice va vn vc) wz aa ab);clear ab aa ac;go_wp2;go_returns;exact⟨_,rfl,Aa HF⟩
def ae6(w:World)(b:Nat)(P:Value)(ps:List ByteArray):Prop:=(ps=[]/\P=aeN)\/∃g off cap cur,P=.slice (some ⟨g,off,none⟩) ps.length cap/\b<g/\w.heap[g]?=some (.cells cur 9 (0,0))/\ps.length<=cap/\cap<=maxLen/\off+cap<=cur.size/\∀j s,ps[j]?=some s->cur[off+j]?=some (.string s)
def aeO(ps:List ByteArray)(T:ByteArray):List ByteArray:=if ps.length<4 then ps++[T] else (ps++[T]).drop 1
theorem aeS(h:w.heap[b]?=some (.cells #[v0,v1,v2,v3,v4] 40 (0,0)))(u:Value):(w.setCell ⟨b,1,none⟩ u).heap[b]?=some (.cells #[v0,u,v2,v3,v4] 40 (0,0)):=by
 have h0:w.heap[b]?=some (.cells [v0,v1,v2,v3,v4].toArray 40 (0,0)):=h;exact Ai h0 u
theorem ae9{p:Addr}{v:Value}(h:w.cell? p=some v):p.block<w.heap.size:=by
 by_cases hl:p.block<w.heap.size
 ·exact hl
 ·unfold World.cell? at h;rw[ags (by omega)]at h;cases h
theorem aft{ps:List ByteArray}{u:Value}(h:(strs ps)[j]?=some u):∃s,ps[j]?=some s/\u=.string s:=by
 unfold strs at h;rw[afW]at h;cases hp:ps[j]? with
 |none=>rw[hp]at h;cases h
 |some s=>rw[hp]at h;exact⟨s,rfl,(Option.some.inj h).symm⟩
theorem ae6.alloc{ps:List ByteArray}(h:ae6 w b P ps)(o:Obj):ae6 (w.alloc o) b P ps:=by
 rcases h with h|⟨g,off,cap,aa,h1,h2,h3,h4⟩
 ·exact afJ h
 ·exact afM ⟨g,off,cap,aa,h1,h2,(heap_alloc_old _ _ (lt_of_block h3)).trans h3,h4⟩
def aeW(w:World)(S:Nat->Prop)(b:Nat)(ps:List ByteArray)(e:Ending)(w':World):Prop:=∃O P,e=.returned O/\aeT w S O [R.num ps.length] w'/\w'.heap[b]?=some (.cells #[.int .i64 0,P,aeN,aeN,aeN] 40 (0,0))/\ae6 w' b P ps
theorem aeX{Z:World}{ps:List ByteArray}(hU:w.heap.size<=Z.heap.size)(hk:Af S w Z)(hb:Z.heap[b]?=some (.cells #[.int .i64 0,P,aeN,aeN,aeN] 40 (0,0)))(hp:ae6 Z b P ps)(hm:m=(ps.length:Int)){n:Nat}(hn:n=Z.heap.size):aeW w S b ps (.returned (.slice (some ⟨n,0,none⟩) 1 1)) (Z.alloc (.cells #[.int .i64 m,.string ⟨#[]⟩] 73)):=by
 subst hm;subst hn;exact⟨_,P,rfl,⟨KJ (row_in w Z hU _ ⟨#[]⟩),hk.alloc _⟩,(heap_alloc_old _ _ (lt_of_block hb)).trans hb,hp.alloc _⟩
theorem afq{W:World}{ps:List ByteArray}(h:w.heap[b]?=some (.cells #[.int .i64 0,v1,aeN,aeN,aeN] 40 (0,0)))(hW:Below w.heap.size w W)(ap:w.heap.size<W.heap.size)(ho:wz.ownsRow W.heap.size 9 1 (.slice (some ⟨g,0,none⟩) (ps.length+1) cap) (ps.length+1) (strs ps++[.string T]))(hg:W.grownBy wz none)(h4:ps.length<=4):
  (ps.length<4->∃Z,(wz.setCell ⟨b,1,none⟩ (.slice (some ⟨g,0,none⟩) (ps.length+1) cap))=Z/\aeW w (fun k=>k=b) b (aeO ps T) (.returned (.slice (some ⟨wz.heap.size,0,none⟩) 1 1)) (Z.alloc (.cells #[.int .i64 ((ps.length:Int)+1),.string ⟨#[]⟩] 73))) /\
  (¬ps.length<4->aeW w (fun k=>k=b) b (aeO ps T) (.returned (.slice (some ⟨wz.heap.size,0,none⟩) 1 1)) (((wz.setCell ⟨b,1,none⟩ (.slice (some ⟨g,0,none⟩) (ps.length+1) cap)).setCell ⟨b,1,none⟩ (.slice (some ⟨g,1,none⟩) ps.length (cap-1))).alloc (.cells #[.int .i64 (ps.length:Int),.string ⟨#[]⟩] 73))):=by
 have hl:=lt_of_block h;have ad:Below w.heap.size w wz:=hW.grown hg (by omega) (fun k hk=>by cases hk);have ag:=(ad.block b hl).trans h;rcases ho.2 with ⟨_,q⟩|⟨g',ak,ac,hv,ao,al,hc,hm,ah,an⟩
 ·omega
 cases hv;have ai:b<g:=by omega
 have aj:g≠b:=by omega
 have am:Af (fun k=>k=b) w wz:=Af.Al ad _;have ab:∀(j:Nat) (s:ByteArray),(ps++[T])[j]?=some s->ac[j]?=some (Value.string s):=fun j s hj=>by
  have h1:(strs (ps++[T]))[j]?=some (Value.string s):=by unfold strs;rw[afW,hj];rfl
  have h2:strs (ps++[T])=strs ps++[Value.string T]:=by simp[strs]
  rw[h2,<-an,af7]at h1;split at h1
  ·simpa using h1
  ·cases h1
 have gz:∀v,(wz.setCell ⟨b,1,none⟩ v).heap[g]?=some (.cells ac 9 (0,0)):=fun v=>(Af.setCell (F:=fun k=>k=b) (Af.refl _ wz) (p:=⟨b,1,none⟩) (afJ rfl) v).at al aj
 have k1:∀v,Af (fun k=>k=b) w (wz.setCell ⟨b,1,none⟩ v):=fun v=>Af.setCell (F:=fun k=>k=b) am (p:=⟨b,1,none⟩) (afJ rfl) _
 refine⟨fun ae=>⟨_,rfl,?_⟩,fun ae=>?_⟩
 ·have af:aeO ps T=ps++[T]:=by unfold aeO;rw[if_pos ae]
  rw[af];refine aeX (by simp;have:=ad.size;omega) (k1 _) (aeS ag _) (afM ⟨g,0,cap,ac,by simp,ai,gz _,by simpa using hc,hm,by rw[ah];omega,fun j s hj=>by rw[agn];exact ab j s hj⟩) (by simp) (by simp)
 ·have af:aeO ps T=(ps++[T]).drop 1:=by unfold aeO;rw[if_neg ae]
  have aa:((ps++[T]).drop 1).length=ps.length:=by simp
  rw[af];refine aeX (by simp;have:=ad.size;omega) (Af.setCell (F:=fun k=>k=b) (k1 _) (p:=⟨b,1,none⟩) (afJ rfl) _) (aeS (aeS ag _) _) (afM ⟨g,1,cap-1,ac,by rw[aa],ai,(Af.setCell (F:=fun k=>k=b) (Af.refl _ _) (p:=⟨b,1,none⟩) (afJ rfl) _).at (gz _) aj,by rw[aa];omega,by omega,by rw[ah];omega,fun j s hj=>?_⟩) (by rw[aa]) (by simp);rw[agP]at hj;exact ab (1+j) s hj
theorem ae5(w:World)(b:Nat)(pa:Option Addr)(aa:Nat)(ps:List ByteArray)(T:ByteArray)(a0 a1 a2 a3:Int)(xb xo xn xc:Nat)(Y:Value)(h:w.heap[b]?=some (.cells #[.int .i64 0,.slice pa ps.length aa,aeN,aeN,aeN] 40 (0,0)))(h4:ps.length<=4)(ad:pa=none->ps.length=0/\aa=0)(ag:∀p,pa=some p->∀j u,(strs ps)[j]?=some u->w.cell? (p.add j)=some u)(ac:aa<ps.length+1)(hx:w.cell? ⟨xb,xo+1,none⟩=some (.string T))(ax:0<xn):
  Calls Tryz.prog 12 #[ptr b,.int .i64 1,enV a0 a1 a2 a3 0 (.slice (some ⟨xb,xo,none⟩) xn xc) Y] w (aeW w (fun k=>k=b) b (aeO ps T)):=by
 have c1:w.cell? ⟨b,1,none⟩=some (.slice pa ps.length aa):=cell_of h 1 _ rfl;have hl:=lt_of_block h;have lx:=lt_of_cell hx;have aw:(0:Int)<(xn:Int):=by omega
 obtain⟨i0,hi,aq,ar,au⟩:=info_parts Ym;obtain⟨W1,ah⟩:∃W1,w.alloc (.cells #[.int .i64 a0,.int .i64 a1,.int .i64 a2,.int .i64 a3,.int .i64 0,.slice (some ⟨xb,xo,none⟩) xn xc,Y] 45)=W1:=⟨_,rfl⟩;have ai:Below w.heap.size w W1:=by rw[<-ah];exact(Below.refl _ _).alloc (afI _) _
 have ap:W1.heap.size=w.heap.size+1:=by rw[<-ah];simp
 have ak:W1.heap[w.heap.size]?=some (.cells #[.int .i64 a0,.int .i64 a1,.int .i64 a2,.int .i64 a3,.int .i64 0,.slice (some ⟨xb,xo,none⟩) xn xc,Y] 45 (0,0)):=by
  rw[<-ah];exact heap_alloc_new w _
 have d4:W1.cell? ⟨w.heap.size,4,none⟩=some (.int .i64 0):=cell_of ak 4 _ rfl;have d5:W1.cell? ⟨w.heap.size,5,none⟩=some (.slice (some ⟨xb,xo,none⟩) xn xc):=cell_of ak 5 _ rfl;have e1:W1.cell? ⟨b,1,none⟩=some (.slice pa ps.length aa):=(ai.cell (p:=⟨b,1,none⟩) hl).trans c1;have ex:W1.cell? ⟨xb,xo+1,none⟩=some (.string T):=(ai.cell (p:=⟨xb,xo+1,none⟩) lx).trans hx;have ay:b<W1.heap.size:=by omega
 have aA:xb<W1.heap.size:=by omega
 have az:w.heap.size<W1.heap.size:=by omega
 have af:Below w.heap.size w (W1.alloc (.cells #[.string T] 9)).drew:=(ai.alloc (by omega) _).drew;have an:Hid (∀p,pa=some p->∀j u,(strs ps)[j]?=some u->(W1.alloc (.cells #[.string T] 9)).drew.cell? (p.add j)=some u):=fun p hp j u hj=>by
  have:=ag p hp j u hj;exact(af.cell (p:=p.add j) (ae9 this)).trans this
 have HP:Hid (∀(P':Value) (w':World),w'.ownsRow (W1.alloc (.cells #[.string T] 9)).drew.heap.size 9 1 P' (ps.length+1) (strs ps++[.string T])->(W1.alloc (.cells #[.string T] 9)).drew.grownBy w' none->∃g cap,P'=.slice (some ⟨g,0,none⟩) (ps.length+1) cap/\ps.length+1<=cap/\w'.cell? ⟨b,1,none⟩=some (.slice pa ps.length aa)/\w'.frozen? ⟨b,1,none⟩=false/\b<w'.heap.size):=fun P' w' ho hg=>by
  have av:Below w.heap.size w w':=af.grown hg (by have:=af.size;omega) (fun k hk=>by cases hk);have aj:=(av.block b hl).trans h;rcases ho.2 with ⟨_,q⟩|⟨g,cap,aB,hv,_,_,hc,_⟩
  ·omega
  ·exact⟨g,cap,hv,hc,cell_of aj 1 _ rfl,L6 aj 1,lt_of_block aj⟩
 have am:Hid (∀j u,([.string T]:List Value)[j]?=some u->(W1.alloc (.cells #[.string T] 9)).drew.cell? ((⟨w.heap.size+1,0,none⟩:Addr).add j)=some u):=by
  rw[<-ap];exact Rf W1 T
 have HH:=Ac h;have al:=Ac af;clear h ag ak ai af hx;go_enter Tryz.func12,Tryz.ntmps12;go_wp2;go_region_law (refine step_append_grows rfl (.tmp 79) (.tmp 85) 36 rfl 9 i0 (.string ⟨#[]⟩) 1 16 Tryz.underlying36 hi aq ar au rfl (by decide) pa ps.length aa (strs ps) rfl ad (by simp[strs]) (Aa an) ⟨w.heap.size+1,0,none⟩ 1 1 [.string T] rfl rfl (Aa am) (by simp[Value.oneCell']) ac (by unfold maxLen;omega) (by omega) ?_;intro v' wz ae ab;obtain⟨g,cap,hv,aC,y1,y2,y3⟩:=(Aa HP) v' wz ae ab;subst hv;have HQ:=Ac (afq (Aa HH) (Aa al) (by simp;omega) ae ab h4);clear ae ab)
 all_goals
  clear am an HP hi aq ar au d4 d5 e1 ex ay aA az ah ap c1 hl lx aw ad ac ax HH al;by_cases ao:ps.length<4
  ·have g4:¬(4:Int)<((ps.length+1:Nat):Int):=by omega
   have e4:decide (((ps.length+1:Nat):Int) > 4)=false:=by simp;omega
   go_wp2;go_returns;obtain⟨_,rfl,hF⟩:=(Aa HQ).1 ao;exact hF
  ·have g4:(4:Int)<((ps.length+1:Nat):Int):=by omega
   have e4:decide (((ps.length+1:Nat):Int) > 4)=true:=by simp;omega
   have g1:(1:Int)<=((ps.length+1:Nat):Int):=by omega
   go_wp2;go_returns;exact(Aa HQ).2 ao
theorem afr{off:Nat}{ps:List ByteArray}{ab:Array Value}(af:wz.heap[b]?=some (.cells #[.int .i64 0,v1,aeN,aeN,aeN] 40 (0,0)))(aj:wz.heap[g]?=some (.cells ab 9 (0,0)))(ag:b<g)(hS:S b)(ak:Af S w wz)(ah:w.heap.size<=wz.heap.size)(hc:ps.length+1<=cap)(hm:cap<=maxLen)(ai:off+cap<=ab.size)(ac:∀(j:Nat) (s:ByteArray),(ps++[T])[j]?=some s->ab[off+j]?=some (Value.string s))(h4:ps.length<=4):
  (ps.length<4->aeW w S b (aeO ps T) (.returned (.slice (some ⟨wz.heap.size,0,none⟩) 1 1)) ((wz.setCell ⟨b,1,none⟩ (.slice (some ⟨g,off,none⟩) (ps.length+1) cap)).alloc (.cells #[.int .i64 ((ps.length:Int)+1),.string ⟨#[]⟩] 73))) /\
  (¬ps.length<4->aeW w S b (aeO ps T) (.returned (.slice (some ⟨wz.heap.size,0,none⟩) 1 1)) (((wz.setCell ⟨b,1,none⟩ (.slice (some ⟨g,off,none⟩) (ps.length+1) cap)).setCell ⟨b,1,none⟩ (.slice (some ⟨g,off+1,none⟩) ps.length (cap-1))).alloc (.cells #[.int .i64 (ps.length:Int),.string ⟨#[]⟩] 73))):=by
 have gz:∀v,(wz.setCell ⟨b,1,none⟩ v).heap[g]?=some (.cells ab 9 (0,0)):=fun v=>(Af.setCell (F:=fun k=>k=b) (Af.refl _ wz) (p:=⟨b,1,none⟩) (afJ rfl) v).at aj (by omega)
 have k1:∀v,Af S w (wz.setCell ⟨b,1,none⟩ v):=fun v=>Af.setCell (F:=S) ak (p:=⟨b,1,none⟩) (afJ hS) _
 refine⟨fun ad=>?_,fun ad=>?_⟩
 ·have ae:aeO ps T=ps++[T]:=by unfold aeO;rw[if_pos ad]
  rw[ae];exact aeX (by simpa using ah) (k1 _) (aeS af _) (afM ⟨g,off,cap,ab,by simp,ag,gz _,by simpa using hc,hm,ai,ac⟩) (by simp) (by simp)
 ·have ae:aeO ps T=(ps++[T]).drop 1:=by unfold aeO;rw[if_neg ad]
  have aa:((ps++[T]).drop 1).length=ps.length:=by simp
  rw[ae];refine aeX (by simpa using ah) (Af.setCell (F:=S) (k1 _) (p:=⟨b,1,none⟩) (afJ hS) _) (aeS (aeS af _) _) (afM ⟨g,off+1,cap-1,ab,by rw[aa],ag,(Af.setCell (F:=fun k=>k=b) (Af.refl _ _) (p:=⟨b,1,none⟩) (afJ rfl) _).at (gz _) (by omega),by rw[aa];omega,by omega,by omega,fun j s hj=>?_⟩) (by rw[aa]) (by simp);rw[agP]at hj;rw[Nat.add_assoc];exact ac (1+j) s hj
theorem afm(w:World)(b g off aa:Nat)(cl:List Value)(ps:List ByteArray)(T:ByteArray)(a0 a1 a2 a3:Int)(xb xo xn xc:Nat)(Y:Value)(h:w.heap[b]?=some (.cells #[.int .i64 0,.slice (some ⟨g,off,none⟩) ps.length aa,aeN,aeN,aeN] 40 (0,0)))(h4:ps.length<=4)(ak:w.heap[g]?=some (.cells cl.toArray 9 (0,0)))(aA:b<g)(ab:ps.length+1<=aa)(hm:aa<=maxLen)(az:off+aa<=cl.length)(ad:∀(j:Nat) (s:ByteArray),ps[j]?=some s->cl[off+j]?=some (Value.string s))(hx:w.cell? ⟨xb,xo+1,none⟩=some (.string T))(aF:0<xn):
  Calls Tryz.prog 12 #[ptr b,.int .i64 1,enV a0 a1 a2 a3 0 (.slice (some ⟨xb,xo,none⟩) xn xc) Y] w (aeW w (fun k=>k=b\/k=g) b (aeO ps T)):=by
 have c1:w.cell? ⟨b,1,none⟩=some (.slice (some ⟨g,off,none⟩) ps.length aa):=cell_of h 1 _ rfl;have hl:=lt_of_block h;have av:=lt_of_block ak;have lx:=lt_of_cell hx;have aE:(0:Int)<(xn:Int):=by omega
 obtain⟨i0,hi,aG,ay,aH⟩:=info_parts Ym;obtain⟨W1,ah⟩:∃W1,w.alloc (.cells #[.int .i64 a0,.int .i64 a1,.int .i64 a2,.int .i64 a3,.int .i64 0,.slice (some ⟨xb,xo,none⟩) xn xc,Y] 45)=W1:=⟨_,rfl⟩;have ai:Below w.heap.size w W1:=by rw[<-ah];exact(Below.refl _ _).alloc (afI _) _
 have ax:W1.heap.size=w.heap.size+1:=by rw[<-ah];simp
 have am:W1.heap[w.heap.size]?=some (.cells #[.int .i64 a0,.int .i64 a1,.int .i64 a2,.int .i64 a3,.int .i64 0,.slice (some ⟨xb,xo,none⟩) xn xc,Y] 45 (0,0)):=by
  rw[<-ah];exact heap_alloc_new w _
 have d4:W1.cell? ⟨w.heap.size,4,none⟩=some (.int .i64 0):=cell_of am 4 _ rfl;have d5:W1.cell? ⟨w.heap.size,5,none⟩=some (.slice (some ⟨xb,xo,none⟩) xn xc):=cell_of am 5 _ rfl;have e1:W1.cell? ⟨b,1,none⟩=some (.slice (some ⟨g,off,none⟩) ps.length aa):=(ai.cell (p:=⟨b,1,none⟩) hl).trans c1;have ex:W1.cell? ⟨xb,xo+1,none⟩=some (.string T):=(ai.cell (p:=⟨xb,xo+1,none⟩) lx).trans hx;have aI:b<W1.heap.size:=by omega
 have aK:xb<W1.heap.size:=by omega
 have aJ:w.heap.size<W1.heap.size:=by omega
 have ae:Below w.heap.size w (W1.alloc (.cells #[.string T] 9)).drew:=(ai.alloc (by omega) _).drew;have aj:=(ae.block g av).trans ak;have aq:=(ae.block b hl).trans h;have ao:Hid (∀j,j<([.string T]:List Value).length->((W1.alloc (.cells #[.string T] 9)).drew.cell? ⟨g,off+ps.length*1+j,none⟩).isSome=true/\(W1.alloc (.cells #[.string T] 9)).drew.frozen? ⟨g,off+ps.length*1+j,none⟩=false):=fun j hj=>by
  have aB:j=0:=by simpa using hj
  subst aB;refine⟨?_,open_list aj⟩;simp only[World.cell?,aj];simp;omega
 obtain⟨wz,al⟩:∃wz,(W1.alloc (.cells #[.string T] 9)).drew.setCells g (off+ps.length*1) [.string T]=wz:=⟨_,rfl⟩;have af:(W1.alloc (.cells #[.string T] 9)).drew.setCell ⟨g,off+ps.length*1,none⟩ (.string T)=wz:=al;have au:Af (fun k=>k=b\/k=g) w wz:=by
  rw[<-af];exact Af.setCell (F:=fun k=>k=b\/k=g) (Af.Al ae _) (p:=⟨g,_,none⟩) (afJ (afM rfl)) _
 have ar:wz.heap[g]?=some (.cells (cl.set (off+ps.length*1) (.string T)).toArray 9 (0,0)):=by
  rw[<-af];exact Ai aj _
 have ac:wz.heap[b]?=some (.cells #[.int .i64 0,.slice (some ⟨g,off,none⟩) ps.length aa,aeN,aeN,aeN] 40 (0,0)):=by
  rw[<-af];exact(Af.setCell (F:=fun k=>k=g) (Af.refl _ _) (p:=⟨g,_,none⟩) (afJ rfl) _).at aq (by omega)
 have y1:wz.cell? ⟨b,1,none⟩=some (.slice (some ⟨g,off,none⟩) ps.length aa):=cell_of ac 1 _ rfl;have y2:wz.frozen? ⟨b,1,none⟩=false:=L6 ac 1;have y3:=lt_of_block ac;have ag:w.heap.size<=wz.heap.size:=by
  rw[<-af];have:=ae.size;simpa using this
 have HQ:=Ac (afr (T:=T) ac ar aA (afJ rfl) au ag ab hm (by simpa using az) (fun j s hj=>by
  rw[Nat.mul_one];by_cases aD:j<ps.length
  ·rw[af4 aD]at hj;have:=ad j s hj;simp only[agj];rw[List.getElem?_set_ne (by omega)];exact this
  ·have aC:j=ps.length:=by
    have:=(afG.1 hj).1;simp at this;omega
   subst aC;simp at hj;subst hj;simp only[agj];rw[List.getElem?_set_self (by omega)]) h4)
 have an:Hid (∀j u,([.string T]:List Value)[j]?=some u->(W1.alloc (.cells #[.string T] 9)).drew.cell? ((⟨w.heap.size+1,0,none⟩:Addr).add j)=some u):=by
  rw[<-ax];exact Rf W1 T
 have ap:=Ac al;clear h am ai ae hx aj aq ak al af au ar ac ag ad aG aH;go_enter Tryz.func12,Tryz.ntmps12;go_wp2;go_region_law (refine step_append_room rfl (.tmp 79) (.tmp 85) 36 rfl 9 i0 1 Tryz.underlying36 hi ay g off ps.length aa rfl ⟨w.heap.size+1,0,none⟩ 1 1 [.string T] rfl rfl (Aa an) (by simp[Value.oneCell']) ab (Aa ao) ?_;rw[Aa ap])
 all_goals
  clear an ao ap hi ay d4 d5 e1 ex aI aK aJ ah ax c1 hl lx aE aF av;by_cases aw:ps.length<4
  ·have g4:¬(4:Int)<((ps.length+1:Nat):Int):=by omega
   have e4:decide (((ps.length+1:Nat):Int) > 4)=false:=by simp;omega
   go_wp2;go_returns;exact(Aa HQ).1 aw
  ·have g4:(4:Int)<((ps.length+1:Nat):Int):=by omega
   have e4:decide (((ps.length+1:Nat):Int) > 4)=true:=by simp;omega
   have g1:(1:Int)<=((ps.length+1:Nat):Int):=by omega
   have g5:¬aa-1=0:=by omega
   have g6:1<aa:=by omega
   go_wp2;go_returns;exact(Aa HQ).2 aw
def aeP(ps:List ByteArray)(i:Nat):List V.It:=(ps.take i).map fun s=>(0,s)
theorem afa(ps:List ByteArray)(i:Nat)(s:ByteArray)(h:ps[i]?=some s):aeP ps (i+1)=aeP ps i++[(0,s)]:=by
 unfold aeP;rw[agH,h];simp
theorem ae2(ps:List ByteArray)(i:Nat)(h:i<=ps.length):(aeP ps i).length=i:=by simp[aeP,h]
theorem afn(w:World)(b:Nat)(pa:Option Addr)(g off ad m:Nat)(ps:List ByteArray)(N:Int)(a0 a1 a2 a3:Int)(xb xo xn xc:Nat)(Y:Value)(h:w.heap[b]?=some (.cells #[.int .i64 0,.slice pa ps.length ad,aeN,aeN,aeN] 40 (0,0)))(h4:ps.length<=4)(_:ps.length<=ad)(hp:0<ps.length->pa=some ⟨g,off,none⟩/\g<w.heap.size)(av:∀i s,ps[i]?=some s->w.cell? ⟨g,off+i,none⟩=some (.string s))(hm:m=min ps.length N.toNat)(hN:0<=N)(hx:w.cell? ⟨xb,xo,none⟩=some (.int .i64 N))(aY:0<xn):
  Calls Tryz.prog 12 #[ptr b,.int .i64 1,enV a0 a1 a2 a3 1 (.slice (some ⟨xb,xo,none⟩) xn xc) Y] w fun e w'=>∃O,e=.returned O/\aeT w (fun _=>False) O (R.num m :: aeP ps m) w':=by
 have aS:m<=ps.length:=by omega
 have aT:(m:Int)<=N:=by omega
 have aU:m=ps.length\/(m:Int)=N:=by omega
 clear hm;have c1:w.cell? ⟨b,1,none⟩=some (.slice pa ps.length ad):=cell_of h 1 _ rfl;have hl:=lt_of_block h;have lx:=lt_of_cell hx;have aX:(0:Int)<(xn:Int):=by omega
 obtain⟨i0,hi,az,aA,aB⟩:=info_parts V.MR;obtain⟨W1,am⟩:∃W1,w.alloc (.cells #[.int .i64 a0,.int .i64 a1,.int .i64 a2,.int .i64 a3,.int .i64 1,.slice (some ⟨xb,xo,none⟩) xn xc,Y] 45)=W1:=⟨_,rfl⟩;have ak:Below w.heap.size w W1:=by rw[<-am];exact(Below.refl _ _).alloc (afI _) _
 have aV:W1.heap.size=w.heap.size+1:=by rw[<-am];simp
 have ar:W1.heap[w.heap.size]?=some (.cells #[.int .i64 a0,.int .i64 a1,.int .i64 a2,.int .i64 a3,.int .i64 1,.slice (some ⟨xb,xo,none⟩) xn xc,Y] 45 (0,0)):=by
  rw[<-am];exact heap_alloc_new w _
 have d4:W1.cell? ⟨w.heap.size,4,none⟩=some (.int .i64 1):=cell_of ar 4 _ rfl;have d5:W1.cell? ⟨w.heap.size,5,none⟩=some (.slice (some ⟨xb,xo,none⟩) xn xc):=cell_of ar 5 _ rfl;have e1:W1.cell? ⟨b,1,none⟩=some (.slice pa ps.length ad):=(ak.cell (p:=⟨b,1,none⟩) hl).trans c1;have ex:W1.cell? ⟨xb,xo,none⟩=some (.int .i64 N):=(ak.cell (p:=⟨xb,xo,none⟩) lx).trans hx;have aN:b<W1.heap.size:=by omega
 have aP:xb<W1.heap.size:=by omega
 have aO:w.heap.size<W1.heap.size:=by omega
 have au:=Ac ak;have aG:Hid (0<ps.length->pa=some ⟨g,off,none⟩/\g<w.heap.size):=hp;have aE:Hid (∀i s,ps[i]?=some s->w.cell? ⟨g,off+i,none⟩=some (.string s)):=av;clear h ar ak hx hp av c1;go_enter Tryz.func12,Tryz.ntmps12;go_wp2;go_loopw [8,9] (fun lv iv wr=>∃i:Nat,i<=m/\iv=.int .i64 (i:Int)/\wr.ownsRow W1.heap.size 73 2 lv i (V.flat (aeP ps i))/\Below W1.heap.size W1 wr) (fun _ iv _=>m-(intOf iv).toNat)
 case atStart=>exact⟨0,af8 _,rfl,World.ownsRow_nil _ _ _ _,Below.refl _ _⟩
 case round=>
  obtain⟨i,aQ,rfl,ab,ae⟩:=hrel;have ay:=ae.size;have r1:wr.cell? ⟨b,1,none⟩=some (.slice pa ps.length ad):=(ae.cell (p:=⟨b,1,none⟩) aN).trans e1;have rx:wr.cell? ⟨xb,xo,none⟩=some (.int .i64 N):=(ae.cell (p:=⟨xb,xo,none⟩) aP).trans ex;have r5:wr.cell? ⟨w.heap.size,5,none⟩=some (.slice (some ⟨xb,xo,none⟩) xn xc):=(ae.cell (p:=⟨w.heap.size,5,none⟩) aO).trans d5;have rb:b<wr.heap.size:=by omega
  have aZ:xb<wr.heap.size:=by omega
  have rs:w.heap.size<wr.heap.size:=by omega
  by_cases aR:i<m
  ·have q1:(i:Int)<(ps.length:Int):=by omega
   have q2:(i:Int)<N:=by omega
   have aq:0<ps.length:=by omega
   obtain⟨aL,aK⟩:=(Aa aG) aq;subst aL;obtain⟨s,hs⟩:∃s,ps[i]?=some s:=⟨ps[i]'(by omega),afH _⟩;have ao:g<W1.heap.size:=by omega
   have d0:wr.cell? ⟨g,off+i,none⟩=some (.string s):=(ae.cell (p:=⟨g,off+i,none⟩) ao).trans (((Aa au).cell (p:=⟨g,off+i,none⟩) aK).trans ((Aa aE) i s hs));have dg:g<wr.heap.size:=by omega
   have ai:=fun q=>World.ownsRow.lt ab q
   obtain⟨la,lc,ap⟩:=AX ab;subst ap;have aI:=Ac ab;have aC:=Ac ae;have aF:=Ac ai;have aJ:=Ac hs;have aW:IntKind.i64.wrap ((i:Int)+1)=(i:Int)+1:=by rw[IntKind.wrap_i64];omega
   clear ab ae ai hs e1 ex d4 d5;go_wp2_with (at_builtin;go_must (refine wpList_append_own_at _ rfl (.tmp 131) (.tmp 140) 37 rfl W1.heap.size 73 i0 (.agg #[.int .i64 0,.string ⟨#[]⟩]) 2 24 Tryz.underlying37 hi az aA aB rfl (by decide) (.slice la i lc) i (V.flat (aeP ps i)) rfl (by exact(Aa aI).alloc _) ⟨_,0,none⟩ 1 1 [.int .i64 0,.string s] rfl rfl (by exact Rh _ _) (by simp[Value.oneCell']) (by unfold maxLen;omega) (by omega) (by simp;omega) ?_;intro v' wz ac aa aj an))
   have aH:Hid (wz.ownsRow W1.heap.size 73 2 v' (i+1) (V.flat (aeP ps (i+1)))):=by
    rw[afa ps i s (Aa aJ),JY,Um,<-JY,<-JY];exact ac
   have aD:=Ac (((Aa aC).alloc ay _).grown aa (by simp;omega) (fun q hq=>((Aa aF) q hq).1));clear ac aa an;go_wp2;go_roundw
   case rel=>exact⟨i+1,by omega,by go_num,Aa aH,Aa aD⟩
   case measure=>simp[intOf];omega
  ·obtain rfl:i=m:=by omega
   have ah:(¬(i:Int)<(ps.length:Int))\/((i:Int)<(ps.length:Int)/\¬(i:Int)<N):=by omega
   have ag:Below w.heap.size w wr:=(Aa au).trans (ae.mono (by omega));have ax:i<=ps.length:=by omega
   by_cases h0:i=0
   ·subst h0;obtain⟨la,lc,ap⟩:=AX ab;subst ap;have HF:Hid (aeT w (fun _=>False) (.slice (some ⟨wr.heap.size,0,none⟩) 1 1) (R.num ((0:Nat):Int) :: aeP ps 0) (wr.alloc (.cells #[.int .i64 0,.string ⟨#[]⟩] 73))):=⟨KJ (row_in w wr ag.size 0 ⟨#[]⟩),Af.Al (ag.alloc ag.size _) _⟩;clear ab ae e1 ex d4 d5;rcases ah with q1|⟨q1,q2⟩;all_goals
     go_wp2_with (at_builtin;go_must (refine aeQ rfl (.tmp 146) (.tmp 147) 37 rfl 73 i0 Tryz.underlying37 hi wr.heap.size 1 1 (by omega) la lc rfl rfl ?_))
     go_returns;exact⟨_,rfl,Aa HF⟩
   ·obtain⟨g',al,hv,af⟩:=ZB ab (by omega);subst hv;have aw:=V.FM (aeP ps i);rw[ae2 ps i ax]at aw;have HR:Hid ((wr.alloc (.cells #[.int .i64 (i:Int),.string ⟨#[]⟩] 73)).ownsRow W1.heap.size 73 2 (.slice (some ⟨wr.heap.size,0,none⟩) 1 1) 1 [.int .i64 (i:Int),.string ⟨#[]⟩]):=⟨rfl,afM ⟨wr.heap.size,1,#[.int .i64 (i:Int),.string ⟨#[]⟩],rfl,ay,heap_alloc_new wr _,afI _,by decide,rfl,rfl⟩⟩;have HS:Hid (∀j u,(V.flat (aeP ps i))[j]?=some u->(wr.alloc (.cells #[.int .i64 (i:Int),.string ⟨#[]⟩] 73)).cell? ((⟨g',0,none⟩:Addr).add j)=some u):=fun j u hj=>by
     have h1:=af j u hj;rw[Addr.add_lit,agn];exact(((Below.refl wr.heap.size wr).alloc (afI _) _).cell (p:=⟨g',j,none⟩) (lt_of_cell h1)).trans h1
    have HZ:Hid (∀(v':Value) (wz:World),wz.ownsRow W1.heap.size 73 2 v' (1+i) ([.int .i64 (i:Int),.string ⟨#[]⟩]++V.flat (aeP ps i))->(wr.alloc (.cells #[.int .i64 (i:Int),.string ⟨#[]⟩] 73)).grownBy wz (some wr.heap.size)->aeT w (fun _=>False) v' (R.num (i:Int) :: aeP ps i) wz):=fun v' wz ho hg=>by
     refine⟨KJ (B:=W1.heap.size) ?_,Af.Al ((ag.alloc ag.size _).grown hg (by simp;omega) (fun k hk=>by cases hk;omega)) _⟩;have e:V.flat (R.num (i:Int) :: aeP ps i)=[.int .i64 (i:Int),.string ⟨#[]⟩]++V.flat (aeP ps i):=rfl;have e2:(R.num (i:Int) :: aeP ps i:List V.It).length=1+i:=by simp[ae2 ps i ax];omega
     unfold V.Row;rw[e,e2];exact ho
    clear ab ae e1 ex d4 d5 af;rcases ah with q1|⟨q1,q2⟩;all_goals
     go_wp2_with (at_builtin;go_must (refine wpList_append_own_at _ rfl (.tmp 146) (.tmp 147) 37 rfl W1.heap.size 73 i0 (.agg #[.int .i64 0,.string ⟨#[]⟩]) 2 24 Tryz.underlying37 hi az aA aB rfl (by decide) (.slice (some ⟨wr.heap.size,0,none⟩) 1 1) 1 [.int .i64 (i:Int),.string ⟨#[]⟩] rfl (Aa HR) ⟨g',0,none⟩ i al (V.flat (aeP ps i)) rfl aw (Aa HS) (V.JX _) (by unfold maxLen;omega) (by omega) (by simp;omega) ?_;intro v' wz ac aa aj an))
     obtain⟨va,vn,vc,aM⟩:=Ar ac;subst aM;have HF:=Ac ((Aa HZ) (.slice va vn vc) wz ac aa);clear ac aa an aj;go_wp2;go_returns;exact⟨_,rfl,Aa HF⟩
def aeY(w:World)(b:Nat)(D:Value)(l:List V.It):Prop:=V.Items w D l/\∀a n c,D=.slice (some a) n c->b<a.block
theorem aeY.keep{D:Value}{l:List V.It}(h:aeY w b D l)(hk:Af S w w')(hS:∀k,b<k->¬S k):aeY w' b D l:=by
 obtain⟨⟨a,cap,h1,h2,h3⟩,h4⟩:=h;refine⟨⟨a,cap,h1,h2,?_⟩,h4⟩;rcases h3 with h3|⟨bb,off,e,aa,hc⟩
 ·exact afJ h3
 ·subst e;have hb:=hS bb (h4 _ _ _ h1);refine afM ⟨bb,off,rfl,afT aa hk.size,fun j x hj=>?_⟩;obtain⟨c1,c2⟩:=hc j x hj;exact⟨(World.cell?_of_block (w:=w) (a:=⟨bb,_,none⟩) (hk.block bb aa hb)).trans c1,(World.cell?_of_block (w:=w) (a:=⟨bb,_,none⟩) (hk.block bb aa hb)).trans c2⟩
def ae0(w:World)(b:Nat)(kind:Int)(l:List R.En):Prop:=
 (kind=0->w.heap[b]?=some (.cells #[.int .i64 (R.BA l 0),aeN,aeN,aeN,aeN] 40 (0,0))) /\
 (kind=1->∃P,w.heap[b]?=some (.cells #[.int .i64 0,P,aeN,aeN,aeN] 40 (0,0))/\ae6 w b P (R.BG l)) /\
 (kind=2->∃d0 d1 d2,w.heap[b]?=some (.cells #[.int .i64 0,aeN,d0,d1,d2] 40 (0,0))/\aeY w b d0 (R.Fq l 0 [])/\aeY w b d1 (R.Fq l 1 [])/\aeY w b d2 (R.Fq l 2 []))
theorem ae6.keep{ps:List ByteArray}(h:ae6 w b P ps)(hk:Af S w w')(hS:∀k,b<k->¬S k):ae6 w' b P ps:=by
 rcases h with h|⟨g,off,cap,aa,h1,h2,h3,h4⟩
 ·exact afJ h
 ·exact afM ⟨g,off,cap,aa,h1,h2,hk.at h3 (hS g h2),h4⟩
theorem ae0.below{kind:Int}(h:ae0 w b kind l)(hb:Below w.heap.size w w'):ae0 w' b kind l:=by
 have hk:=Af.Al hb (fun _=>False);refine⟨fun e=>hk.at (h.1 e) (fun q=>q),fun e=>?_,fun e=>?_⟩
 ·obtain⟨P,h1,h2⟩:=h.2.1 e;exact⟨P,hk.at h1 (fun q=>q),h2.keep hk (fun _ _ q=>q)⟩
 ·obtain⟨d0,d1,d2,h1,h2,h3,h4⟩:=h.2.2 e;exact⟨d0,d1,d2,hk.at h1 (fun q=>q),h2.keep hk (fun _ _ q=>q),h3.keep hk (fun _ _ q=>q),h4.keep hk (fun _ _ q=>q)⟩
theorem afC(h:w.heap[b]?=some (.cells #[.int .i64 0,aeN,aeN,aeN,aeN] 40 (0,0)))(kind:Int):ae0 w b kind []:=by
 have hd:aeY w b aeN []:=⟨⟨none,0,rfl,afI _,afJ rfl⟩,fun a n c e=>by cases e⟩;exact⟨fun _=>h,fun _=>⟨aeN,h,afJ ⟨rfl,rfl⟩⟩,fun _=>⟨aeN,aeN,aeN,h,hd,hd,hd⟩⟩
def aff(w:World)(b k:Nat):Prop:=k=b\/(b<k/\∃cur,w.heap[k]?=some (.cells cur 9 (0,0)))
structure Step(w:World)(b:Nat)(kind:Int)(l:List R.En)(y:R.En)(O:Value)(w':World):Prop where
 out:V.Items w' O (R.Cu kind l y.proc y.arg)
 keeps:Af (aff w b) w w'
 st:ae0 w' b kind (l++[y])
theorem ae4(hT:aeT w (fun k=>k=b) O [R.num n] w')(hd:R.Cu 0 l y.proc y.arg=[R.num n])(hb:w'.heap[b]?=some (.cells #[.int .i64 (R.BA (l++[y]) 0),aeN,aeN,aeN,aeN] 40 (0,0))):Step w b 0 l y O w':=
 ⟨by rw[hd];exact hT.out,hT.keeps.mono (fun k _ e=>afJ e),fun _=>hb,fun e=>by omega,fun e=>by omega⟩
theorem afj{e:Ending}(h:aeW w S b (R.BG (l++[y])) e w')(hS:∀k,S k->aff w b k)(hd:R.Cu 1 l y.proc y.arg=[R.num (R.BG (l++[y])).length]):∃O,e=.returned O/\Step w b 1 l y O w':=by
 obtain⟨O,P,rfl,hT,hb,hp⟩:=h;exact⟨O,rfl,by rw[hd];exact hT.out,hT.keeps.mono (fun k _ q=>hS k q),fun e=>by omega,fun _=>⟨P,hb,hp⟩,fun e=>by omega⟩
theorem ae1{x:V.It}{r:List V.It}(h:V.Items w X v)(hv:v=x :: r):∃xb xo cap,X=.slice (some ⟨xb,xo,none⟩) (r.length+1) cap/\r.length+1<=cap/\xb<w.heap.size/\w.cell? ⟨xb,xo,none⟩=some (.int .i64 x.1)/\w.cell? ⟨xb,xo+1,none⟩=some (.string x.2)/\∀j z,r[j]?=some z->w.cell? ⟨xb,xo+(j+1)*2,none⟩=some (.int .i64 z.1)/\w.cell? ⟨xb,xo+(j+1)*2+1,none⟩=some (.string z.2):=by
 subst hv;obtain⟨a,cap,h1,h2,h3⟩:=h;rcases h3 with h3|⟨b,off,rfl,aa,hc⟩
 ·cases h3
 ·obtain⟨c0,c1⟩:=hc 0 x rfl;exact⟨b,off,cap,h1,h2,aa,by simpa using c0,by simpa using c1,fun j z hz=>hc (j+1) z hz⟩
theorem afg(h0:y.proc=0):R.BG (l++[y])=aeO (R.BG l) (R.Vp y.arg 0):=by
 rw[Rn,if_pos h0];rfl
theorem ae8{ps:List ByteArray}(T:ByteArray)(h:ps.length<=4):((aeO ps T).length:Int)=min 4 ((ps.length:Int)+1):=by
 unfold aeO;split
 ·simp;omega
 ·simp;omega
theorem afi{kind proc:Int}{arg:List R.It}(hs:R.C6 kind proc=some (f,t))(hb:R.Ba f arg=some bs):
  (kind=0/\proc=0/\∃x,arg=[x]/\-32768<=x.1/\x.1<=32767)\/(kind=0/\proc=1/\∃x,arg=[x]/\(x.1=0\/x.1=1))\/(kind=1/\proc=0/\∃x,arg=[x])\/(kind=1/\proc=1/\∃x,arg=[x]/\0<=x.1)\/(kind=2/\proc=0/\∃d k a,arg=d :: k :: a/\(0<=d.1/\d.1<=2)/\a.length<=3):=by
 unfold R.C6 at hs;split at hs
 ·rename_i h0;cases hs;obtain⟨x,hx,g⟩:=R.abK hb;exact afJ ⟨h0.1,h0.2,x,hx,g.2.1,g.2.2⟩
 ·split at hs
  ·rename_i h0;cases hs;obtain⟨x,hx,g⟩:=R.abI hb;have g1:=g.2.1;have g2:=g.2.2;exact afM (afJ ⟨h0.1,h0.2,x,hx,by omega⟩)
  ·split at hs
   ·rename_i h0;cases hs;obtain⟨x,hx,_⟩:=R.XF hb;exact afM (afM (afJ ⟨h0.1,h0.2,x,hx⟩))
   ·split at hs
    ·rename_i h0;cases hs;obtain⟨x,hx,g⟩:=R.abJ hb;exact afM (afM (afM (afJ ⟨h0.1,h0.2,x,hx,g.2.1⟩)))
    ·split at hs
     ·rename_i h0;cases hs;obtain⟨d,k,a,g1,g2,g3,g4,_⟩:=R.XE hb;have:=g3.2.2;exact afM (afM (afM (afM ⟨h0.1,h0.2,d,k,a,g1,g2.2,by omega⟩)))
     ·cases hs
theorem ae3{out:List R.It}{d0 d1 d2 c:Value}{dn:Nat}(ac:dn<3)(ab:R.IY y.arg 0=dn)(h0:aeY w b d0 (R.Fq l 0 []))(h1:aeY w b d1 (R.Fq l 1 []))(h2:aeY w b d2 (R.Fq l 2 []))(hc:aeY w b c (y.arg.drop 2))(hT:aeT w (fun k=>k=b) O out w')(hd:R.Cu 2 l y.proc y.arg=out)(hb:w'.heap[b]?=some (.cells ([.int .i64 0,aeN,d0,d1,d2].set (2+dn) c).toArray 40 (0,0))):Step w b 2 l y O w':=by
 have aa:∀k,b<k->¬k=b:=fun k hk e=>by omega
 have hk:=hT.keeps;have l0:=KA l y 0 [];have l1:=KA l y 1 [];have l2:=KA l y 2 [];rw[ab]at l0 l1 l2;refine⟨by rw[hd];exact hT.out,hk.mono (fun k _ e=>afJ e),fun e=>by omega,fun e=>by omega,fun _=>?_⟩;obtain rfl|rfl|rfl:dn=0\/dn=1\/dn=2:=by omega
 ·exact⟨c,d1,d2,hb,by rw[l0,if_pos (by omega)];exact hc.keep hk aa,by rw[l1,if_neg (by omega)];exact h1.keep hk aa,by rw[l2,if_neg (by omega)];exact h2.keep hk aa⟩
 ·exact⟨d0,c,d2,hb,by rw[l0,if_neg (by omega)];exact h0.keep hk aa,by rw[l1,if_pos (by omega)];exact hc.keep hk aa,by rw[l2,if_neg (by omega)];exact h2.keep hk aa⟩
 ·exact⟨d0,d1,c,hb,by rw[l0,if_neg (by omega)];exact h0.keep hk aa,by rw[l1,if_neg (by omega)];exact h1.keep hk aa,by rw[l2,if_pos (by omega)];exact hc.keep hk aa⟩
theorem afo(w:World)(b:Nat)(kind:Int)(l:List R.En)(y:R.En)(X Y:Value)(h:ae0 w b kind l)(hX:V.Items w X y.arg)(ax:∀a n c,X=.slice (some a) n c->b<a.block)(hs:R.C6 kind y.proc=some (f,t))(ay:R.Ba f y.arg=some bs)(hl:R.JF kind l):
  Calls Tryz.prog 12 #[ptr b,.int .i64 kind,enV y.client y.Ae y.line y.seq y.proc X Y] w fun e w'=>∃O,e=.returned O/\Step w b kind l y O w':=by
 have ap:=R.F7 l 0 (by decide);rcases afi hs ay with ⟨rfl,hp,x,hx,h1,h2⟩|⟨rfl,hp,x,hx,h1⟩|⟨rfl,hp,x,hx⟩|⟨rfl,hp,x,hx,h1⟩|⟨rfl,hp,d,k,a,hx,h1,h2⟩
 ·obtain⟨xb,xo,cap,rfl,g1,g2,c0,_,_⟩:=ae1 hX hx;have hA:R.IY y.arg 0=x.1:=by rw[hx];rfl
  rw[hp];refine(afw w b (R.BA l 0) x.1 y.client y.Ae y.line y.seq xb xo _ cap Y (h.1 rfl) ap ⟨h1,h2⟩ c0 (by omega)).mono ?_;rintro e w' ⟨O,rfl,hT,hb⟩;refine⟨O,rfl,ae4 hT ?_ ?_⟩
  ·unfold R.Cu;rw[if_pos rfl,if_pos hp,hA]
  ·rw[Pe,if_pos hp,hA];exact hb
 ·obtain⟨xb,xo,cap,rfl,g1,g2,c0,_,_⟩:=ae1 hX hx;have hA:R.IY y.arg 0=x.1:=by rw[hx];rfl
  rw[hp];refine(afc w b (R.BA l 0) x.1 y.client y.Ae y.line y.seq xb xo _ cap Y (h.1 rfl) ap h1 c0 (by omega)).mono ?_;rintro e w' ⟨O,rfl,hT,hb⟩;refine⟨O,rfl,ae4 hT ?_ ?_⟩
  ·unfold R.Cu;rw[if_pos rfl,if_neg (by omega)]
  ·rw[Pe,if_neg (by omega),hA];exact hb
 ·obtain⟨xb,xo,cap,rfl,g1,g2,_,c1,_⟩:=ae1 hX hx;have hS:R.Vp y.arg 0=x.2:=by rw[hx];rfl
  have h4:=R.Jv l;obtain⟨P,hb,ai⟩:=h.2.1 rfl;have an:=afg (l:=l) hp;rw[hS]at an;have hd:R.Cu 1 l y.proc y.arg=[R.num (R.BG (l++[y])).length]:=by
   unfold R.Cu;rw[if_neg (by omega),if_pos rfl,if_pos hp,an,ae8 _ h4]
  have ab:∀(S:Nat->Prop),(∀k,S k->aff w b k)->Calls Tryz.prog 12 #[ptr b,.int .i64 1,enV y.client y.Ae y.line y.seq 0 (.slice (some ⟨xb,xo,none⟩) (([]:List V.It).length+1) cap) Y] w (aeW w S b (aeO (R.BG l) x.2))->Calls Tryz.prog 12 #[ptr b,.int .i64 1,enV y.client y.Ae y.line y.seq 0 (.slice (some ⟨xb,xo,none⟩) (([]:List V.It).length+1) cap) Y] w fun e w'=>∃O,e=.returned O/\Step w b 1 l y O w':=fun S aw hC=>by
   refine hC.mono ?_;intro e w' hP;rw[<-an]at hP;exact afj hP aw hd
  rw[hp];rcases ai with ⟨h0,rfl⟩|⟨g,off,pc,ao,rfl,ar,ac,au,hm,af,aa⟩
  ·refine ab (fun k=>k=b) (fun k e=>afJ e) ?_;rw[h0];exact ae5 w b none 0 [] x.2 y.client y.Ae y.line y.seq xb xo _ cap Y hb (by simp) (fun _=>⟨rfl,rfl⟩) (fun p hp=>by cases hp) (by simp) c1 (by omega)
  ·by_cases hr:(R.BG l).length+1<=pc
   ·obtain⟨cl⟩:=ao;refine ab (fun k=>k=b\/k=g) (fun k e=>e.elim afJ (fun e=>afM ⟨by omega,_,e ▸ ac⟩)) ?_;exact afm w b g off pc cl (R.BG l) x.2 y.client y.Ae y.line y.seq xb xo _ cap Y hb h4 ac ar hr hm (by simpa using af) (fun j s hj=>by simpa using aa j s hj) c1 (by omega)
   ·refine ab (fun k=>k=b) (fun k e=>afJ e) ?_;refine ae5 w b (some ⟨g,off,none⟩) pc (R.BG l) x.2 y.client y.Ae y.line y.seq xb xo _ cap Y hb h4 (fun e=>by cases e) (fun p hp j u hj=>?_) (by omega) c1 (by omega);cases hp;obtain⟨s,aK,rfl⟩:=aft hj;have:=aa j s aK;rw[Addr.add_lit];simp[World.cell?,ac,this]
 ·obtain⟨xb,xo,cap,rfl,g1,g2,c0,_,_⟩:=ae1 hX hx;have hA:R.IY y.arg 0=x.1:=by rw[hx];rfl
  have h4:=R.Jv l;obtain⟨P,hb,ai⟩:=h.2.1 rfl;have am:=ai;obtain⟨pa,g,off,pc,rfl,aH,aJ,af⟩:∃pa g off pc,P=.slice pa (R.BG l).length pc/\(R.BG l).length<=pc/\(0<(R.BG l).length->pa=some ⟨g,off,none⟩/\g<w.heap.size)/\∀i s,(R.BG l)[i]?=some s->w.cell? ⟨g,off+i,none⟩=some (.string s):=by
   rcases ai with ⟨h0,rfl⟩|⟨g,off,pc,ao,rfl,ar,ac,au,hm,af,aa⟩
   ·exact⟨none,0,0,0,by rw[h0];rfl,by rw[h0];exact afI _,fun q=>by rw[h0]at q;simp at q,fun i s q=>by rw[h0]at q;simp at q⟩
   ·exact⟨_,g,off,pc,rfl,au,fun _=>⟨rfl,lt_of_block ac⟩,fun i s hi=>by simp[World.cell?,ac,aa i s hi]⟩
  rw[hp];refine(afn w b pa g off pc (min (R.BG l).length x.1.toNat) (R.BG l) x.1 y.client y.Ae y.line y.seq xb xo _ cap Y hb h4 aH aJ af rfl h1 c0 (by omega)).mono ?_;rintro e w' ⟨O,rfl,hT⟩;have hk:=hT.keeps;refine⟨O,rfl,?_,hk.mono (fun k _ e=>e.elim),fun e=>by omega,fun _=>⟨_,hk.at hb (fun q=>q),?_⟩,fun e=>by omega⟩
  ·have hd:R.Cu 1 l y.proc y.arg=R.num (min (R.BG l).length x.1.toNat:Nat) :: aeP (R.BG l) (min (R.BG l).length x.1.toNat):=by
    unfold R.Cu aeP;rw[if_neg (by omega),if_pos rfl,if_neg (by omega),hA];have e:(R.BG l).take x.1.toNat=(R.BG l).take (min (R.BG l).length x.1.toNat):=by
     rw[Nat.min_comm,<-List.take_take,agW]
    simp only[aga,<-e];rw[Nat.min_comm]
   rw[hd];exact hT.out
  ·rw[Rn,if_neg (by omega)];exact am.keep hk (fun _ _ q=>q)
 ·obtain⟨xb,xo,cap,rfl,g1,g2,c0,_,hr⟩:=ae1 hX hx;have hA:R.IY y.arg 0=d.1:=by rw[hx];rfl
  obtain⟨dn,ah⟩:∃dn:Nat,d.1=dn:=⟨d.1.toNat,by omega⟩;obtain⟨d0,d1,d2,hb,q0,q1,q2⟩:=h.2.2 rfl;have av:=ax _ _ _ rfl;simp only at av;rw[ah]at c0;have ag:dn<3:=by omega
  have aC:y.arg.drop 2=a:=by rw[hx];rfl
  have al:(k :: a).length+1=a.length+2:=by simp
  have ad:aeY w b (afp xb xo ((k :: a).length+1) cap) (y.arg.drop 2):=by
   rw[aC];refine⟨⟨_,cap-2,by rw[al];rfl,by simp at g1;omega,?_⟩,fun a' n c e=>by cases e;exact av⟩;by_cases ha:a=[]
   ·exact afJ ha
   ·have aI:0<a.length:=agN.2 ha;have az:¬cap=2:=by simp at g1;omega
    rw[if_neg az];refine afM ⟨xb,xo+4,rfl,g2,fun j z hz=>?_⟩;obtain⟨r1,r2⟩:=hr (j+1) z hz;rw[show xo+(j+1+1)*2=xo+4+j*2 by omega]at r1 r2;exact⟨r1,r2⟩
  obtain⟨dd,aq,aD⟩:∃dd,([.int .i64 0,aeN,d0,d1,d2]:List Value)[2+dn]?=some dd/\aeY w b dd (R.Fq l d.1 []):=by
   rw[ah];obtain rfl|rfl|rfl:dn=0\/dn=1\/dn=2:=by omega
   ·exact⟨d0,rfl,q0⟩
   ·exact⟨d1,rfl,q1⟩
   ·exact⟨d2,rfl,q2⟩
  have aM:=(R.GV l hl d.1 [] (by simp)).1;obtain⟨⟨da,dc,rfl,aL,aB⟩,aA⟩:=aD;rw[hp];by_cases ae:R.Fq l d.1 []=[]
  ·have ak:([.int .i64 0,aeN,d0,d1,d2]:List Value)[2+dn]?=some (.slice da 0 dc):=by rw[aq,ae];rfl
   refine(afd w b dn xb xo _ cap dc da _ y.client y.Ae y.line y.seq Y ag (by simp) g1 hb ak c0).mono ?_;rintro e w' ⟨O,rfl,hT,aj⟩;refine⟨O,rfl,ae3 ag (hA.trans ah) q0 q1 q2 ad hT ?_ aj⟩;unfold R.Cu;rw[if_neg (by omega),if_neg (by omega),hA,ae];rfl
  ·obtain⟨lb,lo,rfl,aG,hc⟩:=aB.resolve_left ae;have aF:=aA _ _ _ rfl;simp only at aF;refine(afl w b dn xb xo _ cap lb lo dc (R.Fq l d.1 []) _ y.client y.Ae y.line y.seq Y ag (by simp) g1 ae (by omega) hb aq c0 aG (by omega) hc).mono ?_;rintro e w' ⟨O,rfl,hT,aj⟩;refine⟨O,rfl,ae3 ag (hA.trans ah) q0 q1 q2 ad hT ?_ aj⟩;unfold R.Cu;have aE:¬(R.Fq l d.1 []).length=0:=fun e=>ae (agL.1 e)
   rw[if_neg (by omega),if_neg (by omega),hA];simp only[aE,if_false]
theorem afE:∀args w,(callFunc 12 args).run Tryz.prog w=.ok (.enter 12 args) w:=fun _ _=>rfl
theorem Au.afA{q:RP}(h:Au w0 q p c s G w)(hI:R.Inv M G){u:Nat}{sv:R.Sv}(hs:G.Ab[u]?=some sv)(hy:sv.log[i]?=some y):
  Calls Tryz.prog 10 #[ptr q.x,.int .i64 ((u:Int)+1),.int .i64 (i:Int)] w fun e w'=>(∃xa xn xc ya yn yc,e=.returned (.tuple #[enV y.client y.Ae y.line y.seq y.proc (.slice xa xn xc) (.slice ya yn yc),.int .i64 0])/\V.Row w' w.heap.size (.slice xa xn xc) y.arg/\V.Row w' w.heap.size (.slice ya yn yc) y.result)/\Below w.heap.size w w':=by
 obtain⟨tp,E,F,a1,a2,a3,a4⟩:=h.run;have hu:=(afG.1 hs).1;have aa:R.DJ G ((u:Int)+1) (i:Int)=some y:=by
  unfold R.DJ R.Ho;rw[if_pos (by unfold R.Ip;omega),show ((u:Int)+1-1).toNat=u by omega,hs];simpa using hy
 have:=a2.entry hI ((u:Int)+1) (i:Int);rw[aa]at this;rw[h.x];refine this.mono ?_;rintro e w' ⟨⟨X,Y,rfl,r1,r2⟩,hb⟩;obtain⟨xa,xn,xc,rfl⟩:=EP (KJ r1);obtain⟨ya,yn,yc,rfl⟩:=EP (KJ r2);exact⟨⟨xa,xn,xc,ya,yn,yc,rfl,r1,r2⟩,hb⟩
theorem afh(h:V.Row w B X v):∀a n c,X=.slice (some a) n c->B<=a.block:=by
 intro a n c e;rcases h.2 with ⟨e',_⟩|⟨g,cap,ab,e',aa,_⟩
 ·rw[e']at e;cases e
 ·rw[e']at e;cases e;exact aa
theorem afs(h:V.Row w B X v)(hk:Af (aff w b) w w')(hB:b<B):V.Row w' B X v:=by
 refine hk.row h (fun j hj hS=>?_);rcases h.2 with ⟨e',_⟩|⟨g,cap,ab,e',ac,hg,_⟩
 ·rw[e']at hj;cases hj
 ·rw[e']at hj;cases hj;rcases hS with e|⟨_,aa,hc⟩
  ·simp only at *;omega
  ·rw[hg]at hc;cases hc
structure ae7(w:World)(r x kb kc:Nat)(kinds:List Int):Prop where
 r0:w.cell? ⟨r,0,none⟩=some (ptr x)
 KG:w.cell? ⟨r,10,none⟩=some (.int .i64 (kinds.length:Int))
 r12:w.cell? ⟨r,12,none⟩=some (.slice (some ⟨kb,0,none⟩) kinds.length kc)
 k:∀u n,kinds[u]?=some n->w.cell? ⟨kb,u,none⟩=some (.int .i64 n)
theorem ae7.below{r x kb kc:Nat}{kinds:List Int}(h:ae7 w r x kb kc kinds)(hb:Below w.heap.size w w'):ae7 w' r x kb kc kinds:=
 ⟨(hb.cell (p:=⟨r,0,none⟩) (lt_of_cell h.r0)).trans h.r0,(hb.cell (p:=⟨r,10,none⟩) (lt_of_cell h.r0)).trans h.KG,(hb.cell (p:=⟨r,12,none⟩) (lt_of_cell h.r0)).trans h.r12,fun u n hn=>(hb.cell (p:=⟨kb,u,none⟩) (lt_of_cell (h.k u n hn))).trans (h.k u n hn)⟩
structure afF(w:World)(r x kb kc:Nat)(sv:List R.Sv):Prop where
 at':ae7 w r x kb kc (sv.map (·.kind))
 few:sv.length<=255
 log:∀s∈sv,s.log.length<=3000000
 arg:∀(u:Nat) (s:R.Sv) (i:Nat) (y:R.En),sv[u]?=some s->s.log[i]?=some y->∃f t bs,R.C6 s.kind y.proc=some (f,t)/\R.Ba f y.arg=some bs/\R.JF s.kind (s.log.take i)/\y.result=R.Cu s.kind (s.log.take i) y.proc y.arg/\y.result.length<=1000
 some:0<(A9 sv).length
 h9:∀wr (u:Nat) (s:R.Sv),Below w.heap.size w wr->sv[u]?=.some s->Calls Tryz.prog 9 #[ptr x,.int .i64 ((u:Int)+1)] wr fun e w'=>e=.returned (.tuple #[.int .i64 (s.log.length:Int),.int .i64 0])/\Below wr.heap.size wr w'
 h10:∀wr (u i:Nat) (s:R.Sv) (y:R.En),Below w.heap.size w wr->sv[u]?=.some s->s.log[i]?=.some y->Calls Tryz.prog 10 #[ptr x,.int .i64 ((u:Int)+1),.int .i64 (i:Int)] wr fun e w'=>(∃xa xn xc ya yn yc,e=.returned (.tuple #[enV y.client y.Ae y.line y.seq y.proc (.slice xa xn xc) (.slice ya yn yc),.int .i64 0])/\V.Row w' wr.heap.size (.slice xa xn xc) y.arg/\V.Row w' wr.heap.size (.slice ya yn yc) y.result)/\Below wr.heap.size wr w'
 h11:∀wr (u i:Nat) (s:R.Sv) (y:R.En) (xa ya:Option Addr) (xn xc yn yc:Nat),Below w.heap.size w wr->sv[u]?=.some s->s.log[i]?=.some y->V.Items wr (.slice xa xn xc) y.arg->Calls Tryz.prog 11 #[ptr r,.int .i64 ((u:Int)+1),enV y.client y.Ae y.line y.seq y.proc (.slice xa xn xc) (.slice ya yn yc)] wr fun e w'=>(∃k:Nat,e=.returned (.int .i64 (k:Int)))/\Below wr.heap.size wr w'
theorem afe{v:List R.It}(h:R.Ba t v=some bs):v.length<=1000:=by
 have:=GL h;omega
theorem GB.asks{q:RP}(h:GB w0 q p c s M G w):∃kb kc,afF w q.r q.x kb kc G.Ab:=by
 obtain⟨hm,hd,ha⟩:=h.made;have aa:=h.both.cells;have hI:=h.agree.inv;have ad:=h.agree.kinds;have au:0<s.kinds.length:=by rw[ad,af0,<-h.agree.dl];exact hd
 obtain⟨tp,E,F,hr,a2,a3,a4⟩:=h.both.run;obtain⟨kb,kc,hK,am⟩:=ZB hr.K au;obtain⟨mb,mc,hM,ao⟩:=ZB hr.M hm;obtain⟨db,dc,hD,ak⟩:=ZB hr.D hd;have r9:=aa.a9;have Zn:=aa.NP;have r12:=aa.a12;rw[hM]at r9;rw[hD]at Zn;rw[hK]at r12;have ab:∀(u:Nat) (sv:R.Sv) (y:R.En),G.Ab[u]?=some sv->y∈sv.log->∃d f t bs,M (R.Bl y)=some d/\R.C6 sv.kind y.proc=some (f,t)/\R.Ba f y.arg=some bs:=fun u sv y hs hy=>by
  obtain⟨d,d1,d2,d3,d4⟩:=JU hI hs hy;obtain⟨ag,_⟩:=hI.bk _ _ d1;have ai:=ag.sig;have ar:R.Io G.Ab d.uid=sv.kind:=by
   unfold R.Io;rw[d2,show ((u:Int)+1-1).toNat=u by omega,hs];rfl
  rw[ar,<-d3]at ai;have af:=ag.bs;rw[<-d4]at af;exact⟨d,_,_,_,d1,ai,af⟩
 have an:Jg w q.r q.x mb mc db dc s.made s.dead s.nu:=⟨aa.a0,r9,aa.JB,Zn,fun j z hz cc v hv=>ao _ _ (by
  have aq:cc<7:=(afG.1 hv).1;rw[E7 QW s.made j cc z hz aq];exact hv),fun u n hn=>ak _ _ (Ew hn),fun z hz=>(hr.args z hz).items⟩
 refine⟨kb,kc,⟨aa.a0,?_,?_,fun u n hn=>am _ _ (Ew (by rw[ad];exact hn))⟩,hI.wf.sv,fun sv hs=>?_,fun u sv i y hs hy=>?_,ha,fun wr u sv hb hs=>(h.both.still hb).aa0 hs,fun wr u i sv y hb hs hy=>(h.both.still hb).afA hI hs hy,fun wr u i sv y xa ya xn xc yn yc hb hs hy al=>?_⟩
 ·rw[af0,<-h.agree.nu];exact aa.JB
 ·rw[<-ad];exact r12
 ·obtain⟨u,hu,rfl⟩:=agu hs;exact hI.PG (afH hu)
 ·obtain⟨d,f,t,bs,d1,d2,d3⟩:=ab u sv y hs (afU hy);have ah:=hI.lg u sv hs;obtain⟨d',rb,q1,q2,q3,q4,q5,q6⟩:=(ah.each y (afU hy)).some;refine⟨f,t,bs,d2,d3,fun e he=>?_,ah.told i y hy,afe q5⟩;obtain⟨_,f',t',b',_,g2,g3⟩:=ab u sv e hs (List.mem_of_mem_take he);exact⟨f',t',b',g2,g3⟩
 ·obtain⟨d,d1,d2,d3,d4⟩:=JU hI hs (afU hy);obtain⟨k,m,b1,b2,b3,b4,b5⟩:=h.agree.book.at d1;have ac:=b1;rw[afW]at ac;cases hz:s.made[k]? with
  |none=>rw[hz]at ac;cases ac
  |some z=>
   rw[hz]at ac;obtain rfl:z.1=m:=Option.some.inj ac;have aj:∀{j:Nat} {z':Mk×Value},s.made[j]?=some z'->(s.made.map (·.1))[j]?=some z'.1:=fun ae=>by simp[ae]
   obtain⟨_,_,_,_,_,_,g3⟩:=ab u sv y hs (afU hy);refine(Tp wr q.r q.x mb mc db dc k s.made s.dead s.nu ((u:Int)+1) y xa ya xn xc yn yc z (an.below hb) al h.agree.ml (afe g3) hz b2 (by omega) (by rw[b4,d3]) (by rw[b5,d4]) (fun j z' hj ae e=>?_)).mono ?_
   ·have:=h.agree.book.uniq (aj ae) b1 (e.trans b2.symm);omega
   ·rintro e w' ⟨rfl,ap⟩;exact⟨⟨k,rfl⟩,ap⟩
theorem aeR(h:V.Row w B X v)(hb:Below w.heap.size w w'):V.Row w' B X v:=(Af.Al hb (fun _=>False)).row h (fun _ _ q=>q)
abbrev afz(y:R.En)(X Y:Value):Array Value:=#[.int .i64 y.client,.int .i64 y.Ae,.int .i64 y.line,.int .i64 y.seq,.int .i64 y.proc,X,Y]
structure After(w1:World)(bb xb:Nat)(kind:Int)(l:List R.En)(y:R.En)(X Y O:Value)(w':World):Prop where
 below:Below w1.heap.size w1 w'
 st:ae0 w' bb kind l
 lt:bb<w'.heap.size
 out:V.Items w' O y.result
 res:V.Items w' Y y.result
 x:w'.heap[xb]?=some (.cells (afz y X Y) 45 (0,0))
theorem afk{w1 w4:World}{bb xb:Nat}{kind:Int}{log:List R.En}{Y:Value}(h1:Below w1.heap.size w1 w4)(hB:w1.heap.size<=bb)(ac:bb<B)(ad:bb<w4.heap.size)(hy:log[i]?=some y)(ae:ae0 w4 bb kind (log.take i))(r1:V.Row w4 B X y.arg)(r2:V.Row w4 B Y y.result)(hx:w4.heap[xb]?=some (.cells (afz y X Y) 45 (0,0)))(ag:bb<xb)(g1:R.C6 kind y.proc=some (f,t))(g2:R.Ba f y.arg=some bs)(g3:R.JF kind (log.take i))(g4:y.result=R.Cu kind (log.take i) y.proc y.arg)(W:World)(hW:Below w4.heap.size w4 W):
  Calls Tryz.prog 12 #[ptr bb,.int .i64 kind,enV y.client y.Ae y.line y.seq y.proc X Y] W fun e w'=>∃O,e=.returned O/\After w1 bb xb kind (log.take (i+1)) y X Y O w':=by
 refine(afo W bb kind (log.take i) y X Y (ae.below hW) (KJ (aeR r1 hW)) (fun a n c e=>by have:=afh r1 a n c e;omega) g1 g2 g3).mono ?_;rintro e w' ⟨O,rfl,hS⟩;have hk:=hS.keeps;have ab:=hW.size;have aa:=h1.trans (hW.mono h1.size);have ht:log.take (i+1)=log.take i++[y]:=by rw[agH,hy];rfl
 refine⟨O,rfl,aa.trans (hk.below aa.size (fun k hk=>?_)),by rw[ht];exact hS.st,afT (afT ad ab) hk.size,by rw[g4];exact hS.out,KJ (afs (aeR r2 hW) hk ac),hk.at ((hW.block _ (lt_of_block hx)).trans hx) (fun q=>?_)⟩
 ·rcases hk with rfl|⟨q,_⟩
  ·exact hB
  ·omega
 ·rcases q with q|⟨_,af,q⟩
  ·omega
  ·rw[(hW.block _ (lt_of_block hx)).trans hx]at q;cases q
theorem afx(cl ln rt tr tb:Int)(va:Option Addr)(vn vc:Nat)(aZ:In64 cl)(b2:In64 ln)(b4:In64 rt)(b7:In64 tr)(b6:In64 tb)(w:World)(hV:KX w va vn)(b9:vn<=maxLen)(ht:Ec w)(h0:0<w.heap.size):
  Calls Tryz.prog 4 #[UK cl ln rt tr tb,.slice va vn vc] w fun e w'=>e=.returned (.bool true)/\Below w.heap.size w w':=by
 obtain⟨BX,aq⟩:∃BX,w.alloc (.cells #[.int .i64 cl,.int .i64 ln,.int .i64 rt,.int .i64 tr,.int .i64 tb] 23)=BX:=⟨_,rfl⟩;have al:Below w.heap.size w BX:=by
  rw[<-aq];exact(Below.refl _ _).alloc (afI _) _
 have aj:BX.heap[w.heap.size]?=some (.cells #[.int .i64 cl,.int .i64 ln,.int .i64 rt,.int .i64 tr,.int .i64 tb] 23 (0,0)):=by
  rw[<-aq];exact heap_alloc_new w _
 have br:=lt_of_block aj;have aI:=Ac aq;have aU:KX BX va vn:=hV.below al;have HP:=Ac (TS cl ln rt tr tb va vn vc aZ b2 b4 b7 b6 BX aU b9 (ht.below al) (by have:=al.size;omega));have aw:=Ac al;clear aZ b2 b4 b7 b6 hV b9 ht aq aj aU al;go_enter Tryz.func4,Tryz.ntmps4;go_wp2_with fail
 rw[Aa aI];refine(Aa HP).mono ?_;rintro e w1 ⟨w0,q,p,c,rfl,aA⟩;obtain⟨s,M,G,hO⟩:=aA.ok;obtain⟨kb,kc,hA⟩:=hO.asks;have aH:Hid (Below w.heap.size w w1):=(Aa aw).trans (aA.below.mono (Aa aw).size);have hq:∀w,(binOp .eql 25 (ptr q.r) (.pointer none)).run Tryz.prog w=.ok (.bool false) w:=fun w=>by kernel_rfl
 have aD:=UF G.Ab hA.log;have az:=hA.few;have aF:=hA.some;clear aA hO;generalize G.Ab=sv at hA aD az aF;have HA:=Ac hA;clear hA HP aw aI;go_wp2_with fail
 go_loopw [6,7] (fun av uv wr=>∃u:Nat,u<=sv.length/\uv=.int .i64 ((u:Int)+1)/\av=.int .i64 ((CH sv u 0).length:Int)/\Below w1.heap.size w1 wr) (fun _ uv _=>sv.length+1-(intOf uv).toNat)
 case atStart=>exact⟨0,af8 _,rfl,rfl,Below.refl _ _⟩
 case round=>
  obtain⟨u,hu,rfl,rfl,hb⟩:=hrel;obtain⟨r0,KG,r12,hk⟩:=(Aa HA).at'.below hb;rw[af0]at KG r12;have bq:=lt_of_cell r0;by_cases b3:u<sv.length
  ·have hs:sv[u]?=some sv[u]:=afH b3;have an:=(Aa HA).log sv[u] (agr b3);generalize sv[u]=sr at hs an;have bo:((u:Int)+1<=(sv.length:Int)):=by omega
   have bA:IntKind.i64.wrap ((u:Int)+1+1)=((u+1:Nat):Int)+1:=by rw[IntKind.wrap_i64];omega
   obtain⟨WS,am⟩:∃WS,wr.alloc (.cells #[.int .i64 0,.slice none 0 0,.slice none 0 0,.slice none 0 0,.slice none 0 0] 40)=WS:=⟨_,rfl⟩;have aY:Below wr.heap.size wr WS:=by rw[<-am];exact(Below.refl _ _).alloc (afI _) _
   have b5:ae0 WS wr.heap.size sr.kind []:=afC (by rw[<-am];exact heap_alloc_new wr _) _;have b1:wr.heap.size<WS.heap.size:=by rw[<-am];simp
   have ae:Below w1.heap.size w1 WS:=hb.trans (aY.mono hb.size);have bd:=hb.size;have HC:=Ac ((Aa HA).h9 WS u sr ae hs);have aO:=Ac am;have ah:=Ac hs;have aK:Hid (∀w2,Below WS.heap.size WS w2->Below w1.heap.size w1 w2/\ae0 w2 wr.heap.size sr.kind []/\wr.heap.size<w2.heap.size):=fun w2 h2=>⟨ae.trans (h2.mono ae.size),b5.below h2,afT b1 h2.size⟩
   clear hb hk am aY b5 ae hs r12 b1;go_wp2_with fail
   rw[Aa aO];refine(Aa HC).mono ?_;rintro e w2 ⟨rfl,aV⟩;have ay:=Ac ((Aa aK) w2 aV);clear HC aO aK aV r0 KG;generalize wr.heap.size=bb at *;go_wp2_with fail
   go_loopw [6,11] (fun av iv wk=>∃i:Nat,i<=sr.log.length/\iv=.int .i64 (i:Int)/\av=.int .i64 ((CH sv u i).length:Int)/\Below w1.heap.size w1 wk/\ae0 wk bb sr.kind (sr.log.take i)/\bb<wk.heap.size) (fun _ iv _=>sr.log.length-(intOf iv).toNat)
   case atStart=>exact⟨0,af8 _,rfl,rfl,(Aa ay).1,(Aa ay).2.1,(Aa ay).2.2⟩
   case round=>
    obtain⟨i,hi,rfl,rfl,ai,aB,be⟩:=hrel;have aC:=(Aa HA).at'.below ai;have r0:=aC.r0;have bf:=lt_of_cell r0;by_cases aE:i<sr.log.length
    ·have hy:sr.log[i]?=some sr.log[i]:=afH aE;generalize sr.log[i]=y at hy;have bv:(i:Int)<(sr.log.length:Int):=by omega
     obtain⟨f,t,bs,g1,g2,g3,g4,g5⟩:=(Aa HA).arg u sr i y (Aa ah) hy;have aG:(CH sv u (i+1)).length=(CH sv u i).length+1:=by rw[IV (Aa ah) hy];simp
     have bi:(CH sv u (i+1)).length<=(A9 sv).length:=(FX (i:=i+1) hu).length_le;have bz:IntKind.i64.wrap (((CH sv u i).length:Int)+1)=((CH sv u (i+1)).length:Int):=by rw[IntKind.wrap_i64];omega
     have bD:IntKind.i64.wrap ((i:Int)+1)=(i:Int)+1:=by rw[IntKind.wrap_i64];omega
     have bB:IntKind.i64.wrap ((u:Int)+1-1)=(u:Int):=by rw[IntKind.wrap_i64];omega
     have bC:IntKind.i64.wrap (u:Int)=(u:Int):=by rw[IntKind.wrap_i64];omega
     have bt:(0:Int)<=(u:Int):=by omega
     have bu:(u:Int)<(sv.length:Int):=by omega
     have HC:=Ac ((Aa HA).h10 wr u i sr y ai (Aa ah) hy);have aM:=Ac aB;have ak:=Ac ai;have aP:=Ac hy;have aJ:=Ac (And.intro g1 (And.intro g2 (And.intro g3 (And.intro g4 g5))));clear aC aB ai hy g1 g2 g3 g4 g5 aG bi;go_wp2_with (go_at_call 10;refine(Aa HC).mono ?_;rintro e w3 ⟨⟨xa,xn,xc,ya,yn,yc,rfl,aR,aS⟩,aW⟩;have HR:=Ac (And.intro aR aS);have ao:=Ac aW;clear aR aS aW HC)
     clear r0;obtain⟨W3,ar⟩:∃W3,w3.alloc (.cells #[.int .i64 y.client,.int .i64 y.Ae,.int .i64 y.line,.int .i64 y.seq,.int .i64 y.proc,.slice xa xn xc,.slice ya yn yc] 45)=W3:=⟨_,rfl⟩;have aj:W3.heap[w3.heap.size]?=some (.cells (afz y (.slice xa xn xc) (.slice ya yn yc)) 45 (0,0)):=by rw[<-ar];exact heap_alloc_new w3 _
     have aa:Below w3.heap.size w3 W3:=by rw[<-ar];exact(Below.refl _ _).alloc (afI _) _
     rw[ar];have bw:=(Aa ao).size;have af:=(Aa ak).trans ((Aa ao).mono (Aa ak).size);have au:=af.trans (aa.mono af.size);have hF:=(Aa HA).h11 W3 u i sr y xa ya xn xc yn yc au (Aa ah) (Aa aP) (KJ (aeR (Aa HR).1 aa));have HF:=Ac hF;have aN:Hid (∀w4,Below W3.heap.size W3 w4->Below w1.heap.size w1 w4/\w4.heap[w3.heap.size]?=some (.cells (afz y (.slice xa xn xc) (.slice ya yn yc)) 45 (0,0))/\∀W,Below w4.heap.size w4 W->Calls Tryz.prog 12 #[ptr bb,.int .i64 sr.kind,enV y.client y.Ae y.line y.seq y.proc (.slice xa xn xc) (.slice ya yn yc)] W fun e w'=>∃O,e=.returned O/\After w1 bb w3.heap.size sr.kind (sr.log.take (i+1)) y (.slice xa xn xc) (.slice ya yn yc) O w'):=fun w4 ad=>by
      have h1:=au.trans (ad.mono au.size);have ab:=(ad.block _ (lt_of_block aj)).trans aj;obtain⟨g1,g2,g3,g4,_⟩:=Aa aJ;refine⟨h1,ab,fun W hW=>?_⟩;have hz:=ad.size;have bE:=aa.size;exact afk (B:=wr.heap.size) h1 bd be (by omega) (Aa aP) (((Aa aM).below (Aa ao)).below aa |>.below ad) (aeR (aeR (Aa HR).1 aa) ad) (aeR (aeR (Aa HR).2 aa) ad) ab (by omega) g1 g2 g3 g4 W hW
     clear aj aa af au hF HR ao ak aM ar;refine(Aa HF).mono ?_;rintro e w4 ⟨⟨k,rfl⟩,ad⟩;obtain⟨aQ,ab,aT⟩:=(Aa aN) w4 ad;have bc:=Ac aT;have ac:=(Aa HA).at'.below aQ;have r0:=ac.r0;have r12:=ac.r12;rw[af0]at r12;have k0:w4.cell? ⟨kb,u,none⟩=some (.int .i64 sr.kind):=ac.k u sr.kind (by simp[Aa ah]);have bp:=lt_of_cell k0;have bg:=lt_of_cell r0;have bh:=lt_of_block ab;have x0:w4.cell? ⟨w3.heap.size,0,none⟩=some (.int .i64 y.client):=cell_of ab 0 _ rfl;have x1:w4.cell? ⟨w3.heap.size,1,none⟩=some (.int .i64 y.Ae):=cell_of ab 1 _ rfl;have x2:w4.cell? ⟨w3.heap.size,2,none⟩=some (.int .i64 y.line):=cell_of ab 2 _ rfl;have x3:w4.cell? ⟨w3.heap.size,3,none⟩=some (.int .i64 y.seq):=cell_of ab 3 _ rfl;have x4:w4.cell? ⟨w3.heap.size,4,none⟩=some (.int .i64 y.proc):=cell_of ab 4 _ rfl;have x5:w4.cell? ⟨w3.heap.size,5,none⟩=some (.slice xa xn xc):=cell_of ab 5 _ rfl;have x6:w4.cell? ⟨w3.heap.size,6,none⟩=some (.slice ya yn yc):=cell_of ab 6 _ rfl;have bj:¬(k:Int)<0:=by omega
     clear ad aQ ab aT ac aN HF;go_wp2_with fail
     go_region_law (refine Av rfl 12 #[.tmp 66,.tmp 74,.tmp 75] #[35,3,45] rfl afE #[ptr bb,.int .i64 sr.kind,enV y.client y.Ae y.line y.seq y.proc (.slice xa xn xc) (.slice ya yn yc)] rfl _ ((Aa bc) _ (by first|exact Below.refl _ _|exact(Below.refl _ _).drew)) ?_;rintro e w5 ⟨O,rfl,ap⟩;have bF:w5.cell? ⟨w3.heap.size,6,none⟩=some (.slice ya yn yc):=cell_of ap.x 6 _ rfl;have bl:=lt_of_block ap.x;have ag:=Ac ap;clear ap;refine⟨_,rfl,?_⟩)
     all_goals
      have aL:=Ac (RA w5 O (.slice ya yn yc) y.result (Aa ag).out (Aa ag).res (Aa aJ).2.2.2.2);go_wp2_with fail
      refine(Aa aL).mono ?_;rintro e w6 ⟨rfl,aX⟩;have ax:=Ac aX;clear aX aL;go_wp2_with fail
      go_roundw
      case rel=>exact⟨i+1,by omega,by go_num,by go_num,(Aa ag).below.trans ((Aa ax).mono (Aa ag).below.size),(Aa ag).st.below (Aa ax),afT (Aa ag).lt (Aa ax).size⟩
      case measure=>simp[intOf];omega
    ·obtain rfl:i=sr.log.length:=by omega
     have aG:=OP (Aa ah);have ak:=Ac ai;clear aB ai aC r0;rw[aG];go_wp2_with fail
     go_roundw
     case rel=>exact⟨u+1,by omega,by go_num,rfl,Aa ak⟩
     case measure=>simp[intOf];omega
  ·obtain rfl:u=sv.length:=by omega
   rw[R0];have hp:(0:Int)<((A9 sv).length:Int):=by omega
   have ba:Hid (Below w.heap.size w wr):=(Aa aH).trans (hb.mono (Aa aH).size);clear hb r12 hk;go_wp2_with fail
   go_returns;exact⟨rfl,Aa ba⟩
end Go.Proofs.YtblomippkddgiabGreatDoor
