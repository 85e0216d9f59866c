import Derived.Test.YtblomippkddgiaaGreatDoorJ24
set_option maxRecDepth 100000
set_option maxHeartbeats 4000000
namespace Go.Proofs.YtblomippkddgiaaGreatDoor
open Go.Proofs.Tryz
open Go.RowKit
variable {F:D9}{zl:List (R.Ln×Value)}{xs:List Int}{fl:List R.Fl}{N cap g i j k lo n x:Nat}{f m:Nat→Bool}{pk:Pk}{c:R.Cl}{z:R.Cl×CE}{l l':R.Ln}{G:R.Wd}{v:RV}{V':Value}{w w':World}
def Vf(b:Bool):Int:=if b then 1 else 0
def Mh(w:Aa)(G N lo:Nat)(f:Nat->Bool):Prop:=∃cur:Array Value,w.heap[G]?=some (.cells cur 5 (0,0))/\cur.size=N/\∀k,lo<=k->k<N->cur[k]?=some (.int .u8 (Vf (f k)))
theorem Mh.at{G:Nat}(h:Mh w G N lo f)(e:lo<=k)(u:k<N):w.cell? (Y G k)=some (.int .u8 (Vf (f k))):=by grind [Mh,World.cell?]
theorem Mh.thaw{G:Nat}(h:Mh w G N lo f)(o:Nat):w.frozen? (Y G o)=false:=by grind [Mh,World.frozen?]
theorem Mh.lt{G:Nat}(h:Mh w G N lo f):G<w.heap.size:=by grind [Mh]
theorem Mh.set{G:Nat}(h:Mh w G N lo f)(k:Nat)(b:Bool)(n:Int)(hn:n=Vf b):Mh (w.setCell (Y G k) (.int .u8 n)) G N lo (λj=>if j=k then b else f j):=by
 have⟨e,u,y,M⟩:=h;refine⟨e.setIfInBounds k (.int .u8 n),Io u _,by simpa using y,λj B D=>?_⟩
 grind
theorem Mh.to{G e:Nat}{g:Nat->Bool}(h:Mh w G N lo f)(y:lo<=e)(u:∀k,e<=k->k<N->f k=g k):Mh w G N e g:=by grind [Mh]
theorem kX{b:UInt8}{r:Nat}(h:r<8):jh b r=decide (b.toNat / 2 ^ (7-r) % 2=1):=by
 have H:∀n,n<256->∀r,r<8->(BitVec.ofNat 16 (n*256)).getMsbD r=decide (n / 2 ^ (7-r) % 2=1):=Kx;exact H b.toNat b.toNat_lt r h
theorem mH:Mh (w.alloc (.cells (madeCells (Value.int .u8 0).cells (N*1)) 5)) w.heap.size N 0 (λ_=>false):=by
 refine⟨_,AF w _,by rw[Dg];omega,λk _ hk=>?_⟩;have e:(Value.int .u8 0).cells=#[.int .u8 0]:=rfl;rw[e,<-Array.getElem?_toList,toList_madeCells_one,Be,Ay U];rfl
def ML(m:Nat->Bool)(i k:Nat):Bool:=decide (k<i)&&m k
theorem oN(h:m i=true)(k:Nat):(if k=i then true else ML m i k)=ML m (i+1) k:=by grind [ML]
theorem vT(h:m i=false)(k:Nat):ML m i k=ML m (i+1) k:=by grind [ML]
theorem oL(h:∀k,i<=k->m k=false):ML m i k=m k:=by grind [ML]
theorem Zh(l:Ac)(k:Nat)(h:8*l.length<=k):Ql l k=false:=by grind [Ql]
theorem oM(l:Ac)(w:Aa)(hl:l.length<=1000):
  D7 262 #[.string (str l)] w (EJ w.heap.size (8*l.length+16) (8*l.length+16)) λw'=>Mh w' w.heap.size (8*l.length+16) 0 (Ql l)/\DY w w':=by
 obtain⟨S,X⟩:∃S,S=str l:=⟨_,rfl⟩;obtain⟨n,hn⟩:∃n,n=l.length:=⟨_,rfl⟩;have aV:(S.size:Int)=(n:Int):=by rw[X,Er,hn]
 have⟨i0,hi,ak,al,am⟩:=A1 info5;obtain⟨M,hM⟩:∃M,M=madeCells (Value.int .u8 0).cells ((8*n+16)*1):=⟨_,rfl⟩;have az:∀W:World,(Instr.makeSlice 199 (Z (8*(n:Int)+16)) (Z (8*(n:Int)+16))).run prog W=.ok (EJ (zz W) (8*n+16) (8*n+16)) (W.alloc (.cells M 5)):=λW=>by
  have h:=run_make (P:=prog) W 199 5 i0 (.int .u8 0) underlying199 hi ak .i64 .i64 (8*(n:Int)+16) (8*(n:Int)+16) U (BK _) (by rw[am];omega) U;have e:(8*(n:Int)+16).toNat=8*n+16:=U;rw[al,e,<-hM]at h;exact h
 have HM:Hid (Mh (w.alloc (.cells M 5)) (zz w) (8*n+16) 0 (λ_=>false)):=by rw[hM];exact mH
 have aa:=Dx ((AA (zz w) w).alloc (Ar _) (.cells M 5));rw[<-X,<-hn];have HG:Hid (∀i q r:Nat,i=8*q+r->r<8->(hq:q<S.size)->Ql l i=decide ((S[q]).toNat / 2 ^ (7-r) % 2=1)):=by
  intro i q r hi hr hq;have h1:l[q]?=some (S[q]):=by subst X;exact K8 l q hq
  unfold Ql;rw[show i / 8=q by omega,show i % 8=r by omega,h1];exact kX hr
 have ab:Hid (∀k,8*n<=k->Ql l k=false):=by rw[hn];exact Zh l
 have aN:n<=1000:=U;have T:S.size=n:=U;have Q:=Dx T;clear hM X hn hl T;generalize Ql l=m at *;go_enter func262,ntmps262;go_wp2;go_loopw [4] (λiv wr=>∃i:Nat,i<=8*n/\iv=Z i/\Mh wr (zz w) (8*n+16) 0 (ML m i)/\DY w wr) (λiv _=>8*n-(intOf iv).toNat)
 case atStart=>exact⟨0,AV _,rfl,HM.to (Ar _) (λk _ _=>by simp[ML]),aa⟩
 case round=>
  obtain⟨i,hi,rfl,y,B⟩:=hrel;by_cases aw:i<8*n
  ·obtain⟨q,r,O,ah⟩:∃q r:Nat,i=8*q+r/\r<8:=⟨i / 8,i % 8,U,U⟩;have hq:q<S.size:=by have:=Dw Q;omega
   have D:=HG i q r O ah hq;have av:=y.at (k:=i) (AV _) U;have b1:=y.thaw i;have hc:=(S[q]).toNat_lt;have d1:(i:Int) / 8=(q:Int):=U;have d2:(i:Int) % 8=(r:Int):=U;have aS:(q:Int)<n:=by have:=Dw Q;omega
   have⟨HBT,HBL⟩:=FU y B;clear y B;have aq:=Dx O;clear O;generalize hC:S[q].toNat=C at *;have u:=Dx D;clear D;have hr:r=0\/r=1\/r=2\/r=3\/r=4\/r=5\/r=6\/r=7:=U;rcases hr with rfl|rfl|rfl|rfl|rfl|rfl|rfl|rfl
   ·have hcmp:(((C:Int) / 128 % 2==1))=m i:=by
     rw[Dw u,BH];simp;omega
    exact tl0
   ·have hcmp:(((C:Int) / 64 % 2==1))=m i:=by
     rw[Dw u,BH];simp;omega
    exact tl0
   ·have hcmp:(((C:Int) / 32 % 2==1))=m i:=by
     rw[Dw u,BH];simp;omega
    exact tl0
   ·have hcmp:(((C:Int) / 16 % 2==1))=m i:=by
     rw[Dw u,BH];simp;omega
    exact tl0
   ·have hcmp:(((C:Int) / 8 % 2==1))=m i:=by
     rw[Dw u,BH];simp;omega
    exact tl0
   ·have hcmp:(((C:Int) / 4 % 2==1))=m i:=by
     rw[Dw u,BH];simp;omega
    exact tl0
   ·have hcmp:(((C:Int) / 2 % 2==1))=m i:=by
     rw[Dw u,BH];simp;omega
    exact tl0
   ·have hcmp:(((C:Int) % 2==1))=m i:=by
     rw[Dw u,BH];simp;omega
    exact tl0
  ·have ad:i=8*n:=U;have⟨HBT,HBL⟩:=FU y B;clear y B hi;subst ad;go_wp2
   go_ret
   exact⟨rfl,HBT.to (Ar _) (λk _ hk=>oL ab),HBL⟩
def Nj(m:Nat->Bool)(i j k:Nat):Bool:=JL m i k ^^ (decide (k-i<j)&&Og (k-i))
theorem pD(m:Nat->Bool)(i k:Nat):JL m i k=Nj m i 0 k:=by
 simp[Nj]
theorem xH(hk:i<=k)(e:Og j=true):(if k=i+j then !(JL m i (i+j)) else Nj m i j k)=Nj m i (j+1) k:=by
 unfold Nj;by_cases h:k=i+j
 ·subst h;rw[Ay rfl,show i+j-i=j by omega,e];simp
 ·rw[Ao h];congr 2;rw[decide_eq_decide];omega
theorem aaR(hk:i<=k)(e:Og j=false):Nj m i j k=Nj m i (j+1) k:=by
 unfold Nj;by_cases h:k=i+j
 ·subst h;rw[show i+j-i=j by omega,e];simp
 ·congr 2;rw[decide_eq_decide];omega
theorem aaP(m:Nat->Bool)(i j:Nat):Nj m i j (i+j)=JL m i (i+j):=by
 unfold Nj;rw[show i+j-i=j by omega];simp
theorem lT{d:Nat}(h:17<=d):Og d=false:=by
 unfold Og;simp;omega
theorem xG(hk:i<k)(e:JL m i i=true):Nj m i 17 k=JL m (i+1) k:=by
 rw[TG m hk,e];unfold Nj;by_cases h:k-i<17
 ·simp[h]
 ·rw[lT U];simp
theorem pC(hk:i<k)(e:JL m i i=false):JL m i k=JL m (i+1) k:=by
 rw[TG m hk,e];simp
theorem my(R:BitVec 16)(t:Nat)(e:t<16):((R.toNat / 2 ^ (16-(t+1)):Nat):Int)=2*((R.toNat / 2 ^ (16-t):Nat):Int)+Vf (R.getMsbD t):=by
 have e1:R.getMsbD t=decide (R.toNat / 2 ^ (15-t) % 2=1):=by
  rw[BitVec.getMsbD_eq_getLsbD,show decide (t<16)=true by simpa using e,Bool.true_and,BitVec.getLsbD,Nat.testBit_eq_decide_div_mod_eq,show 16-1-t=15-t by omega]
 have e2:R.toNat / 2 ^ (16-t)=R.toNat / 2 ^ (15-t) / 2:=by
  rw[show 16-t=(15-t)+1 by omega,Nat.pow_succ,Nat.div_div_eq_div_mul]
 rw[e1,e2,show 16-(t+1)=15-t by omega];generalize R.toNat / 2 ^ (15-t)=x;unfold Vf;by_cases h:x % 2=1
 ·simp[h];omega
 ·simp[h];omega
def byS:ByteArray:=⟨#[49,49,48,48,48,48,48,48,48,48,48,48,48,48,49,48,49]⟩
theorem acQ:∀j (h:j<byS.size),(((byS[j]).toNat:Int)==49)=Og j:=by
 have:∀j,j<17->∀(h:j<byS.size),(((byS[j]).toNat:Int)==49)=Og j:=Kx;intro j h;exact this j (by have e:byS.size=17:=rfl;omega) h
theorem di{t:Nat}(h:∀k,n<=k->m k=false):JL m n (n+t)=(reg m n).getMsbD t:=by grind [JL]
theorem Uz(l:Ac)(w:Aa)(hl:l.length<=1000):D7 247 #[.string (str l)] w (Z (Kb l)) λw'=>DY w w':=by
 have H1:=Dx (oM l w hl);have HR:Hid (Kb l=((reg (Ql l) (8*l.length)).toNat:Int)):=by
  show _=_;rw[zP];rfl
 have HZ:=Zh l;rw[Dw HR];clear HR;have be:((str l).size:Int)=(l.length:Int):=by rw[Er]
 generalize hS:str l=S at *;clear hS;generalize Ql l=m at *;generalize l.length=n at *;obtain⟨R,hR⟩:∃R,R=reg m (8*n):=⟨_,rfl⟩;have ac:=Dx R.isLt;rw[<-hR];have am:=Dx hR;clear hR;have aa:=Dx acQ;have ab:byS.size=17:=rfl;unfold byS at aa ab;go_enter func247,ntmps247;go_wp2_with fail
 refine cm H1 ?_;rintro w1 ⟨ad,M⟩;have⟨ak,al⟩:=FU ad M;clear ad M H1;go_wp2;generalize ({data:=#[49,49,48,48,48,48,48,48,48,48,48,48,48,48,49,48,49]}:Ab)=BY at *;have b9:(BY.size:Int)=17:=U;clear ab;go_loopw [5] (λiv wr=>∃i:Nat,i<=8*n/\iv=Z i/\Mh wr w.heap.size (8*n+16) i (JL m i)/\DY w wr) (λiv _=>8*n-(intOf iv).toNat)
 case atStart=>exact⟨0,AV _,rfl,ak.to (Ar _) (λk _ _=>(dm m k).symm),al⟩
 case round=>
  obtain⟨i,hi,rfl,e,h⟩:=hrel;by_cases bb:i<8*n
  ·have u:=e.at (k:=i) (Ar _) U;have⟨T,O⟩:=FU e h;clear e h;cases hx:JL m i i with
   |true=>
    have av:wr.cell? (EN w i)=some (.int .u8 1):=by rw[u,hx];rfl
    clear u;have HX:=Dx hx;clear hx;go_wp2;go_loopw [6] (λjv X=>∃j:Nat,j<=17/\jv=Z j/\Mh X w.heap.size (8*n+16) i (Nj m i j)/\DY w X) (λjv _=>17-(intOf jv).toNat)
    case atStart=>exact⟨0,AV _,rfl,T.to (Ar _) (λk _ _=>pD m i k),O⟩
    case round=>
     obtain⟨j,hj,rfl,e,h⟩:=hrel;by_cases b5:j<17
     ·have aN:j<BY.size:=U;have ae:=aa j aN;have u:=e.at (k:=i+j) U U;rw[aaP]at u;have bf:=e.thaw (i+j);have ba:(j:Int)<17:=U;have az:(i:Int)+(j:Int)<8*(n:Int)+16:=U;have⟨D,y⟩:=FU e h;clear e h;cases hf:Og j with
      |true=>
       rw[hf]at ae;have HF:=Dx hf;clear hf;go_wp2;go_roundw
       case rel=>exact⟨j+1,U,Kc,(D.set (i+j) (!(JL m i (i+j))) _ (by unfold Vf;cases JL m i (i+j)<;>rfl)).to (Ar _) (λk hk _=>xH hk HF),y.setCell Ev _⟩
       case measure=>exact Kt
      |false=>
       rw[hf]at ae;have HF:=Dx hf;clear hf;go_wp2;go_roundw
       case rel=>exact⟨j+1,U,Kc,D.to (Ar _) (λk hk _=>aaR hk HF),y⟩
       case measure=>exact Kt
     ·have aS:j=17:=U;subst aS;have⟨D,y⟩:=FU e h;clear e h;go_wp2;go_roundw
      case rel=>exact⟨i+1,U,Kc,D.to U (λk hk _=>xG U HX),y⟩
      case measure=>exact Kt
   |false=>
    have av:wr.cell? (EN w i)=some (.int .u8 0):=by rw[u,hx];rfl
    clear u;have HX:=Dx hx;clear hx;go_wp2;go_roundw
    case rel=>exact⟨i+1,U,Kc,T.to U (λk hk _=>pC U HX),O⟩
    case measure=>exact Kt
  ·have aw:i=8*n:=U;have⟨T,O⟩:=FU e h;clear e h hi;subst aw;go_wp2;go_loopw [7,8] (λnv iv X=>∃t:Nat,t<=16/\iv=Z (8*(n:Int)+(t:Int))/\nv=Z ((R.toNat / 2 ^ (16-t):Nat):Int)/\X=wr) (λ_ iv _=>8*n+16-(intOf iv).toNat)
   case atStart=>
    refine⟨0,AV _,Kc,?_,rfl⟩;have:=Dw ac;rw[Nat.div_eq_of_lt U];rfl
   case round=>
    obtain⟨t,ht,rfl,rfl,rfl⟩:=hrel;by_cases ah:t<16
    ·have u:=T.at (k:=8*n+t) U U;rw[di (Dw HZ),<-Dw am]at u;have an:=Dx (my R t ah);have b7:0<=Vf (R.getMsbD t)/\Vf (R.getMsbD t)<=1:=by unfold Vf;split<;>omega
     have aV:(R.toNat / 2 ^ (16-t):Nat)<65536:=by
      have:=Dw ac;have h2:=Nat.div_le_self R.toNat (2 ^ (16-t));omega
     generalize Vf (R.getMsbD t)=B at *;generalize R.toNat / 2 ^ (16-t)=Q at *;have az:8*(n:Int)+(t:Int)<8*(n:Int)+16:=U;go_wp2;go_roundw
     case rel=>exact⟨t+1,U,Kc,by rw[Dw an],BR⟩
     case measure=>exact Kt
    ·have b1:t=16:=U;subst b1;have aV:=Dw ac;have aq:R.toNat / 2 ^ (16-16)=R.toNat:=Ev;rw[aq];go_wp2
     go_ret
     exact⟨rfl,O⟩
theorem P7(w:Aa)(a b:Int):(convert 199 9 (EJ w.heap.size 2 2)).run prog (w.alloc (.cells #[.int .u8 a,.int .u8 b] 5))=.ok (.string (str [b8 a,b8 b])) (w.alloc (.cells #[.int .u8 a,.int .u8 b] 5)):=by
 exact abF
theorem UA(n:Int)(w:Aa)(h:0<=n)(u:n<=65535):
  D7 219 #[Z n] w (.string (str (EU n))) λw'=>DY w w':=by
 have hc:=P7 w (n / 256) (n % 256);have e:EU n=[b8 (n / 256),b8 (n % 256)]:=rfl;exact abu
def Sb(w:Aa)(G N i:Nat)(xs:List Int):Prop:=∃cur:Array Value,w.heap[G]?=some (.cells cur 5 (0,0))/\cur.size=N/\∀k x,k<i->xs[k]?=some x->cur[k]?=some (.int .u8 x)
theorem Sb.cell{G:Nat}(h:Sb w G N i xs)(hk:k<N):∃v,EB w G k v:=by
 have⟨e,u,y,_⟩:=h;exact⟨_,ED u k _ (Array.getElem?_eq_getElem U)⟩
theorem Sb.thaw{G:Nat}(h:Sb w G N i xs)(o:Nat):w.frozen? (Y G o)=false:=by grind [Sb,Hf]
theorem Sb.set{G:Nat}(h:Sb w G N i xs){x:Int}(D:xs[i]?=some x)(hi:i<N):Sb (w.setCell (Y G i) (.int .u8 x)) G N (i+1) xs:=by
 have⟨e,u,B,r⟩:=h;refine⟨e.setIfInBounds i (.int .u8 x),Io u _,by simpa using B,λk y hk M=>?_⟩
 grind
theorem Sb.conv{G:Nat}(h:Sb w G N N xs)(u:N=xs.length)(M:∀x∈xs,0<=x/\x<=255):(convert 199 9 (EJ G N N)).run prog w=.ok (.string (str (xs.map b8))) w:=by
 have⟨e,y,D,r⟩:=h;have:=C5 (P:=prog) w 199 9 5 (Y G 0) N (xs.map b8) underlying199 EL underlying9 λj B=>?_
 all_goals grind [Addr.add_lit,ED,FP]
theorem XC(xs:List Int)(G c:Nat)(w:Aa)(hG:G<w.heap.size)(D:∀i x,xs[i]?=some x->EB w G i (Z x))(u:∀x∈xs,0<=x/\x<=255)(hl:xs.length<=1000):
  D7 246 #[EJ G xs.length c] w (.string (str (xs.map b8))) λw'=>DY w w':=by
 have⟨i0,hi,ah,ak,al⟩:=A1 info5;obtain⟨n,hn⟩:∃n,n=xs.length:=⟨_,rfl⟩;obtain⟨M,hM⟩:∃M,M=madeCells (Value.int .u8 0).cells (n*1):=⟨_,rfl⟩;have ar:∀W:World,(Instr.makeSlice 199 (Z n) (Z n)).run prog W=.ok (EJ (zz W) n n) (W.alloc (.cells M 5)):=λW=>by
  have h:=run_make (P:=prog) W 199 5 i0 (.int .u8 0) underlying199 hi ah .i64 .i64 (n:Int) (n:Int) U (BK _) (by rw[al];omega) U;rw[ak,AY,<-hM]at h;exact h
 have HM:Hid (Sb (w.alloc (.cells M 5)) (zz w) n 0 xs):=⟨M,AF w _,by rw[hM,Dg];omega,λk x hk=>by omega⟩;have⟨T,X,HX⟩:=Ll ((AA (zz w) w).alloc (Ar _) (.cells M 5)) D u;obtain⟨ST,e⟩:∃ST,ST=str (xs.map b8):=⟨_,rfl⟩;rw[<-hn,<-e];have aa:=Dx e;clear e;have HN:=Dx hn;have av:n<=1000:=U;clear hM D u hl hn;go_enter func246,ntmps246;go_wp2;go_loopw [4] (λiv wr=>∃i:Nat,i<=n/\iv=Z i/\Sb wr (zz w) n i xs/\DY w wr) (λiv _=>n-(intOf iv).toNat)
 case atStart=>exact⟨0,AV _,rfl,HM,T⟩
 case round=>
  obtain⟨i,hi,rfl,y,B⟩:=hrel;by_cases O:i<n
  ·obtain⟨x,u⟩:∃x,xs[i]?=some x:=⟨_,Ah (by have:=Dw HN;omega)⟩;have aN:=HX x (Ap u);have ac:=(B.cell (p:=Y G i) hG).trans (X i x u);have⟨v0,az⟩:=y.cell O;have aw:=y.thaw i;have HF:=Dx (y.set u O);have Q:=Dx (B.setCell (show (zz w)<=((EN w i):Addr).block from Ar _) (.int .u8 x));clear y B u;go_wp2;go_roundw
   case rel=>exact⟨i+1,U,Kc,HF,Q⟩
   case measure=>exact Kt
  ·have ae:i=n:=U;subst ae;have ad:=y.conv HN (Dw HX);have Q:=Dx B;clear y B;rw[<-Dw aa]at ad;go_wp2
   go_ret
   exact⟨rfl,Q⟩
theorem Qs(a b:Ac):str a++str b=str (a++b):=by
 apply CJ;simp
theorem sR(W:Aa)(xs:List Int)(t:Ag):∀(i:Nat) (x:Int),xs[i]?=some x->(W.alloc (.cells (xs.map (Value.int .i64)).toArray t)).cell? (EN W i)=some (Z x):=by grind [World.cell?_alloc_new]
theorem Ph(p:Pk)(w:Aa)(hr:EC p):D7 214 #[pv p] w (.string (str (Gq p))) λw'=>DY w w':=by
 have bf:=Mm hr;have ak:Hid (Gq p=Ha p++EU (Kb (Ha p))):=rfl;have ah:Hid (Ha p=([p.Dz,p.DJ,p.DR,p.DZ,p.D4 / 256,p.D4 % 256,p.D5,p.Ez,p.off,N3 p.Fs,(p.Ef.length:Int)]:List Int).map b8++p.Ef):=rfl;have aa:=Dx (JZ p);rw[Dw ak];clear ak;generalize Ha p=H at *;obtain⟨k,c,B,ln,e,u,pa,o,y,Ef⟩:=p;obtain⟨b1,b2,b3,b4,b5,b6,b7,ba,_⟩:=hr;simp only at b1 b2 b3 b4 b5 b6 b7 ba bf;show ET 214 #[S9 k c B ln e u pa o y (str Ef)] w _;have qY:0<=N3 y/\N3 y<=1:=by unfold N3;split<;>omega
 have al:Hid (∀x∈([k,c,B,ln,e / 256,e % 256,u,pa,o,N3 y,(Ef.length:Int)]:List Int),0<=x/\x<=255):=by
  intro x hx;simp only[CX,List.not_mem_nil,or_false]at hx;omega
 obtain⟨O,M⟩:∃O,w.alloc (.cells #[Z k,Z c,Z B,Z ln,Z e,Z u,Z pa,Z o,.bool y,.string (str Ef)] 41)=O:=⟨_,rfl⟩;have ac:O.heap[w.heap.size]?=some (.cells #[Z k,Z c,Z B,Z ln,Z e,Z u,Z pa,Z o,.bool y,.string (str Ef)] 41 (0,0)):=by
  rw[<-M];exact AF w _
 have bg:O.heap.size=w.heap.size+1:=by rw[<-M];simp
 have ar:Hid (DY w O):=by
  rw[<-M];exact F9
 have Q:=Dx (XC [k,c,B,ln,e / 256,e % 256,u,pa,o,N3 y,(Ef.length:Int)] O.heap.size 11 ((O.alloc (.cells (([k,c,B,ln,e / 256,e % 256,u,pa,o,N3 y,(Ef.length:Int)]:List Int).map (Value.int .i64)).toArray 3)).drew) Ev (sR O _ 3) al Ev);rw[bg]at Q;have az:Hid (IntKind.i64.wrap (e.tdiv 256)=e / 256):=by
  show _=_;rw[CM U];exact wrap_i64_ediv _ _ U U U
 have aN:Hid (e.tmod 256=e % 256):=Ca U;have aw:Hid (∀w,D7 247 #[.string (str H)] w (Z (Kb H)) λw'=>DY w w'):=λw=>Uz H w (by rw[Dw aa];simp only;omega)
 have b9:=Dx (λw=>UA (Kb H) w (Nt H).1 (Nt H).2);have aV:=Dx (Qs H (EU (Kb H)));have aS:Hid (str (([k,c,B,ln,e / 256,e % 256,u,pa,o,N3 y,(Ef.length:Int)]:List Int).map b8)++str Ef=str H):=by
  show _=_;rw[Dw ah,Qs]
 have ao:H.length=11+Ef.length:=Dw aa;have bb:∀w,(Op.stringOp .add (str (([k,c,B,ln,e / 256,e % 256,u,pa,o,N3 y,(Ef.length:Int)]:List Int).map b8)) (str Ef)).run prog w=.ok (.string (str H)) w:=λw=>by
  rw[<-Dw aS];exact C6 w _ _ (by rw[Er,Er];simp;omega)
 have be:∀w,(Op.stringOp .add (str H) (str (EU (Kb H)))).run prog w=.ok (.string (str (H++EU (Kb H)))) w:=λw=>by
  rw[<-Dw aV];exact C6 w _ _ (by rw[Er,Er];simp[EU];omega)
 clear ao;generalize Kb H=C at *;generalize str (H++EU C)=ST at *;generalize str (EU C)=S2 at *;generalize str H=SH at *;generalize str (([k,c,B,ln,e / 256,e % 256,u,pa,o,N3 y,(Ef.length:Int)]:List Int).map b8)=SN at *;have bq:((str Ef).size:Int)=(Ef.length:Int):=by rw[Er]
 generalize str Ef=SB at *;obtain⟨c0,c1,c2,c3,c4,c5,c6,c7,c8,c9⟩:=Yy ac;have av:=Dx M;have ab:Hid ((O.alloc (.cells (([k,c,B,ln,e / 256,e % 256,u,pa,o,N3 y,(Ef.length:Int)]:List Int).map (Value.int .i64)).toArray 3)).drew.heap[w.heap.size]?=some (.cells #[Z k,Z c,Z B,Z ln,Z e,Z u,Z pa,Z o,.bool y,.string SB] 41 (0,0))):=(AL _ _ _ U).trans ac;have D:=Dx ((ar.alloc U (.cells (([k,c,B,ln,e / 256,e % 256,u,pa,o,N3 y,(Ef.length:Int)]:List Int).map (Value.int .i64)).toArray 3)).drew);clear ah aa al M;clear ac;cases y;all_goals
  first|rw[show N3 true=1 from rfl]at Q ab D|rw[show N3 false=0 from rfl]at Q ab D
  go_enter func214,ntmps214;go_wp2_with fail
  rw[Dw av];go_region_held3 (λw'=>w'.cell? (EN w 0)=some (Z k)/\w'.cell? (EN w 1)=some (Z c)/\w'.cell? (EN w 2)=some (Z B)/\w'.cell? (EN w 3)=some (Z ln)/\w'.cell? (EN w 4)=some (Z e)/\w'.cell? (EN w 5)=some (Z u)/\w'.cell? (EN w 6)=some (Z pa)/\w'.cell? (EN w 7)=some (Z o)/\w'.cell? (EN w 9)=some (.string SB)) (go_keep)
   ((go_at_call 246;rw[Dw az,Dw aN];refine cm Q λX T=>?_;have bp:=T.size;have h:=(T.block w.heap.size Fy).trans (Dw ab);have f0:X.cell? (EN w 0)=some (Z k):=EI h 0;have f1:X.cell? (EN w 1)=some (Z c):=EI h 1;have f2:X.cell? (EN w 2)=some (Z B):=EI h 2;have f3:X.cell? (EN w 3)=some (Z ln):=EI h 3;have f4:X.cell? (EN w 4)=some (Z e):=EI h 4;have f5:X.cell? (EN w 5)=some (Z u):=EI h 5;have f6:X.cell? (EN w 6)=some (Z pa):=EI h 6;have f7:X.cell? (EN w 7)=some (Z o):=EI h 7;have f9:X.cell? (EN w 9)=some (.string SB):=EI h 9;clear h;have ad:=Dx (D.trans (T.mono Fy));clear T))
  go_wp2_with fail
  refine cm (aw _) λw2 am=>?_
  have ae:=Dx (ad.trans (am.mono ad.size));clear am;go_wp2_with fail
  refine cm (b9 _) λw3 an=>?_
  have aq:=Dx (ae.trans (an.mono ae.size));clear an;go_wp2
  go_ret
  exact⟨rfl,aq⟩
theorem dZ:(prog.info? 304).map (λi=>(i.zero,i.size,i.bytes))=some (some (.agg #[Z 0,.string ⟨#[]⟩,.bool false]),3,32):=EL
theorem Zu{e:Int}{S:Ab}(j:Nat)(u:Ad)(h:([Z e,.string S,.bool false]:Ae)[j]?=some u):(w.alloc (.cells #[Z e,.string S,.bool false] 304)).cell? (((EN w 0):Addr).add j)=some u:=by grind [Addr.add_lit,World.cell?_alloc_new]
theorem E8{B size:Nat}{e:Ag}{K:Ad}{xs:Ae}(h:w.ownsRow B e size K n xs):∃a c,K=.slice a n c:=by
 rcases h.2 with ⟨rfl,rfl⟩|⟨g,cap,u,rfl,_⟩;all_goals grind
def Jy(w:Aa)(x:Nat)(c:R.Cf)(v:RV)(fl:List R.Fl)(w':Aa):Prop:=∃K,w'.ownsRow 0 304 3 K fl.length (tab FN fl)/\w'.heap[x]?=some (.cells (Iv c {v with Fl:=K}) 229 (0,0))/\DF (λk=>k=x\/v.Fl.ownBlock=some k) w w'/\∀j,K.ownBlock=some j->v.Fl.ownBlock=some j\/w.heap.size<=j
theorem RM.aeI(h:RM x v F G w)(y:Jy w x G.c v fl w'):∃u e,RM x u e {G with Ej:=fl} w'/\D8 F e w w'/\u.zc=v.zc:=by grind [Jy,RM.YV]
theorem RM.zb(h:RM x v F G w)(y:Jy w x G.c v fl w'):∃u e,RM x u e {G with Ej:=fl} w'/\D8 F e w w':=by grind [Jy,RM.Ms]
theorem RW.zb(h:RW x v F G w)(u:R.Wf {G with Ej:=fl})(B:Jy w x G.c v fl w'):∃y e,RW x y e {G with Ej:=fl} w'/\D8 F e w w':=by
 have⟨y,e,D,M⟩:=h.toRM.zb B;exact⟨y,e,⟨D,u,h.GQ⟩,M⟩
theorem gD{c:R.Cf}{to:Int}(hx:w.heap[x]?=some (.cells (Iv c v) 229 (0,0)))(h:w.ownsRow 0 304 3 v.Fl fl.length (tab FN fl))(hl:fl.length<40)(hr:EC pk):
  D7 167 #[Ey x,Z to,pv pk] w Ep λw'=>Jy w x c v (fl++[⟨to,Gq pk,false⟩]) w':=by
 obtain⟨a,cc,hK⟩:=E8 h;obtain⟨m,hm⟩:∃m,fl.length=m:=⟨_,rfl⟩;have b6:(m:Int)<40:=U;rw[hm]at hK;obtain⟨i0,hi,az,aN,aS⟩:=A1 dZ;have ae:=Dx (λw=>Ph pk w hr);obtain⟨SB,X⟩:∃SB,SB=str (Gq pk):=⟨_,rfl⟩;obtain⟨TF,aa⟩:∃TF,TF=tab FN fl:=⟨_,rfl⟩;have y:Hid (∀(w':Aa) (K:Ad),w'.ownsRow 0 304 3 K (m+1) (TF++[Z to,.string SB,.bool false])->w'.heap[x]?=some (.cells (Iv c {v with Fl:=K}) 229 (0,0))->DF (λk=>k=x\/v.Fl.ownBlock=some k) w w'->(∀j,K.ownBlock=some j->v.Fl.ownBlock=some j\/w.heap.size<=j)->Jy w x c v (fl++[⟨to,Gq pk,false⟩]) w'):=λw' K h1 h2 h3 h4=>⟨K,by
  rw[Jn,AJ,hm,<-aa];rw[X]at h1;exact h1,h2,h3,h4⟩
 rw[<-X]at ae;rw[hm,<-aa,hK]at h;generalize Jy w x c v (fl++[⟨to,Gq pk,false⟩])=Post at *;have M:w.heap[x]?=some (.cells [Z c.DI,Z c.DV,Z c.Ew,Z c.DW,Z c.FF,v.N,v.S,v.V,.slice a m cc,v.C,EJ v.L 3 3,EJ v.Sn 9 9,v.J].toArray 229 (0,0)):=by
  rw[hx,<-hK]
 rw[hK]at y;clear aa hm hl hx X hK;obtain⟨k,cl,li,ln,sq,u,pa,o,pl,Ef⟩:=pk;show ET 167 #[Ey x,Z to,.agg #[Z k,Z cl,Z li,Z ln,Z sq,Z u,Z pa,Z o,.bool pl,.string (str Ef)]] w _;obtain⟨BX,T⟩:∃BX,w.alloc (.cells #[Z k,Z cl,Z li,Z ln,Z sq,Z u,Z pa,Z o,.bool pl,.string (str Ef)] 41)=BX:=⟨_,rfl⟩;have HB:Hid (DY w BX):=by
  rw[<-T];exact ku
 have av:=Dv M;have x8:=EI M 8;obtain⟨aq,HX,Q⟩:=Ll T M h;clear T M h;go_enter func167,ntmps167;go_wp2_with fail
 rw[Dw aq];refine cm (ae _) λw1 ak=>?_
 have ac:=HB.trans (ak.mono HB.size);have ad:=(ac.block x av).trans (Dw HX);have y8:=EI ad 8;have b5:=Dv ad;have D:=Dx ac;clear ak ac ad x8;go_wp2_with (at_builtin;go_must (refine AQ _ rfl (.tmp 19) (.tmp 23) 224 rfl 0 304 i0 (.agg #[Z 0,.string ⟨#[]⟩,.bool false]) 3 32 underlying224 hi az aN aS rfl Em (.slice a m cc) m TF rfl (by exact(ER Q D).alloc _) (EN w1 0) 1 1 [Z to,.string SB,.bool false] rfl rfl (by exact Zu) Vd JG U U ?_))
 intro v' wz B e _ ah;obtain⟨va,vn,vc,aw⟩:=Ei B;subst aw;have ab:DY w (w1.alloc (.cells #[Z to,.string SB,.bool false] 304)):=D.alloc D.size _;have O:=Kd HX Q Em ab e;have al:=OQ (o:=8) HX Q Em ab e B ah (by have:=D.size;simp;omega);obtain⟨d1,d2,d3,d4⟩:=al;have HP:=Dx (y _ _ d1 d2 d3 d4);have g8:=EI O 8;have gz:=Hf O 8;have b7:=Dv O;clear B e ah O d1 d2 d3 d4 ab y y8;go_wp2_with fail
 go_returns;exact⟨rfl,HP⟩
theorem gy{a:Af}{e:Nat}{to:Int}(x8:EB w x 8 (.slice a 40 e)):D7 167 #[Ey x,Z to,pv pk] w Ep λw'=>DY w w':=by
 have hl:=Gv x8;go_enter func167,ntmps167;go_wp2;go_returns;exact⟨rfl,F9⟩
theorem RM.UL(h:RM x v F G w)(O:G.Ej.length<=40)(to:Int)(pk:Pk)(T:EC pk):D7 167 #[Ey x,Z to,pv pk] w Ep λw'=>∃M y,RM x M y (R.E9 G to pk) w'/\D8 F y w w'/\M.zc=v.zc:=by
 unfold R.E9;by_cases hl:G.Ej.length<40
 ·rw[Ay hl];refine cm (gD h.bx h.JC hl T) λw' Q=>?_
  exact⟨rfl,h.aeI Q⟩
 ·rw[Ao hl];have⟨a,X,B⟩:=E8 h.JC;have u:G.Ej.length=40:=U;rw[u]at B;refine(gy (ED h.bx 8 _ (by rw[<-B];rfl))).mono ?_;rintro e w' ⟨rfl,D⟩;exact⟨rfl,v,F,h.DG D,D8.D6 F D,rfl⟩
theorem RM.send(h:RM x v F G w)(e:G.Ej.length<=40)(to:Int)(pk:Pk)(u:EC pk):D7 167 #[Ey x,Z to,pv pk] w Ep λw'=>∃v' F',RM x v' F' (R.E9 G to pk) w'/\D8 F F' w w':=by
 refine cm (h.UL e to pk u) ?_;exact wV
theorem ai(G:R.Wd)(to:Int)(pk:Pk):(R.E9 G to pk).c=G.c/\(R.E9 G to pk).DX=G.DX/\(R.E9 G to pk).DN=G.DN/\(R.E9 G to pk).EF=G.EF:=by grind [R.E9]
theorem RW.UL(h:RW x v F G w)(to:Int)(pk:Pk)(y:EC pk):D7 167 #[Ey x,Z to,pv pk] w Ep λw'=>∃u e,RW x u e (R.E9 G to pk) w'/\D8 F e w w'/\u.zc=v.zc:=by
 refine cm (h.toRM.UL h.wf.JC to pk y) ?_;rintro w' ⟨u,e,B,D,M⟩;refine⟨rfl,u,e,⟨B,h.wf.E9 y,?_⟩,D,M⟩;have⟨e1,e2,e3,e4⟩:=ai G to pk;rw[e1,e2,e3,e4];exact h.GQ
theorem RW.send(h:RW x v F G w)(to:Int)(pk:Pk)(e:EC pk):D7 167 #[Ey x,Z to,pv pk] w Ep λw'=>∃v' F',RW x v' F' (R.E9 G to pk) w'/\D8 F F' w w':=by
 refine cm (h.UL to pk e) ?_;exact wV
theorem Rc{α:Type}{l:List α}{y:α}(h:l[i]?=some y):l.set i y=l:=by grind [List.set_getElem_self]
theorem K4{α β:Type}{f:α->β}{l:List α}{m:List β}(h:l.map f=m){y:β}(e:m[i]?=some y):∃z,l[i]?=some z/\f z=y:=by grind
structure Tk(x:Nat)(v:RV)(F:D9)(G:R.Wd)(w:Aa)(i:Nat)(c:R.Cl)(g cap:Nat)(z:R.Cl×CE)(zl:List (R.Ln×Value)):Prop where
 hC:v.C=EJ g G.DI.length cap
 hz:v.zc[i]?=some z
 hc:z.1=c
 hzl:zl.map (·.1)=c.DV
 lt:g<w.heap.size
 c0:w.cell? (Y g (i*3))=some (Z c.DR)
 c1:w.cell? (Y g (i*3+1))=some z.2.bv
 c2:w.cell? (Y g (i*3+2))=some (EJ z.2.lb c.DV.length c.DV.length)
 x9:w.cell? (Y x 9)=some (EJ g G.DI.length cap)
 lb:w.heap[z.2.lb]?=some (.cells (tab Ui zl).toArray 259 (0,0))
 rs:∀y∈zl,Rs w F y.2 y.1
theorem RM.at(h:RM x v F G w)(hc:G.DI[i]?=some c):∃g cap z zl,Tk x v F G w i c g cap z zl:=by
 have⟨z,hz,D⟩:=K4 h.zc hc;have y:v.zc.length=G.DI.length:=by rw[<-h.zc,AX]
 have⟨g,cap,hC,B,e,_⟩:=Jx P5 U h.cl hz;have⟨zl,l1,l2,l3⟩:=h.ln i z hz;rw[y]at hC;have u:=D;refine⟨g,cap,z,zl,⟨hC,hz,u,by rw[l1,u],B,?_,?_,?_,?_,l2,l3⟩⟩
 ·have:=e 0 (Z z.1.DR) U rfl;rw[u]at this;exact this
 ·exact e 1 z.2.bv U rfl
 ·have:=e 2 (EJ z.2.lb z.1.DV.length z.1.DV.length) U rfl;rw[u]at this;exact this
 ·exact ED h.bx 9 _ (by rw[<-hC];rfl)
theorem RW.at(h:RW x v F G w)(hc:G.DI[i]?=some c):∃g cap z zl,Tk x v F G w i c g cap z zl:=h.toRM.at hc
theorem Tk.Zd(h:Tk x v F G w i c g cap z zl)(hl:c.DV[k]?=some l):∃V,zl[k]?=some (l,V)/\Rs w F V l/\∀j u,j<11->(Ui (l,V))[j]?=some u->EB w z.2.lb (k*11+j) u:=by
 have⟨y,B,e⟩:=K4 h.hzl hl;have M:=h.rs y (Ap B);have⟨Q,O⟩:=y;simp only at e;subst e;refine⟨O,B,M,λj u D hu=>?_⟩;have:=Jh jO zl k j _ B D;rw[hu]at this;exact E7 h.lb this
theorem Tk.DZ(h:Tk x v F G w i c g cap z zl)(hl:c.DV[k]?=some l)(D:l.DK≠2):zl[k]?=some (l,.slice none 0 0)/\l.DU=[]/\∀j u,j<11->(Ui (l,.slice none 0 0))[j]?=some u->EB w z.2.lb (k*11+j) u:=by
 have⟨V,M,y,O⟩:=h.Zd hl;have B:=y.no D;have Q:V=.slice none 0 0:=by
  rcases y.it with ⟨_,e⟩|⟨_,_,_,_,e,_⟩
  ·exact e
  ·exact absurd B e
 grind
def RV.M3(v:RV):List Nat:=v.zc.map λz=>z.2.lb
theorem RV.eU{e:RV}(h:e.zc=v.zc):e.M3=v.M3:=by unfold RV.M3;rw[h]
theorem RM.M5(h:RM x v F G w)(hc:G.DI[i]?=some c)(X:Tk x v F G w i c g cap z zl)(hr:Rs w F V' l')(hk:DF (λb=>b=z.2.lb) w w')(hL:w'.heap[z.2.lb]?=some (.cells (tab Ui (zl.set k (l',V'))).toArray 259 (0,0))):∃v' F',RM x v' F' (R.Eh G i k l') w'/\D8 F F' w w'/\v'.M3=v.M3:=by
 have⟨f1,f2,f3⟩:=h.Fw;have hi:=GG hc;have Q:=X.lb;have nb:∀{b:Nat} {ys:Array Value} {t:Ag},w.heap[b]?=some (.cells ys t (0,0))->t≠259->¬b=z.2.lb:=λac h1 e=>by
  subst e;exact ES ac Q h1 rfl
 have nr:∀{n size:Nat} {e:Ag} {M:Ad} {xs:Ae},w.ownsRow 0 e size M n xs->e≠259->∀j,M.ownBlock=some j->¬j=z.2.lb:=λhr h1 j hj=>by
  grind [J3]
 have hz:=X.hz;have ah:=GG hz;have D:∀(j:Nat) (y:R.Cl×CE),(v.zc.set i ({c with DV:=c.DV.set k l'},z.2))[j]?=some y->∃B,v.zc[j]?=some B/\y.2=B.2/\y.1.Ee=B.1.Ee/\(i≠j->y=B)/\(i=j->y=({c with DV:=c.DV.set k l'},z.2)/\B=z):=λj y u=>by
  rw[Bf]at u;by_cases O:i=j
  ·subst O;rw[Ay rfl,Ay ah]at u;cases u;exact⟨z,hz,rfl,by rw[X.hc],λq=>absurd rfl q,λ_=>⟨rfl,rfl⟩⟩
  grind
 have hC:tab bD (v.zc.set i ({c with DV:=c.DV.set k l'},z.2))=tab bD v.zc:=by
  have e:bD ({c with DV:=c.DV.set k l'},z.2)=(bD z).set 0 (Z c.DR):=by
   simp[bD,<-X.hc]
  rw[<-J6 P5 v.zc i 0 z _ (Z c.DR) hz U e];have h0:=Jh P5 v.zc i 0 z hz U;rw[<-X.hc];exact Rc h0
 refine⟨{v with zc:=v.zc.set i ({c with DV:=c.DV.set k l'},z.2)},F,⟨hk.at h.bx (nb h.bx Em),hk.row h.Eu (nr h.Eu Em),hk.row h.Ec (nr h.Ec Em),h.zs,hk.row h.Iw (nr h.Iw Em),h.I4.keep hk (λQ q=>nb Q (by rcases q with rfl|rfl|rfl<;>decide)) (λ_ q=>q),hk.row h.JC (nr h.JC Em),?_,?_,λj y u=>?_,λj y u=>?_,hk.at h.DX (nb h.DX Em),hk.at h.DN (nb h.DN Em),h.Fw,h.rows,λj y u=>?_,h.sL,λa b y y' u ae ab=>?_,λk hf=>Ai (h.lt k hf) hk.size⟩,⟨hk.mono (λb _ e=>by rw[e];exact(h.Gs i z hz).1),λ_ hf=>Aj hf⟩,?_⟩
 ·have:(R.Eh G i k l').DI=G.DI.set i {c with DV:=c.DV.set k l'}:=by
   apply BF;intro j
   grind [R.Ft]
  rw[this,<-h.zc,C4]
 ·show w'.ownsRow 0 232 3 v.C (v.zc.set i _).length _;rw[hC,BG];exact hk.row h.cl (nr h.cl Em)
 ·have⟨B,T,q2,q3,_⟩:=D j y u;rw[q2,q3];exact hk.row (h.Ee j B T) (nr (h.Ee j B T) Em)
 ·have⟨B,T,q2,_,q4,q5⟩:=D j y u;by_cases O:i=j
  ·have⟨e1,e2⟩:=q5 O;rw[e1];refine⟨zl.set k (l',V'),by rw[C4,X.hzl],hL,λy u=>?_⟩;rcases BJ u with q|q
   ·exact(X.rs y q).keep hk (λb aa _ Q=>nb Q Em) (λ_ q=>q)
   ·rw[q];exact hr.keep hk (λb aa _ Q=>nb Q Em) (λ_ q=>q)
  ·rw[q4 O];have⟨ak,l1,l2,l3⟩:=h.ln j B T;exact⟨ak,l1,hk.at l2 ((h.inj j i B z T hz (λe=>O e.symm)).1),λy u=>(l3 y u).keep hk (λb aa _ Q=>nb Q Em) (λ_ q=>q)⟩
 ·have⟨B,T,q2,_⟩:=D j y u;rw[q2];exact h.Gs j B T
 ·have⟨B,T,q2,_⟩:=D a y u;have⟨y1,r1,r2,_⟩:=D b y' ae;rw[q2,r2];exact h.inj a b B y1 T r1 ab
 grind [RV.M3,List.map_set,Rc]
theorem RM.mB(h:RM x v F G w)(hc:G.DI[i]?=some c)(B:Tk x v F G w i c g cap z zl)(D:Rs w F V' l')(hk:DF (λb=>b=z.2.lb) w w')(y:w'.heap[z.2.lb]?=some (.cells (tab Ui (zl.set k (l',V'))).toArray 259 (0,0))):∃u e,RM x u e (R.Eh G i k l') w'/\D8 F e w w':=by grind [RM.M5]
theorem RW.Qk(h:RW x v F G w)(hc:G.DI[i]?=some c)(D:Tk x v F G w i c g cap z zl)(u:R.O0 l')(M:l'.DU=[])(hk:DF (λb=>b=z.2.lb) w w')(B:w'.heap[z.2.lb]?=some (.cells (tab Ui (zl.set k (l',.slice none 0 0))).toArray 259 (0,0))):∃y e,RW x y e (R.Eh G i k l') w'/\D8 F e w w':=by
 have⟨y,e,O,Q⟩:=h.toRM.mB hc D (Rs.nil w F M) hk B;exact⟨y,e,⟨O,h.wf.Eh u,h.GQ⟩,Q⟩
end Go.Proofs.YtblomippkddgiaaGreatDoor
