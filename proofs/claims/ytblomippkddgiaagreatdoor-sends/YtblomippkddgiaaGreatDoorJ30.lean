import Derived.Test.YtblomippkddgiaaGreatDoorJ29
import Derived.Laws.Closers25
set_option maxRecDepth 100000
set_option maxHeartbeats 4000000
namespace Go.Proofs.YtblomippkddgiaaGreatDoor
open Go.RowKit
def E4(m:Nat->Bool)(i j k:Nat):Bool:=CJ m i k ^^ (decide (k-i<j)&&Fs (k-i))
theorem SS(m:Nat->Bool)(i k:Nat):CJ m i k=E4 m i 0 k:=by
 simp[E4]
theorem VA{m:Nat->Bool}{i j k:Nat}(hk:i<=k)(hf:Fs j=true):(if k=i+j then !(CJ m i (i+j)) else E4 m i j k)=E4 m i (j+1) k:=by
 unfold E4;by_cases h:k=i+j
 ·subst h;rw[if_pos rfl,show i+j-i=j by omega,hf];simp
 ·rw[if_neg h];congr 2;rw[decide_eq_decide];omega
theorem Xx{m:Nat->Bool}{i j k:Nat}(hk:i<=k)(hf:Fs j=false):E4 m i j k=E4 m i (j+1) k:=by
 unfold E4;by_cases h:k=i+j
 ·subst h;rw[show i+j-i=j by omega,hf];simp
 ·congr 2;rw[decide_eq_decide];omega
theorem Xw(m:Nat->Bool)(i j:Nat):E4 m i j (i+j)=CJ m i (i+j):=by
 unfold E4;rw[show i+j-i=j by omega];simp
theorem QZ{d:Nat}(h:17<=d):Fs d=false:=by
 unfold Fs;simp;omega
theorem Vz{m:Nat->Bool}{i k:Nat}(hk:i<k)(hx:CJ m i i=true):E4 m i 17 k=CJ m (i+1) k:=by
 rw[IY m i k hk,hx];unfold E4;by_cases h:k-i<17
 ·simp[h]
 ·rw[QZ (by omega)];simp
theorem SQ{m:Nat->Bool}{i k:Nat}(hk:i<k)(hx:CJ m i i=false):CJ m i k=CJ m (i+1) k:=by
 rw[IY m i k hk,hx];simp
theorem Rc(R:BitVec 16)(t:Nat)(ht:t<16):((R.toNat / 2 ^ (16-(t+1)):Nat):Int)=2*((R.toNat / 2 ^ (16-t):Nat):Int)+JO (R.getMsbD t):=by
 have e1:R.getMsbD t=decide (R.toNat / 2 ^ (15-t) % 2=1):=by
  rw[BitVec.getMsbD_eq_getLsbD,show decide (t<16)=true by simpa using ht,Bool.true_and,BitVec.getLsbD,Nat.testBit_eq_decide_div_mod_eq,show 16-1-t=15-t by omega]
 have e2:R.toNat / 2 ^ (16-t)=R.toNat / 2 ^ (15-t) / 2:=by
  rw[show 16-t=(15-t)+1 by omega,Nat.pow_succ,Nat.div_div_eq_div_mul]
 rw[e1,e2,show 16-(t+1)=15-t by omega];generalize R.toNat / 2 ^ (15-t)=x;unfold JO;by_cases h:x % 2=1
 ·simp[h];omega
 ·simp[h];omega
def X7:ByteArray:=⟨#[49,49,48,48,48,48,48,48,48,48,48,48,48,48,49,48,49]⟩
theorem X8:∀j (h:j<X7.size),(((X7[j]).toNat:Int)==49)=Fs j:=by
 have:∀j,j<17->∀(h:j<X7.size),(((X7[j]).toNat:Int)==49)=Fs j:=by decide +kernel
 intro j h;exact this j (by have e:X7.size=17:=rfl;omega) h
theorem NE{m:Nat->Bool}{n t:Nat}(h:∀k,n<=k->m k=false):CJ m n (n+t)=(reg m n).getMsbD t:=by
 unfold CJ;rw[h _ (by omega),show n+t-n=t by omega];simp
theorem Jp(l:List UInt8)(w:World)(hl:l.length<=1000):Calls Tryz.prog 247 #[.string (str l)] w fun e w'=>e=.returned (.int .i64 (FE l))/\Below w.heap.size w w':=by
 have H1:=Ab (Sl l w hl);have HR:Hid (FE l=((reg (Fv l) (8*l.length)).toNat:Int)):=by
  show _=_;rw[Xc];rfl
 have HZ:Hid (∀k,8*l.length<=k->Fv l k=false):=Mh l;rw[Aa HR];clear HR;have hsz:((str l).size:Int)=(l.length:Int):=by rw[Au]
 generalize hS:str l=S at *;clear hS;generalize Fv l=m at *;generalize l.length=n at *;obtain⟨R,hR⟩:∃R,R=reg m (8*n):=⟨_,rfl⟩;have HRL:=Ab R.isLt;rw[<-hR];have HRR:=Ab hR;clear hR;have HBY0:=Ab X8;have hbs0:X7.size=17:=rfl;unfold X7 at HBY0 hbs0;go_enter Tryz.func247,Tryz.ntmps247;go_wp2_with fail
 refine(Aa H1).mono ?_;rintro e w1 ⟨rfl,hb1,hbel1⟩;have HB1:=Ab hb1;have HL1:=Ab hbel1;clear hb1 hbel1 H1;go_wp2;generalize ({data:=#[49,49,48,48,48,48,48,48,48,48,48,48,48,48,49,48,49]}:ByteArray)=BY at *;have hbs:(BY.size:Int)=17:=by omega
 clear hbs0;go_loopw [5] (fun iv wr=>∃i:Nat,i<=8*n/\iv=.int .i64 i/\Bits wr w.heap.size (8*n+16) i (CJ m i)/\Below w.heap.size w wr) (fun iv _=>8*n-(intOf iv).toNat)
 case atStart=>exact⟨0,Nat.zero_le _,rfl,(Aa HB1).to (Nat.le_refl _) (fun k _ _=>(NF m k).symm),Aa HL1⟩
 case round=>
  obtain⟨i,hi,rfl,hbits,hbel⟩:=hrel;by_cases hlt:i<8*n
  ·have hcl:=hbits.at (k:=i) (Nat.le_refl _) (by omega);have HBT:=Ab hbits;have HBL:=Ab hbel;clear hbits hbel;cases hx:CJ m i i with
   |true=>
    have hc1:wr.cell? ⟨w.heap.size,i,none⟩=some (.int .u8 1):=by rw[hcl,hx];rfl
    clear hcl;have HX:=Ab hx;clear hx;go_wp2;go_loopw [6] (fun jv wr'=>∃j:Nat,j<=17/\jv=.int .i64 j/\Bits wr' w.heap.size (8*n+16) i (E4 m i j)/\Below w.heap.size w wr') (fun jv _=>17-(intOf jv).toNat)
    case atStart=>exact⟨0,Nat.zero_le _,rfl,(Aa HBT).to (Nat.le_refl _) (fun k _ _=>SS m i k),Aa HBL⟩
    case round=>
     obtain⟨j,hj,rfl,hbits,hbel⟩:=hrel;by_cases hj17:j<17
     ·have hjb:j<BY.size:=by omega
      have hby:=(Aa HBY0) j hjb;have hcl:=hbits.at (k:=i+j) (by omega) (by omega);rw[Xw]at hcl;have hth:=hbits.thaw (i+j);have hjI:(j:Int)<17:=by omega
      have hij:(i:Int)+(j:Int)<8*(n:Int)+16:=by omega
      have HBT':=Ab hbits;have HBL':=Ab hbel;clear hbits hbel;cases hf:Fs j with
      |true=>
       rw[hf]at hby;have HF:=Ab hf;clear hf;go_wp2;go_roundw
       case rel=>exact⟨j+1,by omega,by go_num,((Aa HBT').set (i+j) (!(CJ m i (i+j))) _ (by unfold JO;cases CJ m i (i+j)<;>rfl)).to (Nat.le_refl _) (fun k hk _=>VA hk (Aa HF)),(Aa HBL').setCell (by simp) _⟩
       case measure=>simp[intOf];omega
      |false=>
       rw[hf]at hby;have HF:=Ab hf;clear hf;go_wp2;go_roundw
       case rel=>exact⟨j+1,by omega,by go_num,(Aa HBT').to (Nat.le_refl _) (fun k hk _=>Xx hk (Aa HF)),Aa HBL'⟩
       case measure=>simp[intOf];omega
     ·have hje:j=17:=by omega
      subst hje;have HBT':=Ab hbits;have HBL':=Ab hbel;clear hbits hbel;go_wp2;go_roundw
      case rel=>exact⟨i+1,by omega,by go_num,(Aa HBT').to (by omega) (fun k hk _=>Vz (by omega) (Aa HX)),Aa HBL'⟩
      case measure=>simp[intOf];omega
   |false=>
    have hc1:wr.cell? ⟨w.heap.size,i,none⟩=some (.int .u8 0):=by rw[hcl,hx];rfl
    clear hcl;have HX:=Ab hx;clear hx;go_wp2;go_roundw
    case rel=>exact⟨i+1,by omega,by go_num,(Aa HBT).to (by omega) (fun k hk _=>SQ (by omega) (Aa HX)),Aa HBL⟩
    case measure=>simp[intOf];omega
  ·have hie:i=8*n:=by omega
   have HBT:=Ab hbits;have HBL:=Ab hbel;clear hbits hbel hi;subst hie;go_wp2;go_loopw [7,8] (fun nv iv wr'=>∃t:Nat,t<=16/\iv=.int .i64 (8*(n:Int)+(t:Int))/\nv=.int .i64 ((R.toNat / 2 ^ (16-t):Nat):Int)/\wr'=wr) (fun _ iv _=>8*n+16-(intOf iv).toNat)
   case atStart=>
    refine⟨0,Nat.zero_le _,by go_num,?_,rfl⟩;have:=Aa HRL;rw[Nat.div_eq_of_lt (by omega)];rfl
   case round=>
    obtain⟨t,ht,rfl,rfl,rfl⟩:=hrel;by_cases ht16:t<16
    ·have hcl:=(Aa HBT).at (k:=8*n+t) (by omega) (by omega);rw[NE (Aa HZ),<-Aa HRR]at hcl;have HST:=Ab (Rc R t ht16);have hbb:0<=JO (R.getMsbD t)/\JO (R.getMsbD t)<=1:=by unfold JO;split<;>omega
     have hrl:(R.toNat / 2 ^ (16-t):Nat)<65536:=by
      have:=Aa HRL;have h2:=Nat.div_le_self R.toNat (2 ^ (16-t));omega
     generalize JO (R.getMsbD t)=B at *;generalize R.toNat / 2 ^ (16-t)=Q at *;have hij:8*(n:Int)+(t:Int)<8*(n:Int)+16:=by omega
     go_wp2;go_roundw
     case rel=>exact⟨t+1,by omega,by go_num,by rw[Aa HST],trivial⟩
     case measure=>simp[intOf];omega
    ·have hte:t=16:=by omega
     subst hte;have hrl:=Aa HRL;have e16:R.toNat / 2 ^ (16-16)=R.toNat:=by simp
     rw[e16];go_wp2
     go_ret
     exact⟨rfl,Aa HBL⟩
theorem Gx(w:World)(a b:Int):(convert 199 9 (.slice (some ⟨w.heap.size,0,none⟩) 2 2)).run Tryz.prog (w.alloc (.cells #[.int .u8 a,.int .u8 b] 5))=.ok (.string (str [b8 a,b8 b])) (w.alloc (.cells #[.int .u8 a,.int .u8 b] 5)):=by
 rw[run_convert_bytes_string _ 199 9 5 _ _ _ Tryz.underlying199 Tryz.underlying5 Tryz.underlying9,run_bytesToString _ _ _ _ [a,b]]
 ·rfl
 ·simp[loadCells,go_sem]
theorem Jq(n:Int)(w:World)(h0:0<=n)(h1:n<=65535):
  Calls Tryz.prog 219 #[.int .i64 n] w fun e w'=>e=.returned (.string (str (AF n)))/\Below w.heap.size w w':=by
 have hc:=Gx w (n / 256) (n % 256);have e:AF n=[b8 (n / 256),b8 (n % 256)]:=rfl;rw[e];clear e;have hd:0<=n / 256/\n / 256<=255:=by omega
 have hm:0<=n % 256/\n % 256<=255:=by omega
 go_enter Tryz.func219,Tryz.ntmps219;go_wp2
 go_ret
 exact⟨rfl,(Below.refl _ _).alloc (Nat.le_refl _) _⟩
def Fill(w:World)(G N i:Nat)(xs:List Int):Prop:=∃cur:Array Value,w.heap[G]?=some (.cells cur 5 (0,0))/\cur.size=N/\∀k x,k<i->xs[k]?=some x->cur[k]?=some (.int .u8 x)
theorem Fill.cell{w:World}{G N i:Nat}{xs:List Int}(h:Fill w G N i xs){k:Nat}(hk:k<N):∃v,w.cell? ⟨G,k,none⟩=some v:=by
 obtain⟨cur,hg,hs,_⟩:=h;exact⟨_,cell_of hg k _ (Array.getElem?_eq_getElem (by omega))⟩
theorem Fill.thaw{w:World}{G N i:Nat}{xs:List Int}(h:Fill w G N i xs)(o:Nat):w.frozen? ⟨G,o,none⟩=false:=by
 obtain⟨cur,hg,_⟩:=h;exact Cs hg o
theorem Fill.set{w:World}{G N i:Nat}{xs:List Int}(h:Fill w G N i xs){x:Int}(hx:xs[i]?=some x)(hi:i<N):Fill (w.setCell ⟨G,i,none⟩ (.int .u8 x)) G N (i+1) xs:=by
 obtain⟨cur,hg,hs,r⟩:=h;refine⟨cur.setIfInBounds i (.int .u8 x),Kr hg _,by simpa using hs,fun k y hk hy=>?_⟩;by_cases hki:k=i
 ·subst hki;rw[hx]at hy;cases hy;rw[Array.getElem?_setIfInBounds_self_of_lt (by omega)]
 ·rw[Array.getElem?_setIfInBounds_ne (by omega)];exact r k y (by omega) hy
theorem Fill.conv{w:World}{G N:Nat}{xs:List Int}(h:Fill w G N N xs)(hN:N=xs.length)(hx:∀x∈xs,0<=x/\x<=255):(convert 199 9 (.slice (some ⟨G,0,none⟩) N N)).run Tryz.prog w=.ok (.string (str (xs.map b8))) w:=by
 obtain⟨cur,hg,hs,r⟩:=h;have:=run_convert_bytes_back (P:=Tryz.prog) w 199 9 5 ⟨G,0,none⟩ N (xs.map b8) Tryz.underlying199 (by kernel_rfl) Tryz.underlying9 fun j hj=>?_
 ·rw[List.length_map,<-hN]at this;exact this
 ·rw[List.length_map]at hj;have hxj:=r j xs[j] (by omega) (List.getElem?_eq_getElem hj);rw[Addr.add_lit,Nat.zero_add,cell_of hg j _ hxj];have hm:=hx xs[j] (List.getElem_mem hj);rw[List.getElem_map,CZ hm.1 hm.2]
theorem La(xs:List Int)(G c:Nat)(w:World)(hG:G<w.heap.size)(hcx:∀i x,xs[i]?=some x->w.cell? ⟨G,i,none⟩=some (.int .i64 x))(hx:∀x∈xs,0<=x/\x<=255)(hl:xs.length<=1000):
  Calls Tryz.prog 246 #[.slice (some ⟨G,0,none⟩) xs.length c] w fun e w'=>e=.returned (.string (str (xs.map b8)))/\Below w.heap.size w w':=by
 obtain⟨i0,hi,hz0,hz1,hz2⟩:=info_parts info5;obtain⟨n,hn⟩:∃n,n=xs.length:=⟨_,rfl⟩;obtain⟨M,hM⟩:∃M,M=madeCells (Value.int .u8 0).cells (n*1):=⟨_,rfl⟩;have hmk:∀W:World,(Instr.makeSlice 199 (.int .i64 (n:Int)) (.int .i64 (n:Int))).run Tryz.prog W=.ok (.slice (some ⟨W.heap.size,0,none⟩) n n) (W.alloc (.cells M 5)):=fun W=>by
  have h:=run_make (P:=Tryz.prog) W 199 5 i0 (.int .u8 0) Tryz.underlying199 hi hz0 .i64 .i64 (n:Int) (n:Int) (by omega) (Int.le_refl _) (by rw[hz2];omega) (by omega);rw[hz1,Int.toNat_natCast,<-hM]at h;exact h
 have HM:Hid (Fill (w.alloc (.cells M 5)) w.heap.size n 0 xs):=⟨M,heap_alloc_new w _,by rw[hM,size_madeCells];omega,fun k x hk=>by omega⟩;have HBM:=Ab ((Below.refl w.heap.size w).alloc (Nat.le_refl _) (.cells M 5));have HCX:=Ab hcx;have HX:=Ab hx;obtain⟨ST,hST⟩:∃ST,ST=str (xs.map b8):=⟨_,rfl⟩;rw[<-hn,<-hST];have HST:=Ab hST;clear hST;have HN:=Ab hn;have hnn:n<=1000:=by omega
 clear hM hcx hx hl hn;go_enter Tryz.func246,Tryz.ntmps246;go_wp2;go_loopw [4] (fun iv wr=>∃i:Nat,i<=n/\iv=.int .i64 i/\Fill wr w.heap.size n i xs/\Below w.heap.size w wr) (fun iv _=>n-(intOf iv).toNat)
 case atStart=>exact⟨0,Nat.zero_le _,rfl,Aa HM,Aa HBM⟩
 case round=>
  obtain⟨i,hi,rfl,hf,hb⟩:=hrel;by_cases hlt:i<n
  ·obtain⟨x,hx⟩:∃x,xs[i]?=some x:=⟨_,List.getElem?_eq_getElem (by have:=Aa HN;omega)⟩;have hxb:=(Aa HX) x (List.mem_of_getElem? hx);have hcell:=(hb.cell (p:=⟨G,i,none⟩) hG).trans ((Aa HCX) i x hx);obtain⟨v0,hv0⟩:=hf.cell hlt;have hth:=hf.thaw i;have HF:=Ab (hf.set hx hlt);have HB:=Ab (hb.setCell (show w.heap.size<=(⟨w.heap.size,i,none⟩:Addr).block from Nat.le_refl _) (.int .u8 x));clear hf hb hx;go_wp2;go_roundw
   case rel=>exact⟨i+1,by omega,by go_num,Aa HF,Aa HB⟩
   case measure=>simp[intOf];omega
  ·have hie:i=n:=by omega
   subst hie;have hcv:=hf.conv (Aa HN) (Aa HX);have HB:=Ab hb;clear hf hb;rw[<-Aa HST]at hcv;go_wp2
   go_ret
   exact⟨rfl,Aa HB⟩
theorem FI(a b:List UInt8):str a++str b=str (a++b):=by
 apply ByteArray.ext;simp
theorem Ul(W:World)(xs:List Int)(t:TypeId):∀(i:Nat) (x:Int),xs[i]?=some x->(W.alloc (.cells (xs.map (Value.int .i64)).toArray t)).cell? ⟨W.heap.size,i,none⟩=some (.int .i64 x):=by
 intro i x hx;rw[World.cell?_alloc_new W _ _ i,List.getElem?_toArray,List.getElem?_map,hx];rfl
theorem JQ(p:Pk)(w:World)(hr:Bq p):Calls Tryz.prog 214 #[pv p] w fun e w'=>e=.returned (.string (str (DG p)))/\Below w.heap.size w w':=by
 have hbl:=KE hr;have HSB:Hid (DG p=Et p++AF (FE (Et p))):=rfl;have HHB:Hid (Et p=([p.kind,p.client,p.Ax,p.line,p.seq / 256,p.seq % 256,p.uid,p.part,p.off,yes p.please,(p.body.length:Int)]:List Int).map b8++p.body):=rfl;have HHL:=Ab (KW p);rw[Aa HSB];clear HSB;generalize Et p=H at *;obtain⟨k,c,li,ln,sq,u,pa,o,pl,body⟩:=p;obtain⟨b1,b2,b3,b4,b5,b6,b7,b8',_⟩:=hr;simp only at b1 b2 b3 b4 b5 b6 b7 b8' hbl;show Calls Tryz.prog 214 #[My k c li ln sq u pa o pl (str body)] w _;have qY:0<=yes pl/\yes pl<=1:=by unfold yes;split<;>omega
 have HXS:Hid (∀x∈([k,c,li,ln,sq / 256,sq % 256,u,pa,o,yes pl,(body.length:Int)]:List Int),0<=x/\x<=255):=by
  intro x hx;simp only[List.mem_cons,List.not_mem_nil,or_false]at hx;omega
 obtain⟨BX,hBX⟩:∃BX,w.alloc (.cells #[.int .i64 k,.int .i64 c,.int .i64 li,.int .i64 ln,.int .i64 sq,.int .i64 u,.int .i64 pa,.int .i64 o,.bool pl,.string (str body)] 41)=BX:=⟨_,rfl⟩;have hbx:BX.heap[w.heap.size]?=some (.cells #[.int .i64 k,.int .i64 c,.int .i64 li,.int .i64 ln,.int .i64 sq,.int .i64 u,.int .i64 pa,.int .i64 o,.bool pl,.string (str body)] 41 (0,0)):=by
  rw[<-hBX];exact heap_alloc_new w _
 have hbs:BX.heap.size=w.heap.size+1:=by rw[<-hBX];simp
 have HBW:Hid (Below w.heap.size w BX):=by
  rw[<-hBX];exact(Below.refl _ _).alloc (Nat.le_refl _) _
 have HBB:=Ab (La [k,c,li,ln,sq / 256,sq % 256,u,pa,o,yes pl,(body.length:Int)] BX.heap.size 11 ((BX.alloc (.cells (([k,c,li,ln,sq / 256,sq % 256,u,pa,o,yes pl,(body.length:Int)]:List Int).map (Value.int .i64)).toArray 3)).drew) (by simp) (Ul BX _ 3) (Aa HXS) (by simp));rw[hbs]at HBB;have HQ1:Hid (IntKind.i64.wrap (sq.tdiv 256)=sq / 256):=by
  show _=_;rw[Int.tdiv_eq_ediv_of_nonneg (by omega)];exact wrap_i64_ediv _ _ (by omega) (by omega) (by omega)
 have HQ2:Hid (sq.tmod 256=sq % 256):=Int.tmod_eq_emod_of_nonneg (by omega);have HCR:Hid (∀w,Calls Tryz.prog 247 #[.string (str H)] w fun e w'=>e=.returned (.int .i64 (FE H))/\Below w.heap.size w w'):=fun w=>Jp H w (by rw[Aa HHL];simp only;omega)
 have HTW:=Ab (fun w=>Jq (FE H) w (KO H).1 (KO H).2);have HST:=Ab (FI H (AF (FE H)));have HSH:Hid (str (([k,c,li,ln,sq / 256,sq % 256,u,pa,o,yes pl,(body.length:Int)]:List Int).map b8)++str body=str H):=by
  show _=_;rw[Aa HHB,FI]
 have hlen:H.length=11+body.length:=Aa HHL;have hadd1:∀w,(Op.stringOp .add (str (([k,c,li,ln,sq / 256,sq % 256,u,pa,o,yes pl,(body.length:Int)]:List Int).map b8)) (str body)).run Tryz.prog w=.ok (.string (str H)) w:=fun w=>by
  rw[<-Aa HSH];exact run_string_add_sum w _ _ (by rw[Au,Au];simp;omega)
 have hadd2:∀w,(Op.stringOp .add (str H) (str (AF (FE H)))).run Tryz.prog w=.ok (.string (str (H++AF (FE H)))) w:=fun w=>by
  rw[<-Aa HST];exact run_string_add_sum w _ _ (by rw[Au,Au];simp[AF];omega)
 clear hlen;generalize FE H=C at *;generalize str (H++AF C)=ST at *;generalize str (AF C)=S2 at *;generalize str H=SH at *;generalize str (([k,c,li,ln,sq / 256,sq % 256,u,pa,o,yes pl,(body.length:Int)]:List Int).map b8)=SN at *;have hsz:((str body).size:Int)=(body.length:Int):=by rw[Au]
 generalize str body=SB at *;have c0:BX.cell? ⟨w.heap.size,0,none⟩=some (.int .i64 k):=cell_of hbx 0 _ rfl;have c1:BX.cell? ⟨w.heap.size,1,none⟩=some (.int .i64 c):=cell_of hbx 1 _ rfl;have c2:BX.cell? ⟨w.heap.size,2,none⟩=some (.int .i64 li):=cell_of hbx 2 _ rfl;have c3:BX.cell? ⟨w.heap.size,3,none⟩=some (.int .i64 ln):=cell_of hbx 3 _ rfl;have c4:BX.cell? ⟨w.heap.size,4,none⟩=some (.int .i64 sq):=cell_of hbx 4 _ rfl;have c5:BX.cell? ⟨w.heap.size,5,none⟩=some (.int .i64 u):=cell_of hbx 5 _ rfl;have c6:BX.cell? ⟨w.heap.size,6,none⟩=some (.int .i64 pa):=cell_of hbx 6 _ rfl;have c7:BX.cell? ⟨w.heap.size,7,none⟩=some (.int .i64 o):=cell_of hbx 7 _ rfl;have c8:BX.cell? ⟨w.heap.size,8,none⟩=some (.bool pl):=cell_of hbx 8 _ rfl;have c9:BX.cell? ⟨w.heap.size,9,none⟩=some (.string SB):=cell_of hbx 9 _ rfl;have HBX:=Ab hBX;have HK9:Hid ((BX.alloc (.cells (([k,c,li,ln,sq / 256,sq % 256,u,pa,o,yes pl,(body.length:Int)]:List Int).map (Value.int .i64)).toArray 3)).drew.heap[w.heap.size]?=some (.cells #[.int .i64 k,.int .i64 c,.int .i64 li,.int .i64 ln,.int .i64 sq,.int .i64 u,.int .i64 pa,.int .i64 o,.bool pl,.string SB] 41 (0,0))):=(Below.heap_alloc _ _ _ (by omega)).trans hbx;have HBW':=Ab (((Aa HBW).alloc (by omega) (.cells (([k,c,li,ln,sq / 256,sq % 256,u,pa,o,yes pl,(body.length:Int)]:List Int).map (Value.int .i64)).toArray 3)).drew);clear HHB HHL HXS hBX;clear hbx;cases pl;all_goals
  first|rw[show yes true=1 from rfl]at HBB HK9 HBW'|rw[show yes false=0 from rfl]at HBB HK9 HBW'
  go_enter Tryz.func214,Tryz.ntmps214;go_wp2_with fail
  rw[Aa HBX];go_region_held3 (fun w'=>w'.cell? ⟨w.heap.size,0,none⟩=some (.int .i64 k)/\w'.cell? ⟨w.heap.size,1,none⟩=some (.int .i64 c)/\w'.cell? ⟨w.heap.size,2,none⟩=some (.int .i64 li)/\w'.cell? ⟨w.heap.size,3,none⟩=some (.int .i64 ln)/\w'.cell? ⟨w.heap.size,4,none⟩=some (.int .i64 sq)/\w'.cell? ⟨w.heap.size,5,none⟩=some (.int .i64 u)/\w'.cell? ⟨w.heap.size,6,none⟩=some (.int .i64 pa)/\w'.cell? ⟨w.heap.size,7,none⟩=some (.int .i64 o)/\w'.cell? ⟨w.heap.size,9,none⟩=some (.string SB)) (go_keep)
   ((go_at_call 246;rw[Aa HQ1,Aa HQ2];refine(Aa HBB).mono ?_;rintro e w1 ⟨rfl,hb1⟩;have hs1:=hb1.size;have hbz:=(hb1.block w.heap.size (by simp;omega)).trans (Aa HK9);have f0:w1.cell? ⟨w.heap.size,0,none⟩=some (.int .i64 k):=cell_of hbz 0 _ rfl;have f1:w1.cell? ⟨w.heap.size,1,none⟩=some (.int .i64 c):=cell_of hbz 1 _ rfl;have f2:w1.cell? ⟨w.heap.size,2,none⟩=some (.int .i64 li):=cell_of hbz 2 _ rfl;have f3:w1.cell? ⟨w.heap.size,3,none⟩=some (.int .i64 ln):=cell_of hbz 3 _ rfl;have f4:w1.cell? ⟨w.heap.size,4,none⟩=some (.int .i64 sq):=cell_of hbz 4 _ rfl;have f5:w1.cell? ⟨w.heap.size,5,none⟩=some (.int .i64 u):=cell_of hbz 5 _ rfl;have f6:w1.cell? ⟨w.heap.size,6,none⟩=some (.int .i64 pa):=cell_of hbz 6 _ rfl;have f7:w1.cell? ⟨w.heap.size,7,none⟩=some (.int .i64 o):=cell_of hbz 7 _ rfl;have f9:w1.cell? ⟨w.heap.size,9,none⟩=some (.string SB):=cell_of hbz 9 _ rfl;clear hbz;have HB1:=Ab ((Aa HBW').trans (hb1.mono (by simp;omega)));clear hb1))
  go_wp2_with fail
  refine((Aa HCR) _).mono ?_;rintro e w2 ⟨rfl,hb2⟩;have HB2:=Ab ((Aa HB1).trans (hb2.mono (Aa HB1).size));clear hb2;go_wp2_with fail
  refine((Aa HTW) _).mono ?_;rintro e w3 ⟨rfl,hb3⟩;have HB3:=Ab ((Aa HB2).trans (hb3.mono (Aa HB2).size));clear hb3;go_wp2
  go_ret
  exact⟨rfl,Aa HB3⟩
theorem N8:(Tryz.prog.info? 304).map (fun i=>(i.zero,i.size,i.bytes))=some (some (.agg #[.int .i64 0,.string ⟨#[]⟩,.bool false]),3,32):=by kernel_rfl
theorem Mr(w:World)(host:Int)(S:ByteArray)(j:Nat)(u:Value)(h:([.int .i64 host,.string S,.bool false]:List Value)[j]?=some u):(w.alloc (.cells #[.int .i64 host,.string S,.bool false] 304)).cell? ((⟨w.heap.size,0,none⟩:Addr).add j)=some u:=by
 rw[Addr.add_lit,Nat.zero_add,World.cell?_alloc_new w _ _ j,<-List.getElem?_toArray]at *;exact h
theorem AR{w:World}{B n size:Nat}{e:TypeId}{K:Value}{xs:List Value}(h:w.ownsRow B e size K n xs):∃a c,K=.slice a n c:=by
 rcases h.2 with ⟨rfl,rfl⟩|⟨g,cap,cur,rfl,_⟩
 ·exact⟨none,0,rfl⟩
 ·exact⟨_,_,rfl⟩
def DW(w:World)(x:Nat)(c:R.Cf)(v:RV)(fl:List R.Fl)(w':World):Prop:=∃K,w'.ownsRow 0 304 3 K fl.length (tab A1 fl)/\w'.heap[x]?=some (.cells (CB c {v with Fl:=K}) 229 (0,0))/\Ae (fun k=>k=x\/v.Fl.ownBlock=some k) w w'/\∀j,K.ownBlock=some j->v.Fl.ownBlock=some j\/w.heap.size<=j
theorem RW.Ye{x:Nat}{v:RV}{F:Ag}{G:R.Wd}{w w':World}(h:RW x v F G w){fl:List R.Fl}(hwf:R.Wf {G with Af:=fl})(hp:DW w x G.c v fl w'):∃v' F',RW x v' F' {G with Af:=fl} w'/\Ah F F' w w':=by
 obtain⟨K,h1,h2,h3,h4⟩:=hp;exact h.FP hwf h3 h2 h1 h4
theorem OP(w:World)(x:Nat)(c:R.Cf)(v:RV)(fl:List R.Fl)(to:Int)(pk:Pk)(hx:w.heap[x]?=some (.cells (CB c v) 229 (0,0)))(hrow:w.ownsRow 0 304 3 v.Fl fl.length (tab A1 fl))(hl:fl.length<40)(hr:Bq pk):
  Calls Tryz.prog 167 #[Av x,.int .i64 to,pv pk] w fun e w'=>e=.returned (.tuple #[])/\DW w x c v (fl++[⟨to,DG pk,false⟩]) w':=by
 obtain⟨a,cc,hK⟩:=AR hrow;obtain⟨m,hm⟩:∃m,fl.length=m:=⟨_,rfl⟩;have hlm:(m:Int)<40:=by omega
 rw[hm]at hK;obtain⟨i0,hi,hz0,hz1,hz2⟩:=info_parts N8;have HSE:=Ab (fun w=>JQ pk w hr);obtain⟨SB,hSB⟩:∃SB,SB=str (DG pk):=⟨_,rfl⟩;obtain⟨TF,hTF⟩:∃TF,TF=tab A1 fl:=⟨_,rfl⟩;have HEND:Hid (∀(w':World) (K:Value),w'.ownsRow 0 304 3 K (m+1) (TF++[.int .i64 to,.string SB,.bool false])->w'.heap[x]?=some (.cells (CB c {v with Fl:=K}) 229 (0,0))->Ae (fun k=>k=x\/v.Fl.ownBlock=some k) w w'->(∀j,K.ownBlock=some j->v.Fl.ownBlock=some j\/w.heap.size<=j)->DW w x c v (fl++[⟨to,DG pk,false⟩]) w'):=fun w' K h1 h2 h3 h4=>⟨K,by
  rw[D9,List.length_append,hm,<-hTF];rw[hSB]at h1;exact h1,h2,h3,h4⟩
 rw[<-hSB]at HSE;rw[hm,<-hTF,hK]at hrow;generalize DW w x c v (fl++[⟨to,DG pk,false⟩])=Post at *;have hcs:w.heap[x]?=some (.cells [.int .i64 c.Ad,.int .i64 c.lines,.int .i64 c.Al,.int .i64 c.tries,.int .i64 c.table,v.N,v.S,v.V,.slice a m cc,v.C,.slice (some ⟨v.L,0,none⟩) 3 3,.slice (some ⟨v.Sn,0,none⟩) 9 9,.slice none 0 0].toArray 229 (0,0)):=by
  rw[hx,<-hK]
 rw[hK]at HEND;clear hTF hm hl hx hSB hK;obtain⟨k,cl,li,ln,sq,u,pa,o,pl,body⟩:=pk;show Calls Tryz.prog 167 #[Av x,.int .i64 to,.agg #[.int .i64 k,.int .i64 cl,.int .i64 li,.int .i64 ln,.int .i64 sq,.int .i64 u,.int .i64 pa,.int .i64 o,.bool pl,.string (str body)]] w _;obtain⟨BX,hBX⟩:∃BX,w.alloc (.cells #[.int .i64 k,.int .i64 cl,.int .i64 li,.int .i64 ln,.int .i64 sq,.int .i64 u,.int .i64 pa,.int .i64 o,.bool pl,.string (str body)] 41)=BX:=⟨_,rfl⟩;have HB:Hid (Below w.heap.size w BX):=by
  rw[<-hBX];exact(Below.refl w.heap.size w).alloc (Nat.le_refl _) _
 have hlx:=lt_of_block hcs;have x8:w.cell? ⟨x,8,none⟩=some (.slice a m cc):=cell_of hcs 8 _ rfl;have HBX:=Ab hBX;have HX:=Ab hcs;have HRW:=Ab hrow;clear hBX hcs hrow;go_enter Tryz.func167,Tryz.ntmps167;go_wp2_with fail
 rw[Aa HBX];refine((Aa HSE) _).mono ?_;rintro e w1 ⟨rfl,hb1⟩;have hbw:=(Aa HB).trans (hb1.mono (Aa HB).size);have hx1:=(hbw.block x hlx).trans (Aa HX);have y8:w1.cell? ⟨x,8,none⟩=some (.slice a m cc):=cell_of hx1 8 _ rfl;have hl1:=lt_of_block hx1;have HB1:=Ab hbw;clear hb1 hbw hx1 x8;go_wp2_with (at_builtin;go_must (refine wpList_append_own_at _ rfl (.tmp 19) (.tmp 23) 224 rfl 0 304 i0 (.agg #[.int .i64 0,.string ⟨#[]⟩,.bool false]) 3 32 Tryz.underlying224 hi hz0 hz1 hz2 rfl (by decide) (.slice a m cc) m TF rfl (by exact(Be (Aa HRW) (Aa HB1)).alloc _) ⟨w1.heap.size,0,none⟩ 1 1 [.int .i64 to,.string SB,.bool false] rfl rfl (by exact Mr w1 to SB) (by simp[Value.oneCell']) (by unfold maxLen;omega) (by omega) (by omega) ?_))
 intro v' wz hown hgrow _ hat;obtain⟨va,vn,vc,hvs⟩:=Am hown;subst hvs;have hbA:Below w.heap.size w (w1.alloc (.cells #[.int .i64 to,.string SB,.bool false] 304)):=(Aa HB1).alloc (Aa HB1).size _;have hgx:=C9 (Aa HX) (Aa HRW) (by decide) hbA hgrow;have hput:=FX (o:=8) (Aa HX) (Aa HRW) (by decide) hbA hgrow hown hat (by have:=(Aa HB1).size;simp;omega);obtain⟨d1,d2,d3,d4⟩:=hput;have HP:=Ab ((Aa HEND) _ _ d1 d2 d3 d4);have g8:wz.cell? ⟨x,8,none⟩=some (.slice a m cc):=cell_of hgx 8 _ rfl;have gz:wz.frozen? ⟨x,8,none⟩=false:=Cs hgx 8;have hlz:=lt_of_block hgx;clear hown hgrow hat hgx d1 d2 d3 d4 hbA HEND y8;go_wp2_with fail
 go_returns;exact⟨rfl,Aa HP⟩
end Go.Proofs.YtblomippkddgiaaGreatDoor
