import Derived.Test.YtblomippkddgiaaGreatDoorJ12
import Derived.Laws.IdiomStrings
import Derived.Lib.BufferRead
import Derived.ProofKit
import Derived.OpenShut
import Derived.ShutString
import Derived.ChangeOld
import Derived.Below
set_option maxRecDepth 100000
set_option maxHeartbeats 1000000
namespace Go.Proofs.YtblomippkddgiaaGreatDoor.V
open Go.RowKit
abbrev XH:=List It×List UInt8
def F8(lo hi:Int)(x:XH):Option (Int×XH):=match x.1 with
 |[]=>none
 |i :: r=>if i.2.size=0/\lo<=i.1/\i.1<=hi then some (i.1,(r,x.2++AF i.1)) else none
def Hu(x:XH):Option XH:=match x.1 with
 |[]=>none
 |i :: r=>if i.1=0/\i.2.size<=14 then some (r,x.2++G6 true i) else none
def Py(w0:World)(Ov:Value):Nat->Prop:=fun k=>k=w0.heap.size\/Ov.ownBlock=some k
def writer(w0:World):BB XH where
 tid:=203
 KU:=281
 Wt:=282
 er:=4
 ptr:=⟨w0.heap.size,0,none⟩
 w0:=w0
 St:=fun w c x O=>∃L Ov,WS w0 w L x.1 Ov x.2/\O=Py w0 Ov/\x.1.length<=9000000000000/\x.2.length<=17*c
 num:=F8
 txt:=Hu
theorem Wk.kept{w0 w w':World}{O O':Value}(h:Wk w0.heap.size O O' w w'):Kept (Py w0 O) (Py w0 O') w w':=by
 refine⟨h.size,fun k hk hn=>h.block k hk (fun e=>hn (Or.inl e)) (fun e=>hn (Or.inr e)),fun k hk=>?_⟩;rcases hk with hk|hk
 ·exact Or.inl (Or.inl hk)
 ·rcases h.row with h1|⟨g,h1,h2⟩
  ·exact Or.inl (Or.inr (h1 ▸ hk))
  ·rw[hk]at h1;cases h1;exact Or.inr h2
theorem KQ(x:It)(h:x.2.size<=14):(G6 true x).length<=17:=PW true x (fun _=>h)
theorem JK(w0:World):Iv (writer w0) where
 below:=by
  rintro w c x O ⟨L,Ov,h,_⟩;exact h.below
 fresh:=by
  rintro w c x O ⟨L,Ov,h,rfl,_⟩ k (rfl|hk)
  ·exact⟨Nat.le_refl _,h.wr.lt⟩
  ·have:=h.row hk;exact⟨by simp only[writer];omega,this.2⟩
 go:=by
  rintro w c x O w' ⟨L,Ov,h,r⟩ hb;exact⟨L,Ov,h.go hb,r⟩
 range:=by
  rintro lo hi ⟨v,out⟩ n x' h;simp only[writer,F8]at h;cases v with
  |nil=>cases h
  |cons i r=>
   simp only at h;split at h
   ·rename_i hc;cases h;exact⟨hc.2.1,hc.2.2⟩
   ·cases h
 Oh:=⟨fun _=>by kernel_rfl,fun _ _=>rfl⟩
 ZF:=⟨fun _=>by kernel_rfl,fun _ _=>rfl⟩
 number:=by
  rintro w c ⟨v,out⟩ O lo hi ⟨L,Ov,h,rfl,hn,ho⟩ hc _;simp only at h hn ho;cases v with
  |nil=>
   refine(Mq w0 w L Ov out lo hi h).mono ?_;rintro e w' ⟨rfl,hb⟩;exact Or.inl ⟨rfl,rfl,hb⟩
  |cons x v=>
   simp only[List.length_cons]at hn;by_cases hok:x.2.size=0/\lo<=x.1/\x.1<=hi
   ·refine(Rn w0 w L Ov x v out lo hi h (by omega) (toList_nil.2 hok.1) (by omega) (by omega) (by omega)).mono ?_;rintro e w' ⟨rfl,L',O',hws,hwk⟩;refine Or.inr ⟨x.1,rfl,(v,out++AF x.1),by simp[writer,F8,hok],c+1,Py w0 O',Nat.le_refl _,⟨L',O',hws,rfl,by simp only;omega,?_⟩,hwk.kept⟩;simp only[List.length_append,AF,List.length_cons,List.length_nil];omega
   ·have hno:(writer w0).num lo hi (x :: v,out)=none:=by simp only[writer,F8];rw[if_neg hok]
    have fin:∀e w',e=A5 4 0/\Below w0.heap.size w0 w'->XG (writer w0).er ((writer w0).No ((writer w0).num lo hi (x :: v,out)=none)) (fun i w'=>∃x',(writer w0).num lo hi (x :: v,out)=some (i,x')/\(writer w0).Lv (Py w0 Ov) (c+1) x' w w') e w':=by
     rintro e w' ⟨rfl,hb⟩;exact Or.inl ⟨rfl,hno,hb⟩
    by_cases hS:x.2.toList=[]
    ·have:=toList_nil.1 hS;by_cases hl:x.1<lo
     ·exact(Ml w0 w L Ov x v out lo hi h (by omega) hS hl).mono fin
     ·exact(Mm w0 w L Ov x v out lo hi h (by omega) hS hl (by omega)).mono fin
    ·exact(Mk w0 w L Ov x v out lo hi h (by omega) hS).mono fin
 text:=by
  rintro w c ⟨v,out⟩ O ⟨L,Ov,h,rfl,hn,ho⟩ hc;simp only at h hn ho;cases v with
  |nil=>
   refine(SI w0 w L Ov out h).mono ?_;rintro e w' ⟨rfl,hb⟩;exact Or.inl ⟨rfl,rfl,hb⟩
  |cons x v=>
   simp only[List.length_cons]at hn;by_cases hok:x.1=0/\x.2.size<=14
   ·refine(Xq w0 w L Ov x v out h (by omega) hok.1 hok.2 (by omega)).mono ?_;rintro e w' ⟨rfl,L',O',hws,hwk⟩;refine Or.inr ⟨rfl,(v,out++G6 true x),by simp[writer,Hu,hok],c+1,Py w0 O',Nat.le_refl _,⟨L',O',hws,rfl,by simp only;omega,?_⟩,hwk.kept⟩;have:=KQ x hok.2;simp only[List.length_append];omega
   ·have hno:(writer w0).txt (x :: v,out)=none:=by simp only[writer,Hu];rw[if_neg hok]
    have fin:∀e w',e=A5 4 0/\Below w0.heap.size w0 w'->JM (writer w0).er ((writer w0).No ((writer w0).txt (x :: v,out)=none)) (fun w'=>∃x',(writer w0).txt (x :: v,out)=some x'/\(writer w0).Lv (Py w0 Ov) (c+1) x' w w') e w':=by
     rintro e w' ⟨rfl,hb⟩;exact Or.inl ⟨rfl,hno,hb⟩
    by_cases hN:x.1=0
    ·exact(SG w0 w L Ov x v out h (by omega) (by simp[hN]) (by omega)).mono fin
    ·exact(SE w0 w L Ov x v out h (by omega) (by simpa using hN)).mono fin
theorem IU:∀(k1 k2:List Bool) (v:List It),k1.length<=v.length->bytesOf (k1++k2) v=bytesOf k1 v++bytesOf k2 (v.drop k1.length):=by
 intro k1;induction k1 with
 |nil=>intro k2 v _;simp[bytesOf]
 |cons a k1 ih=>
  intro k2 v h;cases v with
  |nil=>simp at h
  |cons x v=>
   simp only[List.cons_append,bytesOf,List.length_cons,List.drop_succ_cons];rw[ih k2 v (by simpa using h),List.append_assoc]
def JV(v:List It)(out:List UInt8)(e:Ck):Option XH:=e.map fun a=>(a.2,out++bytesOf a.1 v)
theorem Kx{v r:List It}{out:List UInt8}{k0:List Bool}(hr:r=v.drop k0.length)(hk:k0.length<=v.length)(e:Ck):JV v out (BZ k0 e)=JV r (out++bytesOf k0 v) e:=by
 cases e with
 |none=>rfl
 |some a=>
  simp only[BZ,JV,Option.map_some,Option.some.injEq,Prod.mk.injEq,true_and];rw[IU _ _ _ hk,<-hr,List.append_assoc]
theorem Vi{E:Nat->List It->Ck}{F:Nat->XH->Option XH}:∀(qs:List Nat),(∀q∈qs,Ga (E q))->(∀q∈qs,∀v out,F q (v,out)=JV v out (E q v))->∀v out,DV F qs (v,out)=JV v out (AX E qs v):=by
 intro qs;induction qs with
 |nil=>intro _ _ v out;simp[DV,AX,JV,bytesOf]
 |cons q qs ih=>
  intro hH hF v out;simp only[DV,AX];rw[hF q (by simp) v out];cases hE:E q v with
  |none=>rfl
  |some a=>
   obtain⟨k,r⟩:=a;obtain⟨h1,h2⟩:=hH q (by simp) v k r hE;simp only;rw[Kx h1 h2];exact ih (fun q hq=>hH q (by simp[hq])) (fun q hq=>hF q (by simp[hq])) r _
theorem QP(g:Nat->Nat):∀f p v out,AQ F8 Hu g f p (v,out)=JV v out (Dk g f p v):=by
 intro f;induction f with
 |zero=>intro p v out;rfl
 |succ f ih=>
  intro p v out;have sq:=fun qs=>Vi (E:=Dk g f) (F:=AQ F8 Hu g f) qs (fun q _=>Cu g f q) (fun q _=>ih q)
  by_cases ha:g p=97
  ·have hh:AA g f p v=some ([],List.replicate (g (p+1)-48) (p+2),v):=by simp[AA,ha]
   rw[Dq hh,FQ,<-sq];simp[AQ,ha]
  by_cases hr:g p=114
  ·have hh:AA g f p v=some ([],Pt.kids g f p,v):=by simp[AA,hr]
   rw[Dq hh,FQ,<-sq];simp[AQ,hr]
  cases v with
  |nil=>
   have hh:AA g f p []=none:=by simp[AA,ha,hr]
   rw[Es hh];simp[AQ,ha,hr,Hu,F8,JV]
  |cons x v=>
   by_cases hs:g p=115
   ·by_cases hc:x.1=0/\x.2.size<=14
    ·have hh:AA g f p (x :: v)=some ([true],[],v):=by simp[AA,hs,hc]
     rw[Dq hh];simp[AQ,hs,Hu,hc,AX,BZ,JV,bytesOf]
    ·have hh:AA g f p (x :: v)=none:=by simp[AA,hs,hc]
     rw[Es hh];simp[AQ,hs,Hu,hc,JV]
   ·by_cases hc:x.2.size=0/\CL (g p)<=x.1/\x.1<=BF g f p
    ·have hn:F8 (CL (g p)) (BF g f p) (x :: v,out)=some (x.1,(v,out++AF x.1)):=by simp[F8,hc]
     have hb:out++AF x.1=out++bytesOf [false] (x :: v):=by simp[bytesOf,G6]
     have hcp:AQ F8 Hu g (f+1) p (x :: v,out)=if g p=117 then AQ F8 Hu g f (partOf (Pt.kids g f p) x.1) (v,out++AF x.1) else if g p=113 then DV (AQ F8 Hu g f) (List.replicate x.1.toNat (p+2)) (v,out++AF x.1) else some (v,out++AF x.1):=by
      simp only[AQ,if_neg hs,if_neg ha,if_neg hr,hn];rfl
     have hh:AA g f p (x :: v)=some ([false],(if g p=117 then [partOf (Pt.kids g f p) x.1] else if g p=113 then List.replicate x.1.toNat (p+2) else []),v):=by simp[AA,ha,hr,hs,hc]
     rw[Dq hh,Kx (k0:=[false]) (v:=x :: v) (r:=v) rfl (by simp),<-hb,hcp];by_cases hu:g p=117
     ·rw[if_pos hu,if_pos hu,<-sq];simp only[DV];cases AQ F8 Hu g f (partOf (Pt.kids g f p) x.1) (v,out++AF x.1)<;>rfl
     ·rw[if_neg hu,if_neg hu];by_cases hq:g p=113
      ·rw[if_pos hq,if_pos hq,<-sq]
      ·rw[if_neg hq,if_neg hq,<-sq];rfl
    ·have hn:F8 (CL (g p)) (BF g f p) (x :: v,out)=none:=by simp only[F8];rw[if_neg hc]
     have hh:AA g f p (x :: v)=none:=by simp only[AA,if_neg ha,if_neg hr,if_neg hs,if_neg hc]
     rw[Es hh];simp only[AQ,if_neg hs,if_neg ha,if_neg hr,hn];rfl
def E6(ks:List Bool)(v:List It):Prop:=∀(i:Nat) (k:Bool) (x:It),ks[i]?=some k->v[i]?=some x->(k=true->x.2.size<=14)/\(k=false->-32768<=x.1/\x.1<=65535)
theorem Jc{k1 k2:List Bool}{v r:List It}(hr:r=v.drop k1.length)(h1:E6 k1 v)(h2:E6 k2 r):E6 (k1++k2) v:=by
 intro i k x hk hx;by_cases hi:i<k1.length
 ·rw[List.getElem?_append_left hi]at hk;exact h1 i k x hk hx
 ·rw[List.getElem?_append_right (by omega)]at hk;refine h2 (i-k1.length) k x hk ?_;rw[hr,List.getElem?_drop,show k1.length+(i-k1.length)=i by omega];exact hx
def Nh(E:List It->Ck)(M:Nat):Prop:=∀v ks r,E v=some (ks,r)->ks.length<=M/\E6 ks v
theorem Sf{E:Nat->List It->Ck}{M:Nat}:∀qs:List Nat,(∀q∈qs,Ga (E q))->(∀q∈qs,Nh (E q) M)->Nh (AX E qs) (qs.length*M):=by
 intro qs;induction qs with
 |nil=>intro _ _ v ks r h;simp[AX]at h;obtain⟨rfl,rfl⟩:=h;exact⟨by simp,fun i k x hk=>by simp at hk⟩
 |cons a qs ih=>
  intro hH hS v ks r h;simp only[AX]at h;cases ha:E a v with
  |none=>rw[ha]at h;cases h
  |some e=>
   obtain⟨k,r1⟩:=e;rw[ha]at h;simp only at h;obtain⟨h1,h2⟩:=hH a (by simp) v k r1 ha;obtain⟨s1,s2⟩:=hS a (by simp) v k r1 ha;cases hs:AX E qs r1 with
   |none=>rw[hs]at h;cases h
   |some e'=>
    obtain⟨k',r2⟩:=e';rw[hs]at h;simp only[BZ,Option.some.injEq,Prod.mk.injEq]at h;obtain⟨rfl,rfl⟩:=h;obtain⟨s3,s4⟩:=ih (fun q hq=>hH q (by simp[hq])) (fun q hq=>hS q (by simp[hq])) r1 k' r2 hs;refine⟨?_,Jc h1 s2 s4⟩;simp only[List.length_append,List.length_cons];rw[Nat.add_mul,Nat.one_mul];omega
theorem Zx{s:ByteArray}{f p:Nat}(h:GV s (f+1) p):BF (nx s) f p<=65535:=by
 have h6:=CK (nx s) f p;rcases Cw h with (h|h|h|h)|⟨h,_,hd1,hd2⟩|⟨h,_,hd1,hd2,hok⟩|⟨h,_,hd1,hd2,hok⟩|hl
 ·simp[BF,h]
 ·simp[BF,h]
 ·simp[BF,h]
 ·simp[BF,h];omega
 ·simp[BF,h];omega
 ·simp[BF,h];omega
 ·simp[BF,h];omega
 ·rcases hl.here with h|h
  ·simp[BF,h];omega
  ·simp[BF,h];omega
theorem ZC(c:Nat):-32768<=CL c/\CL c<=0:=by
 unfold CL;split
 ·exact⟨by decide,by decide⟩
 ·exact⟨by decide,by decide⟩
theorem N4{s:ByteArray}{f p:Nat}(h:GV s (f+1) p){v:List It}{k0:List Bool}{qs:List Nat}{r:List It}(hh:AA (nx s) f p v=some (k0,qs,r)):
  k0.length<=1/\E6 k0 v/\k0.length+qs.length<=10/\∀q∈qs,q∈Pt.kids (nx s) f p/\GV s f q:=by
 have hhi:=Zx h;have hlo:=ZC (nx s p);have h6:=CK (nx s) f p;have nilK:E6 [] v:=fun i k x hk=>by simp at hk
 unfold AA at hh;split at hh
 ·rename_i ha;cases hh;rcases Cw h with (h|h|h|h)|⟨h,_,hd1,hd2⟩|⟨h,_,hd1,hd2,hok⟩|⟨h,_,hd1,hd2,hok⟩|hl
  ·omega
  ·omega
  ·omega
  ·omega
  ·omega
  ·refine⟨by simp,nilK,by simp;omega,fun q hq=>?_⟩;obtain⟨_,rfl⟩:=List.mem_replicate.1 hq;exact⟨by simp[Pt.kids,h],hok⟩
  ·omega
  ·have:=hl.here;omega
 ·rename_i ha;split at hh
  ·rename_i hr;cases hh;have hl:PK s f p:=⟨Or.inl hr,h⟩;exact⟨by simp,nilK,by simp;omega,fun q hq=>⟨hq,(Du hl q hq).2⟩⟩
  ·rename_i hr;cases v with
   |nil=>cases hh
   |cons x v=>
    simp only at hh;split at hh
    ·split at hh
     ·rename_i hc;cases hh;refine⟨by simp,?_,by simp,fun q hq=>by simp at hq⟩;intro i k y hk hy;match i,hk,hy with
      |0,hk,hy=>
       simp at hk hy;subst hk hy;exact⟨fun _=>hc.2,fun h=>by cases h⟩
      |i+1,hk,_=>simp at hk
     ·cases hh
    ·rename_i hs;split at hh
     ·rename_i hc;cases hh;refine⟨by simp,?_,?_,?_⟩
      ·intro i k y hk hy;match i,hk,hy with
       |0,hk,hy=>
        simp at hk hy;subst hk hy;exact⟨fun h=>(by cases h),fun _=>by omega⟩
       |i+1,hk,_=>simp at hk
      ·split
       ·simp
       ·split
        ·rename_i hq;have:BF (nx s) f p<=9:=by
          rcases Cw h with (h|h|h|h)|⟨h,_,hd1,hd2⟩|⟨h,_,hd1,hd2,hok⟩|⟨h,_,hd1,hd2,hok⟩|hl
          ·omega
          ·omega
          ·omega
          ·omega
          ·omega
          ·omega
          ·simp[BF,h];omega
          ·have:=hl.here;omega
         simp;omega
        ·simp
      ·split
       ·rename_i hu;have hl:PK s f p:=⟨Or.inr hu,h⟩;intro q hq;simp at hq;subst hq;have hx0:0<=x.1:=by
         have:CL (nx s p)=0:=by simp[CL,hu]
         omega
        have hx1:x.1<=((Pt.kids (nx s) f p).length:Int)-1:=by
         have:BF (nx s) f p=((Pt.kids (nx s) f p).length:Int)-1:=by simp[BF,hu]
         omega
        have hlt:x.1.toNat<(Pt.kids (nx s) f p).length:=by omega
        have hm:partOf (Pt.kids (nx s) f p) x.1∈Pt.kids (nx s) f p:=by
         unfold partOf;rw[if_pos hx0,List.getElem?_eq_getElem hlt];exact List.getElem_mem hlt
        exact⟨hm,(Du hl _ hm).2⟩
       ·split
        ·rename_i hq;intro q hqm;obtain⟨_,rfl⟩:=List.mem_replicate.1 hqm;rcases Cw h with (h|h|h|h)|⟨h,_,hd1,hd2⟩|⟨h,_,hd1,hd2,hok⟩|⟨h,_,hd1,hd2,hok⟩|hl
         ·omega
         ·omega
         ·omega
         ·omega
         ·omega
         ·omega
         ·exact⟨by simp[Pt.kids,h],hok⟩
         ·have:=hl.here;omega
        ·intro q hq;simp at hq
     ·cases hh
theorem QW(s:ByteArray):∀f p,GV s f p->Nh (Dk (nx s) f p) (10 ^ Pt.DK (nx s) f p):=by
 intro f;induction f with
 |zero=>intro p _ v ks r h;cases h
 |succ f ih=>
  intro p ho v ks r h;obtain⟨T,hT⟩:∃T,T=Pt.top ((Pt.kids (nx s) f p).map (Pt.DK (nx s) f)):=⟨_,rfl⟩;have hM:10 ^ Pt.DK (nx s) (f+1) p=10*10 ^ T:=by rw[Pt.DK,<-hT,Nat.pow_succ,Nat.mul_comm]
  have hpos:1<=10 ^ T:=Nat.one_le_pow _ _ (by decide);rw[hM];cases hh:AA (nx s) f p v with
  |none=>rw[Es hh]at h;cases h
  |some a=>
   obtain⟨k0,qs,r0⟩:=a;rw[Dq hh]at h;obtain⟨h1,h2⟩:=GB hh;obtain⟨g1,g2,g3,g4⟩:=N4 ho hh;cases hs:AX (Dk (nx s) f) qs r0 with
   |none=>rw[hs]at h;cases h
   |some e'=>
    obtain⟨k',r2⟩:=e';rw[hs]at h;simp only[BZ,Option.some.injEq,Prod.mk.injEq]at h;obtain⟨rfl,rfl⟩:=h;obtain⟨s1,s2⟩:=Sf (M:=10 ^ T) qs (fun q _=>Cu _ f q) (fun q hq v ks r he=>by
     obtain⟨hm,hok⟩:=g4 q hq;obtain⟨t1,t2⟩:=ih q hok v ks r he;refine⟨Nat.le_trans t1 (Nat.pow_le_pow_right (by decide) ?_),t2⟩;rw[hT];exact le_top (List.mem_map.2 ⟨q,hm,rfl⟩)) r0 k' r2 hs
    refine⟨?_,Jc h1 g2 s2⟩;generalize 10 ^ T=M at *;rw[List.length_append];have e1:(k0.length+qs.length)*M<=10*M:=Nat.mul_le_mul_right M g3;rw[Nat.add_mul]at e1;have e2:k0.length<=k0.length*M:=Nat.le_mul_of_pos_right _ hpos;omega
theorem U9{w:World}{B:Nat}{O:Value}{out:List UInt8}(h:w.ownsRow B 5 1 O out.length (DF out)):(convert 199 9 O).run Tryz.prog w=.ok (.string ⟨out.toArray⟩) w:=by
 have hcl:=fun g=>h.cells (g:=g)
 rcases h.2 with ⟨hv,h0⟩|⟨g,cap,cur,hv,_⟩
 ·have:out=[]:=List.eq_nil_of_length_eq_zero h0;subst this;rw[hv];exact Lib.run_convert_nil_bytes w 199 9 5 0 Tryz.underlying199 (by kernel_rfl) Tryz.underlying9
 ·rw[hv];refine run_convert_bytes_back w 199 9 5 ⟨g,0,none⟩ cap out Tryz.underlying199 (by kernel_rfl) Tryz.underlying9 fun j hj=>?_
  refine hcl g (by rw[hv];rfl) j _ ?_;unfold DF;rw[List.getElem?_map,List.getElem?_eq_getElem hj];rfl
def Ht(e:Ck)(v:List It):Nat×List UInt8:=match e with
 |none=>(4,[])
 |some (ks,r)=>if r=[] then (if 70<(bytesOf ks v).length then (5,[]) else (0,bytesOf ks v)) else (4,[])
def PQ(res:Nat×List UInt8)(e:Ending):Prop:=if res.1=0 then e=.returned (.string ⟨res.2.toArray⟩) else e=A5 res.1 0
theorem JG(n:Nat)(w:World):Calls Tryz.prog 127 #[.int .i64 n] w fun e w'=>e=.returned (.bool (decide (70<n)))/\w'=w:=by
 have e:(decide (70<n))=(decide ((70:Int)<(n:Int))):=by
  rw[Bool.eq_iff_iff];simp;omega
 rw[e];go_enter Tryz.func127,Tryz.ntmps127;go_wp2
 go_ret
 exact⟨rfl,rfl⟩
abbrev Tc(V:Value):Obj:=.cells #[V,.slice none 0 0] 201
theorem PH(w:World)(x0 x1:Int)(ea va:Option Addr)(en ec vn vc:Nat)
  (HK:Calls Tryz.prog 125 #[.agg #[.int .u8 x0,.int .i64 x1,.slice ea en ec],.iface 203 (.pointer (some ⟨w.heap.size+1,0,none⟩))] ((w.alloc (BP x0 x1 ea en ec)).alloc (Tc (.slice va vn vc))) fun e w'=>e=A5 4 0/\Below w.heap.size w w'):
  Calls Tryz.prog 77 #[.agg #[.int .u8 x0,.int .i64 x1,.slice ea en ec],.slice va vn vc] w fun e w'=>e=A5 4 0/\Below w.heap.size w w':=by
 have HKK:=Ab HK;clear HK;go_enter Tryz.func77,Tryz.ntmps77;go_wp2_with fail
 refine(Aa HKK).mono ?_;rintro e w1 ⟨rfl,hb⟩;go_wp2;exact⟨rfl,rfl,hb⟩
structure PO(w w':World)(n:Nat)(out:List UInt8)(a:Option Addr)(cap:Nat)(O:Value):Prop where
 left:w'.cell? ⟨w.heap.size+1,0,none⟩=some (.slice a n cap)
 ZD:w'.cell? ⟨w.heap.size+1,1,none⟩=some O
 own:w'.ownsRow (w.heap.size+2) 5 1 O out.length (DF out)
 below:Below w.heap.size w w'
theorem PG(w:World)(x0 x1:Int)(ea va:Option Addr)(en ec vn vc:Nat)(n:Nat)(out:List UInt8)(hn:0<n)
  (HK:Calls Tryz.prog 125 #[.agg #[.int .u8 x0,.int .i64 x1,.slice ea en ec],.iface 203 (.pointer (some ⟨w.heap.size+1,0,none⟩))] ((w.alloc (BP x0 x1 ea en ec)).alloc (Tc (.slice va vn vc))) fun e w'=>e=.returned (.tuple #[])/\∃a cap O,PO w w' n out a cap O):
  Calls Tryz.prog 77 #[.agg #[.int .u8 x0,.int .i64 x1,.slice ea en ec],.slice va vn vc] w fun e w'=>e=A5 4 0/\Below w.heap.size w w':=by
 have HKK:=Ab HK;have HN:=Ab CM;clear HK;go_enter Tryz.func77,Tryz.ntmps77;go_wp2_with fail
 refine(Aa HKK).mono ?_;rintro e w1 ⟨rfl,a,cap,O,hL⟩;have c0:=hL.left;have hb:=hL.below;have hbz:=hb.size;clear hL;go_wp2_with fail
 refine((Aa HN) _).mono ?_;rintro e w2 ⟨rfl,hb2⟩;go_wp2;exact⟨rfl,rfl,hb.trans (hb2.mono hbz)⟩
theorem Td(w:World)(x0 x1:Int)(ea va:Option Addr)(en ec vn vc:Nat)(out:List UInt8)(hn:70<out.length)
  (HK:Calls Tryz.prog 125 #[.agg #[.int .u8 x0,.int .i64 x1,.slice ea en ec],.iface 203 (.pointer (some ⟨w.heap.size+1,0,none⟩))] ((w.alloc (BP x0 x1 ea en ec)).alloc (Tc (.slice va vn vc))) fun e w'=>e=.returned (.tuple #[])/\∃a cap O,PO w w' 0 out a cap O):
  Calls Tryz.prog 77 #[.agg #[.int .u8 x0,.int .i64 x1,.slice ea en ec],.slice va vn vc] w fun e w'=>e=A5 5 0/\Below w.heap.size w w':=by
 have HKK:=Ab HK;have HB:=Ab (fun w=>JG out.length w);rw[show decide (70<out.length)=true by simp[hn]]at HB;clear HK hn;go_enter Tryz.func77,Tryz.ntmps77;go_wp2_with fail
 refine(Aa HKK).mono ?_;rintro e w1 ⟨rfl,a,cap,O,hL⟩;have c0:=hL.left;have c1:=hL.ZD;have hb:=hL.below;obtain⟨oa,oc,rfl⟩:∃a c,O=.slice a out.length c:=by
  rcases hL.own.2 with ⟨hv,h0⟩|⟨g,cap,cur,hv,_⟩
  ·exact⟨none,0,by rw[hv,h0]⟩
  ·exact⟨_,_,hv⟩
 clear hL;go_wp2_with fail
 refine((Aa HB) _).mono ?_;rintro e w2 ⟨rfl,rfl⟩;go_wp2;exact⟨rfl,rfl,hb⟩
theorem VK(w:World)(x0 x1:Int)(ea va:Option Addr)(en ec vn vc:Nat)(out:List UInt8)(hn:¬70<out.length)
  (HK:Calls Tryz.prog 125 #[.agg #[.int .u8 x0,.int .i64 x1,.slice ea en ec],.iface 203 (.pointer (some ⟨w.heap.size+1,0,none⟩))] ((w.alloc (BP x0 x1 ea en ec)).alloc (Tc (.slice va vn vc))) fun e w'=>e=.returned (.tuple #[])/\∃a cap O,PO w w' 0 out a cap O):
  Calls Tryz.prog 77 #[.agg #[.int .u8 x0,.int .i64 x1,.slice ea en ec],.slice va vn vc] w fun e w'=>e=.returned (.string ⟨out.toArray⟩)/\Below w.heap.size w w':=by
 have HKK:=Ab HK;have HB:=Ab (fun w=>JG out.length w);rw[show decide (70<out.length)=false by simp;omega]at HB;clear HK hn;go_enter Tryz.func77,Tryz.ntmps77;go_wp2_with fail
 refine(Aa HKK).mono ?_;rintro e w1 ⟨rfl,a,cap,O,hL⟩;have c0:=hL.left;have c1:=hL.ZD;have hb:=hL.below;have hcv:=U9 hL.own;obtain⟨oa,oc,rfl⟩:∃a c,O=.slice a out.length c:=by
  rcases hL.own.2 with ⟨hv,h0⟩|⟨g,cap,cur,hv,_⟩
  ·exact⟨none,0,by rw[hv,h0]⟩
  ·exact⟨_,_,hv⟩
 clear hL;go_wp2_with fail
 refine((Aa HB) _).mono ?_;rintro e w2 ⟨rfl,rfl⟩;go_wp2
 go_ret
 exact⟨rfl,hb⟩
theorem Hy(s:ByteArray)(S:Nat->Prop)(c0 c1 c2 V:Value)(v:List It)(w:World)(hR:EU w S (nx s) (s.size+1) 0 c0 c1 c2)(hO:GV s (s.size+1) 0)(hd:Pt.DK (nx s) (s.size+1) 0<=4)(hI:Items w V v)(hn:v.length<=9000000000000):
  Calls Tryz.prog 77 #[.agg #[c0,c1,c2],V] w fun e w'=>PQ (Ht (Dk (nx s) (s.size+1) 0 v) v) e/\Below w.heap.size w w':=by
 obtain⟨⟨x0,rfl⟩,⟨x1,rfl⟩,⟨ea,en,ec,rfl⟩⟩:=Cg hR;obtain⟨va,vc,rfl⟩:∃a c,V=.slice a v.length c:=by
  obtain⟨a,c,h,_⟩:=hI;exact⟨a,c,h⟩
 have hb0:Below w.heap.size w (w.alloc (BP x0 x1 ea en ec)):=(Below.refl w.heap.size w).alloc (Nat.le_refl _) _;have hR0:EU (w.alloc (BP x0 x1 ea en ec)) S (nx s) (s.size+1) 0 (.int .u8 x0) (.int .i64 x1) (.slice ea en ec):=Bj ⟨hb0.size,fun k _ hl=>hb0.block k hl⟩ hR;have hz:(w.alloc (BP x0 x1 ea en ec)).heap.size=w.heap.size+1:=by simp
 have hws:WS (w.alloc (BP x0 x1 ea en ec)) ((w.alloc (BP x0 x1 ea en ec)).alloc (Tc (.slice va v.length vc))) (.slice va v.length vc) v (.slice none 0 0) []:=by
  refine⟨?_,hI.below hb0,(Below.refl _ _).alloc (Nat.le_refl _) _,World.ownsRow_nil _ _ _ _⟩;unfold Wr;show ((w.alloc (BP x0 x1 ea en ec)).heap.push _)[(w.alloc (BP x0 x1 ea en ec)).heap.size]?=_;rw[Array.getElem?_push_size]
 have hM:10 ^ Pt.DK (nx s) (s.size+1) 0<=10 ^ 4:=Nat.pow_le_pow_right (by decide) hd;have HK:=QO (JK (w.alloc (BP x0 x1 ea en ec))) s (s.size+1) 0 S _ _ _ hR0 hO _ 0 (v,[]) _ ⟨_,_,hws,rfl,hn,Nat.le_refl _⟩ (by omega);have hptr:(writer (w.alloc (BP x0 x1 ea en ec))).I=.iface 203 (.pointer (some ⟨w.heap.size+1,0,none⟩)):=by
  show Value.iface 203 (.pointer (some ⟨(w.alloc (BP x0 x1 ea en ec)).heap.size,0,none⟩))=_;rw[hz]
 rw[hptr]at HK;have hce:=QP (nx s) (s.size+1) 0 v [];rw[show AQ (writer (w.alloc (BP x0 x1 ea en ec))).num (writer (w.alloc (BP x0 x1 ea en ec))).txt (nx s) (s.size+1) 0 (v,[])=AQ F8 Hu (nx s) (s.size+1) 0 (v,[]) from rfl,hce]at HK;have hbb:∀w',Below (w.alloc (BP x0 x1 ea en ec)).heap.size (w.alloc (BP x0 x1 ea en ec)) w'->Below w.heap.size w w':=fun w' h=>hb0.trans (h.mono (by omega))
 cases he:Dk (nx s) (s.size+1) 0 v with
 |none=>
  rw[he]at HK;refine(PH w x0 x1 ea va en ec v.length vc (HK.mono ?_)).mono ?_
  ·rintro e w' (⟨rfl,_,hb⟩|⟨rfl,x',hx,_⟩)
   ·exact⟨rfl,hbb w' hb⟩
   ·cases hx
  ·rintro e w' ⟨rfl,hb⟩;exact⟨rfl,hb⟩
 |some a=>
  obtain⟨ks,r⟩:=a;rw[he]at HK;have HL:Calls Tryz.prog 125 #[.agg #[.int .u8 x0,.int .i64 x1,.slice ea en ec],.iface 203 (.pointer (some ⟨w.heap.size+1,0,none⟩))] ((w.alloc (BP x0 x1 ea en ec)).alloc (Tc (.slice va v.length vc))) fun e w'=>e=.returned (.tuple #[])/\∃a cap O,PO w w' r.length (bytesOf ks v) a cap O:=by
   refine HK.mono ?_;rintro e w' (⟨rfl,hx,_⟩|⟨rfl,x',hx,c',O',_,⟨L,Ov,hw2,_⟩,_⟩)
   ·cases hx
   ·cases hx;simp only[List.nil_append]at hw2;obtain⟨la,lc,hLs,_⟩:=hw2.items;subst hLs;have h1:=hw2.wr.left;have h2:=hw2.wr.out;have h3:=hw2.own;rw[hz]at h1 h2 h3;exact⟨rfl,la,lc,Ov,h1,h2,h3,hbb w' hw2.below⟩
  cases r with
  |cons y r=>
   refine(PG w x0 x1 ea va en ec v.length vc _ _ (by simp) HL).mono ?_;rintro e w' ⟨rfl,hb⟩;exact⟨rfl,hb⟩
  |nil=>
   by_cases hbig:70<(bytesOf ks v).length
   ·refine(Td w x0 x1 ea va en ec v.length vc _ hbig HL).mono ?_;rintro e w' ⟨rfl,hb⟩;refine⟨?_,hb⟩;simp[PQ,Ht,hbig]
   ·refine(VK w x0 x1 ea va en ec v.length vc _ hbig HL).mono ?_;rintro e w' ⟨rfl,hb⟩;refine⟨?_,hb⟩;simp[PQ,Ht,hbig]
theorem L8(n q:Nat)(w:World):(Instr.field 86 (Cp n q) 0).run Tryz.prog w=.ok (.int .i64 n) w:=by kernel_rfl
end Go.Proofs.YtblomippkddgiaaGreatDoor.V
