import Derived.Test.YtblomippkddgiaaGreatDoorJ07
set_option maxRecDepth 100000
set_option maxHeartbeats 1000000
namespace Go.Proofs.YtblomippkddgiaaGreatDoor.V
open Go.RowKit
theorem toList_nil{S:ByteArray}:S.toList=[]↔S.size=0:=by
 rw[ByteArray.toList_eq];constructor
 ·intro h;have h2:=congrArg List.length h;rw[Array.length_toList]at h2;exact h2
 ·intro h;exact List.eq_nil_of_length_eq_zero (by rw[Array.length_toList];exact h)
theorem JH(s:ByteArray)(p i:Nat)(V:Value)(v:List It)(E:Nat->List It->Ck)(qs:List Nat)(w:World)(hp:p<s.size)(hg:nx s p=97\/nx s p=114)(hi:i<=v.length)(_hn:v.length<=9000000000000)(hql:qs.length<=9)(hEh:∀q∈qs,Ga (E q))
  (HI:∀w,Calls Tryz.prog 241 #[.string s,.int .i64 p] w fun e w'=>e=.returned (.int .i64 (qs.length:Int))/\Below w.heap.size w w')
  (HW:∀(k q:Nat) w,qs[k]?=some q->Calls Tryz.prog 242 #[.string s,.int .i64 p,.int .i64 k] w fun e w'=>e=.returned (.int .i64 q)/\Below w.heap.size w w')
  (HV:∀(q j:Nat) w',q∈qs->j<=v.length->Below w.heap.size w w'->Calls Tryz.prog 239 #[.string s,.int .i64 q,V,.int .i64 j] w' fun e w''=>e=.returned (.int .i64 (vI j (E q (v.drop j))))/\Below w'.heap.size w' w''):
  Calls Tryz.prog 239 #[.string s,.int .i64 p,V,.int .i64 i] w fun e w'=>e=.returned (.int .i64 (vI i (AX E qs (v.drop i))))/\Below w.heap.size w w':=by
 have H1:=Ab HI;have H2:=Ab HW;have H3:=Ab HV;have HEH:=Ab hEh;clear HI HW HV hEh;have key:∀(t:Bool),t=(nx s p==97)->(t=true->((((s[p]).toNat:Nat):Int) != 97)=false)/\(t=false->((((s[p]).toNat:Nat):Int) != 97)=true/\((((s[p]).toNat:Nat):Int) != 114)=false):=by
  intro t ht;rw[<-Di hp];rcases hg with hg|hg<;>rw[hg]at ht ⊢<;>subst ht<;>simp
 have fin:∀(K:Prop),K->K:=fun _ h=>h
 clear fin;cases ht:(nx s p==97) with
 |true=>
  have t1:=(key true ht.symm).1 rfl;clear key ht hg;go_enter Tryz.func239,Tryz.ntmps239;go_wp2_with fail
  refine((Aa H1) _).mono ?_;rintro e w1 ⟨rfl,hb1⟩;go_wp2;go_loopw [3,10] (fun iv kv wr=>∃k:Nat,k<=qs.length/\kv=.int .i64 k/\iv=.int .i64 (vI i (AX E (qs.take k) (v.drop i)))/\Below w.heap.size w wr) (fun _ kv _=>qs.length-(intOf kv).toNat)
  case atStart=>exact⟨0,Nat.zero_le _,rfl,by simp[AX,vI],hb1⟩
  case round=>
   obtain⟨k,hk,rfl,rfl,hbr⟩:=hrel;clear hb1;by_cases hkN:k<qs.length
   ·cases hst:AX E (qs.take k) (v.drop i) with
    |none=>
     have HFIN:=Ab (FZ E hst);rw[show vI i none=-1 from rfl];clear hst;go_wp2
     go_ret
     exact⟨by rw[Aa HFIN];rfl,hbr⟩
    |some e=>
     obtain⟨ks,r⟩:=e;obtain⟨q,hq⟩:∃q,qs[k]?=some q:=⟨_,List.getElem?_eq_getElem hkN⟩;have hqm:q∈qs:=List.mem_of_getElem? hq;obtain⟨h1,h2⟩:=Dg (E:=E) (qs.take k) (fun q' hq'=>Aa HEH q' (List.mem_of_mem_take hq')) _ _ _ hst;have hstep:AX E (qs.take (k+1)) (v.drop i)=BZ ks (E q r):=by
      rw[List.take_add_one,hq,Option.toList_some,E1,hst]
     rw[List.drop_drop]at h1;rw[List.length_drop]at h2;obtain⟨j,hj⟩:∃j,j=i+ks.length:=⟨_,rfl⟩;have hjl:j<=v.length:=by omega
     have hvi:vI i (some (ks,r))=(j:Int):=by simp only[vI];omega
     have hnew:vI i (AX E (qs.take (k+1)) (v.drop i))=vI j (E q (v.drop j)):=by rw[hstep,IE,h1,<-hj]
     rw[hvi];have HNEW:=Ab hnew;have HQ:=Ab hq;clear hst h1 h2 hstep hj hvi hnew hq;go_wp2_with fail
     refine((Aa H2) k q _ (Aa HQ)).mono ?_;rintro e w2 ⟨rfl,hb2⟩;have hb2':=hbr.trans (hb2.mono hbr.size);go_wp2_with fail
     refine((Aa H3) q j _ hqm hjl hb2').mono ?_;rintro e w3 ⟨rfl,hb3⟩;have hb':=hb2'.trans (hb3.mono hb2'.size);rw[<-Aa HNEW];clear hb2 hb2' hb3 hbr;go_wp2;go_roundw
     case rel=>exact⟨k+1,by omega,by go_num,rfl,hb'⟩
     case measure=>simp[intOf];omega
   ·obtain rfl:k=qs.length:=by omega
    rw[List.take_length];go_wp2
    go_ret
    exact⟨rfl,hbr⟩
 |false=>
  obtain⟨t1,t2⟩:=(key false ht.symm).2 rfl;clear key ht hg;go_enter Tryz.func239,Tryz.ntmps239;go_wp2_with fail
  refine((Aa H1) _).mono ?_;rintro e w1 ⟨rfl,hb1⟩;go_wp2;go_loopw [3,10] (fun iv kv wr=>∃k:Nat,k<=qs.length/\kv=.int .i64 k/\iv=.int .i64 (vI i (AX E (qs.take k) (v.drop i)))/\Below w.heap.size w wr) (fun _ kv _=>qs.length-(intOf kv).toNat)
  case atStart=>exact⟨0,Nat.zero_le _,rfl,by simp[AX,vI],hb1⟩
  case round=>
   obtain⟨k,hk,rfl,rfl,hbr⟩:=hrel;clear hb1;by_cases hkN:k<qs.length
   ·cases hst:AX E (qs.take k) (v.drop i) with
    |none=>
     have HFIN:=Ab (FZ E hst);rw[show vI i none=-1 from rfl];clear hst;go_wp2
     go_ret
     exact⟨by rw[Aa HFIN];rfl,hbr⟩
    |some e=>
     obtain⟨ks,r⟩:=e;obtain⟨q,hq⟩:∃q,qs[k]?=some q:=⟨_,List.getElem?_eq_getElem hkN⟩;have hqm:q∈qs:=List.mem_of_getElem? hq;obtain⟨h1,h2⟩:=Dg (E:=E) (qs.take k) (fun q' hq'=>Aa HEH q' (List.mem_of_mem_take hq')) _ _ _ hst;have hstep:AX E (qs.take (k+1)) (v.drop i)=BZ ks (E q r):=by
      rw[List.take_add_one,hq,Option.toList_some,E1,hst]
     rw[List.drop_drop]at h1;rw[List.length_drop]at h2;obtain⟨j,hj⟩:∃j,j=i+ks.length:=⟨_,rfl⟩;have hjl:j<=v.length:=by omega
     have hvi:vI i (some (ks,r))=(j:Int):=by simp only[vI];omega
     have hnew:vI i (AX E (qs.take (k+1)) (v.drop i))=vI j (E q (v.drop j)):=by rw[hstep,IE,h1,<-hj]
     rw[hvi];have HNEW:=Ab hnew;have HQ:=Ab hq;clear hst h1 h2 hstep hj hvi hnew hq;go_wp2_with fail
     refine((Aa H2) k q _ (Aa HQ)).mono ?_;rintro e w2 ⟨rfl,hb2⟩;have hb2':=hbr.trans (hb2.mono hbr.size);go_wp2_with fail
     refine((Aa H3) q j _ hqm hjl hb2').mono ?_;rintro e w3 ⟨rfl,hb3⟩;have hb':=hb2'.trans (hb3.mono hb2'.size);rw[<-Aa HNEW];clear hb2 hb2' hb3 hbr;go_wp2;go_roundw
     case rel=>exact⟨k+1,by omega,by go_num,rfl,hb'⟩
     case measure=>simp[intOf];omega
   ·obtain rfl:k=qs.length:=by omega
    rw[List.take_length];go_wp2
    go_ret
    exact⟨rfl,hbr⟩
theorem M0(s:ByteArray)(p i:Nat)(V:Value)(res:Int)(w:World)(hp:p<s.size)(h97:¬nx s p=97)(h114:¬nx s p=114)(HA:Calls Tryz.prog 259 #[.string s,.int .i64 p,V,.int .i64 i] w fun e w'=>e=.returned (.int .i64 res)/\Below w.heap.size w w'):
  Calls Tryz.prog 239 #[.string s,.int .i64 p,V,.int .i64 i] w fun e w'=>e=.returned (.int .i64 res)/\Below w.heap.size w w':=by
 have t1:((((s[p]).toNat:Nat):Int) != 97)=true:=by rw[<-Di hp];simp;omega
 have t2:((((s[p]).toNat:Nat):Int) != 114)=true:=by rw[<-Di hp];simp;omega
 have HAA:=Ab HA;clear HA h97 h114;go_enter Tryz.func239,Tryz.ntmps239;go_wp2_with fail
 refine(Aa HAA).mono ?_;rintro e w1 ⟨rfl,hb1⟩;go_wp2
 go_ret
 exact⟨rfl,hb1⟩
theorem Dq{g:Nat->Nat}{f p:Nat}{v:List It}{k0:List Bool}{qs:List Nat}{r:List It}(h:AA g f p v=some (k0,qs,r)):Dk g (f+1) p v=BZ k0 (AX (Dk g f) qs r):=by
 simp only[Dk,h]
theorem Es{g:Nat->Nat}{f p:Nat}{v:List It}(h:AA g f p v=none):Dk g (f+1) p v=none:=by
 simp only[Dk,h]
theorem Qv(s:ByteArray)(V:Value)(v:List It)(f:Nat)(hs:s.size<=40)(hn:v.length<=9000000000000)(ih:JX s V v f)(p i:Nat)(w:World)(ho:GV s (f+1) p)(hi:i<=v.length)(hI:Items w V v)(h97:¬nx s p=97)(h114:¬nx s p=114):
  Calls Tryz.prog 259 #[.string s,.int .i64 p,V,.int .i64 i] w fun e w'=>e=.returned (.int .i64 (vI i (Dk (nx s) (f+1) p (v.drop i))))/\Below w.heap.size w w':=by
 have hp:=ho.lt;by_cases hil:i<v.length
 ·obtain⟨x,hx⟩:∃x,v[i]?=some x:=⟨_,List.getElem?_eq_getElem hil⟩;have hdr:v.drop i=x :: v.drop (i+1):=by
   rw[List.drop_eq_getElem_cons hil];congr 1;rw[List.getElem?_eq_getElem hil]at hx;exact Option.some.inj hx
  obtain⟨b,off,cap,hV,hbl,f0,f1⟩:=hI.at hx;subst hV;by_cases h115:nx s p=115
  ·by_cases hok:x.1=0/\x.2.size<=14
   ·have hh:AA (nx s) f p (v.drop i)=some ([true],[],v.drop (i+1)):=by
     rw[hdr];simp[AA,h115,hok.1,hok.2]
    rw[Dq hh];have e1:vI i (BZ [true] (AX (Dk (nx s) f) [] (v.drop (i+1))))=(i:Int)+1:=by simp[AX,BZ,vI]
    rw[e1];exact VU s p v.length i b off cap x.1 x.2 w hp hil hn f0 f1 h115 (by simp[hok.1]) (by omega)
   ·have hh:AA (nx s) f p (v.drop i)=none:=by
     rw[hdr];simp only[AA,h115];simp;omega
    rw[Es hh];by_cases hN:x.1=0
    ·exact Tt s p v.length i b off cap x.1 x.2 w hp hil hn f0 f1 h115 (by simp[hN]) (by omega)
    ·exact Tq s p v.length i b off cap x.1 x.2 w hp hil hn f0 f1 h115 (by simpa using hN)
  ·have hne:((((s[p]).toNat:Nat):Int)==115)=false:=by rw[<-Di hp];simp;omega
   have HM:∀w,Calls Tryz.prog 243 #[.string s,.int .i64 p] w fun e w'=>e=.returned (.tuple #[.int .i64 (CL (nx s p)),.int .i64 (BF (nx s) f p)])/\Below w.heap.size w w':=by
    intro w;rcases Cw ho with (h|h|h|h)|⟨h,h1,h2,h3⟩|⟨h,_⟩|⟨h,h1,h2,h3,_⟩|h
    ·exact WQ s f p w hp h
    ·exact WR s f p w hp h
    ·exact Ut s f p w hp h
    ·omega
    ·exact Us s f p w h1 hs h (by omega)
    ·omega
    ·exact Uu s f p w h1 hs h h2
    ·exact Yr s f p w h hs (by have:=h.here;omega)
   by_cases hok:x.2.size=0/\CL (nx s p)<=x.1/\x.1<=BF (nx s) f p
   ·have hS:=toList_nil.2 hok.1;have hh:AA (nx s) f p (v.drop i)=some ([false],(if nx s p=117 then [partOf (Pt.kids (nx s) f p) x.1] else if nx s p=113 then List.replicate x.1.toNat (p+2) else []),v.drop (i+1)):=by
     rw[hdr];simp only[AA,h97,h114,h115,if_false];rw[if_pos hok]
    rw[Dq hh,IE];by_cases hu:nx s p=117
    ·have huI:((((s[p]).toNat:Nat):Int)==117)=true:=by rw[A6 hp hu];rfl
     rw[if_pos hu];have hl:PK s f p:=⟨Or.inr hu,ho⟩;have hlo:CL (nx s p)=0:=by rw[hu];rfl
     have hhi:BF (nx s) f p=((Pt.kids (nx s) f p).length:Int)-1:=by simp[BF,hu]
     have hkl:=CK (nx s) f p;obtain⟨q,hq⟩:∃q,(Pt.kids (nx s) f p)[x.1.toNat]?=some q:=⟨_,List.getElem?_eq_getElem (by omega)⟩;have hpo:partOf (Pt.kids (nx s) f p) x.1=q:=by
      unfold partOf;rw[if_pos (by omega),hq];rfl
     have hqo:=Du hl q (List.mem_of_getElem? hq);rw[hpo];refine VW s p v.length i b off cap x.1 x.2 w hp hil hn f0 f1 _ _ HM hne hS (by omega) (by omega) huI q _ (fun w'=>?_) (fun w' hb'=>?_)
     ·rw[<-hpo];exact FH s f p x.1 w' hl hs (by omega) (by omega)
     ·have h:=ih q (i+1) w' hqo.2 hil (hI.below hb');have e2:vI (i+1) (AX (Dk (nx s) f) [q] (v.drop (i+1)))=vI (i+1) (Dk (nx s) f q (v.drop (i+1))):=by
       simp only[AX];cases Dk (nx s) f q (v.drop (i+1)) with
       |none=>rfl
       |some e=>simp[BZ,vI]
      rw[show [false].length=1 from rfl,e2];exact h
    ·have huI:((((s[p]).toNat:Nat):Int)==117)=false:=by rw[<-Di hp];simp;omega
     rw[if_neg hu];by_cases hq:nx s p=113
     ·have hqI:((((s[p]).toNat:Nat):Int)==113)=true:=by rw[A6 hp hq];rfl
      rw[if_pos hq];have hlo:CL (nx s p)=0:=by rw[hq];rfl
      have hhi:BF (nx s) f p=(nx s (p+1):Int)-48:=by simp[BF,hq]
      have hsub:48<=nx s (p+1)/\nx s (p+1)<=57/\GV s f (p+2):=by
       rcases Cw ho with (h|h|h|h)|⟨h,_⟩|⟨h,_⟩|⟨h,h1,h2,h3,h4⟩|h
       ·omega
       ·omega
       ·omega
       ·omega
       ·omega
       ·omega
       ·exact⟨h2,h3,h4⟩
       ·have:=h.here;omega
      refine VT s p v.length i b off cap x.1 x.2 w hp hil hn f0 f1 _ _ HM hne v (Dk (nx s) f) rfl (Cu _ _ _) hS (by omega) (by omega) huI hqI (by omega) (by omega) (fun j w' hj hb'=>?_) (by omega);exact ih (p+2) j w' hsub.2.2 hj (hI.below hb')
     ·have hqI:((((s[p]).toNat:Nat):Int)==113)=false:=by rw[<-Di hp];simp;omega
      rw[if_neg hq];exact Nj s p v.length i b off cap x.1 x.2 w hp hil hn f0 f1 _ _ HM hne hS (by omega) (by omega) huI hqI
   ·have hh:AA (nx s) f p (v.drop i)=none:=by
     rw[hdr];simp only[AA,h97,h114,h115,if_false];rw[if_neg hok]
    rw[Es hh];by_cases hS:x.2.toList=[]
    ·have hz:=toList_nil.1 hS;by_cases hl:x.1<CL (nx s p)
     ·exact Tn s p v.length i b off cap x.1 x.2 w hp hil hn f0 f1 _ _ HM hne hS hl
     ·exact Tp s p v.length i b off cap x.1 x.2 w hp hil hn f0 f1 _ _ HM hne hS hl (by omega)
    ·exact Tm s p v.length i b off cap x.1 x.2 w hp hil hn f0 f1 _ _ HM hne hS
 ·obtain rfl:i=v.length:=by omega
  obtain⟨a,cap,hV,_,_⟩:=hI;subst hV;have hh:AA (nx s) f p (v.drop v.length)=none:=by
   rw[List.drop_length];simp[AA,h97,h114]
  rw[Es hh];exact Qw s p v.length a cap w
theorem SV(s:ByteArray)(V:Value)(v:List It)(hs:s.size<=40)(hn:v.length<=9000000000000):∀f,JX s V v f:=by
 intro f;induction f with
 |zero=>intro p i w ho;have:=ho.fuel;omega
 |succ f ih=>
  intro p i w ho hi hI;have hp:=ho.lt;by_cases h97:nx s p=97
  ·have hsub:p+1<s.size/\49<=nx s (p+1)/\nx s (p+1)<=57/\GV s f (p+2):=by
    rcases Cw ho with (h|h|h|h)|⟨h,_⟩|⟨h,h1,h2,h3,h4⟩|⟨h,_⟩|h
    ·omega
    ·omega
    ·omega
    ·omega
    ·omega
    ·exact⟨h1,h2,h3,h4⟩
    ·omega
    ·have:=h.here;omega
   have hh:AA (nx s) f p (v.drop i)=some ([],List.replicate (nx s (p+1)-48) (p+2),v.drop i):=by simp[AA,h97]
   rw[Dq hh,FQ];refine JH s p i V v (Dk (nx s) f) (List.replicate (nx s (p+1)-48) (p+2)) w hp (Or.inl h97) hi hn (by simp;omega) (fun q _=>Cu _ _ _) (fun w'=>?_) (fun k q w' hq=>?_) (fun q j w' hq hj hb=>?_)
   ·have h:=P4 s p w' hsub.1 h97 (by omega) hs;rw[List.length_replicate,show ((nx s (p+1)-48:Nat):Int)=(nx s (p+1):Int)-48 by omega];exact h
   ·have h:=M1 s p k w' hp h97 hs;obtain rfl:q=p+2:=by
     have:=List.mem_of_getElem? hq;exact(List.mem_replicate.1 this).2
    exact h
   ·obtain rfl:q=p+2:=(List.mem_replicate.1 hq).2;exact ih (p+2) j w' hsub.2.2.2 hj (hI.below hb)
  ·by_cases h114:nx s p=114
   ·have hl:PK s f p:=⟨Or.inl h114,ho⟩;have hkl:=CK (nx s) f p;have hh:AA (nx s) f p (v.drop i)=some ([],Pt.kids (nx s) f p,v.drop i):=by simp[AA,h114]
    rw[Dq hh,FQ];refine JH s p i V v (Dk (nx s) f) (Pt.kids (nx s) f p) w hp (Or.inr h114) hi hn (by omega) (fun q _=>Cu _ _ _) (fun w'=>P5 s f p w' hl hs) (fun k q w' hq=>?_) (fun q j w' hq hj hb=>?_)
    ·have hkl2:k<(Pt.kids (nx s) f p).length:=by
      rcases Nat.lt_or_ge k (Pt.kids (nx s) f p).length with h|h
      ·exact h
      ·rw[List.getElem?_eq_none h]at hq;cases hq
     have h:=M2 s f p k w' hl hs (by omega);have hpo:partOf (Pt.kids (nx s) f p) (k:Int)=q:=by
      unfold partOf;rw[if_pos (by omega),Int.toNat_natCast,hq];rfl
     rw[hpo]at h;exact h
    ·exact ih q j w' (Du hl q hq).2 hj (hI.below hb)
   ·exact M0 s p i V _ w hp h97 h114 (Qv s V v f hs hn ih p i w ho hi hI h97 h114)
end Go.Proofs.YtblomippkddgiaaGreatDoor.V
