import Derived.Test.YtblomippkddgiaaGreatDoorK08
set_option maxRecDepth 100000
set_option maxHeartbeats 2000000
namespace Go.Proofs.YtblomippkddgiaaGreatDoor.V
open Go.RowKit
theorem R8(w0 w:World)(l:List UInt8)(O:Value)(v:List It)(n:Nat)(hn:n<=14)(hs:n<=l.length)(hl:l.length<=500)(hv:v.length<=100000)(he:n % 2=0)
  (H:Calls Tryz.prog 114 #[.pointer (some ⟨w0.heap.size,0,none⟩)] w fun e w'=>e=.returned (.int .i64 n)/\RS w0 w' l O v/\Wk w0.heap.size O O w w'):
  Calls Tryz.prog 286 #[.pointer (some ⟨w0.heap.size,0,none⟩)] w fun e w'=>e=.returned (.tuple #[])/\∃O',RS w0 w' (l.drop n) O' (v++[(0,str (l.take n))])/\Wk w0.heap.size O O' w w':=by
 have HH:=Ab H;have h14:¬(14:Int)<(n:Int):=by omega
 have HOD:=Ab (fun w=>FP n w hn);rw[show (n % 2==1)=false by simp[he]]at HOD;have hcl:(l.take n).length<=1000:=by rw[List.length_take];omega
 have HC:=Ab (fun w=>Ek (l.take n) w hcl);obtain⟨i0,hi0,hz0,hz1,hz2⟩:=info_parts Lf;clear H;go_enter Tryz.func286,Tryz.ntmps286;go_wp2_with fail
 refine(Aa HH).mono ?_;rintro e w1 ⟨rfl,hrs,hwk⟩;have HT:=Ab (Fx w0.heap.size l O n w1 hrs.rd hs (by omega));obtain⟨hrs1,hwk1⟩:=hrs.took (l.drop n);have HRS:=Ab hrs1;have HWK:=Ab (hwk.trans hwk1);clear hrs hwk hrs1 hwk1 HH;generalize hSS:str (l.take n)=S at *;go_wp2_with fail
 refine(Aa HT).mono ?_;rintro e w2 ⟨rfl,rfl⟩;generalize w1.setCell {block:=w0.heap.size,off:=0} (.string (str (l.drop n)))=W2 at *;go_wp2_with fail
 refine((Aa HC) _).mono ?_;rintro e w3 ⟨rfl,hb3⟩;have hrs3:=(Aa HRS).go hb3;have HWK3:=Ab ((Aa HWK).trans (Wk.of_below hb3));clear hb3 HRS HWK HT HC;go_wp2_with fail
 refine((Aa HOD) _).mono ?_;rintro e w4 ⟨rfl,rfl⟩;obtain⟨oa,on,oc,hsh⟩:=Ar hrs3.own;subst hsh;have hO:=hrs3.rd.items;have how:=hrs3.own;have hlt:=hrs3.rd.lt;have HRS:=Ab hrs3;clear hrs3;go_wp2_with (at_builtin;refine wpList_append_own_at _ rfl (.tmp 37) (.tmp 40) 44 rfl (w0.heap.size+1) 106 i0 _ 2 24 Tryz.underlying44 hi0 hz0 hz1 hz2 rfl (by decide) _ v.length (flat v) rfl (by exact how.alloc _) ⟨w4.heap.size,0,none⟩ 1 1 [.int .i64 0,.string S] rfl rfl (by exact EZ w4 (0,S)) (by exact Ht (0,S)) (by unfold maxLen;omega) (by omega) (by simp;omega) ?_)
 intro O1 w5 hown hgrow _ hat;obtain⟨ta,tn,tc,hts⟩:=Ar hown;subst hts;obtain⟨hrd,hrs2,hwk2⟩:=JA (x:=(0,S)) (Aa HRS) hown hgrow (by simpa using hat);have k1:=hrd.items;have k2:=hrd.thaw 2;have HR2:=Ab hrs2;have HK2:=Ab ((Aa HWK3).trans hwk2);clear hown hgrow hat hrd hrs2 hwk2 how hO;go_wp2
 go_end0
 rw[hSS];exact⟨rfl,_,Aa HR2,Aa HK2⟩
theorem U2(w0 w:World)(l:List UInt8)(O:Value)(v:List It)(n:Nat)(hn:n<=14)(hs:n=l.length)(hl:l.length<=500)(he:n % 2=1)
  (H:Calls Tryz.prog 114 #[.pointer (some ⟨w0.heap.size,0,none⟩)] w fun e w'=>e=.returned (.int .i64 n)/\RS w0 w' l O v/\Wk w0.heap.size O O w w'):
  Calls Tryz.prog 286 #[.pointer (some ⟨w0.heap.size,0,none⟩)] w fun e w'=>e=Ax 6 0/\Below w0.heap.size w0 w':=by
 have HH:=Ab H;have h14:¬(14:Int)<(n:Int):=by omega
 have HOD:=Ab (fun w=>FP n w hn);rw[show (n % 2==1)=true by simp[he]]at HOD;have hcl:(l.take n).length<=1000:=by rw[List.length_take];omega
 have HC:=Ab (fun w=>Ek (l.take n) w hcl);have HSL:=Ab hs;have HLL:=Ab hl;clear H hs hl he hcl;go_enter Tryz.func286,Tryz.ntmps286;go_wp2_with fail
 refine(Aa HH).mono ?_;rintro e w1 ⟨rfl,hrs,hwk⟩;have HT:=Ab (Fx w0.heap.size l O n w1 hrs.rd (by have:=Aa HSL;omega) (by have:=Aa HLL;omega));obtain⟨hrs1,hwk1⟩:=hrs.took (l.drop n);have HRS:=Ab hrs1;clear hrs hwk hrs1 hwk1 HH;generalize hSS:str (l.take n)=S at *;go_wp2_with fail
 refine(Aa HT).mono ?_;rintro e w2 ⟨rfl,rfl⟩;generalize w1.setCell {block:=w0.heap.size,off:=0} (.string (str (l.drop n)))=W2 at *;go_wp2_with fail
 refine((Aa HC) _).mono ?_;rintro e w3 ⟨rfl,hb3⟩;have hrs3:=(Aa HRS).go hb3;clear hb3 HRS HT HC;go_wp2_with fail
 refine((Aa HOD) _).mono ?_;rintro e w4 ⟨rfl,rfl⟩;have hdn:l.drop n=[]:=List.drop_of_length_le (by have:=Aa HSL;omega);have hrd3:=hrs3.rd;rw[hdn]at hrd3;have HT1:=Ab (Ny w0.heap.size O w4 hrd3);have hb4:=hrs3.below;clear hrs3 hrd3 hdn;go_wp2_with fail
 refine(Aa HT1).mono ?_;rintro e w5 ⟨rfl,hb5⟩;go_wp2;exact⟨rfl,rfl,hb4.trans (hb5.mono hb4.size)⟩
theorem U4(w0 w:World)(l r:List UInt8)(c:UInt8)(O:Value)(v:List It)(n:Nat)(hn:n<=14)(hs:n<=l.length)(hd:l.drop n=c :: r)(hc:c≠0)(hl:l.length<=500)(he:n % 2=1)
  (H:Calls Tryz.prog 114 #[.pointer (some ⟨w0.heap.size,0,none⟩)] w fun e w'=>e=.returned (.int .i64 n)/\RS w0 w' l O v/\Wk w0.heap.size O O w w'):
  Calls Tryz.prog 286 #[.pointer (some ⟨w0.heap.size,0,none⟩)] w fun e w'=>e=Ax 6 0/\Below w0.heap.size w0 w':=by
 have HH:=Ab H;have h14:¬(14:Int)<(n:Int):=by omega
 have hcb:((c.toNat:Int) != 0)=true:=by
  rw[bne_iff_ne];intro h;exact hc (UInt8.toNat_inj.1 (by simpa using h))
 have HOD:=Ab (fun w=>FP n w hn);rw[show (n % 2==1)=true by simp[he]]at HOD;have hcl:(l.take n).length<=1000:=by rw[List.length_take];omega
 have HC:=Ab (fun w=>Ek (l.take n) w hcl);have HSL:=Ab hs;have HLL:=Ab hl;have HD:=Ab hd;clear H hs hl he hcl hd hc;go_enter Tryz.func286,Tryz.ntmps286;go_wp2_with fail
 refine(Aa HH).mono ?_;rintro e w1 ⟨rfl,hrs,hwk⟩;have HT:=Ab (Fx w0.heap.size l O n w1 hrs.rd (Aa HSL) (by have:=Aa HLL;omega));obtain⟨hrs1,hwk1⟩:=hrs.took (l.drop n);rw[Aa HD]at HT hrs1;have HRS:=Ab hrs1;clear hrs hwk hrs1 hwk1 HH;generalize hSS:str (l.take n)=S at *;go_wp2_with fail
 refine(Aa HT).mono ?_;rintro e w2 ⟨rfl,rfl⟩;generalize w1.setCell {block:=w0.heap.size,off:=0} (.string (str (c :: r)))=W2 at *;go_wp2_with fail
 refine((Aa HC) _).mono ?_;rintro e w3 ⟨rfl,hb3⟩;have hrs3:=(Aa HRS).go hb3;clear hb3 HRS HT HC;go_wp2_with fail
 refine((Aa HOD) _).mono ?_;rintro e w4 ⟨rfl,rfl⟩;have hrl:(c :: r).length<=500:=by
  rw[<-Aa HD,List.length_drop];have:=Aa HLL;omega
 have HT1:=Ab (Jd w0.heap.size c r O w4 hrs3.rd (by simp only[List.length_cons]at hrl;omega));obtain⟨hrs5,_⟩:=hrs3.took r;have hb5:=hrs5.below;have HR5:=Ab (B6 w0.heap.size r O _ hrs5.rd);clear hrs3 hrs5 hrl;go_wp2_with fail
 refine(Aa HT1).mono ?_;rintro e w5 ⟨rfl,rfl⟩;generalize w4.setCell {block:=w0.heap.size,off:=0} (.string (str r))=W5 at *;go_wp2_with fail
 refine(Aa HR5).mono ?_;rintro e w6 ⟨rfl,rfl⟩;go_wp2;exact⟨rfl,rfl,hb5⟩
theorem U3(w0 w:World)(l r:List UInt8)(O:Value)(v:List It)(n:Nat)(hn:n<=14)(hs:n<=l.length)(hd:l.drop n=0 :: r)(hl:l.length<=500)(hv:v.length<=100000)(he:n % 2=1)
  (H:Calls Tryz.prog 114 #[.pointer (some ⟨w0.heap.size,0,none⟩)] w fun e w'=>e=.returned (.int .i64 n)/\RS w0 w' l O v/\Wk w0.heap.size O O w w'):
  Calls Tryz.prog 286 #[.pointer (some ⟨w0.heap.size,0,none⟩)] w fun e w'=>e=.returned (.tuple #[])/\∃O',RS w0 w' r O' (v++[(0,str (l.take n))])/\Wk w0.heap.size O O' w w':=by
 have HH:=Ab H;have h14:¬(14:Int)<(n:Int):=by omega
 have HOD:=Ab (fun w=>FP n w hn);rw[show (n % 2==1)=true by simp[he]]at HOD;have hcl:(l.take n).length<=1000:=by rw[List.length_take];omega
 have HC:=Ab (fun w=>Ek (l.take n) w hcl);obtain⟨i0,hi0,hz0,hz1,hz2⟩:=info_parts Lf;have HSL:=Ab hs;have HLL:=Ab hl;have HD:=Ab hd;clear H hs hl he hcl hd;go_enter Tryz.func286,Tryz.ntmps286;go_wp2_with fail
 refine(Aa HH).mono ?_;rintro e w1 ⟨rfl,hrs,hwk⟩;have HT:=Ab (Fx w0.heap.size l O n w1 hrs.rd (Aa HSL) (by have:=Aa HLL;omega));obtain⟨hrs1,hwk1⟩:=hrs.took (l.drop n);rw[Aa HD]at HT hrs1 hwk1;have HRS:=Ab hrs1;have HWK:=Ab (hwk.trans hwk1);clear hrs hwk hrs1 hwk1 HH;generalize hSS:str (l.take n)=S at *;go_wp2_with fail
 refine(Aa HT).mono ?_;rintro e w2 ⟨rfl,rfl⟩;generalize w1.setCell {block:=w0.heap.size,off:=0} (.string (str (0 :: r)))=W2 at *;go_wp2_with fail
 refine((Aa HC) _).mono ?_;rintro e w3 ⟨rfl,hb3⟩;have hrs3:=(Aa HRS).go hb3;have HWK3:=Ab ((Aa HWK).trans (Wk.of_below hb3));clear hb3 HRS HT HC HWK;go_wp2_with fail
 refine((Aa HOD) _).mono ?_;rintro e w4 ⟨rfl,rfl⟩;have hrl:(0 :: r).length<=500:=by
  rw[<-Aa HD,List.length_drop];have:=Aa HLL;omega
 have HT1:=Ab (Jd w0.heap.size 0 r O w4 hrs3.rd (by simp only[List.length_cons]at hrl;omega));rw[show (((0:UInt8).toNat:Nat):Int)=0 from rfl]at HT1;obtain⟨hrs5,hwk5⟩:=hrs3.took r;clear hrl;have HR5:=Ab hrs5;have HK5:=Ab ((Aa HWK3).trans hwk5);clear hrs3 hrs5 hwk5 HWK3;go_wp2_with fail
 refine(Aa HT1).mono ?_;rintro e w5 ⟨rfl,rfl⟩;generalize w4.setCell {block:=w0.heap.size,off:=0} (.string (str r))=W5 at *;have hrs6:=Aa HR5;obtain⟨oa,on,oc,hsh⟩:=Ar hrs6.own;subst hsh;have hO:=hrs6.rd.items;have how:=hrs6.own;have hlt:=hrs6.rd.lt;clear hrs6;go_wp2_with (at_builtin;refine wpList_append_own_at _ rfl (.tmp 37) (.tmp 40) 44 rfl (w0.heap.size+1) 106 i0 _ 2 24 Tryz.underlying44 hi0 hz0 hz1 hz2 rfl (by decide) _ v.length (flat v) rfl (by exact how.alloc _) ⟨W5.heap.size,0,none⟩ 1 1 [.int .i64 0,.string S] rfl rfl (by exact EZ W5 (0,S)) (by exact Ht (0,S)) (by unfold maxLen;omega) (by omega) (by simp;omega) ?_)
 intro O1 w6 hown hgrow _ hat;obtain⟨ta,tn,tc,hts⟩:=Ar hown;subst hts;obtain⟨hrd,hrs2,hwk2⟩:=JA (x:=(0,S)) (Aa HR5) hown hgrow (by simpa using hat);have k1:=hrd.items;have k2:=hrd.thaw 2;have HR2:=Ab hrs2;have HK2:=Ab ((Aa HK5).trans hwk2);clear hown hgrow hat hrd hrs2 hwk2 how hO;go_wp2
 go_end0
 rw[hSS];exact⟨rfl,_,Aa HR2,Aa HK2⟩
abbrev Ot:=List UInt8×List It
def Dm(lo hi:Int)(x:Ot):Option (Int×Ot):=match x.1 with
 |a :: c :: r=>if turned lo hi (BK a c)<lo\/hi<turned lo hi (BK a c) then none else some (turned lo hi (BK a c),(r,x.2++[(turned lo hi (BK a c),⟨#[]⟩)]))
 |_=>none
def C9(x:Ot):Option Ot:=match x.1 with
 |a :: c :: r=>if BK a c<=14/\BK a c<=r.length then
   (if BK a c % 2=0 then some (r.drop (BK a c),x.2++[(0,str (r.take (BK a c)))])
    else match r.drop (BK a c) with
    |p :: r'=>if p=0 then some (r',x.2++[(0,str (r.take (BK a c)))]) else none
    |[]=>none)
   else none
 |_=>none
def reader(w0:World):BI Ot where
 tid:=311
 Ml:=285
 Wq:=286
 er:=6
 ptr:=⟨w0.heap.size,0,none⟩
 w0:=w0
 St:=fun w c x O=>∃Ov,RS w0 w x.1 Ov x.2/\O=I6 w0 Ov/\x.1.length<=490/\x.2.length<=c
 num:=Dm
 txt:=C9
theorem N5{w0 w:World}{l:List UInt8}{O:Value}{v:List It}(h:RS w0 w l O v)(hn:¬2<=l.length):Calls Tryz.prog 114 #[.pointer (some ⟨w0.heap.size,0,none⟩)] w fun e w'=>e=Ax 6 0/\Below w0.heap.size w0 w':=by
 refine(Qw w0.heap.size l O w h.rd hn).mono ?_;rintro e w' ⟨rfl,hb⟩;exact⟨rfl,h.below.trans hb⟩
theorem U0(w0 w:World)(c:Nat)(l:List UInt8)(v:List It)(Ov:Value)(lo hi:Int)(h:RS w0 w l Ov v)(hl:l.length<=490)(hv:v.length<=c)(hc:c<=40000):
  Calls Tryz.prog 285 #[.pointer (some ⟨w0.heap.size,0,none⟩),.int .i64 lo,.int .i64 hi] w
   (YA 6 ((reader w0).No (Dm lo hi (l,v)=none)) (fun i w'=>∃x',Dm lo hi (l,v)=some (i,x')/\(reader w0).Lv (I6 w0 Ov) (c+1) x' w w')):=by
 have bad:Dm lo hi (l,v)=none->∀e w',e=Ax 6 0/\Below w0.heap.size w0 w'->YA 6 ((reader w0).No (Dm lo hi (l,v)=none)) (fun i w'=>∃x',Dm lo hi (l,v)=some (i,x')/\(reader w0).Lv (I6 w0 Ov) (c+1) x' w w') e w':=by
  rintro hno e w' ⟨rfl,hb⟩;exact Or.inl ⟨rfl,hno,hb⟩
 match l,h,hl,bad with
 |[],h,_,bad=>exact(Jy w0 w lo hi (N5 h (by simp))).mono (bad rfl)
 |[a],h,_,bad=>exact(Jy w0 w lo hi (N5 h (by simp))).mono (bad rfl)
 |a :: b :: r,h,hl,bad=>
  simp only[List.length_cons]at hl;have H:=Qy w0 w a b r Ov v h (by omega);by_cases hb:turned lo hi (BK a b)<lo\/hi<turned lo hi (BK a b)
  ·exact(Qf w0 w r Ov v lo hi _ (Tz a b) hb H).mono (bad (by simp only[Dm];rw[if_pos hb]))
  ·refine(R7 w0 w r Ov v lo hi _ _ (Tz a b) rfl ⟨fun h=>hb (Or.inl h),fun h=>hb (Or.inr h)⟩ (by omega) H).mono ?_;rintro e w' ⟨rfl,O',hrs,hwk⟩;refine Or.inr ⟨_,rfl,(r,v++[(turned lo hi (BK a b),⟨#[]⟩)]),by simp only[Dm];rw[if_neg hb],c+1,I6 w0 O',Nat.le_refl _,⟨O',hrs,rfl,by simp only;omega,?_⟩,hwk.kept⟩;simp only[List.length_append,List.length_cons,List.length_nil];omega
theorem U5(w0 w:World)(c:Nat)(l:List UInt8)(v:List It)(Ov:Value)(h:RS w0 w l Ov v)(hl:l.length<=490)(hv:v.length<=c)(hc:c<=40000):
  Calls Tryz.prog 286 #[.pointer (some ⟨w0.heap.size,0,none⟩)] w
   (KB 6 ((reader w0).No (C9 (l,v)=none)) (fun w'=>∃x',C9 (l,v)=some x'/\(reader w0).Lv (I6 w0 Ov) (c+1) x' w w')):=by
 have bad:C9 (l,v)=none->∀e w',e=Ax 6 0/\Below w0.heap.size w0 w'->KB 6 ((reader w0).No (C9 (l,v)=none)) (fun w'=>∃x',C9 (l,v)=some x'/\(reader w0).Lv (I6 w0 Ov) (c+1) x' w w') e w':=by
  rintro hno e w' ⟨rfl,hb⟩;exact Or.inl ⟨rfl,hno,hb⟩
 have good:∀r' S,C9 (l,v)=some (r',v++[(0,S)])->r'.length<=490->∀e w',(e=.returned (.tuple #[])/\∃O',RS w0 w' r' O' (v++[(0,S)])/\Wk w0.heap.size Ov O' w w')->KB 6 ((reader w0).No (C9 (l,v)=none)) (fun w'=>∃x',C9 (l,v)=some x'/\(reader w0).Lv (I6 w0 Ov) (c+1) x' w w') e w':=by
  rintro r' S hr hrl e w' ⟨rfl,O',hrs,hwk⟩;refine Or.inr ⟨rfl,_,hr,c+1,I6 w0 O',Nat.le_refl _,⟨O',hrs,rfl,hrl,?_⟩,hwk.kept⟩;simp only[List.length_append,List.length_cons,List.length_nil];omega
 match l,h,hl,bad,good with
 |[],h,_,bad,_=>exact(LK w0 w (N5 h (by simp))).mono (bad rfl)
 |[a],h,_,bad,_=>exact(LK w0 w (N5 h (by simp))).mono (bad rfl)
 |a :: b :: r,h,hl,bad,good=>
  simp only[List.length_cons]at hl;have H:=Qy w0 w a b r Ov v h (by omega);have hT:C9 (a :: b :: r,v)=if BK a b<=14/\BK a b<=r.length then
    (if BK a b % 2=0 then some (r.drop (BK a b),v++[(0,str (r.take (BK a b)))])
     else match r.drop (BK a b) with
     |p :: r'=>if p=0 then some (r',v++[(0,str (r.take (BK a b)))]) else none
     |[]=>none)
    else none:=rfl
  generalize BK a b=n at H hT;by_cases h14:n<=14
  ·by_cases hs:n<=r.length
   ·rw[if_pos ⟨h14,hs⟩]at hT;by_cases he:n % 2=0
    ·rw[if_pos he]at hT;exact(R8 w0 w r Ov v n h14 hs (by omega) (by omega) he H).mono (good _ _ hT (by rw[List.length_drop];omega))
    ·rw[if_neg he]at hT;cases hd:r.drop n with
     |nil=>
      rw[hd]at hT;have:r.length=n:=by
       have:=congrArg List.length hd;rw[List.length_drop]at this;simp at this;omega
      exact(U2 w0 w r Ov v n h14 this.symm (by omega) (by omega) H).mono (bad hT)
     |cons p r'=>
      rw[hd]at hT;simp only at hT;by_cases hp:p=0
      ·subst hp;rw[if_pos rfl]at hT;refine(U3 w0 w r r' Ov v n h14 hs hd (by omega) (by omega) (by omega) H).mono (good _ _ hT ?_);have:=congrArg List.length hd;rw[List.length_drop]at this;simp at this;omega
      ·rw[if_neg hp]at hT;exact(U4 w0 w r r' p Ov v n h14 hs hd hp (by omega) (by omega) H).mono (bad hT)
   ·exact(Qg w0 w r Ov v n h14 hs H).mono (bad (by rw[hT,if_neg (fun h=>hs h.2)]))
  ·exact(R9 w0 w r Ov v n h14 H).mono (bad (by rw[hT,if_neg (fun h=>h14 h.1)]))
theorem LG(w0:World):I8 (reader w0) where
 below:=by
  rintro w c x O ⟨Ov,h,_⟩;exact h.below
 fresh:=by
  rintro w c x O ⟨Ov,h,rfl,_⟩ k (rfl|hk)
  ·exact⟨Nat.le_refl _,h.rd.lt⟩
  ·have:=h.row hk;exact⟨by simp only[reader];omega,this.2⟩
 go:=by
  rintro w c x O w' ⟨Ov,h,r⟩ hb;exact⟨Ov,h.go hb,r⟩
 range:=by
  rintro lo hi ⟨l,v⟩ n x' h;simp only[reader,Dm]at h;split at h
  ·split at h
   ·cases h
   ·rename_i hb;cases h;omega
  ·cases h
 PI:=⟨fun _=>by kernel_rfl,fun _ _=>rfl⟩
 aaT:=⟨fun _=>by kernel_rfl,fun _ _=>rfl⟩
 number:=by
  rintro w c ⟨l,v⟩ O lo hi ⟨Ov,h,rfl,hl,hv⟩ hc _;exact U0 w0 w c l v Ov lo hi h hl hv hc
 text:=by
  rintro w c ⟨l,v⟩ O ⟨Ov,h,rfl,hl,hv⟩ hc;exact U5 w0 w c l v Ov h hl hv hc
theorem EF{w:World}{B B' n size:Nat}{e:TypeId}{v:Value}{xs:List Value}(h:w.ownsRow B e size v n xs)(hB:B'<=B):w.ownsRow B' e size v n xs:=by
 obtain⟨hl,h⟩:=h;refine⟨hl,?_⟩;rcases h with h|⟨g,cap,cur,hv,hg,r⟩
 ·exact Or.inl h
 ·exact Or.inr ⟨g,cap,cur,hv,by omega,r⟩
def Row(w:World)(B:Nat)(O:Value)(v:List It):Prop:=w.ownsRow B 106 2 O v.length (flat v)
theorem XJ(w:World)(x0 x1:Int)(ea:Option Addr)(en ec:Nat)(S:ByteArray)(hn:70<S.size):
  Calls Tryz.prog 197 #[.agg #[.int .u8 x0,.int .i64 x1,.slice ea en ec],.string S] w fun e w'=>e=Ax 5 0/\Below w.heap.size w w':=by
 have HB:=Ab (fun w=>Fb S.size w);rw[show decide (70<S.size)=true by simp[hn]]at HB;clear hn;go_enter Tryz.func197,Tryz.ntmps197;go_wp2_with fail
 refine((Aa HB) _).mono ?_;rintro e w1 ⟨rfl,rfl⟩;go_wp2;exact⟨rfl,rfl,(Below.refl _ _).alloc (Nat.le_refl _) _⟩
theorem UU(w:World)(x0 x1:Int)(ea:Option Addr)(en ec:Nat)(l:List UInt8)(hn:¬70<l.length)
  (HK:Calls Tryz.prog 125 #[.agg #[.int .u8 x0,.int .i64 x1,.slice ea en ec],.iface 311 (.pointer (some ⟨w.heap.size+1,0,none⟩))] ((w.alloc (Bh x0 x1 ea en ec)).alloc (.cells #[.string (str l),.int .i64 6,.slice none 0 0] 310)) fun e w'=>e=Ax 6 0/\Below w.heap.size w w'):
  Calls Tryz.prog 197 #[.agg #[.int .u8 x0,.int .i64 x1,.slice ea en ec],.string (str l)] w fun e w'=>e=Ax 6 0/\Below w.heap.size w w':=by
 have HKK:=Ab HK;have HB:=Ab (fun w=>Fb (str l).size w);rw[show decide (70<(str l).size)=false by rw[Az];simp;omega]at HB;clear HK hn;generalize str l=S at *;go_enter Tryz.func197,Tryz.ntmps197;go_wp2_with fail
 refine((Aa HB) _).mono ?_;rintro e w1 ⟨rfl,rfl⟩;go_wp2_with fail
 refine(Aa HKK).mono ?_;rintro e w1 ⟨rfl,hb⟩;go_wp2;exact⟨rfl,rfl,hb⟩
theorem YZ(b:Nat)(w:World)(h:w.cell? ⟨b,0,none⟩=some (.string (str []))):Calls Tryz.prog 69 #[.pointer (some ⟨b,0,none⟩)] w fun e w'=>e=.returned (.tuple #[])/\w=w':=by
 go_enter Tryz.func69,Tryz.ntmps69;go_wp2
 go_end0
 exact⟨rfl,rfl⟩
theorem aaB(b:Nat)(l:List UInt8)(w:World)(h:w.cell? ⟨b,0,none⟩=some (.string (str l)))(h1:w.cell? ⟨b,1,none⟩=some (.int .i64 6))(hl:¬l=[]):Calls Tryz.prog 69 #[.pointer (some ⟨b,0,none⟩)] w fun e w'=>e=Ax 6 0/\w=w':=by
 have hpos:(0:Int)<((str l).size:Int):=by
  rw[Az];have:=List.length_pos_iff.2 hl;omega
 have HR:=Ab (Kl b w h1);clear hl h1;generalize str l=S at *;go_enter Tryz.func69,Tryz.ntmps69;go_wp2_with fail
 refine(Aa HR).mono ?_;rintro e w1 ⟨rfl,rfl⟩;go_wp2;exact⟨rfl,rfl,rfl⟩
structure Z0(w w':World)(l:List UInt8)(O:Value)(v:List It):Prop where
 left:w'.cell? ⟨w.heap.size+1,0,none⟩=some (.string (str l))
 wrong:w'.cell? ⟨w.heap.size+1,1,none⟩=some (.int .i64 6)
 out:w'.cell? ⟨w.heap.size+1,2,none⟩=some O
 row:Row w' (w.heap.size+2) O v
 below:Below w.heap.size w w'
theorem UW(w:World)(x0 x1:Int)(ea:Option Addr)(en ec:Nat)(l l':List UInt8)(v:List It)(hn:¬70<l.length)
  (HK:Calls Tryz.prog 125 #[.agg #[.int .u8 x0,.int .i64 x1,.slice ea en ec],.iface 311 (.pointer (some ⟨w.heap.size+1,0,none⟩))] ((w.alloc (Bh x0 x1 ea en ec)).alloc (.cells #[.string (str l),.int .i64 6,.slice none 0 0] 310)) fun e w'=>e=.returned (.tuple #[])/\∃O,Z0 w w' l' O v):
  Calls Tryz.prog 197 #[.agg #[.int .u8 x0,.int .i64 x1,.slice ea en ec],.string (str l)] w fun e w'=>(if l'=[] then ∃O,e=.returned O/\Row w' (w.heap.size+2) O v else e=Ax 6 0)/\Below w.heap.size w w':=by
 have HKK:=Ab HK;have HB:=Ab (fun w=>Fb (str l).size w);rw[show decide (70<(str l).size)=false by rw[Az];simp;omega]at HB;clear HK hn;generalize str l=S at *;by_cases h0:l'=[]
 ·subst h0;simp only[if_true];go_enter Tryz.func197,Tryz.ntmps197;go_wp2_with fail
  refine((Aa HB) _).mono ?_;rintro e w1 ⟨rfl,rfl⟩;go_wp2_with fail
  refine(Aa HKK).mono ?_;rintro e w1 ⟨rfl,O,hL⟩;have c1:=hL.out;obtain⟨oa,on,oc,hsh⟩:=Ar hL.row;subst hsh;have HE:=Ab (YZ (w.heap.size+1) w1 hL.left);have HL:=Ab hL;clear hL;go_wp2_with fail
  refine(Aa HE).mono ?_;rintro e w2 ⟨rfl,hw2⟩;subst hw2;go_wp2
  go_ret
  exact⟨⟨_,rfl,(Aa HL).row⟩,(Aa HL).below⟩
 ·simp only[h0,if_false];go_enter Tryz.func197,Tryz.ntmps197;go_wp2_with fail
  refine((Aa HB) _).mono ?_;rintro e w1 ⟨rfl,rfl⟩;go_wp2_with fail
  refine(Aa HKK).mono ?_;rintro e w1 ⟨rfl,O,hL⟩;have hb:=hL.below;have HE:=Ab (aaB (w.heap.size+1) l' w1 hL.left hL.wrong h0);clear hL;generalize str l'=S' at *;go_wp2_with fail
  refine(Aa HE).mono ?_;rintro e w2 ⟨rfl,hw2⟩;subst hw2;go_wp2;exact⟨rfl,rfl,hb⟩
def J0(r:Option Ot)(l:List UInt8):Nat×List It:=if 70<l.length then (5,[]) else match r with
 |none=>(6,[])
 |some (l',v)=>if l'=[] then (0,v) else (6,[])
def VF(B:Nat)(res:Nat×List It)(e:Ending)(w':World):Prop:=if res.1=0 then ∃O,e=.returned O/\Row w' B O res.2 else e=Ax res.1 0
theorem Vv(s:ByteArray)(S:Nat->Prop)(c0 c1 c2:Value)(l:List UInt8)(w:World)(hR:EN w S (nx s) (s.size+1) 0 c0 c1 c2)(hO:Mi s (s.size+1) 0)(hd:Pt.Eh (nx s) (s.size+1) 0<=4):
  Calls Tryz.prog 197 #[.agg #[c0,c1,c2],.string (str l)] w fun e w'=>VF w.heap.size (J0 (Aw Dm C9 (nx s) (s.size+1) 0 (l,[])) l) e w'/\Below w.heap.size w w':=by
 obtain⟨⟨x0,rfl⟩,⟨x1,rfl⟩,⟨ea,en,ec,rfl⟩⟩:=Bp hR;by_cases hbig:70<l.length
 ·refine(XJ w x0 x1 ea en ec (str l) (by rw[Az];exact hbig)).mono ?_;rintro e w' ⟨rfl,hb⟩;refine⟨?_,hb⟩;simp[VF,J0,hbig]
 ·have hb0:Below w.heap.size w (w.alloc (Bh x0 x1 ea en ec)):=(Below.refl w.heap.size w).alloc (Nat.le_refl _) _;have hR0:EN (w.alloc (Bh x0 x1 ea en ec)) S (nx s) (s.size+1) 0 (.int .u8 x0) (.int .i64 x1) (.slice ea en ec):=Bo ⟨hb0.size,fun k _ hl=>hb0.block k hl⟩ hR;have hz:(w.alloc (Bh x0 x1 ea en ec)).heap.size=w.heap.size+1:=by simp
  have hrs:RS (w.alloc (Bh x0 x1 ea en ec)) ((w.alloc (Bh x0 x1 ea en ec)).alloc (.cells #[.string (str l),.int .i64 6,.slice none 0 0] 310)) l (.slice none 0 0) []:=by
   refine⟨?_,(Below.refl _ _).alloc (Nat.le_refl _) _,World.ownsRow_nil _ _ _ _⟩;unfold Rd;show ((w.alloc (Bh x0 x1 ea en ec)).heap.push _)[(w.alloc (Bh x0 x1 ea en ec)).heap.size]?=_;rw[Array.getElem?_push_size]
  have hM:10 ^ Pt.Eh (nx s) (s.size+1) 0<=10 ^ 4:=Nat.pow_le_pow_right (by decide) hd;have HK:=MK (LG (w.alloc (Bh x0 x1 ea en ec))) s (s.size+1) 0 S _ _ _ hR0 hO _ 0 (l,[]) _ ⟨_,hrs,rfl,by simp only;omega,Nat.le_refl _⟩ (by omega);have hptr:(reader (w.alloc (Bh x0 x1 ea en ec))).I=.iface 311 (.pointer (some ⟨w.heap.size+1,0,none⟩)):=by
   show Value.iface 311 (.pointer (some ⟨(w.alloc (Bh x0 x1 ea en ec)).heap.size,0,none⟩))=_;rw[hz]
  rw[hptr]at HK;rw[show Aw (reader (w.alloc (Bh x0 x1 ea en ec))).num (reader (w.alloc (Bh x0 x1 ea en ec))).txt (nx s) (s.size+1) 0 (l,[])=Aw Dm C9 (nx s) (s.size+1) 0 (l,[]) from rfl]at HK;have hbb:∀w',Below (w.alloc (Bh x0 x1 ea en ec)).heap.size (w.alloc (Bh x0 x1 ea en ec)) w'->Below w.heap.size w w':=fun w' h=>hb0.trans (h.mono (by omega))
  cases hr:Aw Dm C9 (nx s) (s.size+1) 0 (l,[]) with
  |none=>
   rw[hr]at HK;refine(UU w x0 x1 ea en ec l hbig (HK.mono ?_)).mono ?_
   ·rintro e w' (⟨rfl,_,hb⟩|⟨rfl,x',hx,_⟩)
    ·exact⟨rfl,hbb w' hb⟩
    ·cases hx
   ·rintro e w' ⟨rfl,hb⟩;refine⟨?_,hb⟩;simp[VF,J0,hbig]
  |some a=>
   obtain⟨l',v⟩:=a;rw[hr]at HK;have HL:Calls Tryz.prog 125 #[.agg #[.int .u8 x0,.int .i64 x1,.slice ea en ec],.iface 311 (.pointer (some ⟨w.heap.size+1,0,none⟩))] ((w.alloc (Bh x0 x1 ea en ec)).alloc (.cells #[.string (str l),.int .i64 6,.slice none 0 0] 310)) fun e w'=>e=.returned (.tuple #[])/\∃O,Z0 w w' l' O v:=by
    refine HK.mono ?_;rintro e w' (⟨rfl,hx,_⟩|⟨rfl,x',hx,c',O',_,⟨Ov,hw2,_⟩,_⟩)
    ·cases hx
    ·cases hx;have h1:=hw2.rd.left;have h2:=hw2.rd.items;have h4:=hw2.rd.wrong;have h3:=hw2.own;rw[hz]at h1 h2 h3 h4;exact⟨rfl,Ov,h1,h4,h2,h3,hbb w' hw2.below⟩
   refine(UW w x0 x1 ea en ec l l' v hbig HL).mono ?_;rintro e w' ⟨he,hb⟩;refine⟨?_,hb⟩;by_cases h0:l'=[]
   ·rw[if_pos h0]at he;obtain⟨O,rfl,hrow⟩:=he;have:J0 (some (l',v)) l=(0,v):=by simp[J0,hbig,h0]
    rw[this];exact⟨O,rfl,EF hrow (by omega)⟩
   ·rw[if_neg h0]at he;subst he;have:J0 (some (l',v)) l=(6,[]):=by simp[J0,hbig,h0]
    rw[this];rfl
def D3(s:ByteArray)(l:List UInt8):Nat×List It:=if (Pt.G8 (nx s) s.size).1=0 then J0 (Aw Dm C9 (nx s) (s.size+1) 0 (l,[])) l else ((Pt.G8 (nx s) s.size).1,[])
theorem Oc(w:World)(B:Nat):Row w B (.slice none 0 0) []:=World.ownsRow_nil _ _ _ _
end Go.Proofs.YtblomippkddgiaaGreatDoor.V
