import Derived.Test.YtblomippkddgiabGreatDoorJ02
set_option maxRecDepth 100000
set_option maxHeartbeats 2000000
namespace Go.Proofs.YtblomippkddgiabGreatDoor.V
open Go.RowKit
theorem TP(b p:Nat)(s:ByteArray)(w:World)(h:At w b s p)(hp:p<=s.size)(hs:s.size<=40)(hc:¬nx s p=40):
  Calls Tryz.prog 255 #[.pointer (some ⟨b,0,none⟩)] w fun e w'=>e=BO p/\Af b w w':=by
 have HB:=Mm b p s w (nx s p) 40 h hp hs rfl hc;clear hc h;go_enter Tryz.func255,Tryz.ntmps255;go_wp2_with fail
 refine HB.mono ?_;rintro e w1 ⟨rfl,hk⟩;go_wp2;exact⟨rfl,rfl,hk⟩
theorem Rk(b f p:Nat)(s:ByteArray)(w:World)(h:At w b s p)(hp:p<s.size)(hs:s.size<=40)(hf:s.size-(p+1)<f)(hc:nx s p=40)(H:LK b s f)(hT:(Pt.ty (nx s) f (p+1)).1=false):
  Calls Tryz.prog 255 #[.pointer (some ⟨b,0,none⟩)] w fun e w'=>e=BO (Pt.ty (nx s) f (p+1)).2/\Af b w w':=by
 have HB:=GK b p s w 40 h (by omega) hs hc;have HO:∀w,At w b s (p+1)->Calls Tryz.prog 221 #[.pointer (some ⟨b,0,none⟩)] w fun e w'=>e=BO (Pt.ty (nx s) f (p+1)).2/\Af b w w':=by
  intro w1 ha;refine(H (p+1) w1 ha (by omega) hf).mono ?_;intro e w' aa;unfold Da at aa;rw[hT,if_neg (by simp)]at aa;exact aa
 have HO:=Ac HO;clear hc h H hT;go_enter Tryz.func255,Tryz.ntmps255;go_wp2_with fail
 refine HB.mono ?_;rintro e w1 ⟨rfl,hk,ha⟩;clear HB;go_wp2_with fail
 refine((Aa HO) _ ha).mono ?_;rintro e w2 ⟨rfl,ab⟩;go_wp2;exact⟨rfl,rfl,hk.trans ab⟩
theorem TQ(b f p:Nat)(s:ByteArray)(w:World)(h:At w b s p)(hp:p<s.size)(hs:s.size<=40)(hf:s.size-(p+1)<f)(hc:nx s p=40)(H:LK b s f)(hA:Pt.Agree (nx s) s.size f)(hT:(Pt.ty (nx s) f (p+1)).1=true):
  Calls Tryz.prog 255 #[.pointer (some ⟨b,0,none⟩)] w (DV b s f p w):=by
 have ao:=h.lt;have HB:=GK b p s w 40 h (by omega) hs hc;have HA:=Ac hA;have HT:=Ac hT;have HO:=Ac H;clear hc h H hT hA;obtain⟨i0,hi,aH,aI,aJ⟩:=info_parts aco;go_enter Tryz.func255,Tryz.ntmps255;go_wp2_with fail
 refine HB.mono ?_;rintro e w1 ⟨rfl,hk,ha⟩;clear HB;go_wp2_with fail
 refine((Aa HO) (p+1) _ ha (by omega) hf).mono ?_;intro e w2 af;unfold Da at af;rw[Aa HT,if_pos rfl]at af;obtain⟨d0,d1,d2,rfl,ay,av,aA⟩:=af;obtain⟨_,am,_⟩:=(Aa HA) (p+1) 0 1 0 [] (by omega) hf;obtain⟨q1,q2⟩:=am (Aa HT);have I:=V0 hk ay av rfl q2 (by omega) aA;have I0:=Ac I;clear I am hk ay ha av aA;go_wp2;go_loopw [3] (fun v wr=>∃(j k q:Nat) (ks:List Nat) (xs:List Value),Se b f p s w j k q ks v xs wr) (fun v _=>6-lenOf v)
 case atStart=>exact⟨_,_,_,_,_,Aa I0⟩
 case round=>
  obtain⟨j,k,q,ks,xs,I⟩:=hrel;clear I0;obtain⟨g,cap,hv,aK,aM⟩:=IK I.owns I.some;subst hv;have HI:=Ac I;have aE:=I.sum;have aB:=I.some;have ak:=I.reader;have aj:=I.le;have al:=I.fuel;clear I;by_cases h6:k=6
  ·subst h6;obtain rfl:j=0:=by omega
   by_cases ac:nx s q=41
   ·have aa:=Ac ac;clear ac;go_wp2_with fail
    refine(GK b q s _ 41 ak aj hs (Aa aa)).mono ?_;rintro e w3 ⟨rfl,ad,ah⟩;go_wp2
    go_ret
    exact MS ao (Aa HI) (Aa aa) ad ah
   ·have aa:=Ac ac;clear ac;go_wp2_with fail
    refine(Mm b q s _ _ 41 ak aj hs rfl (Aa aa)).mono ?_;rintro e w3 ⟨rfl,ad⟩;go_wp2;exact⟨rfl,Tz (Aa HI) (Aa aa) ad⟩
  ·obtain⟨j',rfl⟩:∃j',j=j'+1:=⟨j-1,by omega⟩;have aO:(k:Int)<6:=by omega
   by_cases ac:nx s q=41
   ·have aa:=Ac ac;have HN:=ES b q s wr ak aj hs;rw[ac]at HN;clear ac;go_wp2_with fail
    refine HN.mono ?_;rintro e w3 ⟨rfl,ad,ah⟩;clear HN;go_wp2_with fail
    refine(GK b q s _ 41 ah aj hs (Aa aa)).mono ?_;rintro e w4 ⟨rfl,ai,an⟩;go_wp2
    go_ret
    exact MS ao (Aa HI) (Aa aa) (ad.trans ai) an
   ·have aa:=Ac ac;have HN:=ES b q s wr ak aj hs;obtain⟨c,ax⟩:∃c,c=nx s q:=⟨_,rfl⟩;rw[<-ax]at HN;have az:((c:Int) != 41)=true:=by simp;omega
    clear ac ax;go_wp2_with fail
    refine HN.mono ?_;rintro e w3 ⟨rfl,ad,ah⟩;clear HN;go_wp2_with fail
    refine((Aa HO) q _ ah aj al).mono ?_;intro e w4 af;unfold Da at af;cases hTq:(Pt.ty (nx s) f q).1 with
    |false=>
     rw[hTq,if_neg (by simp)]at af;obtain⟨rfl,ai⟩:=af;have aq:=Ac hTq;clear hTq;go_wp2;exact⟨rfl,aaW (Aa HI) (Aa aa) (Aa aq) (ad.trans ai)⟩
    |true=>
     rw[hTq,if_pos rfl]at af;obtain⟨e0,e1,e2,rfl,ai,an,au⟩:=af;have aq:=Ac hTq;clear hTq;obtain⟨⟨x0,rfl⟩,⟨x1,rfl⟩,⟨ea,en,ec,rfl⟩⟩:=Bz au;have ae:=ad.trans ai;have how:=Nc (Aa HI).owns ae ao;have aP:=(Aa HI).keeps.size;have aF:=ae.size;have HR:=Ac au;have aC:=Ac an;have ap:=Ac ae;have aL:wr.heap.size<=w3.heap.size:=ad.size;clear au an ae ad ai ah ak;go_wp2_with (at_builtin;refine wpList_append_own_at _ rfl _ _ 260 rfl w.heap.size 262 i0 (.agg #[.int .u8 0,.int .i64 0,.slice none 0 0]) 3 40 Tryz.underlying260 hi aH aI aJ rfl (by decide) _ k xs rfl (how.alloc _) ⟨w4.heap.size,0,none⟩ 1 1 [.int .u8 x0,.int .i64 x1,.slice ea en ec] rfl rfl ?c1 ?c2 ?c3 ?c4 ?c5 ?_)
     case c1=>
      intro i u hu;obtain⟨t0,t1,t2,_⟩:=(FE.new w4 (.int .u8 x0) (.int .i64 x1) (.slice ea en ec)).facts;match i,hu with
      |0,hu=>simp at hu;subst hu;exact t0
      |1,hu=>simp at hu;subst hu;exact t1
      |2,hu=>simp at hu;subst hu;exact t2
     case c2=>
      intro u hu;simp at hu;rcases hu with rfl|rfl|rfl<;>rfl
     case c3=>unfold maxLen;omega
     case c4=>omega
     case c5=>simp;omega
     intro v' w5 ab ag _ aw;have R:=Yn ao (Aa HI) (Aa ap) (Aa aC) (Aa aq) (Aa HA) (Aa aa) (DN (fun k' aN _=>by omega) (Aa HR)) ab ag (by simpa using aw);have ar:lenOf v'=k+1:=by
      obtain⟨g',aD,aG,_⟩:=IK ab (by omega);rw[aG];rfl
     have R:=Ac R;have ar:=Ac ar;clear ab ag aw how;go_wp2;go_roundw
     case rel=>exact⟨_,_,_,_,_,Aa R⟩
     case measure=>rw[Aa ar];simp only[lenOf];omega
theorem Wn(b f p:Nat)(s:ByteArray)(w:World)(h:At w b s p)(hp:p<=s.size)(hs:s.size<=40)(hf:p<s.size->s.size-(p+1)<f)(H:LK b s f)(hA:Pt.Agree (nx s) s.size f):
  Calls Tryz.prog 255 #[.pointer (some ⟨b,0,none⟩)] w fun e w'=>
   if nx s p=40 then (if (Pt.ty (nx s) f (p+1)).1 then DV b s f p w e w' else e=BO (Pt.ty (nx s) f (p+1)).2/\Af b w w') else e=BO p/\Af b w w':=by
 by_cases hc:nx s p=40
 ·have aa:p<s.size:=by
   rcases agy p s.size with h'|h'
   ·exact h'
   ·rw[KB h']at hc;omega
  simp only[hc,if_true];cases hT:(Pt.ty (nx s) f (p+1)).1 with
  |false=>simpa using Rk b f p s w h aa hs (hf aa) hc H hT
  |true=>simpa using TQ b f p s w h aa hs (hf aa) hc H hA hT
 ·simp only[hc,if_false];exact TP b p s w h hp hs hc
theorem Gb{s:ByteArray}{p c:Nat}(h:nx s p=c)(hc:c≠0):p<s.size:=by
 rcases agy p s.size with h'|h'
 ·exact h'
 ·rw[KB h']at h;omega
theorem abd(b:Nat)(s:ByteArray)(hs:s.size<=40):∀f,LK b s f:=by
 have hA:=fun f=>Pt.agree (g:=nx s) (n:=s.size) (fun p hp=>KB hp) f
 intro f;induction f with
 |zero=>intro p w _ _ hf;omega
 |succ f ih=>
  intro p w h hp hf;obtain⟨c,hc⟩:∃c,nx s p=c:=⟨_,rfl⟩;by_cases hl:c=98\/c=99\/c=105\/c=115
  ·have ac:Pt.Cn c=true:=by simp[Pt.Cn];omega
   refine(Y7 b p s w c h hp hs hc hl).mono ?_;rintro e w' ⟨rfl,hk,ha⟩;have e1:Pt.ty (nx s) (f+1) p=(true,p+1):=by simp[Pt.ty,hc,ac]
   unfold Da;rw[e1,if_pos rfl];refine⟨_,_,_,rfl,hk,ha,Ru ?_ (by rw[hc]) ?_⟩
   ·have n1:¬c=97:=by omega
    have n2:¬c=113:=by omega
    have n3:¬c=114:=by omega
    have n4:¬c=117:=by omega
    simp[Pt.kids,hc,n1,n2,n3,n4]
   ·unfold Bi;rw[if_neg (by rw[hc];omega)]
  have ac:Pt.Cn c=false:=by simp[Pt.Cn];omega
  by_cases he:c=101
  ·subst he;have ab:=Gb hc (by omega);by_cases hd:48+1<=nx s (p+1)/\nx s (p+1)<=57
   ·refine(ad2 b p s w h ab hs hc hd).mono ?_;rintro e w' ⟨rfl,hk,ha⟩;have e1:Pt.ty (nx s) (f+1) p=(true,p+2):=by simp[Pt.ty,hc,ac,Pt.GD];omega
    unfold Da;rw[e1,if_pos rfl];refine⟨_,_,_,rfl,hk,ha,Ru (by simp[Pt.kids,hc]) (by rw[hc];rfl) ?_⟩;unfold Bi;rw[if_pos (by omega)]
   ·refine(Y5 b p s w h ab hs hc hd).mono ?_;rintro e w' ⟨rfl,hk⟩;have e1:Pt.ty (nx s) (f+1) p=(false,p+1):=by
     simp only[Pt.ty,hc,ac,Pt.GD];simp;omega
    unfold Da;rw[e1,if_neg (by simp)];exact⟨rfl,hk⟩
  by_cases af:c=97
  ·subst af;have ab:=Gb hc (by omega);by_cases hd:48+1<=nx s (p+1)/\nx s (p+1)<=57
   ·have ah:=Gb (s:=s) (p:=p+1) rfl (by omega);have ad:Pt.GD (nx s) 1 (p+1)=(true,p+2):=by unfold Pt.GD;rw[if_pos hd]
    have e1:Pt.ty (nx s) (f+1) p=Pt.ty (nx s) f (p+2):=by simp[Pt.ty,hc,ac,ad]
    have aa:=fun w' (ha:At w' b s (p+2))=>ih (p+2) w' ha (by omega) (by omega)
    unfold Da at aa ⊢;rw[e1];cases hT:(Pt.ty (nx s) f (p+2)).1 with
    |false=>
     simp only[hT,Bool.false_eq_true,if_false]at aa ⊢;exact Y2 b p s w _ h ab hs hc hd aa
    |true=>
     simp only[hT,if_true]at aa ⊢;exact Y4 b p f s w _ h ab hs hc hd aa
   ·refine(Y3 b p s w h ab hs hc hd).mono ?_;rintro e w' ⟨rfl,hk⟩;have ad:Pt.GD (nx s) 1 (p+1)=(false,p+1):=by unfold Pt.GD;rw[if_neg hd]
    have e1:Pt.ty (nx s) (f+1) p=(false,p+1):=by simp[Pt.ty,hc,ac,ad]
    unfold Da;rw[e1,if_neg (by simp)];exact⟨rfl,hk⟩
  by_cases ag:c=113
  ·subst ag;have ab:=Gb hc (by omega);by_cases hd:48+0<=nx s (p+1)/\nx s (p+1)<=57
   ·have ah:=Gb (s:=s) (p:=p+1) rfl (by omega);have ad:Pt.GD (nx s) 0 (p+1)=(true,p+2):=by unfold Pt.GD;rw[if_pos hd]
    have e1:Pt.ty (nx s) (f+1) p=Pt.ty (nx s) f (p+2):=by simp[Pt.ty,hc,ac,ad]
    have aa:=fun w' (ha:At w' b s (p+2))=>ih (p+2) w' ha (by omega) (by omega)
    unfold Da at aa ⊢;rw[e1];cases hT:(Pt.ty (nx s) f (p+2)).1 with
    |false=>
     simp only[hT,Bool.false_eq_true,if_false]at aa ⊢;exact Za b p s w _ h ab hs hc hd aa
    |true=>
     simp only[hT,if_true]at aa ⊢;exact Zc b p f s w _ h ab hs hc hd aa
   ·refine(Zb b p s w h ab hs hc hd).mono ?_;rintro e w' ⟨rfl,hk⟩;have ad:Pt.GD (nx s) 0 (p+1)=(false,p+1):=by unfold Pt.GD;rw[if_neg hd]
    have e1:Pt.ty (nx s) (f+1) p=(false,p+1):=by simp[Pt.ty,hc,ac,ad]
    unfold Da;rw[e1,if_neg (by simp)];exact⟨rfl,hk⟩
  by_cases hr:c=114\/c=117
  ·have ab:=Gb hc (by omega);have e1:Pt.ty (nx s) (f+1) p=(if nx s (p+1)=40 then (if (Pt.ty (nx s) f (p+2)).1 then Pt.Ft (Pt.ty (nx s) f) (nx s) 5 (Pt.ty (nx s) f (p+2)).2 else (false,(Pt.ty (nx s) f (p+2)).2)) else (false,p+1)):=by
    simp[Pt.ty,hc,ac,he,af,ag,hr]
   have ek:Pt.kids (nx s) f p=(p+2) :: Pt.CV (Pt.ty (nx s) f) (nx s) 5 (Pt.ty (nx s) f (p+2)).2:=by simp[Pt.kids,hc,af,ag,hr]
   have aa:=fun w' (ha:At w' b s (p+1))=>Wn b f (p+1) s w' ha (by omega) hs (fun _=>by omega) ih (hA f)
   by_cases ae:nx s (p+1)=40
   ·cases hT:(Pt.ty (nx s) f (p+2)).1 with
    |false=>
     simp only[ae,if_true,show p+1+1=p+2 from rfl,hT,Bool.false_eq_true,if_false]at aa;unfold Da;rw[e1];simp only[ae,if_true,hT,Bool.false_eq_true,if_false];rcases hr with rfl|rfl
     ·exact M9 b p s w _ h ab hs hc aa
     ·exact Na b p s w _ h ab hs hc aa
    |true=>
     unfold DV at aa;simp only[ae,if_true,show p+1+1=p+2 from rfl,hT]at aa;unfold Da;rw[e1];simp only[ae,if_true,hT];cases hL:(Pt.Ft (Pt.ty (nx s) f) (nx s) 5 (Pt.ty (nx s) f (p+2)).2).1 with
     |false=>
      simp only[hL,Bool.false_eq_true,if_false]at aa ⊢;rcases hr with rfl|rfl
      ·exact M9 b p s w _ h ab hs hc aa
      ·exact Na b p s w _ h ab hs hc aa
     |true=>
      simp only[hL,if_true,<-ek]at aa ⊢;rcases hr with rfl|rfl
      ·exact Zd b p f s w _ h ab hs hc aa
      ·exact Ze b p f s w _ h ab hs hc aa
   ·simp only[ae,if_false]at aa;unfold Da;rw[e1];simp only[ae,if_false,Bool.false_eq_true];rcases hr with rfl|rfl
    ·exact M9 b p s w _ h ab hs hc aa
    ·exact Na b p s w _ h ab hs hc aa
  ·refine(abe b p s w c h hp hs hc (by omega)).mono ?_;rintro e w' ⟨rfl,hk⟩;have e1:Pt.ty (nx s) (f+1) p=(false,p):=by simp[Pt.ty,hc,ac,he,af,ag,hr]
   unfold Da;rw[e1,if_neg (by simp)];exact⟨rfl,hk⟩
theorem ZX{l:List Nat}{m:Nat}(h:∀x∈l,x<=m):Pt.top l<=m:=by
 induction l with
 |nil=>simp[Pt.top]
 |cons x l ih=>
  have h1:=h x (by simp);have h2:=ih (fun y hy=>h y (by simp[hy]));simp only[Pt.top];omega
theorem Ta(g:Nat->Nat):∀f p,Pt.EC g f p<=f:=by
 intro f;induction f with
 |zero=>intro p;simp[Pt.EC]
 |succ f ih=>
  intro p;simp only[Pt.EC];have:=ZX (l:=(Pt.kids g f p).map (Pt.EC g f)) (m:=f) (by intro x hx;simp at hx;obtain⟨a,_,rfl⟩:=hx;exact ih a);omega
theorem ZY(l:List Nat)(x:Nat):Pt.top (l++[x])=max (Pt.top l) x:=by
 induction l with
 |nil=>simp[Pt.top]
 |cons y l ih=>simp only[agz,Pt.top,ih];omega
theorem ZZ{ks:List Nat}{d:Nat->Nat}{k q:Nat}(h:ks[k]?=some q):Pt.top ((ks.take (k+1)).map d)=max (Pt.top ((ks.take k).map d)) (d q):=by
 rw[agH,h];simp only[Option.toList_some,agw,agD,agV];exact ZY _ _
theorem V7(T:Nat->Bool×Nat)(g:Nat->Nat):∀j p,(Pt.CV T g j p).length<=j:=by
 intro j;induction j with
 |zero=>intro p;simp[Pt.CV]
 |succ j ih=>
  intro p;unfold Pt.CV;split
  ·simp
  ·have:=ih (T p).2;simp;omega
theorem Im(g:Nat->Nat)(f p:Nat):(Pt.kids g f p).length<=6:=by
 unfold Pt.kids;split
 ·simp
 ·split
  ·have:=V7 (Pt.ty g f) g 5 (Pt.ty g f (p+2)).2;simp;omega
  ·simp
def Kn(g:Nat->Nat)(f:Nat):Prop:=∀(p:Nat) (S:Nat->Prop) (c0 c1 c2:Value) (w:World),Fe w S g f p c0 c1 c2->Calls Tryz.prog 223 #[.agg #[c0,c1,c2]] w fun e w'=>e=.returned (.int .i64 (Pt.EC g f p))/\Below w.heap.size w w'
theorem Tb(g:Nat->Nat)(f:Nat)(hf:f<=41)(ih:Kn g f):Kn g (f+1):=by
 intro p S c0 c1 c2 w h;obtain⟨rfl,rfl,xs,ho,hi⟩:=h;obtain⟨va,vn,vc,rfl,af⟩:∃a n c,c2=.slice a n c/\n=(Pt.kids g f p).length:=by
  rcases ho.1.2 with ⟨rfl,h0⟩|⟨gb,cap,al,rfl,_⟩
  ·exact⟨_,_,_,rfl,h0.symm⟩
  ·exact⟨_,_,_,rfl,rfl⟩
 have HO:=(show Hid (NN w S (.slice va vn vc) (Pt.kids g f p).length xs) from ho);have HI:=Ac hi;have ak:=Ac ih;have HN:=Ac af;have aq:vn<=6:=by rw[af];exact Im g f p
 clear ho hi ih af;go_enter Tryz.func223,Tryz.ntmps223;go_wp2;go_loopw [3,9] (fun gr i wr=>∃k:Nat,k<=vn/\i=.int .i64 k/\gr=.int .i64 (Pt.top (((Pt.kids g f p).take k).map (Pt.EC g f)))/\Below w.heap.size w wr) (fun _ i _=>vn-(intOf i).toNat)
 case atStart=>exact⟨0,af8 _,rfl,rfl,(Below.refl _ _).alloc (afI _) _⟩
 case round=>
  obtain⟨k,hk,rfl,rfl,hb⟩:=hrel;obtain⟨tk,ac⟩:∃tk,tk=Pt.top (((Pt.kids g f p).take k).map (Pt.EC g f)):=⟨_,rfl⟩;have ap:tk<=f:=by
   rw[ac];exact ZX (fun x hx=>by
    obtain⟨a,_,rfl⟩:=agE.1 hx;exact Ta g f a)
  rw[<-ac];have ag:=Ac ac;clear ac;by_cases ao:k<vn
  ·obtain⟨q,hq⟩:∃q,(Pt.kids g f p)[k]?=some q:=⟨_,afH (by have:=Aa HN;omega)⟩;obtain⟨d0,d1,d2,a0,a1,a2,hr⟩:=(Aa HI) k q hq;obtain⟨gb,rfl,ae⟩:∃gb,va=some ⟨gb,0,none⟩/\gb<w.heap.size:=by
    rcases(Aa HO).1.2 with ⟨hv,h0⟩|⟨gb,cap,al,hv,_,hh,_⟩
    ·have:=Aa HN;omega
    ·cases hv;exact⟨gb,rfl,lt_of_block hh⟩
   have aa:=(Aa HO).1.cells (g:=gb) rfl;have ad:∀o,(⟨gb,0,none⟩:Addr).add o=⟨gb,o,none⟩:=fun o=>by simp[Addr.add];omega
   have f0:wr.cell? ⟨gb,k*3,none⟩=some d0:=by
    rw[hb.cell (p:=⟨gb,k*3,none⟩) ae,<-ad,agF];exact aa _ _ a0
   have f1:wr.cell? ⟨gb,k*3+1,none⟩=some d1:=by
    rw[hb.cell (p:=⟨gb,k*3+1,none⟩) ae,<-ad,agF];exact aa _ _ a1
   have f2:wr.cell? ⟨gb,k*3+2,none⟩=some d2:=by
    rw[hb.cell (p:=⟨gb,k*3+2,none⟩) ae,<-ad,agF];exact aa _ _ a2
   obtain⟨⟨x0,rfl⟩,⟨x1,rfl⟩,⟨ea,en,ec,rfl⟩⟩:=Bz hr;have ai:∀o,Fe (wr.alloc o) S g f q (.int .u8 x0) (.int .i64 x1) (.slice ea en ec):=fun o=>Bw ((show Ct S w wr from ⟨hb.size,fun k' _ hl=>hb.block k' hl⟩).alloc o) hr
   have HR:=Ac ai;have HQ:=Ac hq;clear hq hr ai a0 a1 a2 aa ad;go_wp2_with fail
   refine((Aa ak) q S _ _ _ _ (Aa HR _)).mono ?_;rintro e w2 ⟨rfl,ah⟩;obtain⟨dq,ab⟩:∃dq,dq=Pt.EC g f q:=⟨_,rfl⟩;have an:dq<=f:=by rw[ab];exact Ta g f q
   rw[<-ab];have aj:=Ac ab;have am:Below w.heap.size w w2:=(hb.alloc hb.size _).trans (ah.mono (by have:=hb.size;simp;omega));clear ab ah hb f0 f1 f2;go_wp2;go_roundw
   case rel=>
    refine⟨k+1,by omega,by go_num,?_,am⟩;rw[ZZ (Aa HQ),<-Aa ag,<-Aa aj];by_cases hx:tk<dq
    ·rw[if_pos hx,show max tk dq=dq by omega]
    ·rw[if_neg hx,show max tk dq=tk by omega]
   case measure=>simp[intOf];omega
  ·go_wp2
   go_ret
   refine⟨?_,hb⟩;have e1:Pt.EC g (f+1) p=tk+1:=by
    rw[Aa ag,af6 (by have:=Aa HN;omega)];rfl
   rw[e1];rfl
theorem VH(g:Nat->Nat):∀f,f<=42->Kn g f:=by
 intro f;induction f with
 |zero=>intro _ p S c0 c1 c2 w h;exact h.elim
 |succ f ih=>intro hf;exact Tb g f (by omega) (ih (by omega))
end Go.Proofs.YtblomippkddgiabGreatDoor.V
namespace Go.Proofs.YtblomippkddgiabGreatDoor.V.Pt
def chain(T:Nat->Bool×Nat)(g:Nat->Nat):Nat->List Nat->Nat->Prop
 |start,[],c=>start=c/\g c=41
 |start,k :: r,c=>start=k/\g k≠41/\(T k).1=true/\chain T g (T k).2 r c
theorem Qn{T:Nat->Bool×Nat}{g:Nat->Nat}:∀(j p:Nat),(Ft T g j p).1=true->chain T g p (CV T g j p) ((Ft T g j p).2-1)/\1<=(Ft T g j p).2:=by
 intro j;induction j with
 |zero=>
  intro p h;by_cases hc:g p=41
  ·simp[Ft,hc,CV,chain]
  ·simp[Ft,hc]at h
 |succ j ih=>
  intro p h;by_cases hc:g p=41
  ·simp[Ft,hc,CV,chain]
  ·cases hx:(T p).1 with
   |false=>simp[Ft,hc,hx]at h
   |true=>
    have e:Ft T g (j+1) p=Ft T g j (T p).2:=by simp[Ft,hc,hx]
    rw[e]at h ⊢;obtain⟨h1,h2⟩:=ih (T p).2 h;refine⟨?_,h2⟩;simp only[CV,hc,if_false];exact⟨rfl,hc,hx,h1⟩
end Go.Proofs.YtblomippkddgiabGreatDoor.V.Pt
namespace Go.Proofs.YtblomippkddgiabGreatDoor.V
open Go.RowKit
variable {s:ByteArray}{f p:Nat}
def partOf(ks:List Nat)(k:Int):Nat:=if 0<=k then (ks[k.toNat]?).getD ks.length else ks.length
structure NM(s:ByteArray)(f p:Nat):Prop where
 le:p<=s.size
 fuel:s.size-p<f
 ok:(Pt.ty (nx s) f p).1=true
theorem NM.ends(h:NM s f p):p<(Pt.ty (nx s) f p).2/\(Pt.ty (nx s) f p).2<=s.size:=by
 obtain⟨_,hb,_⟩:=Pt.agree (g:=nx s) (n:=s.size) (fun p hp=>KB hp) f p 0 1 0 [] h.le h.fuel;exact hb h.ok
theorem NM.lt(h:NM s f p):p<s.size:=by
 have:=h.ends;omega
theorem XU:∀(ks:List Nat) (aa c:Nat),Pt.chain (Pt.ty (nx s) f) (nx s) aa ks c->aa<=s.size->s.size-aa<f->∀k∈ks,aa<=k/\NM s f k:=by
 intro ks;induction ks with
 |nil=>intro aa c _ _ _ k hk;cases hk
 |cons a ks ih=>
  intro aa c h ab hf k hk;obtain⟨rfl,_,hT,hr⟩:=h;have ho:NM s f aa:=⟨ab,hf,hT⟩;have he:=ho.ends;rcases agR.1 hk with rfl|hk
  ·exact⟨afI _,ho⟩
  ·have:=ih _ c hr he.2 (by omega) k hk;exact⟨by omega,this.2⟩
structure Okl(s:ByteArray)(f p:Nat):Prop where
 here:nx s p=114\/nx s p=117
 ok:NM s (f+1) p
theorem Okl.chain(h:Okl s f p):p+2<=s.size/\s.size-(p+2)<f/\∃c,Pt.chain (Pt.ty (nx s) f) (nx s) (p+2) (Pt.kids (nx s) f p) c:=by
 have aj:=h.ok.lt;have ah:=h.ok.fuel;have n1:¬nx s p=97:=by have:=h.here;omega
 have n2:¬nx s p=113:=by have:=h.here;omega
 have n3:¬nx s p=101:=by have:=h.here;omega
 have n4:Pt.Cn (nx s p)=false:=Pt.V3 (by have:=h.here;omega);have aa:=h.ok.ok;have ag:Pt.ty (nx s) (f+1) p=(if nx s (p+1)=40 then (if (Pt.ty (nx s) f (p+2)).1 then Pt.Ft (Pt.ty (nx s) f) (nx s) 5 (Pt.ty (nx s) f (p+2)).2 else (false,(Pt.ty (nx s) f (p+2)).2)) else (false,p+1)):=by
  simp[Pt.ty,n4,n3,n1,n2,h.here]
 rw[ag]at aa;have ad:Pt.kids (nx s) f p=(p+2) :: Pt.CV (Pt.ty (nx s) f) (nx s) 5 (Pt.ty (nx s) f (p+2)).2:=by simp[Pt.kids,n1,n2,h.here]
 by_cases ab:nx s (p+1)=40
 ·have ae:p+1<s.size:=Gb ab (by omega);rw[if_pos ab]at aa;cases hx:(Pt.ty (nx s) f (p+2)).1 with
  |false=>rw[hx]at aa;simp at aa
  |true=>
   rw[hx,if_pos rfl]at aa;have af:NM s f (p+2):=⟨by omega,by omega,hx⟩;have ai:=af.lt;refine⟨by omega,by omega,(Pt.Ft (Pt.ty (nx s) f) (nx s) 5 (Pt.ty (nx s) f (p+2)).2).2-1,?_⟩;rw[ad];refine⟨rfl,?_,hx,(Pt.Qn 5 _ aa).1⟩;intro ac;cases f with
   |zero=>omega
   |succ f=>
    have:Pt.ty (nx s) (f+1) (p+2)=(false,p+2):=by simp[Pt.ty,ac,Pt.Cn]
    rw[this]at hx;cases hx
 ·rw[if_neg ab]at aa;simp at aa
theorem Gu(h:NM s (f+1) p):
  (nx s p=98\/nx s p=99\/nx s p=105\/nx s p=115)\/(nx s p=101/\p+1<s.size/\49<=nx s (p+1)/\nx s (p+1)<=57) \/
  (nx s p=97/\p+1<s.size/\49<=nx s (p+1)/\nx s (p+1)<=57/\NM s f (p+2))\/(nx s p=113/\p+1<s.size/\48<=nx s (p+1)/\nx s (p+1)<=57/\NM s f (p+2))\/Okl s f p:=by
 have af:=h.lt;have ae:=h.fuel;have aa:=h.ok;by_cases hl:nx s p=98\/nx s p=99\/nx s p=105\/nx s p=115
 ·exact afJ hl
 have ad:Pt.Cn (nx s p)=false:=by simp[Pt.Cn];omega
 by_cases he:nx s p=101
 ·have ab:Pt.ty (nx s) (f+1) p=Pt.GD (nx s) 1 (p+1):=by simp[Pt.ty,he,Pt.Cn]
  rw[ab]at aa;unfold Pt.GD at aa;split at aa
  ·rename_i hc;exact afM (afJ ⟨he,Gb (s:=s) (p:=p+1) rfl (by omega),by omega,hc.2⟩)
  ·cases aa
 by_cases ha:nx s p=97
 ·have ab:Pt.ty (nx s) (f+1) p=(if (Pt.GD (nx s) 1 (p+1)).1 then Pt.ty (nx s) f (p+2) else (false,p+1)):=by simp[Pt.ty,ha,Pt.Cn]
  rw[ab]at aa;by_cases hc:48+1<=nx s (p+1)/\nx s (p+1)<=57
  ·have hd:Pt.GD (nx s) 1 (p+1)=(true,p+2):=by unfold Pt.GD;rw[if_pos hc]
   rw[hd,if_pos rfl]at aa;have ac:=Gb (s:=s) (p:=p+1) rfl (by omega);exact afM (afM (afJ ⟨ha,ac,by omega,hc.2,⟨by omega,by omega,aa⟩⟩))
  ·have hd:Pt.GD (nx s) 1 (p+1)=(false,p+1):=by unfold Pt.GD;rw[if_neg hc]
   rw[hd,if_neg (by simp)]at aa;cases aa
 by_cases hq:nx s p=113
 ·have ab:Pt.ty (nx s) (f+1) p=(if (Pt.GD (nx s) 0 (p+1)).1 then Pt.ty (nx s) f (p+2) else (false,p+1)):=by simp[Pt.ty,hq,Pt.Cn]
  rw[ab]at aa;by_cases hc:48+0<=nx s (p+1)/\nx s (p+1)<=57
  ·have hd:Pt.GD (nx s) 0 (p+1)=(true,p+2):=by unfold Pt.GD;rw[if_pos hc]
   rw[hd,if_pos rfl]at aa;have ac:=Gb (s:=s) (p:=p+1) rfl (by omega);exact afM (afM (afM (afJ ⟨hq,ac,by omega,hc.2,⟨by omega,by omega,aa⟩⟩)))
  ·have hd:Pt.GD (nx s) 0 (p+1)=(false,p+1):=by unfold Pt.GD;rw[if_neg hc]
   rw[hd,if_neg (by simp)]at aa;cases aa
 by_cases hr:nx s p=114\/nx s p=117
 ·exact afM (afM (afM (afM ⟨hr,h⟩)))
 ·have ab:Pt.ty (nx s) (f+1) p=(false,p):=by simp[Pt.ty,ad,he,ha,hq,hr]
  rw[ab]at aa;cases aa
theorem Iu(h:Okl s f p):∀q∈Pt.kids (nx s) f p,p<q/\NM s f q:=by
 obtain⟨h1,h2,c,hc⟩:=h.chain;intro q hq;have:=XU _ _ _ hc h1 h2 q hq;exact⟨by omega,this.2⟩
def CG(c:Nat):Int:=if c=105 then -32768 else 0
def Ci(g:Nat->Nat)(f p:Nat):Int:=
 if g p=98 then 1 else if g p=99 then 65535 else if g p=105 then 32767 else if g p=101 then (g (p+1):Int)-48-1 else if g p=113 then (g (p+1):Int)-48 else ((Pt.kids g f p).length:Int)-1
abbrev It:=Int×ByteArray
abbrev DZ:=Option (List Bool×List It)
def AO(g:Nat->Nat)(f p:Nat)(v:List It):Option (List Bool×List Nat×List It):=
 if g p=97 then some ([],List.replicate (g (p+1)-48) (p+2),v)
 else if g p=114 then some ([],Pt.kids g f p,v)
 else match v with
  |[]=>none
  |x :: r=>
   if g p=115 then (if x.1=0/\x.2.size<=14 then some ([true],[],r) else none)
   else if x.2.size=0/\CG (g p)<=x.1/\x.1<=Ci g f p then
    some ([false],(if g p=117 then [partOf (Pt.kids g f p) x.1] else if g p=113 then List.replicate x.1.toNat (p+2) else []),r)
   else none
def Ck(k0:List Bool):DZ->DZ
 |none=>none
 |some (k,r)=>some (k0++k,r)
def BU(E:Nat->List It->DZ):List Nat->List It->DZ
 |[],v=>some ([],v)
 |q :: qs,v=>match E q v with
  |none=>none
  |some (k,r)=>Ck k (BU E qs r)
def CF(g:Nat->Nat):Nat->Nat->List It->DZ
 |0,_,_=>none
 |f+1,p,v=>match AO g f p v with
  |none=>none
  |some (k0,qs,r)=>Ck k0 (BU (CF g f) qs r)
theorem II(e:DZ):Ck [] e=e:=by
 cases e with
 |none=>rfl
 |some e=>rfl
def N7(E:List It->DZ):Prop:=∀v ks r,E v=some (ks,r)->r=v.drop ks.length/\ks.length<=v.length
theorem Ub{E:Nat->List It->DZ}:∀qs:List Nat,(∀q∈qs,N7 (E q))->N7 (BU E qs):=by
 intro qs;induction qs with
 |nil=>intro _ v ks r h;simp[BU]at h;obtain⟨rfl,rfl⟩:=h;simp
 |cons a qs ih=>
  intro hE v ks r h;simp only[BU]at h;cases ha:E a v with
  |none=>rw[ha]at h;cases h
  |some e=>
   obtain⟨k,r1⟩:=e;rw[ha]at h;simp only at h;obtain⟨h1,h2⟩:=hE a (by simp) v k r1 ha;cases hs:BU E qs r1 with
   |none=>rw[hs]at h;cases h
   |some e'=>
    obtain⟨k',r2⟩:=e';rw[hs]at h;simp only[Ck,Option.some.injEq,Prod.mk.injEq]at h;obtain⟨rfl,rfl⟩:=h;obtain⟨h3,h4⟩:=ih (fun q hq=>hE q (by simp[hq])) r1 k' r2 hs;subst h1;rw[agf]at h4;refine⟨?_,by simp;omega⟩;rw[h3,List.drop_drop,afS]
theorem J0{g:Nat->Nat}{v:List It}{k0:List Bool}{qs:List Nat}{r:List It}(h:AO g f p v=some (k0,qs,r)):r=v.drop k0.length/\k0.length<=v.length:=by
 unfold AO at h;split at h
 ·cases h;simp
 ·split at h
  ·cases h;simp
  ·cases v with
   |nil=>cases h
   |cons x v=>
    simp only at h;split at h
    ·split at h
     ·cases h;simp
     ·cases h
    ·split at h
     ·cases h;simp
     ·cases h
theorem Gp(g:Nat->Nat):∀f p,N7 (CF g f p):=by
 intro f;induction f with
 |zero=>intro p v ks r h;cases h
 |succ f ih=>
  intro p v ks r h;simp only[CF]at h;cases hh:AO g f p v with
  |none=>rw[hh]at h;cases h
  |some e=>
   obtain⟨k0,qs,r0⟩:=e;rw[hh]at h;simp only at h;obtain⟨h1,h2⟩:=J0 hh;cases hs:BU (CF g f) qs r0 with
   |none=>rw[hs]at h;cases h
   |some e'=>
    obtain⟨k',r2⟩:=e';rw[hs]at h;simp only[Ck,Option.some.injEq,Prod.mk.injEq]at h;obtain⟨rfl,rfl⟩:=h;obtain⟨h3,h4⟩:=Ub qs (fun q _=>ih q) r0 k' r2 hs;subst h1;rw[agf]at h4;refine⟨?_,by simp;omega⟩;rw[h3,List.drop_drop,afS]
def Items(w:World)(V:Value)(v:List It):Prop:=∃a cap,V=.slice a v.length cap/\v.length<=cap/\(v=[]\/∃b off,a=some ⟨b,off,none⟩/\b<w.heap.size/\∀j x,v[j]?=some x->w.cell? ⟨b,off+j*2,none⟩=some (.int .i64 x.1)/\w.cell? ⟨b,off+j*2+1,none⟩=some (.string x.2))
theorem Items.below{w w':World}{V:Value}{v:List It}(h:Items w V v)(hb:Below w.heap.size w w'):Items w' V v:=by
 obtain⟨a,cap,hV,hc,h⟩:=h;refine⟨a,cap,hV,hc,?_⟩;rcases h with h|⟨b,off,ha,hl,hx⟩
 ·exact afJ h
 ·refine afM ⟨b,off,ha,afT hl hb.size,fun j x hj=>?_⟩;obtain⟨h1,h2⟩:=hx j x hj;exact⟨(hb.cell (p:=⟨b,_,none⟩) hl).trans h1,(hb.cell (p:=⟨b,_,none⟩) hl).trans h2⟩
end Go.Proofs.YtblomippkddgiabGreatDoor.V
