import Derived.Test.YtblomippkddgiaaGreatDoorJ00
import Derived.Below
import Derived.BigQuiet
import Derived.Carry
import Derived.ChangeOld
import Derived.Conc.LoneSelect
import Derived.Conc.SmallLaws
import Derived.Deep.Cut
import Derived.Deep.DeepHandedRow
import Derived.Deep.DeepWitnessRowRef
import Derived.Deep.MidRow
import Derived.Deep.QuietTactic
import Derived.Deep.RegionHeld3
import Derived.Deep.RegionLaw
import Derived.Deep.RegionWith
import Derived.Deep.SlicePairs
import Derived.Defers
import Derived.Handy
import Derived.KernelRfl
import Derived.LaidMore
import Derived.Laws.AppendOwnNone
import Derived.Laws.Closers25
import Derived.Laws.CopyOwn
import Derived.Laws.IdiomStrings
import Derived.Laws.MakeOwn
import Derived.Laws.OwnMore
import Derived.Laws.StructEq
import Derived.Lib.AppendStr
import Derived.Lib.BufferRead
import Derived.Lib.BufferWrite
import Derived.Lib.ConvBytes
import Derived.Lib.UnsafeStr
import Derived.Maps.AppendAt
import Derived.Maps.Ext
import Derived.Maps.OwnSet
import Derived.OpenShut
import Derived.ProofKit
import Derived.Recover
import Derived.ScopeJumps
import Derived.SevenTiedAt
import Derived.ShutString
import Derived.SizedLaws
import Derived.Stop.Joined
import Derived.StringKeys
import Derived.WalkKit
import Derived.WalkLawsBesides
import Derived.WalkMore
import Derived.WalkSpells
import Derived.Test.YtblomippkddgiaaGreatDoorRows
namespace Go.Proofs.YtblomippkddgiaaGreatDoor
open Go.RowKit
variable {P:Prop}
theorem tl0(h:P:=by
 cases hm:m i with
 |true=>
  rw[hm]at hcmp;go_wp2
  go_region
  go_wp2;go_roundw
  case rel=>exact⟨i+1,U,Kc,(HBT.set i true 1 rfl).to (Ar _) (λk _ _=>oN hm k),(HBL.setCell Ev _).drew⟩
  case measure=>exact Kt
 |false=>
  rw[hm]at hcmp;go_wp2
  go_region
  go_wp2;go_roundw
  case rel=>exact⟨i+1,U,Kc,HBT.to (Ar _) (λk _ _=>vT hm k),HBL.drew⟩
  case measure=>exact Kt):P:=h
theorem MN(h:P:=by
 intro w hSw;try dsimp only at hSw
 go_simp;try with_reducible rfl):P:=h
theorem tl2(h:P:=by
 have g1:(n:Int)<=cap:=U;have g2:0<=(n:Int):=U;have HS:Hid ((w.alloc (.cells #[Z n,.string ⟨#[]⟩] 106)).ownsRow w.heap.size 106 2 (EJ w.heap.size 1 1) (0+1) (tab Ik (Hm n ps 0))):=
  CW (base:=w.heap.size) (e:=106) (size:=2) w #[Z n,.string ⟨#[]⟩] 1 (Ar _) JG rfl
 have HB:Hid (DY w (w.alloc (.cells #[Z n,.string ⟨#[]⟩] 106))):=F9;clear hcs hL;go_enter func292,ntmps292;go_wp2;go_loopw [6,26] (λlv iv wr=>∃i:Nat,i<=n/\iv=Z i/\wr.ownsRow w.heap.size 106 2 lv (i+1) (tab Ik (Hm n ps i))/\DY w wr) (λ_ iv _=>n-(intOf iv).toNat)
 case atStart=>exact⟨0,AV _,rfl,HS,HB⟩
 case round=>
  obtain⟨i,hin,rfl,hrow,hbl⟩:=hrel;by_cases hlt:i<n
  ·have hsz:=hbl.size;obtain⟨s,hs⟩:∃s,ps[i]?=some s:=⟨ps[i]'(by have:=Dw HL;omega),Ah _⟩;have d0:EB wr g i (.string s):=(hbl.cell (p:=Y g i) hg).trans (HCS i s hs);have hlts:=λq=>Ba hrow q
   obtain⟨la,lc,hls⟩:=Fa hrow;subst hls;obtain⟨HRW,HBL,HLT,HSS⟩:=bE hrow hbl hlts hs;clear hrow hbl hlts hs;go_wp2_with (at_builtin;go_must (refine AQ _ rfl (.tmp 30) (.tmp 33) 44 rfl w.heap.size 106 i0 (.agg #[Z 0,.string ⟨#[]⟩]) 2 24 underlying44 hi hz0 hz1 hz2 rfl Em (.slice la (i+1) lc) (i+1) (tab Ik (Hm n ps i)) rfl (by exact HRW.alloc _) (Y _ 0) 1 1 [Z 0,.string s] rfl rfl (by exact Zw _ _) Vd JG U Fy ?_;intro v' wz hown hgrow hnil hat))
   have HRN:Hid (wz.ownsRow w.heap.size 106 2 v' (i+1+1) (tab Ik (Hm n ps (i+1)))):=by
    rw[RZ n ps i s (Dw HSS),Jn];exact hown
   have HBN:=Dx ((HBL.alloc hsz _).grown hgrow Fy (λq hq=>(HLT q hq).1));clear hown hgrow hat;go_wp2;go_roundw
   case rel=>exact⟨i+1,U,Kc,HRN,HBN⟩
   case measure=>exact Kt
  ·obtain rfl:i=n:=U;obtain⟨la,lc,hls⟩:=Fa hrow;have HI:Hid (V.Row wr w.heap.size u6 (Hm i ps i)):=by
    unfold V.Row;rw[UQ i ps i (by have:=Dw HL;omega),Qc];exact hrow
   have HBL:=Dx hbl;subst hls;clear hrow hbl;go_wp2;go_returns;exact⟨_,rfl,HI,HBL⟩):P:=h
theorem tl3(h:P:=by
 rcases hsp with hs|hs|hs|hs
 ·obtain⟨k1,k2,k3⟩:=hs;have HD:=Dx (HYES ⟨k1,k2,k3⟩);rw[k1]at s4;rw[k2]at s0;rw[k3]at hc0;clear HYES HNO k1 k2 k3;go_wp2_with fail
  go_quiet (fail);go_wp2_with (first|(go_at_call 169;refine cm (HD _ (Ed (((AA wr.heap.size _).alloc Ev _).alloc Ev _) _)) λw4 hp=>?_;have HPP:=Dx hp;clear hp))
  go_returns;exact Aj ⟨rfl,HPP⟩
 ·have HD:=Dx (HNO (λq=>hs q.1));have k1:(r.DK==2)=false:=by simpa using hs
  clear HYES HNO hs;go_wp2_with fail
  go_quiet (fail);go_wp2_with fail
  go_roundw
  case rel=>exact⟨rfl,js,HD _ (Ed (((AA wr.heap.size _).alloc Ev _).alloc Ev _) _)⟩
  case measure=>
   have hb:∀W',A js W'->Lx x W'<Lx x wr:=λW' hW'=>by
    have h2:=Dw HLN;simp only[A4]at h2;rw[HL _ _ hW',h2];omega
   exact hb _ (HD _ (Ed (((AA wr.heap.size _).alloc Ev _).alloc Ev _) _))
 ·obtain⟨k1,k2⟩:=hs;have HD:=Dx (HNO (λq=>k2 q.2.1));have k3:(r.D4==j.D4)=false:=by simpa using k2
  rw[k1]at s4;clear HYES HNO k1 k2;go_wp2_with fail
  go_quiet (fail);go_wp2_with fail
  go_roundw
  case rel=>exact⟨rfl,js,HD _ (Ed (((AA wr.heap.size _).alloc Ev _).alloc Ev _) _)⟩
  case measure=>
   have hb:∀W',A js W'->Lx x W'<Lx x wr:=λW' hW'=>by
    have h2:=Dw HLN;simp only[A4]at h2;rw[HL _ _ hW',h2];omega
   exact hb _ (HD _ (Ed (((AA wr.heap.size _).alloc Ev _).alloc Ev _) _))
 ·obtain⟨k1,k2,k3⟩:=hs;have HD:=Dx (HNO (λq=>k3 q.2.2));have k4:(DR==j.DR)=false:=by simpa using k3
  rw[k1]at s4;rw[k2]at s0;clear HYES HNO k1 k2 k3;go_wp2_with fail
  go_quiet (fail);go_wp2_with fail
  go_roundw
  case rel=>exact⟨rfl,js,HD _ (Ed (((AA wr.heap.size _).alloc Ev _).alloc Ev _) _)⟩
  case measure=>
   have hb:∀W',A js W'->Lx x W'<Lx x wr:=λW' hW'=>by
    have h2:=Dw HLN;simp only[A4]at h2;rw[HL _ _ hW',h2];omega
   exact hb _ (HD _ (Ed (((AA wr.heap.size _).alloc Ev _).alloc Ev _) _))):P:=h
theorem tl4(h:P:=by
 go_loopw [12,13] (λlv iv wr=>∃i:Nat,i<=q/\iv=Z i/\wr.ownsRow w1.heap.size 106 2 lv (i+1) (tab Ik (Hm q ps i))/\DY w1 wr) (λ_ iv _=>q-(intOf iv).toNat)
 case atStart=>exact⟨0,AV _,rfl,Dw HS,F9⟩
 case round=>
  obtain⟨i,hin,rfl,hrow,hbl⟩:=hrel;by_cases hlt:i<q
  ·have hsz:=hbl.size;have p0:0<=(i:Int):=U;have p1:(i:Int)<q:=U;obtain⟨s,hs⟩:∃s,ps[i]?=some s:=⟨ps[i]'(by have:=Dw HM;omega),Ah _⟩;have hlts:=λq=>Ba hrow q
   obtain⟨la,lc,hls⟩:=Fa hrow;subst hls;rcases(Dw HTX) with h0|⟨g,off,rfl,hcs⟩
   ·rw[h0]at hs;cases hs
   have d0:wr.cell? (Y g (off+i))=some (.string s):=(hbl.cell (p:=(Y g (off+i))) (Gv (hcs i s hs))).trans (hcs i s hs);have l3:=Gv d0;obtain⟨HRW,HBL,HLT,HSS⟩:=bE hrow hbl hlts hs;clear hrow hbl hlts hs hcs HTX HS;go_wp2_with (at_builtin;go_must (refine AQ _ rfl (.tmp 70) (.tmp 76) 44 rfl w1.heap.size 106 i0 (.agg #[Z 0,.string ⟨#[]⟩]) 2 24 underlying44 hi hz0 hz1 hz2 rfl Em (.slice la (i+1) lc) (i+1) (tab Ik (Hm q ps i)) rfl (by exact(Dw HRW).alloc _) (Y _ 0) 1 1 [Z 0,.string s] rfl rfl (by exact Zw _ _) Vd JG U Fy ?_;intro v' wz hown hgrow hnil hat))
   have hrn:wz.ownsRow w1.heap.size 106 2 v' (i+1+1) (tab Ik (Hm q ps (i+1))):=by
    rw[RZ q ps i s (Dw HSS),Jn];exact hown
   have HRN:=Dx hrn;have HBN:=Dx (((Dw HBL).alloc hsz _).grown hgrow Fy (λq hq=>((Dw HLT) q hq).1));clear hown hgrow hat hrn;go_wp2;go_roundw
   case rel=>exact⟨i+1,U,Kc,Dw HRN,Dw HBN⟩
   case measure=>exact Kt
  ·obtain rfl:i=q:=U;obtain⟨la,lc,hls⟩:=Fa hrow;have hI:V.Row wr w1.heap.size u12 (Hm i ps i):=by
    unfold V.Row;rw[UQ i ps i (by have:=Dw HM;omega),Qc];exact hrow
   obtain⟨HI,HBL⟩:=FU (gh (Dw HB) hI) ((Dw HB).trans (hbl.mono hbs));subst hls;clear hrow hbl hI;go_wp2;go_returns;exact⟨_,rfl,Dw HI,Dw HBL⟩):P:=h
theorem tl5(h:P:=by
 clear key ht hg;go_enter func239,ntmps239;go_wp2_with fail
 refine cm (H1 _) λw1 hb1=>?_
 go_wp2;go_loopw [3,10] (λiv kv wr=>∃k:Nat,k<=qs.length/\kv=Z k/\iv=Z (vI i (E6 E (qs.take k) (v.drop i)))/\DY w wr) (λ_ kv _=>qs.length-(intOf kv).toNat)
 case atStart=>exact⟨0,AV _,rfl,by simp[E6,vI],hb1⟩
 case round=>
  obtain⟨k,hk,rfl,rfl,hbr⟩:=hrel;clear hb1;by_cases hkN:k<qs.length
  ·cases hst:E6 E (qs.take k) (v.drop i) with
   |none=>
    have HFIN:=Dx (Re E hst);rw[show vI i none=-1 from rfl];clear hst;go_wp2
    go_ret
    exact⟨by rw[Dw HFIN];rfl,hbr⟩
   |some e=>
    obtain⟨ks,r⟩:=e;obtain⟨q,hq⟩:∃q,qs[k]?=some q:=⟨_,Ah hkN⟩;have hqm:q∈qs:=Ap hq;obtain⟨h1,h2⟩:=Mc (E:=E) (qs.take k) (λq' hq'=>Dw HEH q' (CB hq')) _ _ _ hst;have hstep:E6 E (qs.take (k+1)) (v.drop i)=Gu ks (E q r):=by
     rw[Bh,hq,Cm,OU,hst]
    rw[CF]at h1;rw[A9]at h2;obtain⟨j,hj⟩:∃j,j=i+ks.length:=⟨_,rfl⟩;have hjl:j<=v.length:=U;have hvi:vI i (some (ks,r))=(j:Int):=by simp only[vI];omega
    have hnew:vI i (E6 E (qs.take (k+1)) (v.drop i))=vI j (E q (v.drop j)):=by rw[hstep,X4,h1,<-hj]
    rw[hvi];obtain⟨HNEW,HQ⟩:=FU hnew hq;clear hst h1 h2 hstep hj hvi hnew hq;go_wp2_with fail
    refine cm (H2 k q _ HQ) λw2 hb2=>?_
    have hb2':=hbr.trans (hb2.mono hbr.size);go_wp2_with fail
    refine cm (H3 q j _ hqm hjl hb2') λw3 hb3=>?_
    have hb':=hb2'.trans (hb3.mono hb2'.size);rw[<-Dw HNEW];clear hb2 hb2' hb3 hbr;go_wp2;go_roundw
    case rel=>exact⟨k+1,U,Kc,rfl,hb'⟩
    case measure=>exact Kt
  ·obtain rfl:k=qs.length:=U;rw[Cw];go_wp2
   go_ret
   exact⟨rfl,hbr⟩):P:=h
theorem yd(h:P:=by
 go_wp2_with fail
 refine cm H2 λw3 h3=>?_
 have H3:=Dx h3;clear h3 e1 H2;have HNUM:=Dx OM;go_wp2_with fail
 refine cm (HNUM _ _) λw4 hw4=>?_
 rw[hw4];clear hw4 w4;go_wp2;go_returns;exact⟨rfl,H3⟩):P:=h
theorem tl7(h:P:=by
 obtain⟨H1,H2,H3,HEH,HE,HOO⟩:=hd6 HI HW HV hEh hE hO;clear HI HW HV hEh hE hO;go_enter func240,ntmps240;go_wp2_with fail
 refine cm (H1 _) λw1 hb1=>?_
 have I0:=Dx (HOO.go hb1);clear hb1;go_wp2;go_loopw [3,10] (λov kv wr=>∃(k:Nat) (k1:List Bool) (r1:List It),k<=qs.length/\kv=Z k/\JV w0 wr ov (outs++k1)/\Hid (E6 E (qs.take k) (v.drop outs.length)=some (k1,r1))) (λ_ kv _=>qs.length-(intOf kv).toNat)
 case atStart=>exact⟨0,[],_,AV _,rfl,by rw[Cb];exact Dw I0,rfl⟩
 case round=>
  obtain⟨k,k1,r1,hk,rfl,hor,hst⟩:=hrel;have HOR:=Dx hor;clear I0 hor;by_cases hkN:k<qs.length
  ·obtain⟨q,hq⟩:∃q,qs[k]?=some q:=⟨_,Ah hkN⟩;have hqm:q∈qs:=Ap hq;obtain⟨k2,r2,hE2,hst2⟩:=aj HE hq (Dw hst);obtain⟨h1,h2⟩:=Mc (E:=E) (qs.take k) (λq' hq'=>Dw HEH q' (CB hq')) _ _ _ (Dw hst);rw[CF]at h1;have HE2:Hid (E q (v.drop (outs++k1).length)=some (k2,r2)):=by rw[AJ,<-h1];exact hE2
   obtain⟨HST2,HQ⟩:=FU hst2 hq;clear h1 h2 hE2 hst2 hq hst;go_wp2_with fail
   refine cm (H2 k q _ HQ) λw2 hb2=>?_
   have hor2:=Dx (HOR.go hb2);clear hb2;go_wp2_with fail
   refine(H3 q _ _ _ _ _ hqm hor2 HE2).mono ?_;rintro e w3 ⟨O3,rfl,ho3⟩;have HO3:=Dx ho3;clear ho3;go_wp2;go_roundw
   case rel=>exact⟨k+1,k1++k2,r2,U,Kc,by rw[<-Bs];exact Dw HO3,HST2⟩
   case measure=>exact Kt
  ·obtain rfl:k=qs.length:=U;have e1:k1=ks:=by
    have h:=Dw hst;rw[Cw,Dw HE]at h;cases h;rfl
   subst e1;go_wp2
   go_ret
   exact⟨_,rfl,HOR⟩):P:=h
theorem tl9(h:P:=by
 clear key ht hg;go_enter func210,ntmps210;go_wp2_with fail
 refine cm (H1 _) λw1 hb1=>?_
 have I1:=Dx (HGO _ _ _ _ _ H0 hb1);clear hb1;go_wp2;go_loopw [2,3,11,13] (λsv ov okv kv wr=>∃(k:Nat) (S':Ab),k<=n/\kv=Z k/\sv=.string S'/\((okv=.bool true/\I k ov S' wr)\/(okv=.bool false/\A wr))) (λ_ _ _ kv _=>n-(intOf kv).toNat)
 case atStart=>exact⟨0,_,AV _,rfl,rfl,Aj ⟨rfl,I1⟩⟩
 case round=>
  obtain⟨k,S',hk,rfl,rfl,hrel⟩:=hrel;rcases hrel with ⟨rfl,hIk⟩|⟨rfl,hA⟩
  ·by_cases hlt:k<n
   ·obtain⟨q,hw58,h47⟩:=H2 k hlt;obtain⟨K58,K47,HIK⟩:=Ll hw58 h47 hIk;clear hw58 h47 hIk I1;go_wp2_with fail
    refine cm (K58 _) λw2 hb2=>?_
    have J47:=Dx (K47 _ _ _ (HGO _ _ _ _ _ HIK hb2));clear hb2;go_wp2_with fail
    refine J47.mono ?_;rintro e w3 (⟨O3,S3,rfl,hA⟩|⟨O3,S3,rfl,hI3⟩)
    ·have HA:=Dx hA;clear hA;go_wp2;go_roundw
     case rel=>exact⟨k+1,S3,U,Kc,rfl,Am ⟨rfl,HA⟩⟩
     case measure=>exact Kt
    ·have HI3:=Dx hI3;clear hI3;go_wp2;go_roundw
     case rel=>exact⟨k+1,S3,U,Kc,rfl,Aj ⟨rfl,HI3⟩⟩
     case measure=>exact Kt
   ·obtain rfl:k=n:=U;have HIK:=Dx hIk;clear hIk;go_wp2
    go_ret3
    exact Am ⟨_,_,rfl,HIK⟩
  ·have HA:=Dx hA;clear hA;by_cases hlt:k<n
   ·go_wp2
    go_ret3
    exact Aj ⟨_,_,rfl,HA⟩
   ·go_wp2
    go_ret3
    exact Aj ⟨_,_,rfl,HA⟩):P:=h
theorem afe(h:P:=by
 go_enter func294,ntmps294;go_wp2_with fail
 go_quiet (fail);go_wp2_with (first|(go_at_call 74;refine(H74 _ (HB _)).mono ?_;rintro e w1 ⟨⟨ra,rn,rc,rfl,hc1⟩,hb1⟩;have hb2:=(HB _).trans (hb1.mono Ev);have db1:EB w1 b dn (.slice (some (Y lb lo)) l.length dc):=(hb2.cell (p:=Y b dn) hl).trans db;have z1:w1.frozen? (Y b dn)=false:=(hb2.frozen (p:=Y b dn) hl).trans z;have hl1:=Gv db1;have HQ:=Dx (λR w2=>HP _ _ w1 R w2 (HB _) hb2 hc1);have HS1:=Dx (HSRC w1 (.slice ra rn rc) hb2);have HR1:=Dx (HROW w1 (.slice ra rn rc));clear hc1 hb1 hb2)|(at_builtin;go_must (refine AQ _ rfl (.tmp 35) (.tmp 36) 44 rfl w1.heap.size 106 i0 (.agg #[Z 0,.string ⟨#[]⟩]) 2 24 underlying44 hi hz0 hz1 hz2 rfl Em (EJ w1.heap.size 2 2) 2 [Z 1,.string ⟨#[]⟩,Z (l.length:Int),.string ⟨#[]⟩] rfl HR1 (Y lb lo) l.length dc (V.flat l) rfl hfl HS1 (V.Oe l) JG U Ev ?_)))
 intro v' wz hown hgrow hnil _;obtain⟨va,vn,vc,hvs⟩:=Ei hown;subst hvs;have hz:Below w1.heap.size (w1.setCell (Y b dn) (.slice ra rn rc)) wz:=((AA _ _).alloc Ev _).grown hgrow Ev (λk hk=>by cases hk;exact Ar _);have HF:=Dx (HQ (.slice va vn vc) wz (by
  have e:V.flat ((1,⟨#[]⟩) :: ((l.length:Int),⟨#[]⟩) :: l)=[Z 1,.string ⟨#[]⟩,Z (l.length:Int),.string ⟨#[]⟩]++V.flat l:=rfl;have e2:((1,⟨#[]⟩) :: ((l.length:Int),⟨#[]⟩) :: l:List V.It).length=2+l.length:=Fy;unfold V.Row;rw[e,e2];exact hown) hz)
 clear hown hgrow hnil hz;go_wp2;go_returns;exact⟨_,rfl,HF⟩):P:=h
theorem adJ(h:P:=by
 obtain⟨y,hy⟩:∃y,Ee[j]?=some y:=⟨_,Ah U⟩;obtain⟨hab,cy⟩:=HB j y hy;subst hab;have q0:0<=(j:Int):=U;have q1:(j:Int)<nb:=U;have HST:=Dx (Pf (u:=(u:Int)+1) hy);clear hy;cases hb:decide (((u:Int)+1)∈Ee.take j) with
 |true=>
  rw[hb]at HST;clear hb;go_wp2_with fail
  go_roundw
  case rel=>exact⟨j+1,U,Kc,by rw[Dw HST];rfl,BR⟩
  case measure=>exact Kt
 |false=>
  rw[hb]at HST;clear hb;obtain⟨t,ht⟩:∃t,(y==(u:Int)+1)=t:=⟨_,rfl⟩;rw[ht]at HST;go_wp2_with fail
  go_roundw
  case rel=>exact⟨j+1,U,Kc,by rw[Dw HST];rfl,BR⟩
  case measure=>exact Kt):P:=h
theorem adK(h:P:=by
 go_wp2_with fail
 refine(Dw HGG).mono ?_;rintro e w2 ⟨v2,rfl,hb2,hst⟩;have g0:w2.cell? (Y gb (r*3))=some (Z 5):=(hb2.cell (p:=(Y gb (r*3))) hgl).trans f0;have g1:w2.cell? (Y gb (r*3+1))=some (Z k):=(hb2.cell (p:=(Y gb (r*3+1))) hgl).trans f1;have g2:w2.cell? (Y gb (r*3+2))=some (Z L):=(hb2.cell (p:=(Y gb (r*3+2))) hgl).trans f2;obtain⟨HST,HB2⟩:=FU hst hb2;clear f0 f1 f2 hst hb2;go_wp2;go_roundw
 case rel=>
  have J:=Oj (Dw HI) hlt (Dw HS) (Dw HB2) (Dw HST) ((AA _ _).alloc (Ar _) (.cells #[Z 5,Z k,Z L] 293));rw[Dw HND]at J;exact⟨p+1,_,_,Kc,rfl,J⟩
 case measure=>exact Kt):P:=h
theorem aff(h:P:=by
 have hOl:=hR.lt;obtain⟨ka,kn,kc,hk⟩:=Ei hBk.row;subst hk;have hkn:kn=L.length:=by
  rcases hBk.row.2 with ⟨hv,h0⟩|⟨g,cap,cur,hv,_⟩
  ·cases hv;omega
  ·cases hv;rfl
 subst hkn;obtain⟨oa,on,oc,ho⟩:=Ei hR;subst ho;have hon:on=v.length:=by
  rcases hR.2 with ⟨hv,h0⟩|⟨g,cap,cur,hv,_⟩
  ·cases hv;omega
  ·cases hv;rfl
 have hO2:∀j,(Value.slice oa on oc).ownBlock=some j->(j<w.heap.size/\w0.heap.size<=j)/\j≠b/\(Value.slice ka L.length kc).ownBlock≠some j/\∀k∈L,∀t∈k.lists,t.1.ownBlock≠some j:=λj hj=>by
  grind [OY]
 have hb1:DY w (w.alloc (.cells #[Z (-1000-(L.length:Int)),.string Xq] 106)):=F9;refine cZ w0 w b w0.heap.size L lv ka oa kc on oc (-1000-(L.length:Int),Xq) rfl hL U hBk hb0 hb0.size (λj hj=>(hOl j hj).1) hO2 ⟨Ev,?_,λk hk _=>hb1.block k hk,hb0.trans (hb1.mono hb0.size),?_⟩
 ·show ((w.heap.push _)[w.heap.size]?)=_;rw[Bz]
 ·rcases hR.2 with ⟨hv,h0⟩|⟨g,cap,cur,hv,hbg,hg,hc,hcm,hcs,_⟩
  ·exact Aj ⟨hv,U⟩
  ·refine Am ⟨g,cap,?_,Dv hg,U,⟨cur,?_,hcs,λj y _ hy=>by simp at hy⟩,U,hcm⟩
   ·rw[hv,hon]
   ·rw[hb1.block g (Dv hg)];exact hg):P:=h
theorem adL(h:P:=by
 clear hno;go_enter func80,ntmps80;go_wp2_with (go_at_call 79;refine cm HL λw1 hw1=>?_;obtain⟨b1,b4⟩:=Xc hw1;obtain⟨f0,f1,f2,f3,f4,f5,f6,fz,_⟩:=PD b1 (DF.refl _ w1);have hl1:=Dv b1;have HX:=Dx b1;have HB:=Dx b4;clear hw1 b4 b1)
 refine EE _ (SQ HX (Z 0) (Z 0) (Z 0) (Z 0) (Z 0) (.slice none 0 0) (.slice none 0 0)) ?_;rintro W ⟨g0,g1,g2,g3,g4,g5,g6,gz,gk⟩;have HK:=Dx gk;clear gk;go_wp2
 (try simp only[Exit.inBlock,Exit.then])
 refine Bm (by simp[results,results80,go_sem,g0,g1,g2,g3,g4,g5,g6];try rfl) rfl ?_;exact⟨rfl,QL HB (Dw HK)⟩):P:=h
theorem afg(h:P:=by
 go_wp2_with (first|(go_at_call 253;refine cs (C253 _ F9) ?_)|(go_at_call 254;refine cs (C254 _ F9) ?_)|(go_at_call 220;refine cs (C220 _) ?_)|(go_at_call 255;refine cm (D _ F9) λw4 hp=>?_;have HPP:=Dx hp;clear hp)|(go_at_call 256;refine cm (D _ F9) λw4 hp=>?_;have HPP:=Dx hp;clear hp)|(go_at_call 222;refine cm (D _ ((AA _ _).alloc Ev _)) λw4 hp=>?_;have HPP:=Dx hp;clear hp))
 first
 |(go_returns;first|exact⟨rfl,HPP⟩|exact⟨rfl,D _ F9⟩)
 |(go_region_held3 (λw'=>w'.cell? (Y x 11)=some (EJ sn 9 9)/\w'.cell? (Y bq 4)=some (Z sq)/\w'.cell? (Y bq 5)=some (Z ud)) (go_keep) (fail)
   clear b0 b1 b2 b3 b4 b5 b6 b7 b8 b9;refine EE (λW'=>Below W.heap.size (Ie W sn i (Oo ⟨kd,(ci:Int),lf,(li:Int),sq,ud,0,off,pl,bd⟩)) W'/\W'.heap[bq]?=some (.cells (Je ⟨kd,(ci:Int),lf,(li:Int),sq,ud,0,off,pl,bd⟩) 41 (0,0))) (gZ _ HBX m2) ?_;rintro W5 ⟨hb5,hx5⟩;obtain⟨b0,b1,b2,b3,b4,b5,b6,b7,b8,b9⟩:=Yy hx5;have hl5:=Dv hx5;have HB5:=Dx hb5;clear hb5 hx5;go_wp2_with (first|(go_at_call 255;refine cm (D _ HB5) λw4 hp=>?_;have HPP:=Dx hp;clear hp))
   go_returns;exact⟨rfl,HPP⟩)):P:=h
theorem adM(h:P:=by
 have hlt:¬((n:Int)<=i):=U;have HMM:=Dx HM;clear HM;go_enter func259,ntmps259;go_wp2_with fail
 refine cm (HMM _) λw1 hb1=>?_
 have g0:Kk w1 w 0 (Z N):=(hb1.cell (p:=EN w 0) Ev).trans Vb;have g1:Kk w1 w 1 (.string S):=(hb1.cell (p:=EN w 1) Ev).trans Vb;have hb:DY w w1:=F9.trans (hb1.mono Ev);have hsz:w.heap.size<w1.heap.size:=by have:=hb1.size;simp at this;omega
 clear f0 f1 hb1;go_wp2
 go_ret
 exact⟨rfl,hb⟩):P:=h
theorem aaA(h:P:=by
 refine afX rfl (.tmp 4) rfl w.heap.size 0 rfl t HX.t ?_;refine xS rfl (.tmp 5) rfl (w.heap.size+1) 0 rfl o HX.o ?_;simp only[Act.put,Al,Av,Ax];go_wp2_with fail
 refine cm H1 λw2 h2=>?_
 have H2:=Dx h2;clear h2;go_wp2;go_returns;exact⟨rfl,H2⟩):P:=h
theorem xg(h:P:=by
 go_wp2_with fail
 refine cm H1 ?_;rintro w1 ⟨L',hws,hwk⟩;have hb:=hws.DG;have hbz:=hb.size;clear hws hwk;go_wp2_with fail
 refine cm (HN _) λw2 hb2=>?_
 go_wp2;exact⟨rfl,rfl,(hb.alloc U _).trans (hb2.mono Fy)⟩):P:=h
theorem afh(h:P:=by
 go_wp2_with (at_builtin;go_must (refine AQ _ rfl (.tmp 119) (.tmp 122) 44 rfl w0.heap.size 106 j0 _ 2 24 underlying44 hj0 hz0 hz1 hz2 rfl Em _ v.length (flat v) rfl (by exact how.alloc _) (EN w1 0) 1 1 [Z ((n:Int)),.string ⟨#[]⟩] rfl rfl (by exact Jd w1 ((n:Int),⟨#[]⟩)) (by exact KF ((n:Int),⟨#[]⟩)) JG U (by have:=HI1.DG.size;simp;omega) ?_))
 intro O1 w2 hown hgrow _ _;obtain⟨ta,tn,tc,hts⟩:=Ei hown;subst hts;have HI2:=Dx (Qg (x:=((n:Int),⟨#[]⟩)) HI1 HL hown hgrow);clear hown hgrow how;go_wp2;go_loopw [2,3,11,17] (λsv ov okv kv wr=>sv=.string R/\ov=.slice ta tn tc/\okv=.bool true/\kv=Z 0/\wr=w2) (λ_ _ _ _ _=>0)
 case atStart=>exact⟨rfl,rfl,rfl,rfl,rfl⟩
 case round=>
  obtain⟨rfl,rfl,rfl,rfl,rfl⟩:=hrel;go_wp2
  go_ret3
  exact⟨_,rfl,HI2⟩):P:=h
theorem agq(h:P:=by
 go_wp2
 go_ret3
 refine⟨rfl,?_⟩;repeat (first|exact AA _ _|refine Below.drew ?_|refine Below.alloc ?_ sto _)):P:=h
theorem xh(h:P:=by
 go_wp2_with fail
 refine cm HH ?_;rintro w1 ⟨hrs,_⟩;have hb:=hrs.DG;have HR:=Dx (JR w0.heap.size l O w1 hrs.rd);clear hrs;go_wp2_with fail
 refine cs HR ?_;go_wp2;exact⟨rfl,rfl,hb⟩):P:=h
theorem afk(h:P:=by
 ·obtain⟨ci,ni,q,hci,hni,h3,h3',hcell,hcall⟩:=HC j js w2 hC2;have hbox:w2.heap[w1.heap.size]?=some (ac7 j):=by
   rw[hb2.block _ Ev];exact AF w1 _
  have g0:Kk w2 w1 0 (Z ci):=by rw[<-hci];exact EI hbox 0
  have g2:Kk w2 w1 2 (Z ni):=by rw[<-hni];exact EI hbox 2
  have HD:=Dx hcall;have q1:0<=(ci:Int):=U;have q2:(ci:Int)<3:=U;have q3:0<=(ni:Int):=U;have q4:(ni:Int)<3:=U;clear hcall hC2 hb2 hbox hci hni;go_wp2_with fail
  go_region_law (refine FG rfl 83 #[.tmp 16,.tmp 27] #[81,143] rfl af9 #[ptr s,ptr q] rfl _ HD ?_;rintro e w3 ⟨rfl,hw3⟩;refine⟨_,rfl,?_⟩)
  all_goals
   go_wp2;refine Qi ?_;go_wp2;go_returns;exact Am ⟨rfl,hw3⟩):P:=h
theorem aaB(h:P:=by
 obtain⟨hm1,hm2⟩:=hm;have HNN:=Dx HN;clear HN;go_enter func125,ntmps125;go_wp2_with fail
 refine HNN.mono ?_;rintro e w1 (⟨rfl,hA⟩|⟨i,rfl,hB⟩)
 ·go_wp2;exact⟨rfl,Aj ⟨rfl,hA⟩⟩
 ·go_wp2
  go_end0
  exact Am ⟨rfl,i,hB⟩):P:=h
theorem pg(h:P:=by
 go_enter func159,ntmps159;go_wp2_with (first|(go_at_call 215;refine cs (H212 _) ?_)|(go_at_call 216;refine cs H213 ?_))
 go_returns;exact⟨rfl,rfl⟩):P:=h
theorem po(h:P:=by
 go_enter func82,ntmps82;go_wp2_with fail
 go_quiet (fail);go_wp2_with fail
 go_quiet (fail);go_wp2;go_returns;exact⟨rfl,Ed (HB _ _) _⟩):P:=h
theorem afl(h:P:=by
 go_wp2_with (at_builtin;refine AQ _ rfl (.tmp 37) (.tmp 40) 44 rfl (w0.heap.size+1) 106 i0 _ 2 24 underlying44 hi0 hz0 hz1 hz2 rfl Em _ v.length (flat v) rfl (by exact how.alloc _) (EN w1 0) 1 1 [Z n,.string ⟨#[]⟩] rfl rfl (by exact Jd w1 ((n:Int),⟨#[]⟩)) (by exact KF ((n:Int),⟨#[]⟩)) JG U Fy ?_)
 intro O1 w2 hown hgrow _ hat;obtain⟨ta,tn,tc,hts⟩:=Ei hown;subst hts;obtain⟨hrd,hrs2,hwk2⟩:=Tc (x:=((n:Int),⟨#[]⟩)) HRS hown hgrow (by simpa using hat);have k1:=hrd.Gz;have k2:=hrd.thaw 2;obtain⟨HR2,HK2⟩:=FU hrs2 (HWK.trans hwk2);clear hown hgrow hat hrd hrs2 hwk2 how hO;go_wp2
 go_ret
 exact⟨rfl,_,HR2,HK2⟩):P:=h
theorem afm(h:P:=by
 go_wp2_with fail
 refine(Dw HGG).mono ?_;rintro e w2 ⟨v2,rfl,hb2,hst⟩;have g0:w2.cell? (Y gb (r*3))=some (Z 1):=(hb2.cell (p:=(Y gb (r*3))) hgl).trans f0;have g1:w2.cell? (Y gb (r*3+1))=some (Z k):=(hb2.cell (p:=(Y gb (r*3+1))) hgl).trans f1;have g2:w2.cell? (Y gb (r*3+2))=some (Z L):=(hb2.cell (p:=(Y gb (r*3+2))) hgl).trans f2;obtain⟨HST,HB2⟩:=FU hst hb2;clear f0 f1 f2 hst hb2;go_wp2;go_roundw
 case rel=>
  have J:=Oj (Dw HI) hlt (Dw HS) (Dw HB2) (Dw HST) ((AA _ _).alloc (Ar _) (.cells #[Z 1,Z k,Z L] 293));rw[Dw HND]at J;exact⟨p+1,_,_,Kc,rfl,J⟩
 case measure=>exact Kt):P:=h
theorem xm(h:P:=by
 unfold Ge;rw[hx];go_enter func238,ntmps238;go_wp2
 go_ret2
 refine⟨_,rfl,F9.alloc Ev _,?_⟩;exact XV _ _ Ev U rfl (by simp[GV,wc]) Ev):P:=h
theorem aaC(h:P:=by
 obtain⟨hl,h⟩:=h;refine⟨hl,?_⟩;rcases h with h|⟨g,cap,cur,hv,hg,hh,r⟩
 ·exact Aj h
 ·refine Am ⟨g,cap,cur,hv,hg,?_,r⟩;rw[hb.block g (Dv hh)];exact hh):P:=h
theorem afn(h:P:=by
 clear HN HG hold;go_enter func142,ntmps142;go_wp2_with fail
 go_quiet (fail);go_wp2_with fail
 refine EE _ (HF _) ?_;intro W hW;obtain⟨d5,d6,d7⟩:=HC W hW;have hd:=HD W hW;obtain⟨⟨f0,f1,f2,f3,f4⟩,f5,f6,f7,f8,f9⟩:=hd;have HB1:=Dx hW.1.drew;clear hW HF HC HD;go_region_held3 (λw'=>w'.cell? (Y lb (k*10+5))=some (.string S)/\w'.cell? (Y lb (k*10+7))=some (.string C)) (go_keep) (first|(go_at_call 187;refine cs (H1 _) ?_)|(go_at_call 187;refine cs (H2 _) ?_))
 go_wp2;go_returns;exact⟨rfl,HQ _ (Dw HB1)⟩):P:=h
theorem pu(h:P:=by
 go_enter func155,ntmps155;go_wp2
 go_ret3
 exact⟨rfl,rfl⟩):P:=h
theorem xo(h:P:=by
 go_wp2_with fail
 go_quiet (fail);go_wp2_with fail
 go_quiet (fail);go_wp2;go_returns;exact⟨rfl,Ed (Ed (HB _) _) _⟩):P:=h
theorem aaD(h:P:=by
 go_wp2;go_returns;exact⟨rfl,HQ _ (by first|exact HB _|exact Ed (HB _) _|exact(HB _).drew|exact(HB _).drew.drew|exact Ed (Ed (HB _) _) _)⟩):P:=h
theorem pz(h:P:=by
 go_enter func224,ntmps224;go_wp2_with (first|(go_at_call 65;refine cs H ?_))
 go_ret
 exact⟨rfl,rfl⟩):P:=h
theorem afo(h:P:=by
 have hw:Region.wanted o (yielded ops a.tmps)=true:=by simp[Region.wanted,hgd]
 rw[Ay hw];have hv:xs.map a.eval=vs:=by
  apply Array.ext';simpa using hv0
 clear hv0;subst hv;unfold Oper.wp;simp only[execOp,ho,resolve,invoke,Sem.run_bind];generalize Array.map a.eval xs=vs at hC ⊢;have hC2:ET f vs w (λe w'=>∃v,e=.returned v/\K (a.put o.dst v) w'):=hC.mono hR;clear hC hR;simp[Deferred.ofValue,Act.eval,hcf,go_sem];refine hC2.mono ?_;rintro e w' ⟨v,rfl,hk⟩;exact hk):P:=h
theorem pA(h:P:=by
 go_enter func57,ntmps57;go_wp2_with (first|(go_at_call 104;go_in))
 go_returns;exact⟨rfl,F9⟩):P:=h
theorem afp(h:P:=by
 go_enter func294,ntmps294;go_wp2_with fail
 go_quiet (fail);go_wp2_with (first|(go_at_call 74;refine(H74 _ (HB _)).mono ?_;rintro e w1 ⟨⟨ra,rn,rc,rfl,hc1⟩,hb1⟩;have hb2:=(HB _).trans (hb1.mono Ev);have db1:EB w1 b dn (.slice da 0 dc):=(hb2.cell (p:=Y b dn) hl).trans db;have z1:w1.frozen? (Y b dn)=false:=(hb2.frozen (p:=Y b dn) hl).trans z;have hl1:=Gv db1;have HQ:=Dx (HP _ _ w1 (HB _) hb2 hc1);clear hc1 hb1 hb2))
 go_returns;exact⟨_,rfl,HQ⟩):P:=h
theorem aaE(h:P:=by
 go_wp2_with fail
 refine cm HN ?_;rintro w1 ⟨hk,ha⟩;go_wp2_with fail
 refine cm (pU b p s _ ha) λw2 hk2=>?_
 go_wp2;exact⟨rfl,rfl,hk.trans hk2⟩):P:=h
theorem aaF(h:P:=by
 go_enter func106,ntmps106;go_wp2_with (first|(go_at_call 181;refine cs (H68 _) ?_)|(go_at_call 124;refine cs (H32 _) ?_))
 go_returns;exact⟨rfl,rfl⟩):P:=h
theorem afq(h:P:=by
 go_enter func85,ntmps85;go_wp2_with fail
 go_quiet (fail);go_wp2_with fail
 go_quiet (fail);go_wp2_with fail
 go_region
 go_wp2_with fail
 go_region
 refine EE _ (HBF _) ?_;intro V hV;have hw2:=HW V hV;obtain⟨⟨g0,g1,g2,g3,g4,g5,g6,g7,g8,g9⟩,f1,f2⟩:=hw2;have HB:=Dx f2;clear hV f2 HW HBF;go_wp2_with fail
 go_quiet (fail);go_wp2_with (first|(go_at_call 139;refine cm (HQ _ (HB _)) λw3 hw3=>?_))
 go_returns;exact⟨rfl,hw3⟩):P:=h
theorem afr(h:P:=by
 clear hlast e1;cases Ga;all_goals
  go_enter func112,ntmps112;go_wp2_with fail
  rw[Dw HLX];go_region_held3 (λw'=>w'.cell? (EN w 5)=some (.string SM)/\w'.cell? (EN w 6)=some (Z a)) (go_keep) ((go_at_call 187;refine cs (HP _) ?_))
  go_wp2_with (first|(go_at_call 189;refine cs (HC _) ?_)|(go_at_call 188;refine cm (HS _ HB.drew) λw3 hw3=>?_))
  go_returns;exact⟨rfl,hw3⟩):P:=h
theorem aaG(h:P:=by
 simp only[World.cell?]at h19;cases hs:w.heap[s]? with
 |none=>simp[hs]at h19
 |some o=>exact(AB.1 hs).1):P:=h
theorem adN(h:P:=by
 rcases J2 ho with (h|h|h|h)|⟨h,_⟩|⟨h,h1,h2,h3,h4⟩|⟨h,_⟩|h
 ·omega
 ·omega
 ·omega
 ·omega
 ·omega
 ·exact⟨h1,h2,h3,h4⟩
 ·omega
 ·have:=h.here;omega):P:=h
theorem pB(h:P:=by
 rintro w' ⟨F',q1,q2⟩;exact⟨rfl,F',q1,(D8.D6 F hb).trans q2⟩):P:=h
theorem afs(h:P:=by
 go_wp2;go_region_law (refine FG rfl 184 #[.tmp 53] #[9] rfl af8 #[.string SN] rfl _ (H71 _) ?_;rintro e w2 ⟨rfl,hb⟩;have f0:EB w2 s 5 (.map (some nm)):=(hb.cell (p:=Y s 5) hl1).trans d0;have hput:=HPUT w1 w2 HA1 (Mg hb);obtain⟨w3,hrun,hC⟩:=hput;have HC:=Dx hC;clear hC hb;refine⟨_,rfl,?_⟩)
 all_goals
  go_wp2;go_returns;exact⟨rfl,HC⟩):P:=h
theorem adO(h:P:=by
 rw[Dw HND]at J;exact⟨p+1,_,_,Kc,rfl,J⟩):P:=h
theorem aft(h:P:=by
 go_enter func138,ntmps138;go_wp2_with fail
 go_quiet (fail);go_wp2_with fail
 refine EE _ (HF _) ?_;intro W hW;obtain⟨d7,d8,y8,⟨g0,g1,g2,g3,g4,g5,g6,g7,g8,g9⟩,hlW,_⟩:=HC W hW;have HBW:=Dx hW.1;clear hW HF HC HT;go_quiet (first|(go_at_call 187;refine Calls.quiet_of_same (H187 _)));all_goals
  go_wp2;go_returns;exact⟨rfl,HQ1 _ (Ed HBW _)⟩):P:=h
theorem afu(h:P:=by
 have hw:Region.wanted o (yielded ops a.tmps)=true:=by simp[Region.wanted,hgd]
 rw[Ay hw];obtain⟨v',w',hr,h2,h3,_,h4⟩:=run_append_own_at (P:=P) w base t o.type e i z size bytes ht hi hz hsize hby hzs hsz v n xs hown ad m c news hl hnews h1 h63 hbytes hbase;unfold Oper.wp;simp[execOp,ho,resolve,invoke,builtin,hs,hx,hr,Result.andThen];exact h v' w' h2 h3 h4):P:=h
theorem iC(h:P:=by
 go_enter func179,ntmps179;go_wp2;go_returns;exact⟨rfl,rfl⟩):P:=h
theorem afv(h:P:=by
 rcases h.2 with ⟨hv,h0⟩|⟨g,cap,cur,hv,_⟩
 ·have:out=[]:=BA h0;subst this;rw[hv];exact Lib.run_convert_nil_bytes w 199 9 5 0 underlying199 EL underlying9
 ·rw[hv];refine C5 w 199 9 5 (Y g 0) cap out underlying199 EL underlying9 λj hj=>?_
  refine hcl g (by rw[hv];rfl) j _ ?_;unfold Ku
  grind):P:=h
theorem iE(h:P:=by
 rintro e w' ⟨rfl,rfl⟩;exact⟨rfl,F,h,D8.refl F w'⟩):P:=h
theorem xq(h:P:=by
 go_wp2_with fail
 go_roundw
 case rel=>exact⟨k+1,U,Kc,HE⟩
 case measure=>exact Kt):P:=h
theorem adP(h:P:=by
 go_enter func226,ntmps226;go_wp2_with fail
 go_quiet (fail);go_wp2_with fail
 go_quiet (fail);go_wp2_with fail
 go_returns;exact⟨rfl,Ed (LG w (Ar _) _ _) _⟩):P:=h
theorem afw(h:P:=by
 have hcp:=UG w l M hMs;have hus:=UH w l M h0 hl;have HB:=Dx (Tv w M (Ku l).toArray l.length);have hne:((l.length:Int)==0)=false:=Fy;generalize hY:(Ku l).toArray=Yq at *;generalize hS:str l=S at *;clear hM hY h0 hS;generalize l.length=n at *;subst hsz;go_enter func229,ntmps229;go_wp2
 go_ret
 exact⟨rfl,HB⟩):P:=h
theorem afx(h:P:=by
 have H:=Dx (Uj w s m _ cap ((u:Int)+1) h6);rw[show decide (1<=(u:Int)+1/\(u:Int)+1<=(m:Int))=true by simp;omega]at H;have HV:=Dx (Nc w s g u m cap h6 hu hm);go_enter func233,ntmps233;go_wp2_with (first|(go_at_call 131;refine cs H ?_)|(go_at_call 132;refine cs HV ?_))
 go_returns;exact⟨rfl,rfl⟩):P:=h
theorem afy(h:P:=by
 clear hc
 go_enter_defers func31,ntmps31
 go_wp2_with (first|(go_at_call 38;go_in))
 refine leaves_cons (f:=63) (args:=#[.pointer (some (EN w 0)),.pointer (some ⟨w.heap.size+1,0,none⟩)]) Ev Vb ?_;refine(Pw _ _ _).mono ?_;rintro e u' w'' ⟨rfl,rfl,rfl⟩;simp[Leaves,settle,results,results31,go_sem];exact Dw HB):P:=h
theorem afz(h:P:=by
 rcases J2 ho with (h|h|h|h)|⟨h,h1,h2,h3⟩|⟨h,_⟩|⟨h,h1,h2,h3,_⟩|h
 ·exact zB s f p w hp h
 ·exact zC s f p w hp h
 ·exact tK s f p w hp h
 ·omega
 ·exact tJ s f p w h1 hs h U
 ·omega
 ·exact tL s f p w h1 hs h h2
 ·exact adi s f p w h hs (by have:=h.here;omega)):P:=h
theorem afA(h:P:=by
 have n1:(BitVec.ofInt 64 ((a*256:Nat):Int)).toNat=a*256:=by
  rw[BitVec.ofInt_natCast,Dq];omega
 have n2:(BitVec.ofInt 64 (c:Int)).toNat=c:=by grind
 show IntKind.i64.wrap ((BitVec.ofInt 64 ((a*256:Nat):Int) ||| BitVec.ofInt 64 (c:Int)).toNat:Int)=_
 grind [BitVec.toNat_or,IntKind.wrap_i64]):P:=h
theorem adQ(h:P:=by
 go_enter func255,ntmps255;go_wp2_with (first|(go_at_call 256;refine cm (HG _ F9) λw3 hp=>?_;have HPP:=Dx hp;clear hp))
 go_returns;exact⟨rfl,HPP⟩):P:=h
theorem afB(h:P:=by
 go_enter func292,ntmps292;go_wp2;go_loopw [6,26] (λlv iv wr=>lv=EJ w.heap.size 1 1/\iv=Z 0/\wr=w.alloc (.cells #[Z 0,.string ⟨#[]⟩] 106)) (λ_ _ _=>0)
 case atStart=>exact⟨rfl,rfl,rfl⟩
 case round=>
  obtain⟨rfl,rfl,rfl⟩:=hrel;go_wp2;go_returns;exact⟨_,rfl,HI,HB⟩):P:=h
theorem aaH(h:P:=by
 rintro e' w' ⟨rfl,hS⟩;exact⟨rfl,by simp only[KP,e];exact fin (Nk w t o hW1) hS U U⟩):P:=h
theorem xt(h:P:=by
 go_enter func238,ntmps238;go_wp2
 go_ret2
 exact⟨_,rfl,F9,aaq _ _⟩):P:=h
theorem afC(h:P:=by
 go_enter func139,ntmps139;go_wp2_with fail
 go_quiet (fail);go_wp2_with (first|(go_at_call 199;refine cm (HQ _ (by first|exact HB _|exact Ed (HB _) _|exact(HB _).drew|exact(HB _).drew.drew|exact Ed (Ed (HB _) _) _)) λw3 hw3=>?_))
 go_returns;exact⟨rfl,hw3⟩):P:=h
theorem afD(h:P:=by
 go_region
 all_goals
  refine EE _ (HMB w1 HW1) ?_;intro V hV;have hn:=HN _ V hV;obtain⟨⟨y0,y1,y2,y3,y4,y5,y6,y7,y8,y9⟩,hc⟩:=hn;have HQ:=Dx hc;clear hV hc;go_wp2_with (first|(go_at_call 236;refine cm HQ λw3 hw3=>?_))
  go_returns;exact⟨rfl,hw3⟩):P:=h
theorem afE(h:P:=by
 have h1:W.heap[s]?=some (.cells cs_.toArray 167 (0,0)):=by rw[hW.1.block s hl];exact h
 have hold':cs_[10+ci*3+ni]?=some (.pointer old):=by rw[<-hold];congr 1;omega
 exact⟨VF hW.2,E7 h1 hold',Eb h1,Dv h1,(AB.1 hW.2).1⟩):P:=h
theorem adR(h:P:=by
 generalize l.length=m at *;subst hsz;have hlt:¬((S.size:Int)<(n:Int)):=U;go_enter func190,ntmps190;go_wp2
 go_ret
 exact⟨rfl,rfl⟩):P:=h
theorem afF(h:P:=by
 have HTT:=Dx hT;clear hT hIk;go_wp2_with fail
 refine HTT.mono ?_;rintro e w2 (⟨rfl,hA⟩|⟨rfl,hB⟩)
 ·go_wp2;exact⟨rfl,Aj ⟨rfl,hA⟩⟩
 ·have HB:=Dx hB;clear hB f0 f1 f2;go_wp2;go_roundw
  case rel=>exact⟨k+1,U,Kc,HB⟩
  case measure=>exact Kt):P:=h
theorem adS(h:P:=by
 refine⟨?_,(HOO.DG.alloc U _).grown hgrow Fy (λk hk=>(how.lt k hk).1)⟩;rw[AJ,C8,Dw HM];exact hown):P:=h
theorem aaI(h:P:=by
 go_wp2_with fail
 go_roundw
 case rel=>exact⟨j+1,U,Kc,HE⟩
 case measure=>exact Kt):P:=h
theorem afG(h:P:=by
 go_wp2;go_quiet (fail);go_wp2;go_roundw
 case rel=>
  exact⟨rfl,i+1,U,Kc,(HL1.DG (Ed ((AA w1.heap.size w1).alloc (Ar _) _) _)).from _ _,(((Y9 (HBT.alloc _) _).setCell (Aj rfl) _).setCell (Aj rfl) _)⟩
 case measure=>exact Kt):P:=h
theorem afH(h:P:=by
 rcases k1 with rfl|rfl;all_goals
  go_enter func213,ntmps213;go_wp2
  go_ret
  refine⟨?_,HB⟩;refine CG (λx=>Ending.returned (.bool x)) ?_;rw[<-HR.out,BH];have:=HS.out;clear HB HR HS;simp[EC,Ju]
  (try split)<;>omega):P:=h
theorem adT(h:P:=by
 have hby:=G0 hp hc;have hlt:¬((n:Int)<=i):=U;go_enter func259,ntmps259;go_wp2
 go_ret
 exact⟨rfl,F9⟩):P:=h
theorem afI(h:P:=by
 simp only[Act.put,Al,Av,Ax];go_wp2_with fail
 refine cm HP λw3 h3=>?_
 have H3:=Dx h3;clear h3 HP;go_wp2_with fail
 go_roundw
 case rel=>exact⟨rfl,i+1,U,Kc,H3⟩
 case measure=>exact Kt):P:=h
theorem aaJ(h:P:=by
 go_wp2_with fail
 go_quiet (fail);go_wp2;go_returns;exact⟨rfl,Ed (HB _) _⟩):P:=h
theorem xu(h:P:=by
 go_enter func171,ntmps171;go_wp2;go_returns;exact⟨rfl,F9⟩):P:=h
theorem aaK(h:P:=by
 go_wp2;go_roundw
 case rel=>exact⟨k+1,U,Kc,HI⟩
 case measure=>exact Kt):P:=h
theorem afJ(h:P:=by
 rcases ha with ha|ha
 ·exact⟨2,1,Aj ⟨rfl,rfl⟩,by rw[IU];simp[EX,ha,FI],by simp[ty,ha,FI]⟩
 ·exact⟨3,0,Am ⟨rfl,rfl⟩,by rw[IU];simp[EX,ha,FI],by simp[ty,ha,FI]⟩):P:=h
theorem aaL(h:P:=by
 unfold R.Gf at hnm;simp only[Dk,Db]at hnm;omega):P:=h
theorem adU(h:P:=by
 refine cs (Nx Dz w) ?_;refine⟨?_,rfl⟩;have:(Dz==0 || Dz==1 || Dz==2)=true:=Fy;rw[this]):P:=h
theorem adV(h:P:=by
 refine wpS_of_wp ?_;go_wp2;exact⟨rfl,.returning,by cases c₀;simp_all,_,results_none rfl _ _ _,rfl,rfl,rfl⟩):P:=h
theorem afK(h:P:=by
 grind [Tw,V.Kp,Hn,Ii,D8,Tw.Fw,List.mem_of_getElem?,Option.some.inj,List.mem_iff_getElem?,V.NZ.E0,V.Wr.out,V.Wk.kept,List.length_set,xI,V.WS.row,DF.row,V.RS.row,Bd.le,Nat.le_trans,Hn.free]):P:=h
theorem aaM(h:P:=by
 go_roundw
 case rel=>exact⟨k+1,U,Kc,hw3⟩
 case measure=>exact Kt):P:=h
theorem afL(h:P:=by
 go_enter func85,ntmps85;go_wp2_with fail
 go_quiet (fail);go_wp2_with fail
 go_quiet (fail);go_wp2_with fail
 go_quiet (fail);go_wp2_with (first|(go_at_call 139;refine cm (HQ _ (HB _ _)) λw3 hw3=>?_))
 go_returns;exact⟨rfl,hw3⟩):P:=h
theorem aaN(h:P:=by
 go_roundw
 case rel=>exact⟨i+1,U,Kc,HE⟩
 case measure=>exact Kt):P:=h
theorem afM(h:P:=by
 go_region_held3 (λw'=>w'.cell? (Y n 0)=some (EJ g m c)/\w'.cell? (Y g (i*3))=some (Z v0)/\w'.cell? (Y g (i*3+1))=some (.string v1)) (go_keep) (fail)
 go_wp2;go_returns;exact⟨rfl,(AA _ _).drew⟩):P:=h
theorem afN(h:P:=by
 ·rw[<-ha.D5];refine⟨hal,λe he hek=>?_⟩;obtain⟨n,s,a1,a2,a3⟩:=Yi hal;rw[a1,SV a2]at he;have hf:=h.jE n s e a2 a3 he
  grind [Oc,JD,Key.mk.injEq,Vy,Vu]):P:=h
theorem afO(h:P:=by
 rw[hkey]at hd;obtain⟨d',q1,_,q3⟩:=hI.pX hat h1;rw[hd]at q1;cases q1;rcases hk with ⟨q,_⟩|⟨q,_,q2⟩|⟨q,_⟩|⟨q,_⟩|⟨q,_⟩|⟨q,_⟩|⟨q,_⟩
 ·omega
 ·rw[q2,q3]
 all_goals omega):P:=h
theorem aaO(h:P:=by
 rintro e w' ⟨rfl,hb⟩;exact⟨rfl,F,h.DG hb,D8.D6 F hb⟩):P:=h
theorem xw(h:P:=by
 simp only[World.setCell,Cv,h];simp):P:=h
theorem adW(h:P:=by
 rw[e1,e2];have hb:=G0 hp hc;go_enter func243,ntmps243;go_wp2
 go_ret2
 exact⟨rfl,AA _ _⟩):P:=h
theorem afP(h:P:=by
 clear hk;go_enter func39,ntmps39;go_wp2_with (first|(go_at_call 73;go_in))
 exact Bm (v:=.tuple #[.agg #[Z 0,Z 0,.slice none 0 0],Z 14]) (by simp[results,results39,go_sem]) rfl ⟨rfl,HB⟩):P:=h
theorem afQ(h:P:=by
 clear hc;go_enter func16,ntmps16;go_wp2_with (first|(go_at_call 38;go_in))
 exact Bm (v:=.tuple #[.agg #[Z 0,Z 0,.slice none 0 0],Z 13]) (by simp[results,results16,go_sem]) rfl ⟨rfl,HB⟩):P:=h
theorem afR(h:P:=by
 have h:=run_make (P:=prog) W 199 5 i0 (.int .u8 0) underlying199 hi hz0 .i64 .i64 (l.length:Int) (l.length:Int) U (BK _) (by rw[hz2];omega) U;rw[hz1,AY,<-hM]at h;exact h):P:=h
theorem afS(h:P:=by
 have HTT:=Dx hT;clear hT hB;go_wp2_with fail
 refine HTT.mono ?_;rintro e w2 (⟨rfl,hA⟩|⟨rfl,hB⟩)
 ·go_wp2;exact⟨rfl,Aj ⟨rfl,hA⟩⟩
 ·go_wp2
  go_end0
  exact Am ⟨rfl,hB⟩):P:=h
theorem afT(h:P:=by
 have hkl2:k<(Pt.EW (nx s) f p).length:=by grind
 have h:=aX s f p k w' hl hs U;have hpo:Gj (Pt.EW (nx s) f p) (k:Int)=q:=by grind [Gj,Int.toNat_natCast]
 rw[hpo]at h;exact h):P:=h
theorem afU(h:P:=by
 refine Lib.below_freeze (p:=EN w 0) ?_ (Ar _) _;exact((AA w.heap.size w).alloc (Ar _) _).trans ⟨rfl,rfl,rfl,by simp[World.setRow],λk hk=>setRow_other _ _ _ _ U⟩):P:=h
theorem abg(h:P:=by
 have HQ:=Dx (HT0 w hA);clear hA;go_wp2_with (first|(go_at_call 81;refine cm HQ λw1 hw1=>?_;have HP:=Dx hw1;clear hw1))
 refine Qi ?_;go_wp2;go_returns;exact Aj ⟨rfl,HP _ F9⟩):P:=h
theorem abh(h:P:=by
 rintro e w1 ⟨hk1,⟨h1,h2⟩|⟨a,r,h1,h3,h2,hr1⟩⟩
 ·exact Aj ⟨h1,h2,h.only.trans hk1⟩
 ·refine Am ⟨a,r,h1,h3,h2,h.only.trans hk1,hr1,?_⟩;have:=h.len
  grind):P:=h
theorem wy(h:P:=by
 go_enter func64,ntmps64;go_wp2_with (first|(go_at_call 73;go_in))
 go_returns;exact⟨rfl,rfl⟩):P:=h
theorem wB(h:P:=by
 rintro w'' ⟨F',q1,q2⟩;exact⟨rfl,(hPost w'').2 ⟨F',q1,(D8.D6 F hb).trans q2⟩⟩):P:=h
theorem wC(h:P:=by
 go_wp2;refine KJ 0 rfl ?_;go_wp2;refine Qi ?_;go_wp2;go_returns;exact⟨rfl,HP⟩):P:=h
theorem wD(h:P:=by
 rcases h with ⟨hv,_⟩|⟨gb,cap,cur,hv,_⟩
 ·exact⟨_,_,hv⟩
 ·exact⟨_,_,hv⟩):P:=h
theorem aO(h:P:=by
 have HPP:=Dx hp;clear hp;go_wp2;go_returns;exact⟨rfl,HPP⟩):P:=h
theorem abj(h:P:=by
 rcases J2 ho with (h|h|h|h)|⟨h,_⟩|⟨h,_⟩|⟨h,h1,h2,h3,h4⟩|h
 ·omega
 ·omega
 ·omega
 ·omega
 ·omega
 ·omega
 ·exact⟨h2,h3,h4⟩
 ·have:=h.here;omega):P:=h
theorem abk(h:P:=by
 clear h1;go_enter func143,ntmps143;go_wp2_with fail
 go_quiet (fail);go_wp2_with (first|(go_at_call 121;refine cm (HQ _ (Ed (HB _) _)) λw3 hw3=>?_))
 go_returns;exact⟨rfl,hw3⟩):P:=h
theorem abl(h:P:=by
 obtain⟨a,cap,hC⟩:=E8 h.cl;have hlen:v.zc.length=G.DI.length:=by rw[<-h.zc,AX]
 rw[hlen]at hC;exact⟨a,cap,ED h.bx 9 _ (by rw[<-hC];rfl)⟩):P:=h
theorem ko(h:P:=by
 go_enter func220,ntmps220;go_wp2;go_returns;exact⟨rfl,rfl⟩):P:=h
theorem kp(h:P:=by
 go_enter func163,ntmps163;go_wp2;go_returns;exact⟨rfl,rfl⟩):P:=h
theorem kq(h:P:=by
 go_enter func164,ntmps164;go_wp2;go_returns;exact⟨rfl,F9⟩):P:=h
theorem abm(h:P:=by
 grind [Es,QC,Rq,Ss,Hg,ay,Hs,EO,List.replicate,H9,KU,Pt.EW,La,E6,Gu,Et,FZ,FD,EU,KL,Gj,Gt,Rp]):P:=h
theorem abn(h:P:=by
 go_enter func221,ntmps221;go_wp2_with (go_at_call 249;refine H.mono ?_;rintro e w1 ⟨⟨a,c,rfl⟩,hb⟩;have HX:=Dx (HB w1 hb);clear hb)
 go_returns;exact⟨_,rfl,HX.1,HX.2⟩):P:=h
theorem abo(h:P:=by
 obtain⟨hl,h⟩:=h;refine⟨hl,?_⟩;rcases h with h|⟨g,cap,cur,hv,hg,hh,r⟩
 ·exact Aj h
 ·refine Am ⟨g,cap,cur,hv,hg,?_,r⟩
  grind [Below.heap_setCell]):P:=h
theorem wE(h:P:=by
 go_wp2;go_roundw
 case rel=>exact⟨i+1,U,HS,Kc,BR⟩
 case measure=>exact Kt):P:=h
theorem kr(h:P:=by
 rw[<-hW1];exact⟨(WO w t o).2.1,(WO w t o).2.2⟩):P:=h
theorem kt(h:P:=by
 have:=ED h.Hd.bs 6 p.t.K rfl;rw[hK]at this;exact this):P:=h
theorem abp(h:P:=by
 generalize str (c :: r)=S1 at *;generalize str r=S2 at *;go_enter func114,ntmps114;go_wp2_with fail
 refine cs H ?_;go_wp2_with fail
 refine cs H2 ?_;go_wp2
 go_ret
 exact⟨rfl,rfl⟩):P:=h
theorem abq(h:P:=by
 obtain⟨hl,h⟩:=h;refine⟨hl,?_⟩;rcases h with h|⟨g,cap,cur,rfl,hb,hg,r⟩
 ·exact Aj h
 ·exact Am ⟨g,cap,cur,rfl,hb,by rw[hk g rfl];exact hg,r⟩):P:=h
theorem wF(h:P:=by
 grind [Ext,Es,Fx,Il,jC,yX,Gt,List.replicate,Pt.EW,KR]):P:=h
theorem abr(h:P:=by
 exact⟨Br h1.U9.size h2,h1.free j h2,λe=>by have:=h1.lt j (Am (Aj e));omega,λs hs f=>by have:=h1.lt j (Am (Am ⟨s,hs,f⟩));omega⟩):P:=h
theorem abt(h:P:=by
 rw[e1,e2];have hb:=G0 U hc;generalize nx s (p+1)=d at *;go_enter func243,ntmps243;go_wp2_with fail
 refine cs (HD _) ?_;go_wp2
 go_ret2
 exact⟨rfl,AA _ _⟩):P:=h
theorem abu(h:P:=by
 rw[e];clear e;have hd:0<=n / 256/\n / 256<=255:=U;have hm:0<=n % 256/\n % 256<=255:=U;go_enter func219,ntmps219;go_wp2
 go_ret
 exact⟨rfl,F9⟩):P:=h
theorem abv(h:P:=by
 have uz:w2.frozen? (Y x 8)=false:=(A8 hgx).trans z8;have HP:=Dx hP;clear how2 hg2 hat2 hP hgx HFIN;go_wp2_with fail
 go_returns;exact⟨rfl,HP⟩):P:=h
theorem wG(h:P:=by
 exact Am ⟨rfl,rfl,U,Kx,λv out h=>V.TV h Kx Kx Kx Kx Kx⟩):P:=h
theorem wH(h:P:=by
 rintro w' ⟨v',F',m1,m2⟩;exact⟨rfl,v',F',m1,(D8.D6 F hW).trans m2⟩):P:=h
theorem abw(h:P:=by
 have h:i=0\/i=1\/i=2\/i=3\/i=4\/i=5\/i=6\/i=7\/i=8:=U;rcases h with rfl|rfl|rfl|rfl|rfl|rfl|rfl|rfl|rfl<;>rfl):P:=h
theorem abx(h:P:=by
 have hsz:(Qo W' lb k G.c.Ew G.c.DW).heap.size=W'.heap.size:=Ev;rw[<-hsz]at hb2;exact⟨v3,F3,n1.DG hb2,(m2.trans n2).trans (D8.D6 F3 hb2)⟩):P:=h
theorem aby(h:P:=by
 go_enter func283,ntmps283;go_wp2;exact Bm (v:=.agg #[Z x.1,.string x.2]) (by simp[results,results283,go_sem]) rfl ⟨rfl,_,Dw FIN _ (Dw HIT)⟩):P:=h
theorem abz(h:P:=by
 go_wp2_with (first|(go_at_call 167;refine cm (H167 _ (HB1.alloc (Nat.le_of_lt hB1) _)) λw4 hp=>?_;have HPP:=Dx hp;clear hp))
 go_returns;exact⟨rfl,HPP⟩):P:=h
theorem ku(h:P:=by
 exact(AA w.heap.size w).alloc (Ar _) _):P:=h
theorem wI(h:P:=by
 rw[Ho,Er,A7 (by rw[A9];omega)]):P:=h
theorem abA(h:P:=by
 have hta:=PU n q;go_enter func34,ntmps34;go_wp2;exact Bm (v:=Gk n q) (by simp[results,results34,go_sem]) rfl ⟨rfl,F9.alloc Ev _⟩):P:=h
theorem wJ(h:P:=by
 rintro w' ⟨F',m1,m2⟩;exact⟨rfl,NM.of m1 ((D8.D6 F hb).trans m2)⟩):P:=h
theorem abB(h:P:=by
 grind [SP,R.Cf,R.Sv,R.Sn,R.Jb,G9,PR,DF,PT,Pp,Pp.one,Option.some.inj,V.WS.row,DF.row,V.RS.row,IW,nf,ES]):P:=h
theorem abC(h:P:=by
 go_wp2_with fail
 refine cm HN ?_;rintro w1 ⟨hk,ha⟩;have h2:=ha.place;have h3:=ha.wm;go_wp2
 go_ret
 exact⟨rfl,hk.setCell (Aj rfl) _,ha.set⟩):P:=h
theorem wK(h:P:=by
 all_goals
  have hclr:=(Dw HC);go_wp2
  go_ret
  exact⟨rfl,HE,HK⟩):P:=h
theorem wL(h:P:=by
 rintro w' ⟨F',m1,m2⟩;exact⟨rfl,F',m1,(D8.D6 F hb).trans m2⟩):P:=h
theorem abD(h:P:=by
 obtain⟨zl,h1,h2,h3⟩:=h.ln i z hz;exact⟨zl,h1,hk.at h2 (nb h2 Em),λy hy=>(h3 y hy).keep hk (λb cur _ hb=>nb hb Em) (λ_ q=>q)⟩):P:=h
theorem wM(h:P:=by
 cases hs;rw[h.1,h.2];refine ae0 ⟨rfl,?_,?_⟩<;>simp[num]<;>omega):P:=h
theorem wN(h:P:=by
 have:=hwf.cl j c hc;exact⟨this.DV,this.DR,this.Ee,this.DZ⟩):P:=h
theorem abE(h:P:=by
 have h3:n=1\/n=2\/n=3:=U;rcases h3 with rfl|rfl|rfl
 ·show _=_;kernel_rfl
 ·show _=_;kernel_rfl
 ·show _=_;kernel_rfl):P:=h
theorem wO(h:P:=by
 apply CJ
 grind [ByteArray.data_extract,List.extract_eq_take_drop]):P:=h
theorem abF(h:P:=by
 rw[run_convert_bytes_string _ 199 9 5 _ _ _ underlying199 underlying5 underlying9,run_bytesToString _ _ _ _ [a,b]]
 ·rfl
 ·simp[loadCells,go_sem]):P:=h
theorem abG(h:P:=by
 clear h2;go_enter func255,ntmps255;go_wp2_with fail
 go_quiet (fail);go_wp2_with fail
 go_returns;exact⟨rfl,HG _ (LG w (Ar _) _ _)⟩):P:=h
theorem wP(h:P:=by
 intro w hSw;obtain⟨_,t1,t2,_⟩:=hSw;go_simp;try with_reducible rfl):P:=h
theorem wQ(h:P:=by
 rw[<-hBX];exact(AL _ _ _ Ev).trans (AF w _)):P:=h
theorem wR(h:P:=by
 subst e;obtain⟨cur,hc⟩:=J3 hrow rfl;exact ES hc h.bx Em rfl):P:=h
theorem abH(h:P:=by
 rw[hW2,hW1];have k0:DF (λk=>k=g) w w.drew:=(DF.refl _ w).drew;exact(k0.trans (NE _ _ _)).trans (NE _ _ _)):P:=h
theorem abI(h:P:=by
 rw[e];go_enter func118,ntmps118;go_wp2;exact Bm (v:=.tuple #[Z 8,Z 8]) (by simp[results,results118,go_sem]) rfl ⟨rfl,HB⟩):P:=h
theorem abJ(h:P:=by
 rw[e];go_enter func118,ntmps118;go_wp2;exact Bm (v:=.tuple #[Z 0,Z 8]) (by simp[results,results118,go_sem]) rfl ⟨rfl,HB⟩):P:=h
theorem abK(h:P:=by
 clear h3 hk;go_enter func199,ntmps199;go_wp2_with (first|(go_at_call 233;refine cs (HV _ (HB _)) ?_))
 go_returns;exact⟨rfl,HQ _ (HB _)⟩):P:=h
theorem abL(h:P:=by
 rcases hk with hk|hk
 ·exact Aj (by rw[<-hq11,hk];rfl)
 ·exact Am ⟨by rw[<-hq11,hk];rfl,by rw[<-hq12,hk];rfl⟩):P:=h
theorem abM(h:P:=by
 rintro e' w' ⟨rfl,L',K',hS,hl⟩;refine⟨rfl,t,L',K',?_,by simp only[KP,e];rfl,U⟩;rw[Rc hi];exact hS.more U):P:=h
theorem abN(h:P:=by
 funext v;have hh:EO g f p v=some ([],List.replicate (g (p+1)-48) (p+2),v):=by simp[EO,ha]
 rw[H9 hh,KU]):P:=h
theorem abO(h:P:=by
 rintro e w' (h|⟨rfl,x',hr,c',O',hc',hst,hk⟩)
 ·exact Aj h
 ·exact Am ⟨rfl,x',hr,c',O',U,hst,h1.trans hk⟩):P:=h
theorem wS(h:P:=by
 go_enter func228,ntmps228;go_wp2;go_returns;exact⟨rfl,H _ rfl⟩):P:=h
theorem abP(h:P:=by
 go_enter func62,ntmps62;go_wp2_with (first|(go_at_call 38;go_in))
 all_goals first
  |done
  |(go_returns
    exact⟨rfl,rfl⟩)):P:=h
theorem wT(h:P:=by
 exact⟨rfl,by obtain⟨F',l,g⟩:=hM;exact hT.tH l g⟩):P:=h
theorem abQ(h:P:=by
 grind [Er,List.drop_of_length_le,Array.length_toList,Lib.byteCells,Ku]):P:=h
theorem wU(h:P:=by
 go_enter func177,ntmps177;go_wp2;go_returns;exact⟨rfl,rfl⟩):P:=h
theorem wV(h:P:=by
 rintro w' ⟨v',F',r1,r2,_⟩;exact⟨rfl,v',F',r1,r2⟩):P:=h
theorem wW(h:P:=by
 go_enter func170,ntmps170;go_wp2;go_returns;exact⟨rfl,rfl⟩):P:=h
theorem wX(h:P:=by
 go_enter func253,ntmps253;go_wp2;go_returns;exact⟨rfl,rfl⟩):P:=h
theorem abR(h:P:=by
 show ((w.alloc (Gb x0 x1 ea en ec)).heap.push _)[(w.alloc (Gb x0 x1 ea en ec)).heap.size]?=_;rw[Bz]):P:=h
theorem wY(h:P:=by
 go_enter func131,ntmps131;go_wp2;go_returns;exact⟨rfl,rfl⟩):P:=h
theorem wZ(h:P:=by
 cases h;exact λv out h=>V.TV h Kx Kx Kx Kx Kx):P:=h
theorem xb(h:P:=by
 have:=q 1 U;simp[World.cell?,hg];simpa [Gp] using this):P:=h
theorem abS(h:P:=by
 grind [Wd,Inv,Pk,Cd,Lm,R.Gr.Dz,R.off,DL,R.Cd.J9,EY,Sn,Hl,F7,R.Inv.gather,R.Inv.XH]):P:=h
theorem abT(h:P:=by
 unfold GK;rw[BP,Ah U,Bu,Ah U];rfl):P:=h
theorem abU(h:P:=by
 rcases Nat.eq_zero_or_pos n with h0|h0
 ·subst h0
  grind [List.length_eq_zero_iff]
 grind [R.Inv.unique,Int.toNat_natCast]):P:=h
theorem xd(h:P:=by
 rw[hpost];exact λw' hb hr=>⟨hb,Aj ⟨hr,rfl⟩⟩):P:=h
theorem abV(h:P:=by
 rcases h.2 with ⟨h0,_⟩|⟨g',cap',cur,hv,_,hg,_,_,_,htk⟩;all_goals grind [World.cell?]):P:=h
theorem abW(h:P:=by
 have e8:=Ek (off:=8) e7 (Z 0);have e9:=Ek (off:=9) e8 (Z 0);exact Ek (off:=10) e9 (Z 0)):P:=h
theorem abX(h:P:=by
 go_wp2;go_quiet (fail);go_wp2;go_roundw
 case rel=>exact⟨i+1,U,Kc,Ed HBB _⟩
 case measure=>exact Kt):P:=h
theorem xe(h:P:=by
 go_enter func124,ntmps124;go_wp2
 go_ret
 exact⟨rfl,rfl⟩):P:=h
theorem abY(h:P:=by
 clear hc hN;go_enter func221,ntmps221;go_wp2_with (go_at_call 248;refine cs H ?_)
 go_returns;exact⟨_,rfl,HR,F9⟩):P:=h
theorem abZ(h:P:=by
 have:=hcd'.sig;rw[hk']at this;exact⟨d'.LO,d'.to,d'.bs,by rw[g3];exact this,by rw[g4];exact hcd'.bs⟩):P:=h
theorem ab0(h:P:=by
 rintro e w' ⟨rfl,v',F',m1,m2⟩;exact⟨rfl,v',F',m1,((hw.trans r2).trans (D8.D6 F hb')).trans m2⟩):P:=h
theorem ab1(h:P:=by
 exact⟨Ev,Ev,λ_=>⟨by show -65536<=x.1;omega,by show x.1<=65536;omega⟩,Ev,Ev,Aj rfl⟩):P:=h
theorem ab2(h:P:=by
 have hn:=(h3 a).1;rw[hg]at hn;have:=atKey_of_not_has hn (.lit (.int .i64 0));rw[hc.1]at this;cases this;rfl):P:=h
theorem ab3(h:P:=by
 funext v;have hh:EO g f p v=some ([],Pt.EW g f p,v):=by simp[EO,hr]
 rw[H9 hh,KU]):P:=h
theorem ab4(h:P:=by
 go_wp2_with (first|(go_at_call 220;refine cs (H220 _) ?_))
 go_returns;exact⟨rfl,HFF _ (AA _ _)⟩):P:=h
theorem xf(h:P:=by
 exact⟨rfl,NM.of (h.DG hb) (D8.D6 F hb)⟩):P:=h
theorem ab5(h:P:=by
 rcases h.2 with ⟨rfl,_⟩|⟨g,cap,cur,rfl,_,hg,_⟩
 ·cases hj
 ·cases hj;exact⟨cur,hg⟩):P:=h
theorem ab6(h:P:=by
 clear hown hgrow hat hrd hrs2 hwk2 how hO;go_wp2
 go_end0
 rw[hSS];exact⟨rfl,_,Dw HR2,Dw HK2⟩):P:=h
theorem ab7(h:P:=by
 ·obtain rfl:k=n:=U;have HI:=Dx hJ;clear hJ;go_wp2;go_returns;exact⟨rfl,_,HI⟩):P:=h
theorem ab8(h:P:=by
 go_enter func152,ntmps152;go_wp2_with fail
 refine cm HH λw1 hb=>?_
 go_wp2
 go_ret2
 exact⟨rfl,hb⟩):P:=h
theorem ab9(h:P:=by
 have:=R.JK hdn.bytes;have h2:=V.jP this;have h3:=hdn.bytes;unfold R.Fi at h3
 grind):P:=h
theorem acb(h:P:=by
 have hl:i<G.DN.length:=by rw[h.GQ.sl];exact hi9
 grind [R.F7,List.getElem?_eq_getElem]):P:=h
theorem acd(h:P:=by
 go_enter func184,ntmps184;go_wp2_with fail
 refine cm H λw1 hb=>?_
 go_wp2
 go_ret
 exact⟨rfl,hb⟩):P:=h
theorem ace(h:P:=by
 rcases e with rfl|e
 ·exact ES hb h.bx h1 rfl
 ·exact Fg h.Iw hb (λq=>h2 q.symm) e):P:=h
theorem acf(h:P:=by
 go_wp2_with fail
 refine cm H1 λw1 hb1=>?_
 go_wp2;exact⟨rfl,rfl,hb.trans (hb1.mono hb.size)⟩):P:=h
theorem acg(h:P:=by
 rintro w' ⟨v2,F2,m1,m2⟩;exact⟨rfl,v2,F2,m1,(r2.trans (D8.D6 F' hb2)).trans m2⟩):P:=h
theorem ach(h:P:=by
 show _=_;have:=AF (w.alloc (.cells #[Z 0] 3)) (.cells #[Z 0] 32);simpa using this):P:=h
theorem aci(h:P:=by
 rintro w' ⟨v',F',m1,m2⟩;exact⟨rfl,v',F',m1,(hw.trans (D8.D6 F hb)).trans m2⟩):P:=h
theorem acj(h:P:=by
 exact⟨_,QM Kx he (by simp[Et,KL,V.EU]),by simp[Et,KL,V.EU]⟩):P:=h
theorem acm(h:P:=by
 rw[Ay Lp];exact same (hno 11 (Am (Am (Am ⟨hn,U,U,U,Lp,rfl⟩))))):P:=h
theorem afi(h:P:=by
 exact((h.DG.alloc U o).grown hg U (λk hk=>by have:=hrow k hk;omega)).setCell Ev _):P:=h
theorem acn(h:P:=by
 clear hno;go_enter func210,ntmps210;go_wp2;go_quiet (fail);go_wp2
 go_ret3
 exact⟨rfl,_,rfl⟩):P:=h
theorem aco(h:P:=by
 go_wp2_with fail
 go_roundw
 case rel=>exact⟨i+1,U,Kc,HB'⟩
 case measure=>exact Kt):P:=h
theorem acp(h:P:=by
 rcases Nv G.DN ci (3*ci+ni) _ hr2 with ⟨_,q⟩|⟨q,_⟩
 ·exact q
 ·omega):P:=h
theorem acr(h:P:=by
 rintro e w' ⟨rfl,v',F',r1,r2⟩;exact⟨rfl,v',F',r1,(D8.D6 F hb).trans r2⟩):P:=h
theorem acs(h:P:=by
 rintro e w' (⟨rfl,_,hb⟩|⟨rfl,x',hx,_⟩)
 ·exact⟨rfl,hbb w' hb⟩
 ·cases hx):P:=h
theorem acu(h:P:=by
 intro t ht;rw[<-Gd hp];rcases hg with hg|hg<;>rw[hg]at ht ⊢<;>subst ht<;>simp):P:=h
theorem acv(h:P:=by
 go_enter func113,ntmps113;go_wp2_with fail
 refine cs H ?_;go_wp2
 go_ret
 exact⟨rfl,rfl⟩):P:=h
theorem acw(h:P:=by
 rw[show ((a.toNat*256:Nat):Int)=(a.toNat:Int)*256 by omega]at this;exact this):P:=h
theorem acx(h:P:=by
 rcases hh with ⟨rfl,rfl⟩|⟨rfl,rfl⟩
 ·simp[FW];omega
 ·simp[FW];omega):P:=h
theorem acy(h:P:=by
 rw[<-Jh JN fl i j f hf hj,<-htk,BI,Ay U];simp):P:=h
theorem acz(h:P:=by
 go_wp2;go_roundw
 case rel=>exact⟨j+1,U,Kc,HN⟩
 case measure=>exact Kt):P:=h
theorem afj(h:P:=by
 intro k hk hr;rw[hg.block k U (λe=>hr e.symm)];exact AL _ _ _ hk):P:=h
theorem acA(h:P:=by
 go_wp2_with fail
 refine cm (HD _) λw1 hb1=>?_
 go_wp2
 go_ret
 exact⟨rfl,hb1⟩):P:=h
theorem acB(h:P:=by
 exact h.XH ha.right ha.Gw ha.D5 Em Em Em (Am (Am ⟨rfl,rfl⟩))):P:=h
theorem acC(h:P:=by
 rw[<-hBX];exact((AA w.heap.size w).alloc (Ar _) _).alloc Ev _):P:=h
theorem acD(h:P:=by
 subst h0;go_enter func229,ntmps229;go_wp2
 go_ret
 exact⟨rfl,AA _ _⟩):P:=h
end Go.Proofs.YtblomippkddgiaaGreatDoor
