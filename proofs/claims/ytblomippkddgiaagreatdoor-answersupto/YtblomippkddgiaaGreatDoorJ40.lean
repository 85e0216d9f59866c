import Derived.Test.YtblomippkddgiaaGreatDoorJ39
set_option maxRecDepth 100000
set_option maxHeartbeats 4000000
namespace Go.Proofs.YtblomippkddgiaaGreatDoor
open Go.Proofs.Tryz
open Go.RowKit
theorem XK(w:Aa)(x ci li g n cap lb Q:Nat)(DR:Int)(l:R.Ln)(p:Pk)(pb:Ab)(pn:Int)(e:World->Prop)(M:p.DZ=(li:Int))(h:kC w x ci li g n cap lb Q DR l)(D:l.DK=1)(y:p.DR=DR)(f:p.D4=l.D4)(hk:p.Dz=2)(hn:¬p.Ez=l.Ea)
  (m:Hid (∀W,D7 220 #[.string (str l.DC),Z 0] W (.tuple #[.string pb,Z pn]) λB=>B=W))
  (X:Hid (∀W,DY w W->e W)):
  D7 226 #[Ey x,Z ci,pv p] w Ep λB=>e B:=by
 obtain⟨x9,c0,c2,⟨l0,l1,_,l3,l4,l5,l6,l7,l8,l9,l10⟩,hc,hl⟩:=h;obtain⟨kd,cl,O,ln,T,ud,pt,off,pl,bd⟩:=p;simp only at M y f hk hn;subst M;subst y;rw[<-f]at l0;clear f;rw[D]at l1;have q0:0<=(ci:Int):=U;have q1:(ci:Int)<n:=U;have q2:0<=(li:Int):=U;have q3:(li:Int)<Q:=U;obtain⟨hx,hg,u⟩:=Va x9 c0 l0;have ef:(T != T)=false:=Ev;have aa:(O != O)=false:=Ev;clear hc hl D;subst hk;go_enter func226,ntmps226;go_wp2_with fail
 go_quiet (fail);go_wp2_with fail
 go_quiet (fail);refine EE (E3 w w _) ((JJ).drewN _) ?_;intro W j;obtain⟨b0,b3,b6⟩:=TH j.2 0 3 6;have ab:=Dv j.2;have k5:=(j.1.cell (p:=Y lb _) u).trans l5;have k6:=(j.1.cell (p:=Y lb _) u).trans l6;have ac:lb<W.heap.size:=U;have ad:x<W.heap.size:=U;have m1:¬lb=w.heap.size:=U;have m2:¬w.heap.size=lb:=U;have HW:=Dx j;clear j;go_wp2_with (first|(go_at_call 220;refine cs (m _) ?_))
 go_quiet (fail);go_wp2_with fail
 go_returns;exact⟨rfl,X _ (Ed HW.1 _)⟩
theorem ZW(w:Aa)(x ci li g n cap lb X:Nat)(DR:Int)(l:R.Ln)(p:Pk)(pb:Ab)(pn:Int)(m:World->Prop)(Q:p.DZ=(li:Int))(h:kC w x ci li g n cap lb X DR l)(O:l.DK=1)(y:p.DR=DR)(u:p.D4=l.D4)(rt tr:Int)(hk:p.Dz=4)
  (H220:Hid (∀W,D7 220 #[.string (str l.DC),Z 0] W (.tuple #[.string pb,Z pn]) λB=>B=W))
  (D:Hid (∀W,DY w W->RsC W x lb rt tr/\∀M,Below W.heap.size (Qo W lb li rt tr) M->m M)):
  D7 226 #[Ey x,Z ci,pv p] w Ep λB=>m B:=by
 obtain⟨x9,c0,c2,⟨l0,l1,_,l3,l4,l5,l6,l7,l8,l9,l10⟩,hc,hl⟩:=h;obtain⟨kd,cl,T,ln,sq,ud,pt,off,pl,bd⟩:=p;simp only at Q y u hk;subst Q;subst y;rw[<-u]at l0;clear u;rw[O]at l1;have q0:0<=(ci:Int):=U;have q1:(ci:Int)<n:=U;have q2:0<=(li:Int):=U;have q3:(li:Int)<X:=U;obtain⟨hx,hg,j⟩:=Va x9 c0 l0;have ef:(sq != sq)=false:=Ev;have aa:(T != T)=false:=Ev;clear hc hl O;subst hk;go_enter func226,ntmps226;go_wp2_with fail
 go_quiet (fail);go_wp2_with fail
 go_quiet (fail);refine EE (E3 w w _) ((JJ).drewN _) ?_;intro W f;obtain⟨b0,b3,b6⟩:=TH f.2 0 3 6;have ab:=Dv f.2;have k5:=(f.1.cell (p:=Y lb _) j).trans l5;have k6:=(f.1.cell (p:=Y lb _) j).trans l6;have ac:lb<W.heap.size:=U;have ad:x<W.heap.size:=U;have m1:¬lb=w.heap.size:=U;have m2:¬w.heap.size=lb:=U;have k9:=(f.1.cell (p:=Y lb _) j).trans l9;have ae:=(f.1.cell (p:=Y lb _) j).trans l10;obtain⟨⟨x2,x3,ne,z,lt⟩,HF⟩:=D W f.1;have n1:=ne;have n2:¬x=lb:=λe=>ne e.symm
 have z9:=z (li*11+9);have ah:=z (li*11+10);obtain⟨HFF,HW⟩:=FU HF f;clear f z ne HF D;exact ab4
theorem ZX(w:Aa)(x ci li g n cap lb X:Nat)(DR:Int)(l:R.Ln)(p:Pk)(pb:Ab)(pn:Int)(e:World->Prop)(Q:p.DZ=(li:Int))(h:kC w x ci li g n cap lb X DR l)(O:l.DK=1)(u:p.DR=DR)(m:p.D4=l.D4)(hk:p.Dz=7)(B:0<=p.Ez/\p.Ez<=9)
  (H220:Hid (∀W,D7 220 #[.string (str l.DC),Z 0] W (.tuple #[.string pb,Z pn]) λD=>D=W))
  (y:Hid (∀W,DY w W->(∀o,W.frozen? (Y lb o)=false)/\∀M,Below W.heap.size (W.setCell (Y lb (li*11+1)) (Z (4+p.Ez))) M->e M)):
  D7 226 #[Ey x,Z ci,pv p] w Ep λD=>e D:=by
 obtain⟨x9,c0,c2,⟨l0,l1,_,l3,l4,l5,l6,l7,l8,l9,l10⟩,hc,hl⟩:=h;obtain⟨kd,cl,T,ln,sq,ud,pt,off,pl,bd⟩:=p;simp only at Q u m hk B y;subst Q;subst u;rw[<-m]at l0;clear m;rw[O]at l1;have q0:0<=(ci:Int):=U;have q1:(ci:Int)<n:=U;have q2:0<=(li:Int):=U;have q3:(li:Int)<X:=U;obtain⟨hx,hg,j⟩:=Va x9 c0 l0;have ef:(sq != sq)=false:=Ev;have aa:(T != T)=false:=Ev;clear hc hl O;subst hk;have e4:IntKind.i64.wrap (4+pt)=4+pt:=Iz;go_enter func226,ntmps226;go_wp2_with fail
 go_quiet (fail);go_wp2_with fail
 go_quiet (fail);refine EE (E3 w w _) ((JJ).drewN _) ?_;intro W f;obtain⟨b0,b3,b6⟩:=TH f.2 0 3 6;have ab:=Dv f.2;have k5:=(f.1.cell (p:=Y lb _) j).trans l5;have k6:=(f.1.cell (p:=Y lb _) j).trans l6;have ac:lb<W.heap.size:=U;have ad:x<W.heap.size:=U;have m1:¬lb=w.heap.size:=U;have m2:¬w.heap.size=lb:=U;have k1:=(f.1.cell (p:=Y lb _) j).trans l1;obtain⟨z,HF⟩:=y W f.1;have z1:=z (li*11+1);have HFF:=Dx HF;clear f z HF y;exact ab4
theorem ZV(w:Aa)(x ci li g n cap lb nl:Nat)(DR:Int)(l:R.Ln)(p:Pk)(pb:Ab)(pn:Int)(f:World->Prop)(M:p.DZ=(li:Int))(h:kC w x ci li g n cap lb nl DR l)(h1:l.DK=1)(D:p.DR=DR)(u:p.D4=l.D4)(rt tr:Int)(Q:World->Prop)(hk:p.Dz=2)(hn:p.Ez=l.Ea)(ha:0<=l.Ea/\l.Ea<=9)(hm:l.Ea+1<pn)
  (y:Hid (∀W,D7 220 #[.string (str l.DC),Z 0] W (.tuple #[.string pb,Z pn]) λO=>O=W))
  (X:Hid (∀W,DY w W->(∀o,W.frozen? (Y lb o)=false)))
  (HS:Hid (∀W,Below w.heap.size (w.setCell (Y lb (li*11+6)) (Z (l.Ea+1))) W->D7 165 #[Ey x,Z ci,Z li,.bool false] W Ep λO=>Q O))
  (HQ:Hid (∀B,Q B->RsC B x lb rt tr/\xX B lb li {l with Ea:=l.Ea+1}/\∀W2,Below B.heap.size (Qo B lb li rt tr) W2->f W2)):
  D7 226 #[Ey x,Z ci,pv p] w Ep λO=>f O:=by
 obtain⟨x9,c0,c2,⟨l0,l1,_,l3,l4,l5,l6,l7,l8,l9,l10⟩,hc,hl⟩:=h;obtain⟨kd,cl,lf,ln,sq,ud,pt,off,pl,bd⟩:=p;simp only at M D u hk hn;subst M;subst D;rw[<-u]at l0;clear u;rw[h1]at l1;have q0:0<=(ci:Int):=U;have q1:(ci:Int)<n:=U;have q2:0<=(li:Int):=U;have q3:(li:Int)<nl:=U;obtain⟨hx,hg,m⟩:=Va x9 c0 l0;have ef:(sq != sq)=false:=Ev;have aa:(lf != lf)=false:=Ev;clear hc hl h1;subst hk;subst hn;have e4:IntKind.i64.wrap (l.Ea+1)=l.Ea+1:=Iz;clear ha;go_enter func226,ntmps226;go_wp2_with fail
 go_quiet (fail);go_wp2_with fail
 go_quiet (fail);refine EE (E3 w w _) ((JJ).drewN _) ?_;intro W j;obtain⟨b0,b3,b6⟩:=TH j.2 0 3 6;have ab:=Dv j.2;have k5:=(j.1.cell (p:=Y lb _) m).trans l5;have k6:=(j.1.cell (p:=Y lb _) m).trans l6;have ad:lb<W.heap.size:=U;have ah:x<W.heap.size:=U;have m1:¬lb=w.heap.size:=U;have m2:¬w.heap.size=lb:=U;have z6:=X W j.1 (li*11+6);have HW:=Dx (j.set (i:=li*11+6) m (Z (l.Ea+1)));clear j X;go_wp2_with (first|(go_at_call 220;refine cs (y _) ?_))
 go_quiet (fail);go_wp2_with (first|(go_at_call 165;refine cm (HS _ (Ed HW.1 _)) λw4 M=>?_;obtain⟨⟨x2,x3,ne,z,lt⟩,⟨m0,al,_,m3,m4,m5,m6,m7,m8,m9,ak⟩,HF⟩:=HQ w4 M;have n1:¬lb=x:=ne;have n2:¬x=lb:=λe=>ne e.symm;have z9:=z (li*11+9);have ao:=z (li*11+10);have ae:=Gv x2;have T:=Dx HF;clear M z ne HF HQ))
 go_returns;exact⟨rfl,T _ (AA _ _)⟩
theorem ZU(w:Aa)(x ci li g n cap lb nl:Nat)(DR:Int)(l:R.Ln)(p:Pk)(pb:Ab)(pn:Int)(m:World->Prop)(X:p.DZ=(li:Int))(h:kC w x ci li g n cap lb nl DR l)(T:l.DK=1)(B:p.DR=DR)(u:p.D4=l.D4)(rt tr:Int)(hk:p.Dz=2)(hn:p.Ez=l.Ea)(ha:0<=l.Ea/\l.Ea<=9)(hm:¬l.Ea+1<pn)
  (y:Hid (∀W,D7 220 #[.string (str l.DC),Z 0] W (.tuple #[.string pb,Z pn]) λM=>M=W))
  (O:Hid (∀W,DY w W->RsC W x lb rt tr/\∀Q,Below W.heap.size (Qo (W.setCell (Y lb (li*11+6)) (Z (l.Ea+1))) lb li rt tr) Q->m Q)):
  D7 226 #[Ey x,Z ci,pv p] w Ep λM=>m M:=by
 obtain⟨x9,c0,c2,⟨l0,l1,_,l3,l4,l5,l6,l7,l8,l9,l10⟩,hc,hl⟩:=h;obtain⟨kd,cl,lf,ln,sq,ud,pt,off,pl,bd⟩:=p;simp only at X B u hk hn;subst X;subst B;rw[<-u]at l0;clear u;rw[T]at l1;have q0:0<=(ci:Int):=U;have q1:(ci:Int)<n:=U;have q2:0<=(li:Int):=U;have q3:(li:Int)<nl:=U;obtain⟨hx,hg,j⟩:=Va x9 c0 l0;have ef:(sq != sq)=false:=Ev;have aa:(lf != lf)=false:=Ev;clear hc hl T;subst hk;subst hn;have e4:IntKind.i64.wrap (l.Ea+1)=l.Ea+1:=Iz;clear ha;go_enter func226,ntmps226;go_wp2_with fail
 go_quiet (fail);go_wp2_with fail
 go_quiet (fail);refine EE (E3 w w _) ((JJ).drewN _) ?_;intro W f;obtain⟨b0,b3,b6⟩:=TH f.2 0 3 6;have ab:=Dv f.2;have k5:=(f.1.cell (p:=Y lb _) j).trans l5;have k6:=(f.1.cell (p:=Y lb _) j).trans l6;have ad:lb<W.heap.size:=U;have ae:x<W.heap.size:=U;have m1:¬lb=w.heap.size:=U;have m2:¬w.heap.size=lb:=U;have k9:=(f.1.cell (p:=Y lb _) j).trans l9;have ah:=(f.1.cell (p:=Y lb _) j).trans l10;obtain⟨⟨x2,x3,ne,z,lt⟩,HF⟩:=O W f.1;have n1:=ne;have n2:¬x=lb:=λe=>ne e.symm
 have z6:=z (li*11+6);have z9:=z (li*11+9);have ak:=z (li*11+10);obtain⟨D,HW⟩:=FU HF f;clear f z ne HF O;go_wp2_with (first|(go_at_call 220;refine cs (y _) ?_))
 go_quiet (fail);go_wp2_with fail
 go_returns;exact⟨rfl,D _ (Ed (AA _ _) _)⟩
theorem fW(w:Aa)(x ci li g n cap lb nl:Nat)(DR:Int)(l:R.Ln)(p:Pk)(pb:Ab)(pn:Int)(f:World->Prop)(B:p.DZ=(li:Int))(h:kC w x ci li g n cap lb nl DR l)(h1:l.DK=1)(X:p.DR=DR)(M:p.D4=l.D4)(rt tr:Int)(b:Bool)(Q:World->Prop)(hk:p.Dz=5)
  (m:Hid (∀W,D7 220 #[.string (str l.DC),Z 0] W (.tuple #[.string pb,Z pn]) λw'=>w'=W))
  (HS:Hid (∀W,DY w W->D7 257 #[Ey x,Z ci,pv p] W (.bool b) λw'=>Q w'))
  (HF:Hid (b=false->∀j,Q j->f j))
  (HQ:Hid (b=true->∀j,Q j->RsC j x lb rt tr/\(∃u,EB j lb (li*11+9) u)/\(∃u,EB j lb (li*11+10) u)/\∀W2,Below j.heap.size (Qo j lb li rt tr) W2->f W2)):
  D7 226 #[Ey x,Z ci,pv p] w Ep λw'=>f w':=by
 obtain⟨x9,c0,c2,⟨l0,l1,_,l3,l4,l5,l6,l7,l8,l9,l10⟩,hc,hl⟩:=h;obtain⟨kd,cl,lf,ln,sq,ud,pt,off,pl,bd⟩:=p;simp only at B X M hk HS;subst B;subst X;rw[<-M]at l0;clear M;rw[h1]at l1;have q0:0<=(ci:Int):=U;have q1:(ci:Int)<n:=U;have q2:0<=(li:Int):=U;have q3:(li:Int)<nl:=U;obtain⟨hx,hg,T⟩:=Va x9 c0 l0;have ef:(sq != sq)=false:=Ev;have al:(lf != lf)=false:=Ev;clear hc hl h1;subst hk;go_enter func226,ntmps226;go_wp2_with fail
 go_quiet (fail);go_wp2_with fail
 go_quiet (fail);refine EE (E3 w w _) ((JJ).drewN _) ?_;intro W y;obtain⟨b0,b3,b6⟩:=TH y.2 0 3 6;have am:=Dv y.2;have k5:=(y.1.cell (p:=Y lb _) T).trans l5;have k6:=(y.1.cell (p:=Y lb _) T).trans l6;have an:lb<W.heap.size:=U;have aq:x<W.heap.size:=U;have m1:¬lb=w.heap.size:=U;have m2:¬w.heap.size=lb:=U;obtain⟨b1,b2,b4,b5,b7⟩:=bC y.2 1 2 4 5 7;obtain⟨b8,b9⟩:=VL y.2 8 9;have HC:=Dx (HS W y.1);clear y HS;cases b with
 |false=>
  have D:=Dx (HF rfl);clear HF HQ;go_wp2_with (first|(go_at_call 220;refine cs (m _) ?_)|(go_at_call 257;refine cm HC λw4 B=>?_;have aa:=Dx B;clear B))
  go_returns;exact⟨rfl,D _ (Dw aa)⟩
 |true=>
  have O:=Dx (HQ rfl);clear HF HQ;go_wp2_with (first|(go_at_call 220;refine cs (m _) ?_)|(go_at_call 257;refine cm HC λw4 B=>?_;obtain⟨⟨x2,x3,ne,z,lt⟩,⟨u9,m9⟩,⟨u10,ar⟩,HF⟩:=O w4 B;have n1:¬lb=x:=ne;have n2:¬x=lb:=λe=>ne e.symm;have z9:=z (li*11+9);have av:=z (li*11+10);have ao:=Gv x2;have D:=Dx HF;clear B z ne HF O))
  go_returns;exact⟨rfl,D _ (AA _ _)⟩
end Go.Proofs.YtblomippkddgiaaGreatDoor
namespace Go.Proofs.YtblomippkddgiaaGreatDoor.V
open Go.Proofs.Tryz
open Go.RowKit
variable {v:List It}{l:List UInt8}{O:Value}{w w' w0:World}
abbrev triple(O:Ad)(S:Ab)(b:Bool):Ending:=.returned (.tuple #[O,.string S,.bool b])
def Sd(A:World->Prop)(B:Value->ByteArray->World->Prop)(e:Ending)(w:Aa):Prop:=(∃O S,e=triple O S false/\A w)\/∃O S,e=triple O S true/\B O S w
theorem UE(s:Ab)(p n:Nat)(S:Ab)(O:Ad)(w:Aa)(A:World->Prop)(I:Nat->Value->ByteArray->World->Prop)(hp:p<s.size)(hg:nx s p=97\/nx s p=114)(hn:n<=9)
  (j:I 0 O S w) (f:∀k O S w w',I k O S w->DY w w'->I k O S w')
  (g:∀w,D7 241 #[.string s,Z p] w (Z n) λw'=>DY w w')
  (h:∀k,k<n->∃q:Nat,(∀w,D7 242 #[.string s,Z p,Z k] w (Z q) λw'=>DY w w') /\
   ∀O S w,I k O S w->ET 210 #[.string s,Z q,.string S,O] w (Sd A (I (k+1)))):
  ET 210 #[.string s,Z p,.string S,O] w (Sd A (I n)):=by
 have⟨H1,H2,H0,HGO⟩:=bE g h j f;clear g h j f;have key:∀(t:Bool),t=(nx s p==97)->(t=true->((((s[p]).toNat:Nat):Int)==97)=true)/\(t=false->((((s[p]).toNat:Nat):Int)==97)=false/\((((s[p]).toNat:Nat):Int)==114)=true):=by
  exact acu
 cases ht:(nx s p==97) with
 |true=>
  have m:=(key true ht.symm).1 rfl;exact tl9
 |false=>
  have⟨m,u⟩:=(key false ht.symm).2 rfl;exact tl9
theorem Z4(s:Ab)(p:Nat)(S:Ab)(O:Ad)(w:Aa)(h:p<s.size)(g:¬nx s p=97)(f:¬nx s p=114)(j:¬2<=S.size):
  ET 210 #[.string s,Z p,.string S,O] w λe w'=>e=triple O S false/\w'=w:=by
 have u:((((s[p]).toNat:Nat):Int)==97)=false:=by rw[<-Gd h];simp;omega
 have y:((((s[p]).toNat:Nat):Int)==114)=false:=by rw[<-Gd h];simp;omega
 have m:(S.size:Int)<2:=U;clear g f j;go_enter func210,ntmps210;go_wp2
 go_ret3
 exact⟨rfl,rfl⟩
structure bM(S R:Ab)(n:Nat)(a c:UInt8):Prop where
 ge:2<=S.size
 i0:S[0]'(by omega)=a
 i1:S[1]'(by omega)=c
 num:wrap64 (wrap64 (256*wrap64 (a.toNat:Int))+wrap64 (c.toNat:Int))=(n:Int)
 rest:S.extract 2 S.size=R
theorem ags(a c:UInt8)(r:Ac):bM (str (a :: c :: r)) (str r) (E5 a c) a c:=by
 have g:=a.toNat_lt;have hc:=c.toNat_lt;refine⟨by rw[Er];simp,rfl,rfl,?_,?_⟩
 ·have e:wrap64 (a.toNat:Int)=(a.toNat:Int):=NU;have f:wrap64 (c.toNat:Int)=(c.toNat:Int):=NU;rw[e,f];unfold wrap64 E5;omega
 grind [Ho,Er]
theorem gp(s:Ab)(p:Nat)(S R:Ab)(n:Nat)(a c:UInt8)(O:Ad)(w:Aa)(h:p<s.size)(f:nx s p=115)(m:bM S R n a c)(hno:14<n\/R.size<n+n % 2)(hn:n<65536):
  ET 210 #[.string s,Z p,.string S,O] w λe w'=>e=triple O R false/\∃q,w'=w.drewN q:=by
 have M:((((s[p]).toNat:Nat):Int)==97)=false:=by rw[<-Gd h];simp;omega
 have Q:((((s[p]).toNat:Nat):Int)==114)=false:=by rw[<-Gd h];simp;omega
 have T:((((s[p]).toNat:Nat):Int)==115)=true:=by rw[<-Gd h];simp;omega
 have⟨u,i0,i1,B,e2⟩:=m;have y:¬(S.size:Int)<2:=U;clear f;by_cases j:14<n
 ·have g:(14:Int)<n:=U;exact acn
 ·have g:¬(14:Int)<n:=U;have D:(R.size:Int)<(n:Int)+(n:Int) % 2:=U;exact acn
structure IR(w0:Aa)(v:List It)(l:Ac)(O:Ad)(w:Aa):Prop where
 own:w.ownsRow w0.heap.size 106 2 O v.length (flat v)
 DG:Below w0.heap.size w0 w
 len:v.length+l.length<=500
theorem IR.go(h:IR w0 v l O w)(e:DY w w'):IR w0 v l O w':=⟨ER h.own e,h.DG.trans (e.mono h.DG.size),h.len⟩
theorem IR.drewN(h:IR w0 v l O w)(q:Nat):IR w0 v l O (w.drewN q):=⟨h.own,Ed h.DG q,h.len⟩
theorem Qg{f:Aa}{l':Ac}{g:Ad}{x:It}{o:Obj}(h:IR w0 v l O w)(hl:l'.length<l.length)(m:f.ownsRow w0.heap.size 106 2 g (v.length+1) (flat v++[Z x.1,.string x.2]))(j:(w.alloc o).grownBy f O.ownBlock):IR w0 (v++[x]) l' g f:=by
 have B:=h.DG.size;have u:(w.alloc o).heap.size=w.heap.size+1:=Ev;have y:=j.size;have e:∀k,O.ownBlock=some k->w0.heap.size<=k:=λk hk=>(h.own.lt k hk).1
 refine⟨?_,(h.DG.alloc U o).grown j U (λk hk=>e k hk),?_⟩
 ·grind [QS]
 ·grind [IR]
theorem gq(s:Ab)(p:Nat)(S R X R':Ab)(n:Nat)(a c:UInt8)(O:Ad)(w w0:Aa)(v:List It)(l l':Ac)(Q:p<s.size)(h:nx s p=115)(hT:bM S R n a c)(am:n<=14)(ak:n+n % 2<=R.size)(hX:R.extract 0 n=X)(m:R.extract (n+n % 2) R.size=R')(j:IR w0 v l O w)(u:l'.length<l.length):
  ET 210 #[.string s,Z p,.string S,O] w λe w'=>∃D,e=triple D R' true/\IR w0 (v++[(0,X)]) l' D w':=by
 have t1:((((s[p]).toNat:Nat):Int)==97)=false:=by rw[<-Gd Q];simp;omega
 have t2:((((s[p]).toNat:Nat):Int)==114)=false:=by rw[<-Gd Q];simp;omega
 have t3:((((s[p]).toNat:Nat):Int)==115)=true:=by rw[<-Gd Q];simp;omega
 have⟨ao,i0,i1,hN,e2⟩:=hT;obtain⟨h2,ah,hR,aq⟩:¬(S.size:Int)<2/\¬(14:Int)<n/\¬(R.size:Int)<(n:Int)+(n:Int) % 2/\n<=R.size:=U;have⟨j0,M,ab,ac,ad⟩:=A1 LQ;have⟨oa,on,oc,T⟩:=Ei j.own;subst T;have how:=j.own;have⟨HI,HL⟩:=FU j u;have ar:=j.len;have B:=Dx m;clear h j u m;go_enter func210,ntmps210;go_wp2;go_quiet (fail);go_wp2_with (at_builtin;go_must (refine AQ _ rfl (.tmp 86) (.tmp 91) 44 rfl w0.heap.size 106 j0 _ 2 24 underlying44 M ab ac ad rfl Em _ v.length (flat v) rfl (by exact World.ownsRow.alloc (w:=w.drewN _) how _) (EN w 0) 1 1 [Z 0,.string X] rfl rfl (by exact Jd (w.drewN _) (0,X)) (by exact KF (0,X)) JG U (by have:=HI.DG.size;simp;omega) ?_))
 intro D w2 g f _ _;have⟨ta,tn,tc,aa⟩:=Ei g;subst aa;have y:=Dx (Qg (x:=(0,X)) (HI.drewN _) HL g f);clear g f how;go_wp2;go_quiet (fail);go_wp2
 go_ret3
 rw[Dw B];exact⟨_,rfl,y.drewN _⟩
def KO(lo:Int)(n:Nat):Int:=if lo<0/\32767<n then (n:Int)-65536 else n
theorem RU(lo:Int)(n:Nat):(lo<0/\(32767:Int)<n/\KO lo n=(n:Int)-65536)\/(lo<0/\¬(32767:Int)<n/\KO lo n=(n:Int))\/(¬lo<0/\KO lo n=(n:Int)):=by
 unfold KO;split<;>omega
theorem gm(s:Ab)(p:Nat)(S R:Ab)(n:Nat)(a c:UInt8)(O:Ad)(w:Aa)(lo hi M:Int)(B:p<s.size)(y:¬nx s p=97)(g:¬nx s p=114)(h:¬nx s p=115)(T:bM S R n a c)(hn:n<65536)(m:M=KO lo n)(aa:hi<M)
  (D:∀w,D7 243 #[.string s,Z p] w (.tuple #[Z lo,Z hi]) λw'=>DY w w'):
  ET 210 #[.string s,Z p,.string S,O] w λe w'=>e=triple O R false/\DY w w':=by
 have t1:((((s[p]).toNat:Nat):Int)==97)=false:=by rw[<-Gd B];simp;omega
 have t2:((((s[p]).toNat:Nat):Int)==114)=false:=by rw[<-Gd B];simp;omega
 have t3:((((s[p]).toNat:Nat):Int)==115)=false:=by rw[<-Gd B];simp;omega
 have⟨X,i0,i1,hN,e2⟩:=T;have h2:¬(S.size:Int)<2:=U;have u:=Dx D;have f:=RU lo n;rw[<-m]at f;clear y g h D m;rcases f with ⟨c1,c2,rfl⟩|⟨c1,c2,rfl⟩|⟨c1,rfl⟩;all_goals
  go_enter func210,ntmps210;go_wp2_with fail
  go_quiet (fail);go_wp2_with fail
  refine cm (u _) λw1 j=>?_
  have Q:=Dx j;clear j;go_wp2
  go_ret3
  exact⟨rfl,(Ed (AA _ _) _).trans (Dw Q)⟩
theorem gi(s:Ab)(p:Nat)(S R:Ab)(n:Nat)(a c:UInt8)(O:Ad)(w w0:Aa)(v:List It)(l l':Ac)(lo hi n':Int)(M:p<s.size)(X:¬nx s p=97)(j:¬nx s p=114)(m:¬nx s p=115)(u:¬nx s p=117)(h:¬nx s p=113)(hT:bM S R n a c)(hn:n<65536)(D:n'=KO lo n)(ak:¬hi<n')(Q:IR w0 v l O w)(B:l'.length<l.length)
  (HM:∀w,D7 243 #[.string s,Z p] w (.tuple #[Z lo,Z hi]) λw'=>DY w w'):
  ET 210 #[.string s,Z p,.string S,O] w λe w'=>∃O1,e=triple O1 R true/\IR w0 (v++[(n',⟨#[]⟩)]) l' O1 w':=by
 have t1:((((s[p]).toNat:Nat):Int)==97)=false:=by rw[<-Gd M];simp;omega
 have t2:((((s[p]).toNat:Nat):Int)==114)=false:=by rw[<-Gd M];simp;omega
 have t3:((((s[p]).toNat:Nat):Int)==115)=false:=by rw[<-Gd M];simp;omega
 have t4:((((s[p]).toNat:Nat):Int)==117)=false:=by rw[<-Gd M];simp;omega
 have t5:((((s[p]).toNat:Nat):Int)==113)=false:=by rw[<-Gd M];simp;omega
 have⟨ah,i0,i1,hN,e2⟩:=hT;have h2:¬(S.size:Int)<2:=U;have T:=Dx HM;have f:=RU lo n;rw[<-D]at f;have⟨j0,hj0,hz0,hz1,hz2⟩:=A1 LQ;have⟨oa,on,oc,aa⟩:=Ei Q.own;subst aa;have⟨HI,HL⟩:=FU Q B;have al:=Q.len;clear X j m u h HM D Q B;rcases f with ⟨c1,c2,rfl⟩|⟨c1,c2,rfl⟩|⟨c1,rfl⟩;all_goals
  go_enter func210,ntmps210;go_wp2_with fail
  go_quiet (fail);go_wp2_with fail
  refine cm (T _) λw1 y=>?_
  have g:=(HI.drewN _).go y;have how:=g.own;have HI1:=Dx g;clear y g
 ·go_wp2_with (at_builtin;go_must (refine AQ _ rfl (.tmp 119) (.tmp 122) 44 rfl w0.heap.size 106 j0 _ 2 24 underlying44 hj0 hz0 hz1 hz2 rfl Em _ v.length (flat v) rfl (by exact how.alloc _) (EN w1 0) 1 1 [Z ((n:Int)-65536),.string ⟨#[]⟩] rfl rfl (by exact Jd w1 ((n:Int)-65536,⟨#[]⟩)) (by exact KF ((n:Int)-65536,⟨#[]⟩)) JG U (by have:=HI1.DG.size;simp;omega) ?_))
  intro O1 w2 hown hgrow _ _;have⟨ta,tn,tc,hts⟩:=Ei hown;subst hts;have HI2:=Dx (Qg (x:=((n:Int)-65536,⟨#[]⟩)) HI1 HL hown hgrow);clear hown hgrow how;go_wp2;go_loopw [2,3,11,17] (λsv ov okv kv wr=>sv=.string R/\ov=.slice ta tn tc/\okv=.bool true/\kv=Z 0/\wr=w2) (λ_ _ _ _ _=>0)
  case atStart=>exact⟨rfl,rfl,rfl,rfl,rfl⟩
  case round=>
   obtain⟨rfl,rfl,rfl,rfl,rfl⟩:=hrel;go_wp2
   go_ret3
   exact⟨_,rfl,HI2⟩
 ·exact afh
 ·exact afh
theorem aae(s:Ab)(p q:Nat)(S R:Ab)(n:Nat)(a c:UInt8)(O:Ad)(w w0:Aa)(v:List It)(l l':Ac)(hi:Int)(A:World->Prop)(B:Value->ByteArray->World->Prop)(T:p<s.size)(m:nx s p=117)(hT:bM S R n a c)(_hn:n<65536)(aS:¬hi<(n:Int))(Q:IR w0 v l O w)(D:l'.length<l.length)
  (HM:∀w,D7 243 #[.string s,Z p] w (.tuple #[Z 0,Z hi]) λw'=>DY w w')
  (HP:∀w,D7 244 #[.string s,Z p,Z n] w (Z q) λw'=>DY w w')
  (HR:∀O1 M,IR w0 (v++[((n:Int),⟨#[]⟩)]) l' O1 M->ET 210 #[.string s,Z q,.string R,O1] M (Sd A B)):
  ET 210 #[.string s,Z p,.string S,O] w (Sd A B):=by
 have t1:((((s[p]).toNat:Nat):Int)==97)=false:=by rw[<-Gd T];simp;omega
 have t2:((((s[p]).toNat:Nat):Int)==114)=false:=by rw[<-Gd T];simp;omega
 have t3:((((s[p]).toNat:Nat):Int)==115)=false:=by rw[<-Gd T];simp;omega
 have t4:((((s[p]).toNat:Nat):Int)==117)=true:=by rw[<-Gd T];simp;omega
 have⟨aN,i0,i1,hN,e2⟩:=hT;have h2:¬(S.size:Int)<2:=U;have⟨aa,ab,ac⟩:=Ll HM HP HR;have⟨j0,ae,al,am,an⟩:=A1 LQ;have⟨oa,on,oc,ah⟩:=Ei Q.own;subst ah;have⟨HI,HL⟩:=FU Q D;have aV:=Q.len;clear m HM HP HR Q D;go_enter func210,ntmps210;go_wp2_with fail
 go_quiet (fail);go_wp2_with fail
 refine cm (aa _) λM u=>?_
 have h:=(HI.drewN _).go u;have how:=h.own;have j:=Dx h;clear u h;go_wp2_with (at_builtin;go_must (refine AQ _ rfl (.tmp 119) (.tmp 122) 44 rfl w0.heap.size 106 j0 _ 2 24 underlying44 ae al am an rfl Em _ v.length (flat v) rfl (by exact how.alloc _) (EN M 0) 1 1 [Z n,.string ⟨#[]⟩] rfl rfl (by exact Jd M ((n:Int),⟨#[]⟩)) (by exact KF ((n:Int),⟨#[]⟩)) JG U (by have:=j.DG.size;simp;omega) ?_))
 intro O1 w2 g f _ _;have⟨ta,tn,tc,ak⟩:=Ei g;subst ak;have X:=Dx (Qg (x:=((n:Int),⟨#[]⟩)) j HL g f);clear g f how;go_wp2_with fail
 refine cm (ab _) λw3 y=>?_
 have HC:=Dx (ac _ _ (X.go y));clear y;go_wp2_with fail
 refine HC.mono ?_;rintro e w4 (⟨O3,S3,rfl,hA⟩|⟨O3,S3,rfl,hB⟩)
 ·have HA:=Dx hA;clear hA;go_wp2
  go_ret3
  exact Aj ⟨_,_,rfl,HA⟩
 ·have HB:=Dx hB;clear hB;go_wp2
  go_ret3
  exact Am ⟨_,_,rfl,HB⟩
theorem aad(s:Ab)(p:Nat)(S R:Ab)(n:Nat)(a c:UInt8)(O:Ad)(w w0:Aa)(v:List It)(l l':Ac)(hi:Int)(A:World->Prop)(I:Nat->Value->ByteArray->World->Prop)(T:p<s.size)(hs:s.size<=40)(u:nx s p=113)(hT:bM S R n a c)(hn:n<65536)(aS:¬hi<(n:Int))(hI:IR w0 v l O w)(M:l'.length<l.length)
  (HM:∀w,D7 243 #[.string s,Z p] w (.tuple #[Z 0,Z hi]) λw'=>DY w w')
  (H0:∀O1 w1,IR w0 (v++[((n:Int),⟨#[]⟩)]) l' O1 w1->I 0 O1 R w1)
  (HK:∀k O S w,k<n->I k O S w->ET 210 #[.string s,Z ((p:Int)+2),.string S,O] w (Sd A (I (k+1)))):
  ET 210 #[.string s,Z p,.string S,O] w (Sd A (I n)):=by
 have t1:((((s[p]).toNat:Nat):Int)==97)=false:=by rw[<-Gd T];simp;omega
 have t2:((((s[p]).toNat:Nat):Int)==114)=false:=by rw[<-Gd T];simp;omega
 have t3:((((s[p]).toNat:Nat):Int)==115)=false:=by rw[<-Gd T];simp;omega
 have t4:((((s[p]).toNat:Nat):Int)==117)=false:=by rw[<-Gd T];simp;omega
 have t5:((((s[p]).toNat:Nat):Int)==113)=true:=by rw[<-Gd T];simp;omega
 have aw:p<40:=U;have⟨aN,i0,i1,hN,e2⟩:=hT;have h2:¬(S.size:Int)<2:=U;have⟨ah,ae,aa⟩:=Ll HM HK H0;have⟨j0,al,ao,aq,ar⟩:=A1 LQ;have⟨oa,on,oc,am⟩:=Ei hI.own;subst am;have⟨HI,HL⟩:=FU hI M;have aV:=hI.len;clear u HM HK H0 hI M;go_enter func210,ntmps210;go_wp2_with fail
 go_quiet (fail);go_wp2_with fail
 refine cm (ah _) λw1 D=>?_
 have j:=(HI.drewN _).go D;have how:=j.own;have m:=Dx j;clear D j;go_wp2_with (at_builtin;go_must (refine AQ _ rfl (.tmp 119) (.tmp 122) 44 rfl w0.heap.size 106 j0 _ 2 24 underlying44 al ao aq ar rfl Em _ v.length (flat v) rfl (by exact how.alloc _) (EN w1 0) 1 1 [Z n,.string ⟨#[]⟩] rfl rfl (by exact Jd w1 ((n:Int),⟨#[]⟩)) (by exact KF ((n:Int),⟨#[]⟩)) JG U (by have:=m.DG.size;simp;omega) ?_))
 intro O1 w2 g f _ _;have⟨ta,tn,tc,an⟩:=Ei g;subst an;have ab:=Dx (aa _ _ (Qg (x:=((n:Int),⟨#[]⟩)) m HL g f));clear g f how;go_wp2;go_loopw [2,3,11,17] (λsv ov X kv wr=>∃(k:Nat) (S':Ab),k<=n/\kv=Z k/\sv=.string S'/\((X=.bool true/\I k ov S' wr)\/(X=.bool false/\A wr))) (λ_ _ _ kv _=>n-(intOf kv).toNat)
 case atStart=>exact⟨0,_,AV _,rfl,rfl,Aj ⟨rfl,ab⟩⟩
 case round=>
  obtain⟨k,S',hk,rfl,rfl,hrel⟩:=hrel;rcases hrel with ⟨rfl,h⟩|⟨rfl,y⟩
  ·by_cases Q:k<n
   ·have HC:=Dx (ae k _ _ _ Q h);clear h;go_wp2_with fail
    refine HC.mono ?_;rintro e w3 (⟨O3,S3,rfl,y⟩|⟨O3,S3,rfl,B⟩)
    ·have HA:=Dx y;clear y;go_wp2;go_roundw
     case rel=>exact⟨k+1,S3,U,Kc,rfl,Am ⟨rfl,HA⟩⟩
     case measure=>exact Kt
    ·have ac:=Dx B;clear B;go_wp2;go_roundw
     case rel=>exact⟨k+1,S3,U,Kc,rfl,Aj ⟨rfl,ac⟩⟩
     case measure=>exact Kt
   ·obtain rfl:k=n:=U;have ad:=Dx h;clear h;go_wp2
    go_ret3
    exact Am ⟨_,_,rfl,ad⟩
  ·have HA:=Dx y;clear y;by_cases Q:k<n
   ·go_wp2
    go_ret3
    exact Aj ⟨_,_,rfl,HA⟩
   ·go_wp2
    go_ret3
    exact Aj ⟨_,_,rfl,HA⟩
def RA(w0:Aa)(r:Option OJ)(w':Aa):Prop:=r=none/\Below w0.heap.size w0 w'
def RB(w0:Aa)(r:Option OJ)(O':Ad)(S':Ab)(w':Aa):Prop:=∃l' v',r=some (l',v')/\S'=str l'/\IR w0 v' l' O' w'
def Ye(s:Ab)(w0:Aa)(f:Nat):Prop:=∀(p:Nat) (l:Ac) (v:List It) (O:Ad) (w:Aa),N4 s f p->IR w0 v l O w ->
 Calls prog 210 #[.string s,Z p,.string (str l),O] w (Sd (RA w0 (Es Fx Jf (nx s) f p (l,v))) (RB w0 (Es Fx Jf (nx s) f p (l,v))))
theorem RB.go{r:Option OJ}{S:Ab}(h:RB w0 r O S w)(j:DY w w'):RB w0 r O S w':=by
 have⟨m,u,e,f,g⟩:=h;exact⟨m,u,e,f,g.go j⟩
theorem UM{s:Ab}{f:Nat}(T:Ye s w0 f){qs:List Nat}{k q:Nat}(M:qs[k]?=some q)(D:N4 s f q)(x:OJ)(O:Ad)(S:Ab)(w:Aa)(h:RB w0 (Gt (Es Fx Jf (nx s) f) (qs.take k) x) O S w):
  ET 210 #[.string s,Z q,.string S,O] w (Sd (RA w0 (Gt (Es Fx Jf (nx s) f) qs x)) (RB w0 (Gt (Es Fx Jf (nx s) f) (qs.take (k+1)) x))):=by
 obtain⟨m,u,y,rfl,B⟩:=h;have Q:Gt (Es Fx Jf (nx s) f) (qs.take (k+1)) x=Es Fx Jf (nx s) f q (m,u):=by rw[Wj M,y];rfl
 refine(T q m u O w D B).mono ?_;rintro e w' (⟨g,j,rfl,hn,X⟩|⟨g,j,rfl,hB⟩)
 ·grind [Sd,RA,Wi]
 ·exact Am ⟨g,j,rfl,by rw[Q];exact hB⟩
theorem fq{r r':Option OJ}{f:Option OJ}(h:r=f)(g:r'=f):∀e w',Sd (RA w0 r) (RB w0 r') e w'->Sd (RA w0 f) (RB w0 f) e w':=by grind
theorem aaQ(s:Ab)(f p n:Nat):Ht (FZ (nx s p)) (FD (nx s) f p) n=KO (FZ (nx s p)) n/\¬KO (FZ (nx s p)) n<FZ (nx s p):=by grind [Ht,KO,FZ,FD]
theorem tM(s:Ab)(f p:Nat)(ho:N4 s (f+1) p)(hs:s.size<=40)(j:¬nx s p=97)(e:¬nx s p=114)(g:¬nx s p=115):
  ∀w,D7 243 #[.string s,Z p] w (.tuple #[Z (FZ (nx s p)),Z (FD (nx s) f p)]) λw'=>DY w w':=by
 intro w;have hp:=ho.lt;exact afz
theorem oh(s:Ab)(w0:Aa)(hs:s.size<=40):∀f,Ye s w0 f:=by
 intro f;induction f with
 |zero=>intro p l v O w ho;have:=ho.fuel;omega
 |succ f ih=>
  intro p l v O w ho M;have hp:=ho.lt;have av:=Jj (nx s) f p;by_cases B:nx s p=97
  ·have aa:p+1<s.size/\49<=nx s (p+1)/\nx s (p+1)<=57/\N4 s f (p+2):=by
    exact adN
   obtain⟨n,hn⟩:∃n,n=nx s (p+1)-48:=⟨_,rfl⟩;have y:Es Fx Jf (nx s) (f+1) p (l,v)=Gt (Es Fx Jf (nx s) f) (List.replicate n (p+2)) (l,v):=by simp[Es,B,hn]
   refine(UE s p n (str l) O w (RA w0 (Gt (Es Fx Jf (nx s) f) (List.replicate n (p+2)) (l,v))) (λk=>RB w0 (Gt (Es Fx Jf (nx s) f) ((List.replicate n (p+2)).take k) (l,v))) hp (Aj B) U ⟨l,v,rfl,rfl,M⟩ (λk O S w w' h hb=>h.go hb) (λw'=>?_) (λk hk=>⟨p+2,λw'=>?_,λO S w h=>UM ih (by rw[Be,Ay hk]) aa.2.2.2 _ _ _ _ h⟩)).mono (fq y.symm ?_);all_goals grind [Xl,U5]
  ·by_cases g:nx s p=114
   ·have hl:WH s f p:=⟨Aj g,ho⟩;have y:Es Fx Jf (nx s) (f+1) p (l,v)=Gt (Es Fx Jf (nx s) f) (Pt.EW (nx s) f p) (l,v):=by simp[Es,g]
    refine(UE s p (Pt.EW (nx s) f p).length (str l) O w (RA w0 (Gt (Es Fx Jf (nx s) f) (Pt.EW (nx s) f p) (l,v))) (λk=>RB w0 (Gt (Es Fx Jf (nx s) f) ((Pt.EW (nx s) f p).take k) (l,v))) hp (Am g) U ⟨l,v,rfl,rfl,M⟩ (λk O S w w' h hb=>h.go hb) (λw'=>Xm s f p w' hl hs) (λk hk=>?_)).mono (fq y.symm ?_)
    ·obtain⟨q,hq⟩:∃q,(Pt.EW (nx s) f p)[k]?=some q:=⟨_,Ah hk⟩;refine⟨q,λw'=>?_,λO S w h=>UM ih hq (JQ hl q (Ap hq)).2 _ _ _ _ h⟩;have h:=aX s f p k w' hl hs U;have ad:Gj (Pt.EW (nx s) f p) (k:Int)=q:=by all_goals grind [Gj]
     rw[ad]at h;exact h
    ·rw[y,Cw]
   ·by_cases ak:2<=l.length
    ·match l,M,ak with
     |a :: c :: r,M,_=>
      have hT:=ags a c r;have hn:=Xv a c;have ah:=M.len;simp only[A4]at ah;by_cases j:nx s p=115
      ·have y:Es Fx Jf (nx s) (f+1) p (a :: c :: r,v)=if E5 a c<=14/\E5 a c+E5 a c % 2<=r.length then some (r.drop (E5 a c+E5 a c % 2),v++[(0,str (r.take (E5 a c)))]) else none:=by simp[Es,j,Jf]
       generalize E5 a c=n at hT hn y;by_cases D:n<=14/\n+n % 2<=r.length
       ·rw[Ay D]at y;refine(gq s p (str (a :: c :: r)) (str r) (str (r.take n)) (str (r.drop (n+n % 2))) n a c O w w0 v (a :: c :: r) (r.drop (n+n % 2)) hp j hT D.1 (by rw[Er];exact D.2) (by rw[Ho];simp) (by rw[Ho,Er,A7 (by rw[A9];omega)]) M (by rw[A9];simp only[A4];omega)).mono ?_;rintro e w' ⟨O1,rfl,h⟩;exact Am ⟨_,_,rfl,_,_,y,rfl,h⟩
       ·rw[Ao D]at y;refine(gp s p (str (a :: c :: r)) (str r) n a c O w hp j hT (by rw[Er];omega) hn).mono ?_;rintro e w' ⟨rfl,q,rfl⟩;exact Aj ⟨_,_,rfl,y,Ed M.DG q⟩
      ·have y:Es Fx Jf (nx s) (f+1) p (a :: c :: r,v)=(Fx (FZ (nx s p)) (FD (nx s) f p) (a :: c :: r,v)).bind λx=>Gt (Es Fx Jf (nx s) f) (Ir (nx s) f p x.1) x.2:=by rw[KR _ _ _ _ _ j B g]
       have⟨te,tl⟩:=aaQ s f p (E5 a c);have hR:Fx (FZ (nx s p)) (FD (nx s) f p) (a :: c :: r,v)=if FD (nx s) f p<KO (FZ (nx s p)) (E5 a c) then none else some (KO (FZ (nx s p)) (E5 a c),(r,v++[(KO (FZ (nx s p)) (E5 a c),⟨#[]⟩)])):=by all_goals grind [Fx]
       rw[hR]at y;have HM:=tM s f p ho hs B g j;generalize E5 a c=n at hT hn y tl;by_cases m:FD (nx s) f p<KO (FZ (nx s p)) n
       ·rw[Ay m]at y;refine cm (gm s p (str (a :: c :: r)) (str r) n a c O w _ _ _ hp B g j hT hn rfl m HM) λw' hb=>?_
        exact Aj ⟨_,_,rfl,y,M.DG.trans (hb.mono M.DG.size)⟩
       ·rw[Ao m,Di]at y;by_cases u:nx s p=117
        ·have X:FZ (nx s p)=0:=by rw[u];rfl
         have ae:KO (FZ (nx s p)) n=n:=by rw[X];simp[KO]
         have hl:WH s f p:=⟨Am u,ho⟩;have ar:FD (nx s) f p=((Pt.EW (nx s) f p).length:Int)-1:=by simp[FD,u]
         rw[ae]at y m;rw[X]at HM;obtain⟨q,hq⟩:∃q,(Pt.EW (nx s) f p)[n]?=some q:=⟨_,Ah U⟩;have ad:Gj (Pt.EW (nx s) f p) (n:Int)=q:=by all_goals grind [Gj]
         have ao:=JQ hl q (Ap hq);have T:Es Fx Jf (nx s) (f+1) p (a :: c :: r,v)=Es Fx Jf (nx s) f q (r,v++[((n:Int),⟨#[]⟩)]):=by
          rw[y];simp only[Ir,Ay u,ad,Gt];all_goals grind
         rw[T];refine aae s p q (str (a :: c :: r)) (str r) n a c O w w0 v (a :: c :: r) r _ _ _ hp u hT hn m M (by simp only[A4];omega) HM (λw'=>?_) (λO1 w1 h1=>ih q r _ O1 w1 ao.2 h1);all_goals grind [M7]
        ·by_cases Q:nx s p=113
         ·have X:FZ (nx s p)=0:=by rw[Q];rfl
          have ae:KO (FZ (nx s p)) n=n:=by rw[X];simp[KO]
          rw[ae]at y m;rw[X]at HM;have aa:N4 s f (p+2):=by
           rcases J2 ho with (h|h|h|h)|⟨h,_⟩|⟨h,_⟩|⟨h,h1,h2,h3,h4⟩|h
           ·omega
           ·omega
           ·omega
           ·omega
           ·omega
           ·omega
           ·exact h4
           ·have:=h.here;omega
          have T:Es Fx Jf (nx s) (f+1) p (a :: c :: r,v)=Gt (Es Fx Jf (nx s) f) (List.replicate n (p+2)) (r,v++[((n:Int),⟨#[]⟩)]):=by all_goals grind [Ir]
          refine(aad s p (str (a :: c :: r)) (str r) n a c O w w0 v (a :: c :: r) r _ (RA w0 (Gt (Es Fx Jf (nx s) f) (List.replicate n (p+2)) (r,v++[((n:Int),(⟨#[]⟩:Ab))]))) (λk=>RB w0 (Gt (Es Fx Jf (nx s) f) ((List.replicate n (p+2)).take k) (r,v++[((n:Int),(⟨#[]⟩:Ab))]))) hp hs Q hT hn m M (by simp only[A4];omega) HM (λO1 w1 h1=>⟨_,_,rfl,rfl,h1⟩) (λk O S w hk h=>?_)).mono (fq T.symm ?_)
          ·have h2:=UM ih (qs:=List.replicate n (p+2)) (q:=p+2) (by rw[Be,Ay hk]) aa (r,v++[((n:Int),⟨#[]⟩)]) O S w h;all_goals grind
          all_goals grind
         ·have T:Es Fx Jf (nx s) (f+1) p (a :: c :: r,v)=some (r,v++[(KO (FZ (nx s p)) n,⟨#[]⟩)]):=by all_goals grind [Ir,Gt]
          refine(gi s p (str (a :: c :: r)) (str r) n a c O w w0 v (a :: c :: r) r _ _ _ hp B g j u Q hT hn rfl m M (by simp only[A4];omega) HM).mono ?_;rintro e w' ⟨O1,rfl,h⟩;exact Am ⟨_,_,rfl,_,_,T,rfl,h⟩
    ·have m:Es Fx Jf (nx s) (f+1) p (l,v)=none:=by all_goals grind [Es,Jf,Fx]
     refine(Z4 s p (str l) O w hp B g (by rw[Er];exact ak)).mono ?_;rintro e w' ⟨rfl,rfl⟩;exact Aj ⟨_,_,rfl,m,M.DG⟩
end Go.Proofs.YtblomippkddgiaaGreatDoor.V
