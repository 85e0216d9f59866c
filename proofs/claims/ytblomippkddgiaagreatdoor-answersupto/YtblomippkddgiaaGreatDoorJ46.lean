import Derived.Test.YtblomippkddgiaaGreatDoorJ45
import Derived.Test.YtblomippkddgiaaGreatDoorJ42
set_option maxRecDepth 100000
set_option maxHeartbeats 2000000
namespace Go.Proofs.YtblomippkddgiaaGreatDoor
open Go.Proofs.Tryz
open Go.RowKit
variable {f t:ByteArray}{F:D9}{Eo:Int}{l:List R.En}{arg v:List R.It}{bs:List UInt8}{n x:Nat}{M:R.Bk}{s:R.Sv}{G:R.Wd}{A:Value}{w:World}
theorem fQ(w:Aa)(L:Ad)(y D B ac q:Nat)(ps:List ByteArray)(h4:ps.length<=4)(ha:0<B)(N:Int)(hN:N=(q:Int))(hq:q<ps.length)(cN:w.cell? (Y y D)=some (Z N))(H:Hid (ET 249 #[L] w λe j=>(∃a c,e=.returned (.slice a ps.length c)/\ps.length<=c/\c<=maxLen/\kH j a ps)/\DY w j)):
  ET 221 #[Z 1,L,Z 1,.slice (some (Y y D)) B ac] w λe j=>∃O,e=.returned O/\V.Row j w.heap.size O (Hm q ps q)/\DY w j:=by
  have⟨i0,hi,hz0,hz1,hz2⟩:=A1 T8;have aa:0<(B:Int):=U;have l1:=Gv cN;have HQ:=(by omega:q<=ps.length);subst hN;have k1:(q:Int)<(ps.length:Int):=U;have k2:0<=(q:Int):=U;obtain⟨m,T⟩:∃m,ps.length=m:=⟨_,rfl⟩;rw[T]at H k1 HQ h4 hq;have HM:=Dx T;clear T;go_enter func221,ntmps221;go_wp2_with (go_at_call 249;refine(Dw H).mono ?_;rintro e w1 ⟨⟨a,c,rfl,ad,X,h⟩,u⟩;have Q:=(u.cell (p:=Y y D) l1).trans cN;have l2:=Gv Q;have hbs:=u.size;have HB:=Dx u;have HTX:=Dx h;have g1:(q:Int)<=c:=U;have HS:=Dx (CW (base:=w1.heap.size) (e:=106) (size:=2) w1 #[Z q,.string ⟨#[]⟩] 1 (Ar _) JG rfl);clear u h X)
  exact tl4
theorem nG(w:Aa)(L:Ad)(u B y ac q:Nat)(ps:List ByteArray)(h4:ps.length<=4)(ha:0<y)(N:Int)(hN:(ps.length:Int)<=N)(hq:q=ps.length)(T:w.cell? (Y u B)=some (Z N))(H:Hid (ET 249 #[L] w λe j=>(∃a c,e=.returned (.slice a ps.length c)/\ps.length<=c/\c<=maxLen/\kH j a ps)/\DY w j)):
  ET 221 #[Z 1,L,Z 1,.slice (some (Y u B)) y ac] w λe j=>∃O,e=.returned O/\V.Row j w.heap.size O (Hm q ps q)/\DY w j:=by
  have⟨i0,hi,hz0,hz1,hz2⟩:=A1 T8;have aa:0<(y:Int):=U;have l1:=Gv T;have X:=(by omega:q<=ps.length);have ad:¬N<(q:Int):=U;rw[<-hq]at H X h4;have HM:=hq.symm;clear hN hq;go_enter func221,ntmps221;go_wp2_with (go_at_call 249;refine(Dw H).mono ?_;rintro e w1 ⟨⟨a,c,rfl,ae,Q,h⟩,m⟩;have D:=(m.cell (p:=Y u B) l1).trans T;have l2:=Gv D;have hbs:=m.size;have HB:=Dx m;have HTX:=Dx h; have HS:=Dx (CW (base:=w1.heap.size) (e:=106) (size:=2) w1 #[Z q,.string ⟨#[]⟩] 1 (Ar _) JG rfl);clear m h Q)
  exact tl4
theorem Lg.entry{V:Ad}(h:Lg w F V l):∃T X,V=.slice T l.length X/\∀(k:Nat) (e:R.En),l[k]?=some e->∃lb A,T=some (Y lb 0)/\EB w lb (k*7+4) (Z e.Eo)/\EB w lb (k*7+5) A/\Gg w F A e.arg:=by
 have⟨es,u,B,f3⟩:=h.row;have j:es.length=l.length:=by rw[<-u,AX]
 have⟨a,c,m⟩:=E8 B;rw[j]at m;refine⟨a,c,m,λk e D=>?_⟩;have hk:=GG D;obtain⟨y,Q,rfl⟩:=K4 u D;have⟨lb,X,O,_,g,_⟩:=Jx Pz U B Q;rw[m,j]at O;cases O;exact⟨lb,y.2.1,rfl,g 4 _ U rfl,g 5 _ U rfl,(f3 y (Ap Q)).1⟩
theorem Gg.first(h:Gg w F A v)(y:v≠[]):∃e g j,A=.slice (some (Y e g)) v.length j/\v.length<=j/\w.cell? (Y e g)=some (Z (R.IJ v 0))/\w.cell? (Y e (g+1))=some (.string (R.Tt v 0)):=by
 rcases h with ⟨u,_⟩|⟨b,off,cap,m,_,u,B,_,D,O⟩;all_goals grind [World.cell?,R.IJ,R.Tt]
theorem RG:∀(l:List R.En) (n:Int) (e:R.En),R.Fh (l++[e]) n=if e.Eo=0 then (R.Fh l n+R.IJ e.arg 0+65536) % 65536 else if R.IJ e.arg 0=1 then 0 else R.Fh l n
 |[],n,e=>rfl
 |x :: l,n,e=>by
  rw[BB,R.Fh,RG l _ e];rfl
theorem Py:∀(l:List R.En) (n:Int),0<=n/\n<65536->0<=R.Fh l n/\R.Fh l n<65536
 |[],_,h=>h
 |x :: l,n,h=>by
  rw[R.Fh];refine Py l _ ?_;split
  ·omega
  ·split<;>omega
theorem Yz{V:Ad}(h:Lg w F V l)(hl:l.length<=1000000000)(D:∀e∈l,e.arg≠[]/\-65536<=R.IJ e.arg 0/\R.IJ e.arg 0<=65536):D7 248 #[V] w (Z (R.Fh l 0)) λw'=>w'=w:=by
 obtain⟨O,Q,rfl,B⟩:=h.entry;have:=Vo w O l.length Q (λk=>R.Fh (l.take k) 0) U rfl (λk=>Py _ _ U) (λk hk=>by
  obtain⟨e,g⟩:∃e,l[k]?=some e:=⟨_,Ah hk⟩;have⟨lb,A,T,X,q3,q4⟩:=B k e g;have⟨a1,a2⟩:=D e (Ap g);obtain⟨j,u,m,rfl,b2,y,_⟩:=q4.first a1;refine⟨e.Eo,R.IJ e.arg 0,j,u,e.arg.length,m,⟨lb,T,X,q3,Cg.2 a1,y⟩,a2,?_⟩;show R.Fh (l.take (k+1)) 0=_;rw[Bh,g,Cm,RG])
 simpa using this
theorem Gg.rest{e g B y:Nat}(h:Gg w F (.slice (some (Y e g)) B y) v):(v.length=2->ItW w (.slice (some (Y e g)) 0 0) (v.drop 2))/\ItW w (.slice (some (Y e (g+4))) (B-2) (y-2)) (v.drop 2):=by
 rcases h with ⟨_,m⟩|⟨b,off,cap,D,_,m,X,_,h4,h5⟩
 ·cases m
 ·cases m;refine⟨λh=>⟨_,_,by rw[A9,h],Aj (List.drop_eq_nil_of_le U)⟩,?_⟩;by_cases O:v.drop 2=[]
  ·exact⟨_,_,by rw[A9],Aj O⟩
  ·refine⟨_,_,by rw[A9],Am ⟨e,g+4,rfl,λj u hu=>?_⟩⟩;have Q:=GG hu;rw[Y7]at Q;obtain⟨x,T⟩:∃x,(v.drop 2)[j / 2]?=some x:=⟨_,Ah U⟩;have ht:=Jh (f:=Ik) (n:=2) (λ_=>rfl) (v.drop 2) (j / 2) (j % 2) x T U
   grind [Ik,World.cell?]
theorem Uf(l:List R.En)(e:R.En)(d:Int):∀MP,R.I6 (l++[e]) d MP=if R.IJ e.arg 0=d then e.arg.drop 2 else R.I6 l d MP:=by
 induction l with
 |nil=>intro MP;rfl
 |cons x l ih=>intro MP;rw[BB,R.I6,ih];rfl
theorem sJ{V:Ad}(h:Lg w F V l)(hl:l.length<=1000000000)(d:Int)(X:∀e∈l,2<=e.arg.length):ET 250 #[V,Z d] w λe w'=>(∃V,e=.returned V/\ItW w V (R.I6 l d []))/\w'=w:=by
 obtain⟨la,lc,rfl,Q⟩:=h.entry;have:=fY w la l.length lc d (λk V=>ItW w V (R.I6 (l.take k) d [])) U ⟨none,0,rfl,Aj rfl⟩ (λk hk=>by
  obtain⟨e,j⟩:∃e,l[k]?=some e:=⟨_,Ah hk⟩;have⟨lb,A,q1,q2,q3,m⟩:=Q k e j;have a1:=X e (Ap j);have a2:e.arg≠[]:=λq=>by rw[q]at a1;simp at a1
  obtain⟨u,B,y,rfl,D,O,_⟩:=m.first a2;have g:l.take (k+1)=l.take k++[e]:=by rw[Bh,j,Cm]
  refine⟨e.Eo,R.IJ e.arg 0,u,B,e.arg.length,y,⟨lb,q1,q2,q3,U,O⟩,a1,D,λhd=>⟨λhc=>?_,λ_=>?_⟩,λhd V T=>?_⟩
  ·show ItW w _ (R.I6 (l.take (k+1)) d []);rw[g,Uf,Ay hd];exact m.rest.1 U
  ·show ItW w _ (R.I6 (l.take (k+1)) d []);rw[g,Uf,Ay hd];exact m.rest.2
  ·show ItW w _ (R.I6 (l.take (k+1)) d []);rw[g,Uf,Ao hd];exact T)
 simpa using this
def Ou(l:List R.En):List ByteArray:=(l.filter λe=>decide (e.Eo=0)).map λe=>R.Tt e.arg 0
theorem V3(l:List R.En)(e:R.En):Ou (l++[e])=if e.Eo=0 then Ou l++[R.Tt e.arg 0] else Ou l:=by grind [Ou]
theorem fB{V:Ad}(h:Lg w F V l)(hl:l.length<=1000000000)(u:∀e∈l,e.arg≠[]):ET 249 #[V] w λe y=>(∃a c,e=.returned (.slice a (R.Fe l).length c)/\(R.Fe l).length<=c/\c<=maxLen/\kH y a (R.Fe l))/\DY w y:=by
 obtain⟨X,lc,rfl,T⟩:=h.entry;have:=XN w X l.length lc (λk=>Ou (l.take k)) U rfl (λk=>by
  unfold Ou;rw[AX];exact Br (List.length_filter_le _ _) (by rw[Bv];omega)) (λk hk=>by
  obtain⟨e,g⟩:∃e,l[k]?=some e:=⟨_,Ah hk⟩;have⟨lb,A,q1,q2,q3,q4⟩:=T k e g;obtain⟨B,O,D,rfl,b2,_,Q⟩:=q4.first (u e (Ap g));have m:l.take (k+1)=l.take k++[e]:=by rw[Bh,g,Cm]
  refine⟨e.Eo,R.Tt e.arg 0,⟨lb,B,O,e.arg.length,D,q1,q2,q3,Cg.2 (u e (Ap g)),Q⟩,λj=>?_,λj=>?_⟩
  ·show Ou (l.take (k+1))=_;rw[m,V3,Ay j]
  ·show Ou (l.take (k+1))=_;rw[m,V3,Ao j])
 simp only[Cw]at this;exact this
structure aeh(Dz:Int)(l:List R.En)(Eo:Int)(arg:List R.It):Prop where
 len:l.length<=1000000000
 kinds:Dz=0\/Dz=1\/Dz=2
 args:∀e∈l,e.arg≠[]/\e.arg.length<=1000
 nil:arg≠[]
 nums:Dz=0->(∀e∈l,-65536<=R.IJ e.arg 0/\R.IJ e.arg 0<=65536)/\-65536<=R.IJ arg 0/\R.IJ arg 0<=65536
 ae5:Dz=1->Eo=0\/(Eo=1/\0<=R.IJ arg 0)
 two:Dz=2->∀e∈l,2<=e.arg.length
theorem mV(l:List R.En):(R.Fe l).length<=4:=by
 unfold R.Fe;simp only[A9];omega
theorem Zb:∀(l:List R.En) (d:Int) (MP:List R.It),MP.length<=1000->(∀e∈l,e.arg.length<=1000)->(R.I6 l d MP).length<=1000
 |[],_,_,h,_=>h
 |e :: l,d,MP,h,ha=>by
  rw[R.I6];refine Zb l d _ ?_ (λg j=>ha g (BQ _ j));split
  ·have:=ha e (Co ..);rw[A9];omega
  ·exact h
theorem aD(g:List ByteArray)(n q:Nat)(j:q=min n g.length):Hm q g q=R.num ((g.take n).length:Int) :: (g.take n).map λs=>(0,s):=by
 unfold Hm R.num;have e:g.take n=g.take q:=by
  rw[j];rcases Nat.le_total n g.length with h|h
  ·rw[Ct h]
  ·rw[Nat.min_eq_right h,A7 h,Cw]
 rw[e,Bv,show min q g.length=q by omega]
theorem rB{X:Ad}{Dz:Int}(h:Lg w F X l)(T:Gg w F A arg)(hk:aeh Dz l Eo arg):ET 221 #[Z Dz,X,Z Eo,A] w λe Q=>∃O,e=.returned O/\V.Row Q w.heap.size O (R.Hw Dz l Eo arg)/\DY w Q:=by
 obtain⟨m,y,u,rfl,_,c0,_⟩:=T.first hk.nil;have B:=Cg.2 hk.nil;unfold R.Hw;rcases hk.kinds with rfl|rfl|rfl
 ·rw[Ay rfl];have⟨n1,n2⟩:=hk.nums rfl;exact ZL w X Eo (R.Fh l 0) (R.IJ arg 0) m y arg.length u B c0 (Py l 0 U) n2 (Dx (Yz h hk.len λe j=>⟨(hk.args e j).1,n1 e j⟩))
 ·rw[Ao Em,Ay rfl];have g:=fB h hk.len (λe j=>(hk.args e j).1);have D:=mV l;rcases hk.ae5 rfl with rfl|⟨rfl,hN⟩
  ·rw[Ay rfl];refine fP w X _ (R.Fe l).length D (Dx (g.mono ?_));rintro e Q ⟨⟨a,c,rfl,_⟩,hb⟩;exact⟨⟨a,c,rfl⟩,hb⟩
  ·rw[Ao Em];simp only;by_cases hq:R.IJ arg 0<((R.Fe l).length:Int)
   ·rw[<-aD (R.Fe l) (R.IJ arg 0).toNat (R.IJ arg 0).toNat U];exact fQ w X m y arg.length u (R.IJ arg 0).toNat (R.Fe l) D B (R.IJ arg 0) U U c0 (Dx g)
   ·rw[<-aD (R.Fe l) (R.IJ arg 0).toNat (R.Fe l).length U];exact nG w X m y arg.length u (R.Fe l).length (R.Fe l) D B (R.IJ arg 0) U rfl c0 (Dx g)
 ·rw[Ao Em,Ao Em];exact fO w X Eo (R.IJ arg 0) m y arg.length u (R.I6 l (R.IJ arg 0) []) (Zb l _ _ Ev (λe j=>(hk.args e j).2)) B c0 (Dx (sJ h hk.len _ (hk.two rfl)))
structure acG(Dz Eo:Int)(arg:List R.It):Prop where
 nil:arg≠[]
 len:arg.length<=1000
 num:Dz=0->-65536<=R.IJ arg 0/\R.IJ arg 0<=65536
 shw:Dz=1->Eo=0\/(Eo=1/\0<=R.IJ arg 0)
 two:Dz=2->2<=arg.length
 kinds:Dz=0\/Dz=1\/Dz=2
theorem VD{Dz:Int}(e:R.IY Dz Eo=some (f,t))(j:R.Fi f arg=some bs):acG Dz Eo arg:=by
 unfold R.IY at e;split at e
 ·rename_i h;obtain⟨rfl,rfl⟩:=h;cases e;obtain⟨x,rfl,m,g,u⟩:=R.qF j;exact ab1
 split at e
 ·rename_i h;obtain⟨rfl,rfl⟩:=h;cases e;obtain⟨x,rfl,m,g,u⟩:=R.qD j;exact ab1
 split at e
 ·grind [acG,R.jf]
 split at e
 ·rename_i h;obtain⟨rfl,rfl⟩:=h;cases e;obtain⟨x,rfl,m,g,u⟩:=R.qE j;exact⟨Ev,Ev,Ev,λ_=>Am ⟨rfl,by show 0<=x.1;omega⟩,Ev,Am (Aj rfl)⟩
 split at e
 ·rename_i h;obtain⟨rfl,rfl⟩:=h;cases e;obtain⟨d,k,a,rfl,m,g,u,y⟩:=R.je j;have hk:=g.2.2;exact⟨Ev,Fy,Ev,Ev,λ_=>by simp,Am (Am rfl)⟩
 ·cases e
theorem sV(g:R.Inv M G)(h:G.Dy[n]?=some s):R.OI s.Dz s.log:=λe j=>by
 have⟨d',m,g1,g2,g3,g4,g5,g6⟩:=((g.lg n s h).each e j).some;have hcd':=(g.bk _ d' g1).1;have hk':R.NQ G.Dy d'.D5=s.Dz:=by
  rw[g2];unfold R.NQ;rw[show ((n:Int)+1-1).toNat=n by omega,h];rfl
 exact abZ
theorem aeC(j:R.Inv M G)(y:G.Dy[n]?=some s)(u:R.IY s.Dz Eo=some (f,t))(m:R.Fi f arg=some bs):aeh s.Dz s.log Eo arg:=by
 have h:=VD u m;have hl:∀e∈s.log,acG s.Dz e.Eo e.arg:=λe g=>by
  grind [sV,VD]
 exact⟨by have:=j.Xo y;omega,h.kinds,λe g=>⟨(hl e g).nil,(hl e g).len⟩,h.nil,λhk=>⟨λe g=>(hl e g).num hk,h.num hk⟩,h.shw,λhk e g=>(hl e g).two hk⟩
theorem adG{k p:Int}(hk:0<=k/\k<=2)(h:R.IY k p=some (f,t))(w:Aa):D7 155 #[Z k,Z p] w (.tuple #[.string f,.string t,Z 0]) λe=>e=w:=by grind [Qn,Wm]
theorem Yr{e:Ac}(h:R.Fi t v=some e):(V.Pt.O7 (V.nx t) t.size).1=0/\V.IG t v=some e:=by grind [V.JO,R.Fi,V.IG]
structure DnQ(w:Aa)(la:Af)(ln lc:Nat)(es:List (R.En×Value×Value))(en:R.En)(da:Af)(dn dc:Nat)(a:Af)(q cp:Nat)(W1:Aa):Prop where
 k:DF (λk=>(Value.slice la ln lc).ownBlock=some k) w W1
 r:∃oa on oc,V.Row W1 w.heap.size (.slice oa on oc) en.arg/\W1.ownsRow 0 98 7 (.slice a q cp) (es.length+1) (tab IQ (es++[(en,.slice oa on oc,.slice da dn dc)]))
 d:V.Row W1 w.heap.size (.slice da dn dc) en.DU
 n:∀j,(Value.slice a q cp).ownBlock=some j->(Value.slice la ln lc).ownBlock=some j\/w.heap.size<=j
theorem eY{W:Aa}{la:Af}{ln lc:Nat}{es:List (R.En×Value×Value)}{en:R.En}{Q h:Af}{on T dn m:Nat}(hb:DY w W)(D:w.ownsRow 0 98 7 (.slice la ln lc) es.length (tab IQ es))(hl:es.length<=3000000)(hO:V.Row W w.heap.size (.slice Q on T) en.arg)(hD:V.Row W w.heap.size (.slice h dn m) en.DU):
  ∃a q cp W1,(Builtin.append_ #[211,211] 211 #[.slice la ln lc,EJ W.heap.size 1 1]).run prog (W.drew.alloc (.cells #[Z en.DJ,Z en.DR,Z en.DZ,Z en.D4,Z en.Eo,.slice Q on T,.slice h dn m] 98))=.ok (.slice a q cp) W1/\DnQ w la ln lc es en h dn m a q cp W1:=by
 have⟨i0,al,am,an,ao⟩:=A1 su;have aa:DY W (W.drew.alloc (.cells #[Z en.DJ,Z en.DR,Z en.DZ,Z en.D4,Z en.Eo,.slice Q on T,.slice h dn m] 98)):=(AA _ _).drew.alloc (Ar _) _;have g:=hb.trans (aa.mono hb.size);have ad:(W.drew.alloc (.cells #[Z en.DJ,Z en.DR,Z en.DZ,Z en.D4,Z en.Eo,.slice Q on T,.slice h dn m] 98)).heap[W.heap.size]?=some (.cells (IQ (en,.slice Q on T,.slice h dn m)).toArray 98 (0,0)):=AF W.drew _;generalize W.drew.alloc (.cells #[Z en.DJ,Z en.DR,Z en.DZ,Z en.D4,Z en.Eo,.slice Q on T,.slice h dn m] 98)=W' at *;have⟨v',W1,ae,y,hg,_,ak⟩:=run_append_own_at (P:=prog) (w:=W') 0 211 211 98 i0 _ 7 88 underlying211 al am an ao rfl Em (.slice la ln lc) es.length (tab IQ es) (ER D g) (EN W 0) 1 1 (IQ (en,.slice Q on T,.slice h dn m)) rfl (λj u hj=>by rw[Bc,Cr];exact E7 ad hj) (by simp[IQ,Value.oneCell']) JG U (AV _);obtain⟨a,q,cp,rfl⟩:=Ei y;have ac:DF (λk=>(Value.slice la ln lc).ownBlock=some k) W' W1:=⟨hg.os,hg.tape,hg.output,hg.size,λk hk hn=>hg.block k hk (λe=>hn e.symm)⟩;have hk:=(DF.D6 g _).trans ac;have X:∀{O:Ad} {u:List V.It},V.Row W w.heap.size O u->V.Row W1 w.heap.size O u:=λhR=>by
  have h1:=ER hR aa;exact ac.row h1 (λj hj e=>OP (B:=w.heap.size) (B':=0) h1 (ER D g) Em j hj e)
 refine⟨a,q,cp,W1,ae,hk,⟨Q,on,T,X hO,?_⟩,X hD,λj hj=>?_⟩
 ·rw[Jn];exact y
 ·rcases ak with e|e
  ·exact Aj (e ▸ hj)
  ·rw[hj]at e;have:=Option.some.inj e;exact Am (by have:=g.size;omega)
theorem RM.done{v:RV}{w:Aa}(h:RM x v F G w)(hI:R.Inv M G){i:Nat}(hi:i<9)(h2:(R.EZ G i).DK=2):
  D7 169 #[Ey x,Z i] w Ep λw'=>∃v' F',RM x v' F' (R.Oa G i) w'/\D8 F F' w w':=by
 have⟨d,n,s,rb,hd⟩:=hI.W9 hi h2;rw[hd.eq h2];generalize R.EZ G i=r at hd h2 ⊢;have bi:=hI.Lr hi hd h2;have⟨z,hz,cD⟩:=K4 h.zs hd.sv;have bU:=cD;subst bU;have hzl:v.zs.length=G.Dy.length:=by rw[<-h.zs,AX]
 have Lp:=hI.wf.sv;have cu:=GG hz;have⟨g,cap,hV,cQ,ao,co⟩:=Jx MD U h.Iw hz;have aa:=h.Iw;rw[hV]at aa;have⟨cI,T⟩:=J3 aa rfl;have ba:=h.I4.I4 z (Ap hz);have⟨es,he,aw,br⟩:=ba.row;have⟨la,ln,lc,ak⟩:=Ei aw;have ci:es.length<=3000000:=by
  have:=hI.Xo hd.sv;rw[<-he,AX]at this;exact this
 have X:=aw;rw[ak]at X;have b9:=hI.wf.R7 z.1 (Ap hd.sv);have av:=hd.ok.El h2;have⟨m1,m2⟩:=R.Zk (R.Rj hd.sig);have cS:2<=r.DC.length:=by rw[av];simp[R.Cd.J9,EU]
 have cz:(str r.DC).size=r.DC.length:=Er _;have bL:2<=(str r.DC).size:=U;have ar:=GG hd.DN;have cR:=hI.ws.ll;obtain⟨en,ac⟩:∃en,en=R.Gx G i r d z.1:=⟨_,rfl⟩;have b6:en.arg=d.arg:=by rw[ac];rfl
 have aN:en.DU=R.Hw z.1.Dz z.1.log d.Eo d.arg:=by rw[ac];rfl
 have aV:en.arg≠[]:=by rw[b6];exact qG hd.sig hd.cd.bs
 have bt:en.DU≠[]:=by rw[aN];exact jw _ _ _ _
 have ch:=aeC hI hd.sv hd.sig hd.cd.bs;have⟨bp,bq⟩:=Yr hd.byt;have bb:EB w v.L (i / 3) (Z (G.DX.getD (i / 3) 0)):=by
  refine E7 h.DX ?_;exact abT
 have B:∀{b:Nat} {ys:Array Value} {t:Ag},w.heap[b]?=some (.cells ys t (0,0))->t≠98->¬(Value.slice la ln lc).ownBlock=some b:=λm ht=>Fg X m (λq=>ht q.symm)
 have hC:DnC w x v.Sn v.L g v.zs.length cap i n (i / 3) (G.DX.getD (i / 3) 0) z.1.Dz r la ln lc:=by
  refine⟨ED h.bx 7 _ (by rw[<-hV];rfl),EI h.bx 10,EI h.bx 11,Kg h.DN hd.DN,bb,ao 0 _ U rfl,?_,λo=>Eb h.DN,co,by rw[hd.ok.D5,hd.D5],cu,U,hi,rfl,λe=>ES h.DN (e ▸ h.bx) Em rfl,λe=>ES h.DN (e ▸ T) Em rfl,λe=>ES T (e ▸ h.bx) Em rfl,λe=>ES h.DX (e ▸ T) Em rfl,λe=>ES h.DX (e ▸ h.DN) Em rfl⟩;rw[<-ak];exact ao 2 _ U rfl
 refine fR w x v.Sn v.L g v.zs.length cap i n (i / 3) (i % 3) (G.DX.getD (i / 3) 0) z.1.Dz d.Eo r la ln lc (str r.DC) (str d.bs) d.LO d.to 0 0 rb _
  (λoa on oc w'=>V.Row w' w.heap.size (.slice oa on oc) en.arg/\DY w w')
  (λoa on oc da dn dc w'=>V.Row w' w.heap.size (.slice oa on oc) en.arg/\V.Row w' w.heap.size (.slice da dn dc) en.DU/\DY w w')
  (λda dn dc a q Q W1=>DnQ w la ln lc es en da dn dc a q Q W1) hC rfl rfl bL ?_ ?_ (Dx λW=>adG b9 hd.sig W) (Dx λW m=>?_) (Dx ?_) (Dx ?_) (Dx ?_) (Dx ?_)
 ·rw[LB,cz,A7 Ev,av,m2]
 ·rw[T6,T6,av];exact m1
 ·have hu:=V.V5 d.LO d.bs W;rw[R.Kq hd.cd.bs]at hu;refine hu.mono ?_;rintro e w' ⟨O,rfl,hR,ab⟩;obtain⟨oa,on,oc,rfl⟩:=Ei hR;refine⟨oa,on,oc,rfl,⟨?_,m.trans (ab.mono m.size)⟩,m.trans (ab.mono m.size)⟩;rw[b6];exact V.GL hR m.size
 ·rintro oa on oc W ⟨hO,m⟩;have ct:Lg W.drew (λk=>F k\/(Value.slice oa on oc).ownBlock=some k) (.slice la ln lc) z.1.log:=by
   rw[<-ak];exact ba.keep (DF.D6 m (λ_=>False)).drew (λ_ _ _ q=>q) (λ_ q=>Aj q)
  have cq:Gg W.drew (λk=>F k\/(Value.slice oa on oc).ownBlock=some k) (.slice oa on oc) d.arg:=by
   rw[<-b6];exact((ND hO aV).1).keep (DF.refl (λ_=>False) W).drew (λ_ _ _ _ q=>q) (λ_ q=>Am q)
  refine(rB ct cq ch).mono ?_;rintro e w' ⟨O,rfl,hR,ab⟩;obtain⟨da,dn,dc,rfl⟩:=Ei hR;have b5:=(AA W.heap.size W).drew.trans ab;refine⟨da,dn,dc,rfl,⟨ER hO b5,?_,m.trans (b5.mono m.size)⟩,m.trans (b5.mono m.size)⟩;rw[aN];exact V.GL hR m.size
 ·rintro oa on oc da dn dc W ⟨hO,hD,m⟩;have⟨a,q,Q,W1,b2,D⟩:=eY (en:=en) m X ci hO hD;have e0:en.DJ=((i / 3:Nat):Int):=by rw[ac];rfl
  have e1:en.DR=G.DX.getD (i / 3) 0:=by rw[ac];rfl
  have e2:en.DZ=((i % 3:Nat):Int):=by rw[ac];rfl
  have e3:en.D4=r.D4:=by rw[ac];rfl
  have e4:en.Eo=d.Eo:=by rw[ac];rfl
  rw[e0,e1,e2,e3,e4]at b2;refine⟨a,q,Q,W1,b2,λk hk=>?_,D⟩;rcases hk with rfl|rfl|rfl|rfl
  ·exact D.k.block _ (Dv h.bx) (B h.bx Em)
  ·exact D.k.block _ (Dv h.DN) (B h.DN Em)
  ·exact D.k.block _ (Dv T) (B T Em)
  ·exact D.k.block _ (Dv h.DX) (B h.DX Em)
 ·intro da dn dc a q Q W1 W D m;have ah:=D.k.at T (B T Em);have bf:=D.k.at h.DN (B h.DN Em);have d1:=(EV (b:=g) (o:=n*3+2) (.slice a q Q)).row D.d (λj hj e=>Fg D.d ah Em (e ▸ hj));have cy:=(EV (w:=W1) (b:=g) (o:=n*3+2) (.slice a q Q)).at bf (λe=>ES bf (e ▸ ah) Em rfl);have d2:=(EV (b:=v.Sn) (o:=i*10+4) (Z 3)).row d1 (λj hj e=>Fg d1 cy Em (e ▸ hj));have cC:((W1.setCell (Y g (n*3+2)) (.slice a q Q)).setCell (Y v.Sn (i*10+4)) (Z 3)).heap.size=W1.heap.size:=Ev;rw[<-cC]at m;have d3:=ER d2 m;refine V.Ux d.to bp _ en.DU W (V.KW d3) ?_ ?_
  ·have:=KQ hd.byt;rw[aN];omega
  ·rw[aN];exact bq
 ·intro da dn dc a q Q W1 W W' D m ab;have⟨oa,on,oc,hO,b1⟩:=D.r;have ah:=D.k.at T (B T Em);have bf:=D.k.at h.DN (B h.DN Em);have aS:=D.k.row aa (λj hj e=>OP aa X Em j hj e);have bz:=Qr MD aS (y':=({z.1 with log:=z.1.log++[en]},.slice a q Q)) hz (j:=2) U (u:=.slice a q Q) rfl;have b7:DF (λk=>v.V.ownBlock=some k\/z.2.ownBlock=some k) w (W1.setCell (Y g (n*3+2)) (.slice a q Q)):=by
   refine(D.k.mono (λk _ e=>Am (by rw[ak];exact e))).trans ((EV (.slice a q Q)).mono (λk _ e=>Aj ?_));rw[hV,e];rfl
  have kg:DF (λk=>k=g) W1 (W1.setCell (Y g (n*3+2)) (.slice a q Q)):=EV _;have cg:=kg.row hO (λj hj e=>Fg hO ah Em (e ▸ hj));have ca:=kg.row D.d (λj hj e=>Fg D.d ah Em (e ▸ hj));have bj:=kg.row b1 (λj hj e=>Fg b1 ah Em (e ▸ hj));have⟨iO,lO⟩:=ND cg aV;have⟨iD,lD⟩:=ND ca bt;have lN:=λj hj=>Ba bj j hj
  have kF:=b7;have az:∀{b:Nat} {ys:Array Value},w.heap[b]?=some (.cells ys 106 (0,0))->¬(v.V.ownBlock=some b\/z.2.ownBlock=some b):=λm e=>by
   rcases e with e|e
   ·exact Fg h.Iw m Em e
   ·exact Fg aw m Em e
  have ce:Lg (W1.setCell (Y g (n*3+2)) (.slice a q Q)) (λk=>F k\/(Value.slice oa on oc).ownBlock=some k\/(Value.slice da dn dc).ownBlock=some k\/(Value.slice a q Q).ownBlock=some k) (.slice a q Q) (z.1.log++[en]):=by
   refine⟨⟨es++[(en,.slice oa on oc,.slice da dn dc)],by rw[C8,he];rfl,by rw[AJ];exact bj,λy hy=>?_⟩,λj hj=>Am (Am (Am hj))⟩;rcases Bj.1 hy with q'|q'
   ·exact⟨(br y q').1.keep kF (λb c7 _ m=>az m) (λ_ q=>Aj q),(br y q').2.keep kF (λb c7 _ m=>az m) (λ_ q=>Aj q)⟩
   ·rw[Bg.1 q'];exact⟨iO.keep (DF.refl (λ_=>False) _) (λ_ _ _ _ q=>q) (λ_ q=>Am (Aj q)),iD.keep (DF.refl (λ_=>False) _) (λ_ _ _ _ q=>q) (λ_ q=>Am (Am (Aj q)))⟩
  have⟨r1,r2⟩:=h.adb hz (V':=.slice a q Q) (l':=z.1.log++[en]) (F2:=λk=>F k\/(Value.slice oa on oc).ownBlock=some k\/(Value.slice da dn dc).ownBlock=some k\/(Value.slice a q Q).ownBlock=some k) (λk hk=>by
   rcases hk with e|e|e|e
   ·exact Aj e
   ·exact Am (lO k e).1
   ·exact Am (lD k e).1
   ·rcases D.n k e with f|f
    ·exact Aj (ba.own k (by rw[ak];exact f))
    ·exact Am f) (λ_ q=>Aj q) (λk hk=>by
   rcases hk with e|e|e|e
   ·exact Ai (h.lt k e) b7.size
   ·exact(lO k e).2
   ·exact(lD k e).2
   ·exact(lN k e).2) b7 (by rw[hV];exact bz) ce (λj hj=>by
   rcases D.n j hj with f|f
   ·exact Aj (by rw[ak];exact f)
   ·exact Am f)
  have⟨s1,s2⟩:=r1.JE (sn:=G.DN.set i {r with DK:=3}) (EV _) (Fz r1.DN hd.DN (j:=4) (u:=Z 3) U rfl);have bT:((W1.setCell (Y g (n*3+2)) (.slice a q Q)).setCell (Y v.Sn (i*10+4)) (Z 3)).heap.size=W1.heap.size:=Ev;rw[<-bT]at m;have t1:=s1.DG m;have⟨u1,u2⟩:=t1.JE (sn:=(G.DN.set i {r with DK:=3}).set i {r with DK:=3,DU:=rb}) (EV _) (Fz t1.DN (AO ar) (j:=5) (u:=.string (str rb)) U rfl);have⟨u3,u4⟩:=u1.JE (sn:=((G.DN.set i {r with DK:=3}).set i {r with DK:=3,DU:=rb}).set i {r with DK:=3,DU:=rb,at':=0}) (EV _) (Fz u1.DN (AO (by simpa using ar)) (j:=6) (u:=Z 0) U rfl);have bS:((W.setCell (Y v.Sn (i*10+5)) (.string (str rb))).setCell (Y v.Sn (i*10+6)) (Z 0)).heap.size=W.heap.size:=Ev;rw[<-bS]at ab;have aq:=u3.DG ab;rw[A5,A5]at aq;have cc:R.Lr G i r d n z.1 rb={G with Dy:=G.Dy.set n {z.1 with log:=z.1.log++[en]},DN:=G.DN.set i {r with DK:=3,DU:=rb,at':=0}}:=by
   rw[ac];rfl
  rw[<-cc]at aq;have bg:=bi.ws;have be:(R.Lr G i r d n z.1 rb).DN[i]?=some {r with DK:=3,DU:=rb,at':=0}:=AO ar;have⟨q1,q2,q3,q4⟩:=(bg.sn i _ be).MY rfl;refine cm (aq.tell bi.wf.JC bg.ll be hi ⟨q3,q4⟩ q2 (Jg bg be rfl)) ?_;rintro w' ⟨v',F',n1,n2⟩;exact⟨rfl,v',F',n1,(((((r2.trans s2).trans (D8.D6 _ m)).trans u2).trans u4).trans (D8.D6 _ ab)).trans n2⟩
structure SvD(x:Nat)(F:D9)(G:R.Wd)(w:Aa)(M:R.Bk)(js:List R.Jb)(w1:Aa):Prop where
 rm:∃v,RM x v F {G with EF:=js} w1
 Nl:D8 F F w w1
 inv:R.Inv M {G with EF:=js}
 eq:R.FQ G=R.Hy G js
theorem RW.serve{v:RV}(h:RW x v F G w)(hI:R.Inv M G):
  D7 98 #[Ey x] w (Z (R.FQ G).1) λO=>∃v' B,RW x v' B (R.FQ G).2 O/\D8 F B w O:=by
 have ad:=hI.FQ;have fin:∀{O:Aa},(∃v' B,RM x v' B (R.FQ G).2 O/\D8 F B w O)->∃v' B,RW x v' B (R.FQ G).2 O/\D8 F B w O:=λ⟨v',B,a,b⟩=>⟨v',B,a.whole ad.wf ad.ws,b⟩
 refine(Z7 (SvD x F G w M) (λO=>(R.FQ G).1=0/\∃v' B,RM x v' B (R.FQ G).2 O/\D8 F B w O) (λO=>(R.FQ G).1=19/\∃v' B,RM x v' B (R.FQ G).2 O/\D8 F B w O) ⟨⟨v,h.toRM⟩,D8.refl F w,hI,rfl⟩ (Dx ?_) (Dx ?_) (Dx ?_)).mono ?_
 ·intro js W m;have⟨v1,r⟩:=m.rm;unfold Lx;rcases r.I4.EF with ⟨h1,h2⟩|⟨g,off,cap,aS,h1,_⟩
  ·have ah:js=[]:=h1;rw[EI r.bx 12];show (match some v1.J with|some (.slice _ n _)=>n|_=>0)=_;rw[h2,ah];rfl
  ·rw[EI r.bx 12];show (match some v1.J with|some (.slice _ n _)=>n|_=>0)=_;rw[h1]
 ·intro W m;have⟨v1,r⟩:=m.rm;refine⟨?_,?_,v1,F,?_,m.Nl⟩
  ·rcases r.I4.EF with ⟨h1,h2⟩|⟨g,off,cap,aS,h1,_⟩
   ·exact⟨none,0,ED r.bx 12 _ (by rw[<-h2];rfl)⟩
   ·have ah:v1.J=.slice (some (Y g (off*4))) 0 cap:=h1;exact⟨some (Y g (off*4)),cap,ED r.bx 12 _ (by rw[<-ah];rfl)⟩
  ·rw[m.eq];rfl
  ·rw[m.eq];exact r
 ·intro j js W m;have⟨v1,r⟩:=m.rm;have⟨g,o,cap,hJ,bb,av,az,u,aN,ao⟩:=Yb.first r.I4.EF;have⟨⟨be,bf⟩,bi,bj⟩:=m.inv.ws.jb j Co;obtain⟨D,ak⟩:∃D:Nat,j.DJ=(D:Int):=⟨j.DJ.toNat,U⟩;obtain⟨X,am⟩:∃X:Nat,j.DZ=(X:Int):=⟨j.DZ.toNat,U⟩;have aw:3*D+X<9:=U;have bp:=m.inv.ws.sl;have b3:=m.inv.ws.ll;have hr:G.DN[3*D+X]?=some (R.EZ G (3*D+X)):=m.inv.K6 aw;have an:EB W v1.L D (Z (G.DX.getD D 0)):=by
   refine E7 r.DX ?_;have b7:G.DX.length=3:=b3;show (GK G.DX)[D]?=_;exact abT
  have Q:R.Km G j↔(R.EZ G (3*D+X)).DK=2/\(R.EZ G (3*D+X)).D4=j.D4/\G.DX.getD D 0=j.DR:=by
   unfold R.Km;rw[ak,am];rfl
  have ae:∀y∈js,y∈j :: js:=λy hy=>BQ _ hy
  have ar:R.Inv M {G with EF:=js}:=m.inv.QZ (js:=js) (by
   have:=m.inv.ws.jl;simp at this;show (js.length:Int)<=G.c.FF;omega) (λy hy=>⟨m.inv.ws.jb y (ae y hy),m.inv.jb y (ae y hy)⟩)
  have aq:Yb W F (NR g o js.length cap) js:=by
   by_cases aa:cap=1
   ·rw[show NR g o js.length cap=_ from Ay aa];exact aN aa
   ·rw[show NR g o js.length cap=_ from Ao aa];exact ao aa
  have T:∀W',Below W.heap.size (W.setCell (Y x 12) (NR g o js.length cap)) W'->∃v2,RM x v2 F {G with EF:=js} W'/\D8 F F w W':=λW' hb=>by
   have al:DF (λk=>k=x) W (W.setCell (Y x 12) (NR g o js.length cap)):=EV _;have b5:=Ek (off:=12) r.bx (NR g o js.length cap);have⟨a1,a2⟩:=r.jN (J:=NR g o js.length cap) (js:=js) (F2:=F) (λ_ q=>Aj q) (λ_ q=>q) (λk hf=>Ai (r.lt k hf) al.size) (al.mono (λ_ _ e=>Aj e)) b5 (aq.keep al (λaV _ e=>ES aV (e ▸ r.bx) Em rfl) (λ_ q=>q));have b4:(W.setCell (Y x 12) (NR g o js.length cap)).heap.size=W.heap.size:=Ev;rw[<-b4]at hb;exact⟨_,a1.DG hb,(m.Nl.trans a2).trans (D8.D6 F hb)⟩
  refine⟨g,o,cap,v1.Sn,v1.L,D,X,3*D+X,R.EZ G (3*D+X),G.DX.getD D 0,⟨⟨ED r.bx 12 _ (by rw[<-hJ];rfl),⟨av,az⟩,?_,?_,?_,?_,EI r.bx 10,EI r.bx 11,an,Kg r.DN hr,Eb r.bx,rfl,U,U,λe=>ES r.DN (e ▸ r.bx) Em rfl,λe=>ES r.DX (e ▸ r.bx) Em rfl⟩,λhw W' hb=>?_,λhw W' hb=>?_⟩⟩
  ·have:=u 0 _ rfl;rw[ak]at this;exact this
  ·have:=u 1 _ rfl;rw[am]at this;exact this
  ·exact u 2 _ rfl
  ·exact u 3 _ rfl
  ·have⟨v2,a1,a2⟩:=T W' hb;have hg:R.FQ G=(0,R.Oa {G with EF:=js} (3*D+X)):=by
    rw[m.eq];show (if R.Km G j then _ else _)=_;rw[Ay (Q.2 hw),ak,am];rfl
   rw[hg];refine cm (a1.done ar aw hw.1) ?_;rintro O ⟨v3,F3,b1,b2⟩;exact⟨rfl,rfl,v3,F3,b1,a2.trans b2⟩
  ·have⟨v2,a1,a2⟩:=T W' hb;refine⟨⟨v2,a1⟩,a2,ar,?_⟩;rw[m.eq];show (if R.Km G j then _ else _)=_;rw[Ao (λq=>hw (Q.1 q))]
 ·rintro e O (⟨rfl,h1,h2⟩|⟨rfl,h1,h2⟩)
  ·rw[h1];exact⟨rfl,fin h2⟩
  ·rw[h1];exact⟨rfl,fin h2⟩
end Go.Proofs.YtblomippkddgiaaGreatDoor
