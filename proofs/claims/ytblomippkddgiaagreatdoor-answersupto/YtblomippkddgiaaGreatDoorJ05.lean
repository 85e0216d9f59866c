import Derived.Test.YtblomippkddgiaaGreatDoorJ04
set_option maxRecDepth 100000
set_option maxHeartbeats 1000000
namespace Go.Proofs.YtblomippkddgiaaGreatDoor.V
open Go.Proofs.Tryz
open Go.RowKit
variable {s:ByteArray}{ks outs:List Bool}{v:List It}{qs:List Nat}{f i k p:Nat}{E:Nat→List It→GB}{g:Nat→Nat}{O:Value}{w w' w0:World}
abbrev Gk(n q:Nat):Value:=.agg #[Z n,Z q]
abbrev EQ(n q:Nat):Ending:=.panicked [{v:=.iface 86 (Gk n q),recovered:=false}]
theorem at_new(w:Aa)(s:Ab):At (w.alloc (.cells #[.string s,Z 0] 206)) w.heap.size s 0:=by
 show (w.heap.push _)[(zz w)]?=_;rw[Bz];rfl
theorem qK{v:Aa}{b:Nat}(hk:DF b (w.alloc IZ) v)(e:w.heap.size<=b):DY w v:=
 ((AA _ _).alloc (Ar _) IZ).trans ⟨hk.os,hk.tape,hk.output,hk.size,λk h=>hk.block k Fy U⟩
theorem adp(s:Ab)(j:s.size<=40)(w:Aa):ET 128 #[.pointer (some ⟨w.heap.size+1,0,none⟩)] ((w.alloc IZ).alloc (.cells #[.string s,Z 0] 206)) (Ja (w.heap.size+1) s (s.size+1) 0 ((w.alloc IZ).alloc (.cells #[.string s,Z 0] 206))):=by
 have h:=at_new (w.alloc IZ) s;have e:(w.alloc IZ).heap.size=zz w+1:=Ev;rw[e]at h;exact jX (w.heap.size+1) s j (s.size+1) 0 _ h U U
theorem uO(s:Ab)(w:Aa)(hs:s.size<=40)(hT:(Pt.ty (nx s) (s.size+1) 0).1=true)(hq:(Pt.ty (nx s) (s.size+1) 0).2=s.size)(h4:¬4<Pt.Lj (nx s) (s.size+1) 0):
  ET 78 #[.string s] w λe w'=>(∃c0 c1 c2,e=.returned (.agg #[c0,c1,c2])/\NP w' (λk=>w.heap.size<=k) (nx s) (s.size+1) 0 c0 c1 c2)/\DY w w':=by
 have H:=adp s hs w;unfold Ja at H;simp only[hT,CQ,hq]at H;clear hT hq;have hD:=λS c0 c1 c2 w' h=>lJ (nx s) (s.size+1) U 0 S c0 c1 c2 w' h
 generalize hd:Pt.Lj (nx s) (s.size+1) 0=d at *;have ak:d<=41:=by have:=dA (nx s) (s.size+1) 0;omega
 have HD:=Dx hD;clear hD hd;have ao:¬(4:Int)<d:=U;go_enter func78,ntmps78;go_wp2_with fail
 refine H.mono ?_;rintro e D ⟨c0,c1,c2,rfl,hk,ha,hr⟩;clear H;obtain⟨⟨B,rfl⟩,⟨x1,rfl⟩,⟨m,y,u,rfl⟩⟩:=GN hr;have hp:=λo=>(ha.alloc o).place
 have T:=((DF.refl (w.heap.size+1) (w.alloc IZ)).alloc _).trans hk;have T0:=((NZ.new w (.int .u8 0) (Z 0) (.slice none 0 0)).E0 T U).alloc (.cells #[.int .u8 B,Z x1,.slice m y u] 153);have T1:=NZ.new D (.int .u8 B) (Z x1) (.slice m y u);have aq:=T0.lt;have av:=ha.lt;have HR:=Dx hr;clear hr;go_wp2_with fail
 refine cm (HD _ _ _ _ _ (GM ((Hq.refl _ _).alloc _) HR)) λw2 j=>?_
 have M:∀k o,k<D.heap.size+1->w2.cell? (Y k o)=(D.alloc (.cells #[.int .u8 B,Z x1,.slice m y u] 153)).cell? (Y k o):=λk o hk=>j.cell (p:=Y k o) (by simpa using hk)
 have Q:∀k o,k<D.heap.size+1->w2.frozen? (Y k o)=(D.alloc (.cells #[.int .u8 B,Z x1,.slice m y u] 153)).frozen? (Y k o):=λk o hk=>j.frozen (p:=Y k o) (by simpa using hk)
 obtain⟨u0,u1,u2,v0,v1,v2⟩:=T0.facts;obtain⟨ac,ad,ae,y0,y1,y2⟩:=T1.facts;rw[<-M _ _ U]at u0 u1 u2 ac ad ae;rw[<-Q _ _ U]at v0 v1 v2 y0 y1 y2;clear M Q T0 T1;go_wp2;have aa:=j.size;have X:=hk.size;simp at aa X;refine Bm (v:=.agg #[.int .u8 B,Z x1,.slice m y u]) (by simp[results,results78,go_sem,u0,u1,u2]) rfl ⟨⟨_,_,_,rfl,?_⟩,?_⟩
 ·have h1:NP D (λk=>w.heap.size+2<=k) (nx s) (s.size+1) 0 (.int .u8 B) (Z x1) (.slice m y u):=by simpa using Dw HR
  have h2:=GM (((Hq.refl _ _).alloc (.cells #[.int .u8 B,Z x1,.slice m y u] 153)).trans (⟨j.size,λk _ hl=>j.block k hl⟩:Hq (λk=>w.heap.size+2<=k) _ w2)) h1;refine Ke (λk hk _=>by omega) (GM ?_ h2);exact(((Hq.refl _ _).setCell Ev _).setCell Ev _).setCell Ev _
 ·have h1:=(qK (T.alloc (.cells #[.int .u8 B,Z x1,.slice m y u] 153)) U).trans (j.mono Fy);exact((h1.setCell Ev _).setCell Ev _).setCell Ev _
theorem PU(n q:Nat)(w:Aa):(Instr.typeAssert (.iface 86 (Gk n q)) 20 86 true).run prog w=.ok (.tuple #[Gk n q,.bool true]) w:=EL
theorem Px(n q:Nat)(w:Aa):
  D7 34 #[.iface 86 (Gk n q)] w (Gk n q) λw'=>DY w w':=by
 exact abA
theorem Gv{o:Nat}{v:Ad}(h:w.cell? (Y k o)=some v):k<w.heap.size:=by grind [World.cell?]
theorem Pw(h j:Addr)(w:Aa):
  CallsD prog 204 #[.pointer (some h),.pointer (some j)] .returning w λe m w'=>e=.returned Ep/\m=.returning/\w'=w:=by
 refine callsD_of_wpS func204 rfl λc₀ cs hu=>?_
 apply wpS_seq;apply wpS_region;simp[wpOpsS,go_sem,recoverD,hu,ntmps204,Exit.thenS];rw[show (#[Value.pointer (some h),Value.pointer (some j)]++((Array.replicate 11 undef).setIfInBounds 2 (Value.nilIface)).setIfInBounds 0 (Value.nilIface))=#[.pointer (some h),.pointer (some j),.nilIface,undef,.nilIface,undef,undef,undef,undef,undef,undef,undef,undef] from rfl];exact adV
theorem X4(i:Nat)(ks:List Bool)(e:GB):vI i (Gu ks e)=vI (i+ks.length) e:=by
 cases e with
 |none=>rfl
 |some e=>obtain⟨a,b⟩:=e;simp only[Gu,vI,AJ];omega
theorem kK(s:Ab)(p n:Nat)(a:Af)(cap:Nat)(w:Aa):
  D7 259 #[.string s,Z p,.slice a n cap,Z n] w (Z (-1)) λw'=>DY w w':=by
 go_enter func259,ntmps259;go_wp2
 go_ret
 exact⟨rfl,AA _ _⟩
theorem yj(s:Ab)(p n i b off cap:Nat)(N:Int)(S:Ab)(w:Aa)(hp:p<s.size)(hi:i<n)(hn:n<=9000000000000)(e:EB w b (off+i*2) (Z N))(h:EB w b (off+i*2+1) (.string S))(hc:nx s p=115)(j:(N != 0)=false)(m:¬(14:Int)<(S.size:Int)):
  D7 259 #[.string s,Z p,.slice (some (Y b off)) n cap,Z i] w (Z ((i:Int)+1)) λw'=>DY w w':=by
 exact adT
theorem qB(s:Ab)(p n i b off cap:Nat)(N:Int)(S:Ab)(w:Aa)(hp:p<s.size)(hi:i<n)(hn:n<=9000000000000)(e:EB w b (off+i*2) (Z N))(h:EB w b (off+i*2+1) (.string S))(hc:nx s p=115)(j:(N != 0)=true):
  D7 259 #[.string s,Z p,.slice (some (Y b off)) n cap,Z i] w (Z (-1)) λw'=>DY w w':=by
 exact adT
theorem qC(s:Ab)(p n i b off cap:Nat)(N:Int)(S:Ab)(w:Aa)(hp:p<s.size)(hi:i<n)(hn:n<=9000000000000)(e:EB w b (off+i*2) (Z N))(h:EB w b (off+i*2+1) (.string S))(hc:nx s p=115)(j:(N != 0)=false)(m:(14:Int)<(S.size:Int)):
  D7 259 #[.string s,Z p,.slice (some (Y b off)) n cap,Z i] w (Z (-1)) λw'=>DY w w':=by
 exact adT
theorem qx(s:Ab)(p n i b off cap:Nat)(N:Int)(S:Ab)(w:Aa)(m:p<s.size)(hi:i<n)(hn:n<=9000000000000)(f0:EB w b (off+i*2) (Z N))(f1:EB w b (off+i*2+1) (.string S))(lo e:Int)(HM:∀w,D7 243 #[.string s,Z p] w (.tuple #[Z lo,Z e]) λw'=>DY w w')(h:((((s[p]).toNat:Nat):Int)==115)=false)(j:¬S.toList=[]):
  D7 259 #[.string s,Z p,.slice (some (Y b off)) n cap,Z i] w (Z (-1)) λw'=>DY w w':=by
 exact adM
theorem qz(s:Ab)(p n i b off cap:Nat)(N:Int)(S:Ab)(w:Aa)(m:p<s.size)(hi:i<n)(hn:n<=9000000000000)(f0:EB w b (off+i*2) (Z N))(f1:EB w b (off+i*2+1) (.string S))(lo e:Int)(HM:∀w,D7 243 #[.string s,Z p] w (.tuple #[Z lo,Z e]) λw'=>DY w w')(h:((((s[p]).toNat:Nat):Int)==115)=false)(j:S.toList=[])(hl:N<lo):
  D7 259 #[.string s,Z p,.slice (some (Y b off)) n cap,Z i] w (Z (-1)) λw'=>DY w w':=by
 exact adM
theorem qA(s:Ab)(p n i b off cap:Nat)(N:Int)(S:Ab)(w:Aa)(u:p<s.size)(hi:i<n)(hn:n<=9000000000000)(f0:EB w b (off+i*2) (Z N))(f1:EB w b (off+i*2+1) (.string S))(lo e:Int)(HM:∀w,D7 243 #[.string s,Z p] w (.tuple #[Z lo,Z e]) λw'=>DY w w')(h:((((s[p]).toNat:Nat):Int)==115)=false)(j:S.toList=[])(hl:¬N<lo)(m:e<N):
  D7 259 #[.string s,Z p,.slice (some (Y b off)) n cap,Z i] w (Z (-1)) λw'=>DY w w':=by
 exact adM
theorem bO(s:Ab)(p n i b off cap:Nat)(N:Int)(S:Ab)(w:Aa)(hp:p<s.size)(hi:i<n)(hn:n<=9000000000000)(y:EB w b (off+i*2) (Z N))(B:EB w b (off+i*2+1) (.string S))(lo h:Int)(u:∀w,D7 243 #[.string s,Z p] w (.tuple #[Z lo,Z h]) λw'=>DY w w')(Q:((((s[p]).toNat:Nat):Int)==115)=false)(X:S.toList=[])(hl:¬N<lo)(hh:¬h<N)(hu:((((s[p]).toNat:Nat):Int)==117)=false)(hq:((((s[p]).toNat:Nat):Int)==113)=false):
  D7 259 #[.string s,Z p,.slice (some (Y b off)) n cap,Z i] w (Z ((i:Int)+1)) λw'=>DY w w':=by
 have M:¬((n:Int)<=i):=U;have j:=Dx u;clear u;go_enter func259,ntmps259;go_wp2_with fail
 refine cm (j _) λm e=>?_
 have g0:Kk m w 0 (Z N):=(e.cell (p:=EN w 0) Ev).trans Vb;have g1:Kk m w 1 (.string S):=(e.cell (p:=EN w 1) Ev).trans Vb;have D:=F9.trans (e.mono Ev);have T:w.heap.size<m.heap.size:=by have:=e.size;simp at this;omega
 clear y B e;go_wp2;refine wp_loop_rounds 1 ?_;rw[rounds_succ];go_wp2
 go_ret
 exact⟨rfl,D⟩
theorem ym(s:Ab)(p n i b off cap:Nat)(N:Int)(S:Ab)(w:Aa)(hp:p<s.size)(hi:i<n)(hn:n<=9000000000000)(f0:EB w b (off+i*2) (Z N))(f1:EB w b (off+i*2+1) (.string S))(lo j:Int)(T:∀w,D7 243 #[.string s,Z p] w (.tuple #[Z lo,Z j]) λw'=>DY w w')(ab:((((s[p]).toNat:Nat):Int)==115)=false)(hS:S.toList=[])(hl:¬N<lo)(hh:¬j<N)(hu:((((s[p]).toNat:Nat):Int)==117)=true)(q:Nat)(Kw:Int)(X:∀w,D7 244 #[.string s,Z p,Z N] w (Z q) λw'=>DY w w')
  (HV:∀w',DY w w'->D7 239 #[.string s,Z q,.slice (some (Y b off)) n cap,Z ((i:Int)+1)] w' (Z Kw) λM=>DY w' M):
  D7 259 #[.string s,Z p,.slice (some (Y b off)) n cap,Z i] w (Z Kw) λw'=>DY w w':=by
 have⟨u,y⟩:=FU X HV;clear X HV;have aa:¬((n:Int)<=i):=U;have m:=Dx T;clear T;go_enter func259,ntmps259;go_wp2_with fail
 refine cm (m _) λQ e=>?_
 have g0:Kk Q w 0 (Z N):=(e.cell (p:=EN w 0) Ev).trans Vb;have g1:Kk Q w 1 (.string S):=(e.cell (p:=EN w 1) Ev).trans Vb;have hb:=F9.trans (e.mono Ev);have ac:w.heap.size<Q.heap.size:=by have:=e.size;simp at this;omega
 clear f0 f1 e;go_wp2_with fail
 refine cm (u _) λw2 B=>?_
 have h:=hb.trans (B.mono U);go_wp2_with fail
 refine cm (y _ h) λw3 D=>?_
 go_wp2
 go_ret
 exact⟨rfl,h.trans (D.mono h.size)⟩
theorem yh(s:Ab)(p n i b off cap:Nat)(N:Int)(S:Ab)(w:Aa)(hp:p<s.size)(hi:i<n)(hn:n<=9000000000000)(f0:EB w b (off+i*2) (Z N))(f1:EB w b (off+i*2+1) (.string S))(lo aa:Int)(HM:∀w,D7 243 #[.string s,Z p] w (.tuple #[Z lo,Z aa]) λw'=>DY w w')(b2:((((s[p]).toNat:Nat):Int)==115)=false)(v:List It)(E:Nat->List It->GB)(hv:v.length=n)(X:Mk (E (p+2)))(hS:S.toList=[])(hl:¬N<lo)(hh:¬aa<N)(hu:((((s[p]).toNat:Nat):Int)==117)=false)(hq:((((s[p]).toNat:Nat):Int)==113)=true)(aN:0<=N)(aS:N<=9)
  (HV:∀(j:Nat) w',j<=n->DY w w'->D7 239 #[.string s,Z ((p:Int)+2),.slice (some (Y b off)) n cap,Z j] w' (Z (vI j (E (p+2) (v.drop j)))) λav=>DY w' av) (b3:p<=40):
  D7 259 #[.string s,Z p,.slice (some (Y b off)) n cap,Z i] w (Z (vI (i+1) (E6 E (List.replicate N.toNat (p+2)) (v.drop (i+1))))) λw'=>DY w w':=by
 have⟨ah,ac,ae⟩:=Ll HV X hv;clear HV X hv;have b1:¬((n:Int)<=i):=U;have ad:=Dx HM;clear HM;go_enter func259,ntmps259;go_wp2_with fail
 refine cm (ad _) λw1 m=>?_
 have g0:Kk w1 w 0 (Z N):=(m.cell (p:=EN w 0) Ev).trans Vb;have g1:Kk w1 w 1 (.string S):=(m.cell (p:=EN w 1) Ev).trans Vb;have hb:=F9.trans (m.mono Ev);have aq:w.heap.size<w1.heap.size:=by have:=m.size;simp at this;omega
 clear f0 f1 m;go_wp2;go_loopw [3,12] (λiv kv wr=>∃k:Nat,k<=N.toNat/\kv=Z k/\iv=Z (vI (i+1) (E6 E (List.replicate k (p+2)) (v.drop (i+1))))/\DY w wr/\Kk wr w 0 (Z N)) (λ_ kv _=>N.toNat-(intOf kv).toNat)
 case atStart=>exact⟨0,AV _,rfl,by simp[E6,vI],hb,g0⟩
 case round=>
  obtain⟨k,hk,rfl,rfl,h,D⟩:=hrel;clear hb g0 g1 aq;by_cases aV:k<N.toNat
  ·have ao:(k:Int)<N:=U;cases hst:E6 E (List.replicate k (p+2)) (v.drop (i+1)) with
   |none=>
    have y:E6 E (List.replicate N.toNat (p+2)) (v.drop (i+1))=none:=by
     refine Re E (k:=k) ?_;rw[List.take_replicate,Ct hk];exact hst
    have Q:=Dx y;rw[show vI (i+1) none=-1 from rfl];clear hst y;go_wp2
    go_ret
    exact⟨by rw[Dw Q];rfl,h⟩
   |some e=>
    have⟨ks,r⟩:=e;have⟨h1,h2⟩:=Mc (E:=E) (List.replicate k (p+2)) (λq hq=>by rw[(C3.1 hq).2];exact Dw ac) _ _ _ hst;have u:E6 E (List.replicate (k+1) (p+2)) (v.drop (i+1))=Gu ks (E (p+2) r):=by
     rw[List.replicate_succ',OU,hst]
    rw[CF]at h1;rw[A9]at h2;have ar:=Dw ae;obtain⟨j,hj⟩:∃j,j=i+1+ks.length:=⟨_,rfl⟩;have an:j<=n:=U;have ab:vI (i+1) (some (ks,r))=(j:Int):=by simp only[vI];omega
    have B:vI (i+1) (E6 E (List.replicate (k+1) (p+2)) (v.drop (i+1)))=vI j (E (p+2) (v.drop j)):=by rw[u,X4,h1,<-hj]
    rw[ab];have T:=Dx B;clear hst h1 h2 u hj ab B ar;go_wp2_with fail
    refine cm (ah j _ an h) λw2 M=>?_
    have am:=h.trans (M.mono h.size);have ak:=(M.cell (p:=EN w 0) (Gv D)).trans D;rw[<-Dw T];clear M D h;go_wp2;go_roundw
    case rel=>exact⟨k+1,U,Kc,rfl,am,ak⟩
    case measure=>exact Kt
  ·obtain rfl:k=N.toNat:=U;have ao:¬((N.toNat:Nat):Int)<N:=U;go_wp2
   go_ret
   exact⟨rfl,h⟩
theorem toList_nil{S:Ab}:S.toList=[]↔S.size=0:=by
 rw[CH];constructor
 ·intro h;have e:=CG List.length h;rw[BO]at e;exact e
 ·intro h;exact BA (by rw[BO];exact h)
theorem U3{V:Ad}(E:Nat->List It->GB)(hp:p<s.size)(hg:nx s p=97\/nx s p=114)(hi:i<=v.length)(_hn:v.length<=9000000000000)(M:qs.length<=9)(m:∀q∈qs,Mk (E q))
  (y:∀w,D7 241 #[.string s,Z p] w (Z (qs.length:Int)) λw'=>DY w w')
  (D:∀(k q:Nat) w,qs[k]?=some q->D7 242 #[.string s,Z p,Z k] w (Z q) λw'=>DY w w')
  (B:∀(q j:Nat) w',q∈qs->j<=v.length->DY w w'->D7 239 #[.string s,Z q,V,Z j] w' (Z (vI j (E q (v.drop j)))) λu=>DY w' u):
  D7 239 #[.string s,Z p,V,Z i] w (Z (vI i (E6 E qs (v.drop i)))) λw'=>DY w w':=by
 have⟨H1,H2,H3,HEH⟩:=bE y D B m;clear y D B m;have key:∀(t:Bool),t=(nx s p==97)->(t=true->((((s[p]).toNat:Nat):Int) != 97)=false)/\(t=false->((((s[p]).toNat:Nat):Int) != 97)=true/\((((s[p]).toNat:Nat):Int) != 114)=false):=by
  exact acu
 have fin:∀(K:Prop),K->K:=λ_ h=>h
 clear fin;cases ht:(nx s p==97) with
 |true=>
  have Q:=(key true ht.symm).1 rfl;exact tl5
 |false=>
  have⟨Q,T⟩:=(key false ht.symm).2 rfl;exact tl5
theorem aU{V:Ad}{Kw:Int}(y:p<s.size)(j:¬nx s p=97)(e:¬nx s p=114)(u:D7 259 #[.string s,Z p,V,Z i] w (Z Kw) λw'=>DY w w'):
  D7 239 #[.string s,Z p,V,Z i] w (Z Kw) λw'=>DY w w':=by
 have B:((((s[p]).toNat:Nat):Int) != 97)=true:=by rw[<-Gd y];simp;omega
 have D:((((s[p]).toNat:Nat):Int) != 114)=true:=by rw[<-Gd y];simp;omega
 have h:=Dx u;clear u j e;go_enter func239,ntmps239;go_wp2_with fail
 refine cm h λM m=>?_
 go_wp2
 go_ret
 exact⟨rfl,m⟩
theorem H9{k0:List Bool}{r:List It}(h:EO g f p v=some (k0,qs,r)):Hg g (f+1) p v=Gu k0 (E6 (Hg g f) qs r):=by
 simp only[Hg,h]
theorem La(h:EO g f p v=none):Hg g (f+1) p v=none:=by
 simp only[Hg,h]
theorem kJ{V:Ad}(hs:s.size<=40)(hn:v.length<=9000000000000)(ih:VC s V v f)(ho:N4 s (f+1) p)(hi:i<=v.length)(hI:Ff w V v)(aq:¬nx s p=97)(an:¬nx s p=114):
  D7 259 #[.string s,Z p,V,Z i] w (Z (vI i (Hg (nx s) (f+1) p (v.drop i)))) λw'=>DY w w':=by
 have hp:=ho.lt;by_cases e:i<v.length
 ·obtain⟨x,hx⟩:∃x,v[i]?=some x:=⟨_,Ah e⟩;have av:v.drop i=x :: v.drop (i+1):=by grind [List.drop_eq_getElem_cons]
  have⟨b,off,cap,hV,ar,B,D⟩:=hI.at hx;subst hV;by_cases M:nx s p=115
  ·by_cases ac:x.1=0/\x.2.size<=14
   ·have u:EO (nx s) f p (v.drop i)=some ([true],[],v.drop (i+1)):=by grind [EO]
    rw[H9 u];have e1:vI i (Gu [true] (E6 (Hg (nx s) f) [] (v.drop (i+1))))=(i:Int)+1:=by simp[E6,Gu,vI]
    grind [yj]
   ·have u:EO (nx s) f p (v.drop i)=none:=by grind [EO]
    rw[La u];by_cases hN:x.1=0
    ·exact qC s p v.length i b off cap x.1 x.2 w hp e hn B D M (by simp[hN]) U
    ·exact qB s p v.length i b off cap x.1 x.2 w hp e hn B D M (by simpa using hN)
  ·have m:((((s[p]).toNat:Nat):Int)==115)=false:=by rw[<-Gd hp];simp;omega
   have HM:∀w,D7 243 #[.string s,Z p] w (.tuple #[Z (FZ (nx s p)),Z (FD (nx s) f p)]) λw'=>DY w w':=by
    intro w;exact afz
   by_cases ac:x.2.size=0/\FZ (nx s p)<=x.1/\x.1<=FD (nx s) f p
   ·have Q:=toList_nil.2 ac.1;have u:EO (nx s) f p (v.drop i)=some ([false],(if nx s p=117 then [Gj (Pt.EW (nx s) f p) x.1] else if nx s p=113 then List.replicate x.1.toNat (p+2) else []),v.drop (i+1)):=by grind [EO]
    rw[H9 u,X4];by_cases hu:nx s p=117
    ·have y:((((s[p]).toNat:Nat):Int)==117)=true:=by rw[G0 hp hu];rfl
     rw[Ay hu];have hl:WH s f p:=⟨Am hu,ho⟩;have ak:FZ (nx s p)=0:=by rw[hu];rfl
     have ah:FD (nx s) f p=((Pt.EW (nx s) f p).length:Int)-1:=by simp[FD,hu]
     have az:=Jj (nx s) f p;obtain⟨q,X⟩:∃q,(Pt.EW (nx s) f p)[x.1.toNat]?=some q:=⟨_,Ah U⟩;have al:Gj (Pt.EW (nx s) f p) x.1=q:=by grind [Gj]
     have am:=JQ hl q (Ap X);rw[al];refine ym s p v.length i b off cap x.1 x.2 w hp e hn B D _ _ HM m Q U U y q _ (λw'=>?_) (λw' T=>?_)
     ·grind [M7]
     ·have h:=ih q (i+1) w' am.2 e (hI.DG T);have e2:vI (i+1) (E6 (Hg (nx s) f) [q] (v.drop (i+1)))=vI (i+1) (Hg (nx s) f q (v.drop (i+1))):=by grind [E6,Gu]
      grind
    ·have y:((((s[p]).toNat:Nat):Int)==117)=false:=by rw[<-Gd hp];simp;omega
     rw[Ao hu];by_cases X:nx s p=113
     ·have aa:((((s[p]).toNat:Nat):Int)==113)=true:=by rw[G0 hp X];rfl
      rw[Ay X];have ak:FZ (nx s p)=0:=by rw[X];rfl
      have ah:FD (nx s) f p=(nx s (p+1):Int)-48:=by simp[FD,X]
      have ad:48<=nx s (p+1)/\nx s (p+1)<=57/\N4 s f (p+2):=by
       exact abj
      refine yh s p v.length i b off cap x.1 x.2 w hp e hn B D _ _ HM m v (Hg (nx s) f) rfl (Hs _ _ _) Q U U y aa U U (λj w' hj T=>?_) U;exact ih (p+2) j w' ad.2.2 hj (hI.DG T)
     ·have aa:((((s[p]).toNat:Nat):Int)==113)=false:=by rw[<-Gd hp];simp;omega
      rw[Ao X];exact bO s p v.length i b off cap x.1 x.2 w hp e hn B D _ _ HM m Q U U y aa
   ·have u:EO (nx s) f p (v.drop i)=none:=by grind [EO]
    rw[La u];by_cases Q:x.2.toList=[]
    ·have hz:=toList_nil.1 Q;by_cases hl:x.1<FZ (nx s p)
     ·exact qz s p v.length i b off cap x.1 x.2 w hp e hn B D _ _ HM m Q hl
     ·exact qA s p v.length i b off cap x.1 x.2 w hp e hn B D _ _ HM m Q hl U
    ·exact qx s p v.length i b off cap x.1 x.2 w hp e hn B D _ _ HM m Q
 ·obtain rfl:i=v.length:=U;have⟨a,cap,hV,_,_⟩:=hI;subst hV;have u:EO (nx s) f p (v.drop v.length)=none:=by grind [EO]
  rw[La u];exact kK s p v.length a cap w
theorem Wx(s:Ab)(V:Ad)(v:List It)(hs:s.size<=40)(hn:v.length<=9000000000000):∀f,VC s V v f:=by
 intro f;induction f with
 |zero=>intro p i w ho;have:=ho.fuel;omega
 |succ f ih=>
  intro p i w ho hi B;have T:=ho.lt;by_cases m:nx s p=97
  ·have y:p+1<s.size/\49<=nx s (p+1)/\nx s (p+1)<=57/\N4 s f (p+2):=by
    exact adN
   have M:EO (nx s) f p (v.drop i)=some ([],List.replicate (nx s (p+1)-48) (p+2),v.drop i):=by simp[EO,m]
   rw[H9 M,KU];refine U3 (Hg (nx s) f) T (Aj m) hi hn Fy (λq _=>Hs _ _ _) (λw'=>?_) (λk q w' u=>?_) (λq j w' u Q D=>?_)
   ·grind [Xl]
   ·grind [U5]
   ·obtain rfl:q=p+2:=(C3.1 u).2;exact ih (p+2) j w' y.2.2.2 Q (B.DG D)
  ·by_cases e:nx s p=114
   ·have hl:WH s f p:=⟨Aj e,ho⟩;have X:=Jj (nx s) f p;have M:EO (nx s) f p (v.drop i)=some ([],Pt.EW (nx s) f p,v.drop i):=by simp[EO,e]
    rw[H9 M,KU];refine U3 (Hg (nx s) f) T (Am e) hi hn U (λq _=>Hs _ _ _) (λw'=>Xm s f p w' hl hs) (λk q w' u=>?_) (λq j w' u Q D=>?_)
    ·exact afT
    ·exact ih q j w' (JQ hl q u).2 Q (B.DG D)
   ·exact aU T m e (kJ hs hn ih ho hi B m e)
theorem sr:(prog.info? 4).map (λi=>(i.zero,i.size,i.bytes))=some (some (.bool false),1,1):=EL
structure JV(w0 w:Aa)(O:Ad)(outs:List Bool):Prop where
 own:w.ownsRow w0.heap.size 4 1 O outs.length (outs.map Value.bool)
 DG:Below w0.heap.size w0 w
theorem ob{B n size:Nat}{e:Ag}{v:Ad}{xs:Ae}(h:w.ownsRow B e size v n xs)(hb:DY w w'):w'.ownsRow B e size v n xs:=by
 exact aaC
theorem JV.go(h:JV w0 w O outs)(e:DY w w'):JV w0 w' O outs:=⟨ob h.own e,h.DG.trans (e.mono h.DG.size)⟩
theorem JV.nil(w0:Aa):JV w0 w0 (.slice none 0 0) []:=by grind [JV,World.ownsRow_nil,Below.refl]
theorem JV.shape(h:JV w0 w O outs):∃a cap,O=.slice a outs.length cap:=by
 rcases h.own.2 with ⟨j,m⟩|⟨g,cap,e,j,_⟩;all_goals grind
def kG(s:Ab)(V:Ad)(v:List It)(w0:Aa)(f:Nat):Prop:=∀(p:Nat) (O:Ad) (outs ks:List Bool) (r:List It) (w:Aa),N4 s f p->JV w0 w O outs->Hg (nx s) f p (v.drop outs.length)=some (ks,r) ->
 Calls prog 240 #[.string s,Z p,V,O] w λe w'=>∃O',e=.returned O'/\JV w0 w' O' (outs++ks)
theorem oF{r:List It}(h:E6 E qs v=some (ks,r)):∃j m,E6 E (qs.take k) v=some (j,m):=by
 cases hs:E6 E (qs.take k) v with
 |none=>rw[Re E hs]at h;cases h
 |some e=>exact⟨e.1,e.2,rfl⟩
theorem aj{r:List It}(h:E6 E qs v=some (ks,r)){q:Nat}(u:qs[k]?=some q){k1:List Bool}{r1:List It}(m:E6 E (qs.take k) v=some (k1,r1)):
  ∃k2 y,E q r1=some (k2,y)/\E6 E (qs.take (k+1)) v=some (k1++k2,y):=by
 obtain⟨B,D,j⟩:=oF h;rw[Bh,u,Cm,OU,m]at j;simp only at j;cases hE:E q r1 with
 |none=>rw[hE]at j;cases j
 |some e=>
  refine⟨e.1,e.2,rfl,?_⟩;rw[Bh,u,Cm,OU,m];simp only[hE];rfl
theorem aaw(s:Ab)(p:Nat)(V O:Ad)(v:List It)(E:Nat->List It->GB)(qs:List Nat)(outs ks:List Bool)(r:List It)(w0 w:Aa)(D:p<s.size)(B:qs.length<=9)(hO:JV w0 w O outs)(hEh:∀q∈qs,Mk (E q))(hE:E6 E qs (v.drop outs.length)=some (ks,r))
  (HI:∀w,D7 241 #[.string s,Z p] w (Z (qs.length:Int)) λw'=>DY w w')
  (HW:∀(k q:Nat) w,qs[k]?=some q->D7 242 #[.string s,Z p,Z k] w (Z q) λw'=>DY w w')
  (HV:∀(q:Nat) (m:Ad) (j k2:List Bool) (r2:List It) w',q∈qs->JV w0 w' m j->E q (v.drop j.length)=some (k2,r2)->ET 240 #[.string s,Z q,V,m] w' λe y=>∃u,e=.returned u/\JV w0 y u (j++k2))
  (M:((((s[p]).toNat:Nat):Int)==97)=true):
  ET 240 #[.string s,Z p,V,O] w λe w'=>∃m,e=.returned m/\JV w0 w' m (outs++ks):=by
 exact tl7
theorem aay(s:Ab)(p:Nat)(V O:Ad)(v:List It)(E:Nat->List It->GB)(qs:List Nat)(outs ks:List Bool)(r:List It)(w0 w:Aa)(D:p<s.size)(B:qs.length<=9)(hO:JV w0 w O outs)(hEh:∀q∈qs,Mk (E q))(hE:E6 E qs (v.drop outs.length)=some (ks,r))
  (HI:∀w,D7 241 #[.string s,Z p] w (Z (qs.length:Int)) λw'=>DY w w')
  (HW:∀(k q:Nat) w,qs[k]?=some q->D7 242 #[.string s,Z p,Z k] w (Z q) λw'=>DY w w')
  (HV:∀(q:Nat) (m:Ad) (j k2:List Bool) (r2:List It) w',q∈qs->JV w0 w' m j->E q (v.drop j.length)=some (k2,r2)->ET 240 #[.string s,Z q,V,m] w' λe y=>∃u,e=.returned u/\JV w0 y u (j++k2))
  (M:((((s[p]).toNat:Nat):Int)==97)=false) (Q:((((s[p]).toNat:Nat):Int)==114)=true):
  ET 240 #[.string s,Z p,V,O] w λe w'=>∃m,e=.returned m/\JV w0 w' m (outs++ks):=by
 exact tl7
theorem U0(s:Ab)(p b off cap:Nat)(O:Ad)(v:List It)(outs:List Bool)(N:Int)(t:Bool)(w0 w:Aa)(hp:p<s.size)(h:JV w0 w O outs)(ab:outs.length<v.length)(hn:v.length<=9000000000000)(X:EB w b (off+outs.length*2) (Z N))(t1:((((s[p]).toNat:Nat):Int)==97)=false)(t2:((((s[p]).toNat:Nat):Int)==114)=false)(t3:((((s[p]).toNat:Nat):Int)==115)=t)(t4:((((s[p]).toNat:Nat):Int)==117)=false)(t5:((((s[p]).toNat:Nat):Int)==113)=false):
  ET 240 #[.string s,Z p,.slice (some (Y b off)) v.length cap,O] w λe w'=>∃M,e=.returned M/\JV w0 w' M (outs++[t]):=by
 obtain⟨oa,Q,rfl⟩:=h.shape;have HOO:=Dx h;have how:=h.own;have aa:=h.DG.size;clear h;generalize hol':outs.length=m at *;have HM:=Dx hol';clear hol';have⟨i0,hi,y,B,D⟩:=A1 sr;go_enter func240,ntmps240;go_wp2_with (at_builtin;refine AQ _ rfl (.tmp 46) (.tmp 51) 59 rfl w0.heap.size 4 i0 (.bool false) 1 1 underlying59 hi y B D rfl Em _ m (outs.map Value.bool) rfl (by exact how.alloc _) (EN w 0) 1 1 [.bool t] rfl rfl (by exact cell_one_new _ _ _) (by intro u hu;simp at hu;subst hu;rfl) JG U Fy ?_)
 intro T w1 hown hgrow _ _;have j:Hid (JV w0 w1 T (outs++[t])):=by
  exact adS
 clear hown hgrow how X;go_wp2;refine wp_loop_rounds 1 ?_;rw[rounds_succ];go_wp2
 go_ret
 exact⟨_,rfl,j⟩
theorem aaz(s:Ab)(p b off cap:Nat)(O:Ad)(v:List It)(outs:List Bool)(N:Int)(t:Bool)(w0 w:Aa)(hp:p<s.size)(y:JV w0 w O outs)(al:outs.length<v.length)(hn:v.length<=9000000000000)(f0:EB w b (off+outs.length*2) (Z N))(t1:((((s[p]).toNat:Nat):Int)==97)=false)(t2:((((s[p]).toNat:Nat):Int)==114)=false)(t3:((((s[p]).toNat:Nat):Int)==115)=t)(t4:((((s[p]).toNat:Nat):Int)==117)=true)(q:Nat)(k2:List Bool)(HP:∀w,D7 244 #[.string s,Z p,Z N] w (Z q) λw'=>DY w w')
  (HV:∀(h:Ad) w',JV w0 w' h (outs++[t])->ET 240 #[.string s,Z q,.slice (some (Y b off)) v.length cap,h] w' λe ae=>∃j,e=.returned j/\JV w0 ae j (outs++[t]++k2)):
  ET 240 #[.string s,Z p,.slice (some (Y b off)) v.length cap,O] w λe w'=>∃h,e=.returned h/\JV w0 w' h (outs++[t]++k2):=by
 have⟨X,aa⟩:=FU HP HV;clear HP HV;obtain⟨oa,ah,rfl⟩:=y.shape;have HOO:=Dx y;have how:=y.own;have ak:=y.DG.size;clear y;generalize hol':outs.length=m at *;have HM:=Dx hol';clear hol';have⟨i0,hi,ab,ac,ad⟩:=A1 sr;go_enter func240,ntmps240;go_wp2_with (at_builtin;refine AQ _ rfl (.tmp 46) (.tmp 51) 59 rfl w0.heap.size 4 i0 (.bool false) 1 1 underlying59 hi ab ac ad rfl Em _ m (outs.map Value.bool) rfl (by exact how.alloc _) (EN w 0) 1 1 [.bool t] rfl rfl (by exact cell_one_new _ _ _) (by intro u hu;simp at hu;subst hu;rfl) JG U Fy ?_)
 intro O1 w1 hown hgrow _ _;have M:Hid (JV w0 w1 O1 (outs++[t])):=by
  exact adS
 clear hown hgrow how f0;go_wp2_with fail
 refine cm (X _) λw2 B=>?_
 have Q:=Dx (M.go B);clear B;go_wp2_with fail
 refine(aa _ _ Q).mono ?_;rintro e w3 ⟨O3,rfl,D⟩;have T:=Dx D;clear D;go_wp2
 go_ret
 exact⟨_,rfl,T⟩
theorem aax(s:Ab)(p b off cap:Nat)(O:Ad)(v:List It)(outs:List Bool)(N:Int)(t:Bool)(w0 w:Aa)(hp:p<s.size)(hO:JV w0 w O outs)(b9:outs.length<v.length)(hn:v.length<=9000000000000)(f0:EB w b (off+outs.length*2) (Z N))(t1:((((s[p]).toNat:Nat):Int)==97)=false)(t2:((((s[p]).toNat:Nat):Int)==114)=false)(t3:((((s[p]).toNat:Nat):Int)==115)=t)(E:Nat->List It->GB)(ks:List Bool)(r:List It)(ac:Mk (E (p+2)))(hE:E6 E (List.replicate N.toNat (p+2)) (v.drop (outs++[t]).length)=some (ks,r))(b5:0<=N)(b6:N<=9)(ba:p<=40)(t4:((((s[p]).toNat:Nat):Int)==117)=false)(t5:((((s[p]).toNat:Nat):Int)==113)=true)
  (HV:∀(O':Ad) (j k2:List Bool) (r2:List It) w',JV w0 w' O' j->E (p+2) (v.drop j.length)=some (k2,r2)->ET 240 #[.string s,Z ((p:Int)+2),.slice (some (Y b off)) v.length cap,O'] w' λe aS=>∃aa,e=.returned aa/\JV w0 aS aa (j++k2)):
  ET 240 #[.string s,Z p,.slice (some (Y b off)) v.length cap,O] w λe w'=>∃O',e=.returned O'/\JV w0 w' O' (outs++[t]++ks):=by
 have⟨an,al,HE⟩:=Ll HV ac hE;clear HV ac hE;obtain⟨oa,b1,rfl⟩:=hO.shape;have HOO:=Dx hO;have how:=hO.own;have b7:=hO.DG.size;clear hO;generalize hol':outs.length=m at *;have HM:=Dx hol';clear hol';have⟨i0,hi,aw,az,aN⟩:=A1 sr;go_enter func240,ntmps240;go_wp2_with (at_builtin;refine AQ _ rfl (.tmp 46) (.tmp 51) 59 rfl w0.heap.size 4 i0 (.bool false) 1 1 underlying59 hi aw az aN rfl Em _ m (outs.map Value.bool) rfl (by exact how.alloc _) (EN w 0) 1 1 [.bool t] rfl rfl (by exact cell_one_new _ _ _) (by intro u hu;simp at hu;subst hu;rfl) JG U Fy ?_)
 intro O1 w1 hown hgrow _ _;have Q:Hid (JV w0 w1 O1 (outs++[t])):=by
  exact adS
 clear hown hgrow how f0;go_wp2;go_loopw [3,12] (λov kv wr=>∃(k:Nat) (M:List Bool) (r1:List It),k<=N.toNat/\kv=Z k/\JV w0 wr ov (outs++[t]++M)/\Hid (E6 E (List.replicate k (p+2)) (v.drop (outs++[t]).length)=some (M,r1))) (λ_ kv _=>N.toNat-(intOf kv).toNat)
 case atStart=>exact⟨0,[],_,AV _,rfl,by rw[Cb];exact Dw Q,rfl⟩
 case round=>
  obtain⟨k,M,r1,hk,rfl,ah,B⟩:=hrel;have T:=Dx ah;clear Q ah;by_cases ar:k<N.toNat
  ·have aq:(k:Int)<N:=U;have hq:(List.replicate N.toNat (p+2))[k]?=some (p+2):=by rw[Be,Ay ar]
   have D:E6 E ((List.replicate N.toNat (p+2)).take k) (v.drop (outs++[t]).length)=some (M,r1):=by
    rw[List.take_replicate,Ct hk];exact Dw B
   have⟨k2,r2,ab,y⟩:=aj HE hq D;rw[List.take_replicate,Ct U]at y;have⟨h1,h2⟩:=Mc (E:=E) (List.replicate k (p+2)) (λq' av=>by rw[(C3.1 av).2];exact Dw al) _ _ _ (Dw B);rw[CF]at h1;have ak:Hid (E (p+2) (v.drop (outs++[t]++M).length)=some (k2,r2)):=by rw[AJ,<-h1];exact ab
   have X:=Dx y;clear h1 h2 ab y hq B D;go_wp2_with fail
   refine(an _ _ _ _ _ T ak).mono ?_;rintro e w3 ⟨O3,rfl,ae⟩;have am:=Dx ae;clear ae;go_wp2;go_roundw
   case rel=>exact⟨k+1,M++k2,r2,U,Kc,by rw[<-Bs];exact Dw am,X⟩
   case measure=>exact Kt
  ·obtain rfl:k=N.toNat:=U;have aq:¬((N.toNat:Nat):Int)<N:=U;have e1:M=ks:=by
    have h:=Dw B;rw[Dw HE]at h;cases h;rfl
   subst e1;go_wp2
   go_ret
   exact⟨_,rfl,by simpa using Dw T⟩
theorem rF{r:List It}(h:Hg g (f+1) p v=some (ks,r)):∃k0 qs j k,EO g f p v=some (k0,qs,j)/\E6 (Hg g f) qs j=some (k,r)/\ks=k0++k:=by
 simp only[Hg]at h;cases hh:EO g f p v with
 |none=>rw[hh]at h;cases h
 |some e=>
  have⟨k0,qs,j⟩:=e;rw[hh]at h;simp only at h;cases hs:E6 (Hg g f) qs j with
  |none=>rw[hs]at h;cases h
  |some e'=>grind [Gu]
theorem Ws(s:Ab)(V:Ad)(v:List It)(w0:Aa)(hs:s.size<=40)(hn:v.length<=9000000000000)(hI:Ff w0 V v):∀f,kG s V v w0 f:=by
 intro f;induction f with
 |zero=>intro p O outs ks r w ho;have:=ho.fuel;omega
 |succ f ih=>
  intro p O outs ks r w ho hO hE;have m:=ho.lt;obtain⟨k0,qs,r0,k,D,e,rfl⟩:=rF hE;by_cases ac:nx s p=97
  ·have aa:p+1<s.size/\49<=nx s (p+1)/\nx s (p+1)<=57/\N4 s f (p+2):=by
    exact adN
   have hx:EO (nx s) f p (v.drop outs.length)=some ([],List.replicate (nx s (p+1)-48) (p+2),v.drop outs.length):=by simp[EO,ac]
   rw[hx]at D;cases D;rw[Cc];refine aaw s p V O v (Hg (nx s) f) _ outs k r w0 w m Fy hO (λq _=>Hs _ _ _) e (λw'=>?_) (λk q w' M=>?_) (λq O' j k2 r2 w' M y Q=>?_) (by rw[G0 m ac];rfl)
   ·grind [Xl]
   ·grind [U5]
   ·obtain rfl:q=p+2:=(C3.1 M).2;exact ih (p+2) O' j k2 r2 w' aa.2.2.2 y Q
  by_cases B:nx s p=114
  ·have hl:WH s f p:=⟨Aj B,ho⟩;have am:=Jj (nx s) f p;have hx:EO (nx s) f p (v.drop outs.length)=some ([],Pt.EW (nx s) f p,v.drop outs.length):=by simp[EO,B]
   rw[hx]at D;cases D;rw[Cc];refine aay s p V O v (Hg (nx s) f) _ outs k r w0 w m U hO (λq _=>Hs _ _ _) e (λw'=>Xm s f p w' hl hs) (λk q w' M=>?_) (λq O' j k2 r2 w' M y Q=>ih q O' j k2 r2 w' (JQ hl q M).2 y Q) (by rw[<-Gd m];simp;omega) (by rw[G0 m B];rfl);exact afT
  have t1:((((s[p]).toNat:Nat):Int)==97)=false:=by rw[<-Gd m];simp;omega
  have t2:((((s[p]).toNat:Nat):Int)==114)=false:=by rw[<-Gd m];simp;omega
  have X:outs.length<v.length:=by grind [List.drop_eq_nil_of_le,EO]
  obtain⟨x,hx⟩:∃x,v[outs.length]?=some x:=⟨_,Ah X⟩;have ak:v.drop outs.length=x :: v.drop (outs.length+1):=by grind [List.drop_eq_getElem_cons]
  have⟨b,off,cap,hV,aw,f0,_⟩:=(hI.DG hO.DG).at hx;subst hV;rw[ak]at D;by_cases u:nx s p=115
  ·simp only[EO,u]at D;simp at D;obtain⟨_,rfl,rfl,rfl⟩:=D;simp[E6]at e;obtain⟨rfl,rfl⟩:=e;exact U0 s p b off cap O v outs x.1 true w0 w m hO X hn f0 t1 t2 (by rw[G0 m u];rfl) (by rw[G0 m u];rfl) (by rw[G0 m u];rfl)
  have t3:((((s[p]).toNat:Nat):Int)==115)=false:=by rw[<-Gd m];simp;omega
  simp only[EO,ac,B,u,if_false]at D;split at D
  ·rename_i az;simp only[Option.some.injEq,Prod.mk.injEq]at D;obtain⟨rfl,rfl,rfl⟩:=D;have T:(outs++[false]).length=outs.length+1:=Ev;by_cases hu:nx s p=117
   ·rw[Ay hu]at e;have hl:WH s f p:=⟨Am hu,ho⟩;have an:FZ (nx s p)=0:=by rw[hu];rfl
    have al:FD (nx s) f p=((Pt.EW (nx s) f p).length:Int)-1:=by simp[FD,hu]
    have am:=Jj (nx s) f p;obtain⟨q,M⟩:∃q,(Pt.EW (nx s) f p)[x.1.toNat]?=some q:=⟨_,Ah U⟩;have hpo:Gj (Pt.EW (nx s) f p) x.1=q:=by grind [Gj]
    have ao:=JQ hl q (Ap M);rw[hpo]at e;have aq:Hg (nx s) f q (v.drop (outs.length+1))=some (k,r):=by grind [E6,Gu]
    rw[<-Bs];refine aaz s p b off cap O v outs x.1 false w0 w m hO X hn f0 t1 t2 t3 (by rw[G0 m hu];rfl) q k (λw'=>?_) (λO' w' y=>?_)
    ·grind [M7]
    ·exact ih q O' (outs++[false]) k r w' ao.2 y (by rw[T];exact aq)
   ·rw[Ao hu]at e;have t4:((((s[p]).toNat:Nat):Int)==117)=false:=by rw[<-Gd m];simp;omega
    by_cases M:nx s p=113
    ·rw[Ay M]at e;have an:FZ (nx s p)=0:=by rw[M];rfl
     have al:FD (nx s) f p=(nx s (p+1):Int)-48:=by simp[FD,M]
     have aa:48<=nx s (p+1)/\nx s (p+1)<=57/\N4 s f (p+2):=by
      exact abj
     rw[<-Bs];exact aax s p b off cap O v outs x.1 false w0 w m hO X hn f0 t1 t2 t3 (Hg (nx s) f) k r (Hs _ _ _) (by rw[T];exact e) U U U t4 (by rw[G0 m M];rfl) (λO' j k2 r2 w' y Q=>ih (p+2) O' j k2 r2 w' aa.2.2 y Q)
    ·rw[Ao M]at e;simp[E6]at e;obtain⟨rfl,rfl⟩:=e;exact U0 s p b off cap O v outs x.1 false w0 w m hO X hn f0 t1 t2 t3 t4 (by rw[<-Gd m];simp;omega)
  ·cases D
end Go.Proofs.YtblomippkddgiaaGreatDoor.V
