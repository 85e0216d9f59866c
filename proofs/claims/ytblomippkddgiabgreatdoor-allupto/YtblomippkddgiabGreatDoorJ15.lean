import Derived.Test.YtblomippkddgiabGreatDoorJ14
set_option maxRecDepth 100000
set_option maxHeartbeats 8000000
namespace Go.Proofs.YtblomippkddgiabGreatDoor
open Go.Proofs.Tryz RowKit Maps
variable {S:ByteArray}{F:D9}{kind nn u u0:Int}{name rb:List UInt8}{B N b cap g i k li m n nm s x:Nat}{a:Option Addr}{o:LD}{P:Pk}{p:Pl}{M:R.Bk}{c:R.Cl}{l:R.Ln}{G:R.Wd}{v:RV}{W w w1:World}
namespace V
variable {a b s:ByteArray}{w' w0:World}
def RA(w0:Aa)(r:Option OJ)(w':Aa):Prop:=r=none/\Below w0 w0 w'
def RB(w0:Aa)(r:Option OJ)(O':Ad)(S':Ab)(w':Aa):Prop:=∃l' v',r=some (l',v')/\S'=str l'/\IR w0 v' l' O' w'
def Ye(s:Ab)(w0:Aa)(f:Nat):Prop:=∀(p:Nat) (l:Ac) (v:List It) (O:Ad) (w:Aa),N4 s f p->IR w0 v l O w ->
 Calls prog 182 #[.string s,Z p,.string (str l),O] w (Sd (RA w0 (Es Fx Jf (nx s) f p (l,v))) (RB w0 (Es Fx Jf (nx s) f p (l,v))))
theorem RB.go{r:Option OJ}{O:Ad}(h:RB w0 r O S w)(d:DY w w'):RB w0 r O S w':=by
 have⟨e,f,a,b,c⟩:=h;exact⟨e,f,a,b,c.go d⟩
theorem UM{f:Nat}(n:Ye s w0 f){qs:List Nat}{q:Nat}(l:qs[k]?=q)(j:N4 s f q)(x:OJ)(O:Ad)(S:Ab)(w:Aa)(h:RB w0 (Gt (Es Fx Jf (nx s) f) (qs.take k) x) O S w):
  ET 182 #[.string s,Z q,.string S,O] w (Sd (RA w0 (Gt (Es Fx Jf (nx s) f) qs x)) (RB w0 (Gt (Es Fx Jf (nx s) f) (qs.take (k+1)) x))):=by
 obtain⟨c,d,g,rfl,i⟩:=h;have m:Gt (Es Fx Jf (nx s) f) (qs.take (k+1)) x=Es Fx Jf (nx s) f q (c,d):=by rw[Wj l,g];rfl
 refine(n q c d O w j i).mono ?_;rintro e p (⟨a,b,rfl,hn,o⟩|⟨a,b,rfl,hB⟩)
 .grind [Sd,RA,Wi]
 .exact Am ⟨a,b,I,by rw[m];exact hB⟩
theorem fq{r r':Option OJ}{a:Option OJ}(h:r=a)(c:r'=a):∀e b,Sd (RA w0 r) (RB w0 r') e b->Sd (RA w0 a) (RB w0 a) e b:=by grind
theorem aaQ(s:Ab)(f p n:Nat):Ht (FZ (nx s p)) (FD (nx s) f p) n=KO (FZ (nx s p)) n/\¬KO (FZ (nx s p)) n<FZ (nx s p):=by grind [Ht,KO,FZ,FD]
theorem oh(s:Ab)(w0:Aa)(hs:s.size<=40):∀f,Ye s w0 f:=by
 intro f;induction f with
 |zero=>intro p l v O w ho;have:=ho.fuel;omega
 |succ f ih=>
  intro p l v O w ho t;have hp:=ho.lt;have Q:=Jj (nx s) f p;by_cases o:nx s p=97
  .have B:p+1<s.size/\49<=nx s (p+1)/\nx s (p+1)<=57/\N4 s f (p+2):=by
    exact adN
   obtain⟨n,hn⟩:∃n,n=nx s (p+1)-48:=DR;have j:Es Fx Jf (nx s) (f+1) p (l,v)=Gt (Es Fx Jf (nx s) f) (List.replicate n (p+2)) (l,v):=by simp[Es,o,hn]
   refine(UE s p n (str l) O w (RA w0 (Gt (Es Fx Jf (nx s) f) (List.replicate n (p+2)) (l,v))) (λk=>RB w0 (Gt (Es Fx Jf (nx s) f) ((List.replicate n (p+2)).take k) (l,v))) hp (Aj o) U ⟨l,v,I,I,t⟩ (λk O S w u h G=>h.go G) (λu=>?_) (λk hk=>⟨p+2,λu=>?_,λO S w h=>UM ih (by rw[Be,Ay hk]) B.2.2.2 _ _ _ _ h⟩)).mono (fq j.symm ?_);all_goals grind [Xl,U5]
  .by_cases b:nx s p=114
   .have hl:WH s f p:=⟨Aj b,ho⟩;have j:Es Fx Jf (nx s) (f+1) p (l,v)=Gt (Es Fx Jf (nx s) f) (Pt.EW (nx s) f p) (l,v):=by simp[Es,b]
    refine(UE s p (Pt.EW (nx s) f p).length (str l) O w (RA w0 (Gt (Es Fx Jf (nx s) f) (Pt.EW (nx s) f p) (l,v))) (λk=>RB w0 (Gt (Es Fx Jf (nx s) f) ((Pt.EW (nx s) f p).take k) (l,v))) hp (Am b) U ⟨l,v,I,I,t⟩ (λk O S w u h G=>h.go G) (λu=>Xm s f p u hl hs) (λk hk=>?_)).mono (fq j.symm ?_)
    .obtain⟨q,L⟩:∃q,(Pt.EW (nx s) f p)[k]?=some q:=⟨_,Ah hk⟩;refine⟨q,λu=>?_,λO S w h=>UM ih L (JQ hl q (Ap L)).2 _ _ _ _ h⟩;have h:=aX s f p k u hl hs U;have D:Gj (Pt.EW (nx s) f p) (k:Int)=q:=by all_goals grind [Gj]
     rw[D]at h;exact h
    .rw[j,Cw]
   .by_cases J:2<=l.length
    .match l,t,J with
     |a :: c :: r,t,_=>
      have C:=ags a c r;have hn:=Xv a c;have H:=t.len;simp only[A4]at H;by_cases g:nx s p=115
      .have j:Es Fx Jf (nx s) (f+1) p (a :: c :: r,v)=if E5 a c<=14/\E5 a c+E5 a c % 2<=r.length then some (r.drop (E5 a c+E5 a c % 2),v++[(0,str (r.take (E5 a c)))]) else none:=by simp[Es,g,Jf]
       generalize E5 a c=n at C hn j;by_cases m:n<=14/\n+n % 2<=r.length
       .rw[Ay m]at j;refine(gq s p (str (a :: c :: r)) (str r) (str (r.take n)) (str (r.drop (n+n % 2))) n a c O w w0 v (a :: c :: r) (r.drop (n+n % 2)) hp g C m.1 (by rw[Er];exact m.2) (by rw[Ho];simp) (by rw[Ho,Er,A7 (by rw[A9];omega)]) t (by rw[A9];simp only[A4];omega)).mono ?_;rintro e u ⟨K,rfl,h⟩;exact Am ⟨_,_,I,_,_,j,I,h⟩
       .rw[Ao m]at j;refine(gp s p (str (a :: c :: r)) (str r) n a c O w hp g C (by rw[Er];omega) hn).mono ?_;rintro e u ⟨rfl,q,rfl⟩;exact Aj ⟨_,_,I,j,Ed t.h q⟩
      .have j:Es Fx Jf (nx s) (f+1) p (a :: c :: r,v)=(Fx (FZ (nx s p)) (FD (nx s) f p) (a :: c :: r,v)).bind λx=>Gt (Es Fx Jf (nx s) f) (Ir (nx s) f p x.1) x.2:=by rw[KR _ _ _ _ _ g o b]
       have⟨W,T⟩:=aaQ s f p (E5 a c);have N:Fx (FZ (nx s p)) (FD (nx s) f p) (a :: c :: r,v)=if FD (nx s) f p<KO (FZ (nx s p)) (E5 a c) then none else some (KO (FZ (nx s p)) (E5 a c),(r,v++[(KO (FZ (nx s p)) (E5 a c),⟨#[]⟩)])):=by all_goals grind [Fx]
       rw[N]at j;have F:∀w,D7 232 #[.string s,Z p] w (.tuple #[Z (FZ (nx s p)),Z (FD (nx s) f p)]) (DY w):=by
        intro w;have hp:=ho.lt;exact afz
       generalize E5 a c=n at C hn j T;by_cases d:FD (nx s) f p<KO (FZ (nx s p)) n
       .rw[Ay d]at j;refine cm (gm s p (str (a :: c :: r)) (str r) n a c O w _ _ _ hp o b g C hn I d F) λu G=>?_
        exact Aj ⟨_,_,I,j,t.h.trans (G.mono t.h.size)⟩
       .rw[Ao d,Di]at j;by_cases i:nx s p=117
        .have A:FZ (nx s p)=0:=by rw[i];rfl
         have E:KO (FZ (nx s p)) n=n:=by rw[A];simp[KO]
         have hl:WH s f p:=⟨Am i,ho⟩;have P:FD (nx s) f p=((Pt.EW (nx s) f p).length:Int)-1:=by simp[FD,i]
         rw[E]at j d;rw[A]at F;obtain⟨q,L⟩:∃q,(Pt.EW (nx s) f p)[n]?=some q:=⟨_,Ah U⟩;have D:Gj (Pt.EW (nx s) f p) (n:Int)=q:=by all_goals grind [Gj]
         have z:Es Fx Jf (nx s) (f+1) p (a :: c :: r,v)=Es Fx Jf (nx s) f q (r,v++[((n:Int),⟨#[]⟩)]):=by
          rw[j];simp only[Ir,Ay i,D,Gt];all_goals grind
         rw[z];refine aae s p q (str (a :: c :: r)) (str r) n a c O w w0 v (a :: c :: r) r _ _ _ hp i C hn d t (by simp only[A4];omega) F (λu=>?_) (λK M h1=>ih q r _ K M (JQ hl q (Ap L)).2 h1);all_goals grind [M7]
        .by_cases y:nx s p=113
         .have A:FZ (nx s p)=0:=by rw[y];rfl
          have E:KO (FZ (nx s p)) n=n:=by rw[A];simp[KO]
          rw[E]at j d;rw[A]at F;have B:N4 s f (p+2):=by
           rcases J2 ho with (h|h|h|h)|⟨h,_⟩|⟨h,_⟩|⟨h,h1,h2,h3,h4⟩|h
           .omega
           .omega
           .omega
           .omega
           .omega
           .omega
           .exact h4
           .have:=h.here;omega
          have z:Es Fx Jf (nx s) (f+1) p (a :: c :: r,v)=Gt (Es Fx Jf (nx s) f) (List.replicate n (p+2)) (r,v++[((n:Int),⟨#[]⟩)]):=by all_goals grind [Ir]
          refine(aad s p (str (a :: c :: r)) (str r) n a c O w w0 v (a :: c :: r) r _ (RA w0 (Gt (Es Fx Jf (nx s) f) (List.replicate n (p+2)) (r,v++[((n:Int),(⟨#[]⟩:Ab))]))) (λk=>RB w0 (Gt (Es Fx Jf (nx s) f) ((List.replicate n (p+2)).take k) (r,v++[((n:Int),(⟨#[]⟩:Ab))]))) hp hs y C hn d t (by simp only[A4];omega) F (λK M h1=>⟨_,_,I,I,h1⟩) (λk O S w hk h=>?_)).mono (fq z.symm ?_)
          .have h2:=UM ih (qs:=List.replicate n (p+2)) (q:=p+2) (by rw[Be,Ay hk]) B (r,v++[((n:Int),⟨#[]⟩)]) O S w h;all_goals grind
          all_goals grind
         .have z:Es Fx Jf (nx s) (f+1) p (a :: c :: r,v)=some (r,v++[(KO (FZ (nx s p)) n,⟨#[]⟩)]):=by all_goals grind [Ir,Gt]
          refine(gi s p (str (a :: c :: r)) (str r) n a c O w w0 v (a :: c :: r) r _ _ _ hp o b g i y C hn I d t (by simp only[A4];omega) F).mono ?_;rintro e u ⟨K,rfl,h⟩;exact Am ⟨_,_,I,_,_,z,I,h⟩
    .have d:Es Fx Jf (nx s) (f+1) p (l,v)=none:=by all_goals grind [Es,Jf,Fx]
     refine(Z4 s p (str l) O w hp o b (by rw[Er];exact J)).mono ?_;rintro e u ⟨rfl,rfl⟩;exact Aj ⟨_,_,I,d,t.h⟩
abbrev iK(O:Ad)(n:Nat):Ending:=.returned (.tuple #[O,Z n])
theorem adY(s S:Ab)(w:Aa)(n q:Nat)(hn:¬n=0)(H:ET 109 #[.string s] w λe a=>e=M0 (n,q)/\DY w a):
  ET 115 #[.string s,.string S] w λe a=>e=iK Dz n/\DY w a:=by
 have HH:=Dx H;have b:((n:Int) != 0)=true:=Fy;clear H;exact ab8
theorem adZ(s S:Ab)(w:Aa)(a:70<S.size)(H:ET 109 #[.string s] w λe b=>e=M0 (0,0)/\DY w b):
  ET 115 #[.string s,.string S] w λe b=>e=iK Dz 5/\DY w b:=by
 have HH:=Dx H;have c:(70:Int)<(S.size:Int):=U;clear H a;exact ab8
theorem aaX(s S:Ab)(w:Aa)(a:¬70<S.size)(H:ET 109 #[.string s] w λe b=>e=M0 (0,0)/\DY w b)
  (h:∀c,DY w c->ET 182 #[.string s,Z 0,.string S,Dz] c λe b=>(∃O i,e=triple O i false)/\DY c b):
  ET 115 #[.string s,.string S] w λe b=>e=iK Dz 6/\DY w b:=by
 have⟨j,d⟩:=FU H h;have k:¬(70:Int)<(S.size:Int):=U;clear H a h
 delta ET
 go_in
 go_wp2_with fail
 refine cm j λc f=>?_
 go_wp2_with fail
 refine(Dx (d c f)).mono ?_;rintro e l ⟨⟨O,i,rfl⟩,g⟩;go_wp2
 go_ret2
 exact⟨I,f.trans (g.mono f.size)⟩
theorem aaW(s S S':Ab)(w:Aa)(a:¬70<S.size)(hl:¬S'.size=0)(H:ET 109 #[.string s] w λe b=>e=M0 (0,0)/\DY w b)
  (i:∀c,DY w c->ET 182 #[.string s,Z 0,.string S,Dz] c λe b=>(∃j on k,e=triple (.slice j on k) S' true)/\DY c b):
  ET 115 #[.string s,.string S] w λe b=>e=iK Dz 6/\DY w b:=by
 have⟨l,d⟩:=FU H i;have m:¬(70:Int)<(S.size:Int):=U;have n:(!S'.toList.isEmpty)=true:=by
  cases h:S'.toList with
  |nil=>exact absurd (toList_nil.1 h) hl
  |cons x r=>rfl
 clear H a i hl
 delta ET
 go_in
 go_wp2_with fail
 refine cm l λc f=>?_
 go_wp2_with fail
 refine(Dx (d c f)).mono ?_;rintro e o ⟨⟨j,on,k,rfl⟩,g⟩;go_wp2
 go_ret2
 exact⟨I,f.trans (g.mono f.size)⟩
theorem toList_inj(h:a.toList=b.toList):a=b:=by
 rw[CH,CH]at h;exact CJ (by simpa using h)
theorem ad1(s S B:Ab)(w:Aa)(P:World->Value->World->Prop)(v:¬70<S.size)(H:ET 109 #[.string s] w λe n=>e=M0 (0,0)/\DY w n)
  (F:∀b,DY w b->ET 182 #[.string s,Z 0,.string S,Dz] b λe n=>(∃y on z,e=triple (.slice y on z) ⟨#[]⟩ true/\P b (.slice y on z) n)/\DY b n)
  (HF:∀b O g,P b O g->D7 178 #[.string s,O] g DC (DY g))
  (D:∀b O g x,P b O g->DY g x->D7 179 #[.string s,O] x (.string B) (DY x)):
  ET 115 #[.string s,.string S] w λe n=>(if B=S then ∃O b g,e=iK O 0/\DY w b/\P b O g/\DY g n else e=iK Dz 6)/\DY w n:=by
 have⟨E,u,t,p⟩:=bE H F HF D;have J:¬(70:Int)<(S.size:Int):=U;clear H v F HF D;by_cases o:B=S
 .have hc:(!B.toList==S.toList)=false:=by rw[o];simp
  simp only[Ay o];clear o
  delta ET
  go_in
  go_wp2_with fail
  refine cm E λb c=>?_
  have G:=Dx (u b c);go_wp2_with fail
  refine G.mono ?_;rintro e g ⟨⟨y,on,z,rfl,m⟩,d⟩;have⟨j,i⟩:=FU (t _ _ _ m) m;clear m;go_wp2_with fail
  refine cm j λx a=>?_
  have C:=Dx (p _ _ _ _ i a);go_wp2_with fail
  refine cm C λK f=>?_
  have l:=a.trans (f.mono a.size);have k:=c.trans (d.mono c.size);have⟨A,q,r⟩:=Ll (k.trans (l.mono k.size)) c l;clear c d a f k l;go_wp2
  go_ret2
  exact⟨⟨_,_,_,I,q,i,r⟩,A⟩
 .have hc:(!B.toList==S.toList)=true:=by
   simp only[Bool.not_eq_true',beq_eq_false_iff_ne];exact λh=>o (toList_inj h)
  simp only[Ao o];clear o
  delta ET
  go_in
  go_wp2_with fail
  refine cm E λb c=>?_
  go_wp2_with fail
  refine(Dx (u b c)).mono ?_;rintro e g ⟨⟨y,on,z,rfl,m⟩,d⟩;have⟨j,i⟩:=FU (t _ _ _ m) m;clear m;go_wp2_with fail
  refine cm j λx a=>?_
  go_wp2_with fail
  refine cm (Dx (p _ _ _ _ i a)) λK f=>?_
  have l:=a.trans (f.mono a.size);have k:=c.trans (d.mono c.size);have⟨A,q,r⟩:=Ll (k.trans (l.mono k.size)) c l;clear c d a f k l;go_wp2
  go_ret2
  exact⟨I,A⟩
theorem qX(hc:(Pt.O7 (nx s) s).1=0):Pt.O7 (nx s) s=(0,0):=by grind [Pt.O7]
theorem V5(s:Ab)(l:Ac)(w:Aa):
  ET 115 #[.string s,.string (str l)] w λe g=>∃O,e=iK O (I8 s l).1/\Row g w O (I8 s l).2/\DY w g:=by
 have H:=Qn s w;by_cases hc:(Pt.O7 (nx s) s.size).1=0
 .have i:=Nw hc;rw[qX hc]at H;have m:I8 s l=MO (Es Fx Il (nx s) (s.size+1) 0 (l,[])) l:=by simp[I8,hc]
  rw[m];by_cases c:70<l.length
  .have u:MO (Es Fx Il (nx s) (s.size+1) 0 (l,[])) l=(5,[]):=by simp[MO,c]
   rw[u];refine(adZ s (str l) w (by rw[Er];exact c) H).mono ?_;rintro e g ⟨rfl,n⟩;all_goals grind [My]
  .have k:¬70<(str l).size:=by rw[Er];exact c
   have o:∀b:World,ET 182 #[.string s,Z 0,.string (str l),Dz] b (Sd (RA b (Es Fx Jf (nx s) (s.size+1) 0 (l,[]))) (RB b (Es Fx Jf (nx s) (s.size+1) 0 (l,[])))):=
    λb=>oh s b i.size (s.size+1) 0 l [] _ b i.ok ⟨AZ _ _ _ _,AA _ _,by simp only[List.length_nil];omega⟩
   have N:=tv (nx s) (s.size+1) 0 l [];cases hq:Es Fx Jf (nx s) (s.size+1) 0 (l,[]) with
   |none=>
    have u:MO (Es Fx Il (nx s) (s.size+1) 0 (l,[])) l=(6,[]):=by simp[MO,c,N.1 hq]
    rw[u];rw[hq]at o;refine(aaX s (str l) w k H λb _=>(o b).mono ?_).mono ?_
    .rintro e g (⟨O,p,rfl,_,n⟩|⟨O,p,rfl,A,L,h,_⟩);all_goals grind
    all_goals grind [My]
   |some x=>
    have⟨A,v⟩:=x;have⟨L,B,K,T⟩:=N.2 A v hq;have X:v=L:=by have:=T.J;simpa using this
    subst X;rw[hq]at o;by_cases M:A=[]
    .subst M;have t:l=K:=by have:=T.bytes;simpa using this
     subst t;have F:=T.a [];rw[Cb]at F;have⟨_,s2⟩:=QO s _ _ i.ok _ _ _ F;have hK:=Ue s2 T.same;have W:=T.back;have y:MO (Es Fx Il (nx s) (s.size+1) 0 (l,[])) l=if str (Et B v)=str l then (0,v) else (6,[]):=by all_goals grind [MO]
     have z:∀b O f,IR b v [] O f->v.length<=500:=by
      intro b O f h;have:=h.len;all_goals grind
     refine(ad1 s (str l) (str (Et B v)) w (λb O f=>IR b v [] O f) k H (λb _=>(o b).mono ?_) (λb O f q=>?_) (λb O f P q n=>?_)).mono ?_
     .rintro e g (⟨O,p,rfl,h,_⟩|⟨O,p,rfl,A,L,h,C,d⟩)
      .cases h
      .cases h;have⟨G,on,J,j⟩:=Ei d.own;subst j;subst C;exact⟨⟨G,on,J,I,d⟩,d.h⟩
     .have d:=KW q.own;have⟨a,cap,S,_,_⟩:=id d;have r:=z _ _ _ q;have hf:=YT s O a cap v f S _ (Wx s O v i.size U (s.size+1) 0 0 f i.ok (AV _) d);all_goals grind [jD]
     .have d:=(KW q.own).h n;have r:=z _ _ _ q;have ht:=Ws s O v P i.size U d (s.size+1) 0 Dz [] B [] P i.ok ⟨AZ _ _ _ _,AA _ _⟩ F;all_goals grind [VH]
     .rw[y];rintro e g ⟨h,n⟩;by_cases Q:str (Et B v)=str l
      .rw[Ay Q]at h ⊢;obtain⟨O,b,f,rfl,D,d,E⟩:=h;exact⟨O,I,GL (ER d.own E) D.size,n⟩
      all_goals grind [My]
    .have u:MO (Es Fx Il (nx s) (s.size+1) 0 (l,[])) l=(6,[]):=by
      rw[T.back];all_goals grind [MO]
     rw[u];refine(aaW s (str l) (str A) w k (by rw[Er];exact λh=>M (BA h)) H λb _=>(o b).mono ?_).mono ?_
     .rintro e g (⟨O,p,rfl,h,_⟩|⟨O,p,rfl,aa,ab,h,C,d⟩)
      .cases h
      .cases h;have⟨G,on,J,j⟩:=Ei d.own;subst j;subst C;exact⟨⟨G,on,J,I⟩,d.h⟩
     all_goals grind [My]
 .have m:I8 s l=((Pt.O7 (nx s) s.size).1,[]):=by simp[I8,hc]
  rw[m];refine cm (adY s (str l) w _ _ hc H) λg n=>?_
  all_goals grind [My]
end V
abbrev zf(ci li:Nat)(life:Int)(l:R.Ln)(pt off:Int):Value:=.agg #[Z 6,Z ci,Z life,Z li,Z l.a,Z l.c,Z pt,Z off,.bool false,.string ⟨#[]⟩]
abbrev Mr(w:Aa)(lb li:Nat)(s:Ac)(k a:Int):World:=((w.setCell (Y lb (li*11+7)) (.string (str s))).setCell (Y lb (li*11+8)) (Z k)).setCell (Y lb (li*11+6)) (Z a)
theorem E3.Mr{V:Aa}{o:Obj}(h:E3 w V o W){lb:Nat}(b:lb<w.heap.size)(s:Ac)(k a:Int):E3 w (Mr V lb li s k a) o (Mr W lb li s k a):=((h.set b _).set b _).set b _
theorem vp(w:Aa)(x ci li g n cap lb e:Nat)life(l:R.Ln)(p:Pk)(j:Ab)a(d:p.H=li)(h:kC w x ci li g n cap lb e life l)(c:0<=a/\a<=100)(hold:l.X<a-1\/(¬l.X<a-1/\l.f<p.Ez))
  (b:Hid (∀W,D7 193 #[.string (str l.b),Z 0] W (.tuple #[.string j,Z a]) λk=>k=W)):
  D7 244 #[Ey x,Z ci,pv p] w DI (DY w):=by
 obtain⟨x9,c0,c2,⟨l0,l1,_,l3,l4,l5,l6,l7,l8,l9,l10⟩,hc,hl⟩:=h;obtain⟨r,cl,s,ln,A,B,pt,off,t,bd⟩:=p;simp only at d hold;subst d;have u:0<=(ci:Int):=U;have v:(ci:Int)<n:=U;have y:0<=(li:Int):=U;have z:(li:Int)<e:=U;have e1:IntKind.i64.wrap (a-1)=a-1:=Iz;obtain⟨q,o,i⟩:=Va x9 c0 l0;clear hc hl c;rcases hold with f|⟨f,m⟩;all_goals
  delta D7
  go_in
  go_wp2_with fail
  go_quiet (fail);go_wp2_with (first|(go_at_call 193;refine cs (b _) ?_))
  go_quiet (fail);go_wp2_with fail
  go_returns;exact⟨I,Ed (LG w (Ar _) _ _) _⟩
theorem gu(w:Aa)(x ci li g n cap lb s:Nat)life(l:R.Ln)(p:Pk)(B:Ab)e(c:World->Prop)(hp:p.H=li)(h:kC w x ci li g n cap lb s life l)(k:0<=e/\e<=100)(E:¬l.X<e-1)(u:¬l.f<p.Ez)(v:¬p.Ez=l.f)(y:¬l.f=p.off)
  (f:Hid (∀W,D7 193 #[.string (str l.b),Z 0] W (.tuple #[.string B,Z e]) λi=>i=W))
  (b:Hid (∀W,DY w W->D7 130 #[Ey x,Z ci,Z li,Z 6] W (zf ci li life l 0 1) (DY W)))
  (H167:Hid (∀W,DY w W->D7 131 #[Ey x,Z (-1),zf ci li life l p.Ez p.off] W Ep λi=>c i)):
  D7 244 #[Ey x,Z ci,pv p] w DI λi=>c i:=by
 obtain⟨x9,c0,c2,⟨l0,l1,_,l3,l4,l5,l6,l7,l8,l9,l10⟩,hc,hl⟩:=h;obtain⟨H,cl,J,ln,P,Q,pt,off,K,bd⟩:=p;simp only at hp u v y;subst hp;have L:0<=(ci:Int):=U;have M:(ci:Int)<n:=U;have N:0<=(li:Int):=U;have O:(li:Int)<s:=U;have e1:IntKind.i64.wrap (e-1)=e-1:=Iz;obtain⟨G,F,z⟩:=Va x9 c0 l0;clear hc hl k
 delta D7
 go_in
 go_wp2_with fail
 go_quiet (fail);go_wp2_with (first|(go_at_call 193;refine cs (f _) ?_))
 go_quiet (fail);go_wp2_with fail
 go_quiet (fail);go_wp2_with fail
 go_quiet (fail);refine EE (E3 w w _) ((((JJ).drewN _).drewN _).drewN _) ?_;intro W j;obtain⟨t,q,r⟩:=TH j.2 3 6 7;have d:=Dv j.2;have o:=Dx j;clear j;go_wp2_with fail
 refine cm (b W o.1) λm a=>?_
 have C:=(a.cell (p:=EN w 6) d).trans q;have D:=(a.cell (p:=EN w 7) d).trans r;have A:=a.size;have hB1:w.heap.size<m.heap.size:=U;have n1:¬w.heap.size=m.heap.size:=U;have n2:¬m.heap.size=w.heap.size:=U;have HB1:=o.1.trans (a.mono (Nat.le_of_lt d));clear a t q r b;exact abz
theorem oo(w:Aa)(x ci li g n cap lb N:Nat)life(l:R.Ln)(p:Pk)(pb:Ab)f(j:World->Prop)(hp:p.H=li)(h:kC w x ci li g n cap lb N life l)(D:0<=f/\f<=100)(h1:¬l.X<f-1)(h2:¬l.f<p.Ez)(M:p.Ez=l.f)(C:0<=l.f/\l.f<=99)(m:¬l.f+1=p.off)(s:l.H.length<=1000)(k:p.d.length<=1000)(z:∀o,DJ w lb o)
  (q:Hid (∀W,D7 193 #[.string (str l.b),Z 0] W (.tuple #[.string pb,Z f]) λu=>u=W))
  (i:Hid (∀W,Below w (Mr w lb li (l.H++p.d) (l.f+1) f) W->D7 130 #[Ey x,Z ci,Z li,Z 6] W (zf ci li life l 0 1) (DY W)))
  (H167:Hid (∀W,Below w (Mr w lb li (l.H++p.d) (l.f+1) f) W->D7 131 #[Ey x,Z (-1),zf ci li life l p.Ez p.off] W Ep λu=>j u)):
  D7 244 #[Ey x,Z ci,pv p] w DC λu=>j u:=by
 obtain⟨x9,c0,c2,⟨l0,l1,⟨ra,rn,rc,l2⟩,l3,l4,l5,l6,l7,l8,l9,l10⟩,hc,hl⟩:=h;obtain⟨kd,cl,lf,ln,sq,ud,pt,off,pl,bd⟩:=p;simp only at hp h2 M m k;subst hp;subst M;have q0:0<=(ci:Int):=U;have q1:(ci:Int)<n:=U;have q2:0<=(li:Int):=U;have q3:(li:Int)<N:=U;have e1:IntKind.i64.wrap (f-1)=f-1:=Iz;have e2:IntKind.i64.wrap (l.f+1)=l.f+1:=Iz;have L:=Td s k;obtain⟨hx,hg,a⟩:=Va x9 c0 l0;have P:=z (li*11+1);have Q:=z (li*11+2);have S:=z (li*11+6);have T:=z (li*11+7);have X:=z (li*11+8);have HZ:=Dx z;clear hc hl D C s k z
 delta D7
 go_in
 go_wp2_with fail
 go_quiet (fail);go_wp2_with (first|(go_at_call 193;refine cs (q _) ?_))
 go_quiet (fail);go_wp2_with fail
 go_quiet (fail);refine EE (E3 w w _) (((JJ).drewN _).drewN _) ?_;intro W b;obtain⟨B,v,y⟩:=TH b.2 3 6 7;have b9:=EI b.2 9;have d:=Dv b.2;have k1:=(b.1.cell (p:=Y lb _) a).trans l1;have k2:=(b.1.cell (p:=Y lb _) a).trans l2;have E:=(b.1.cell (p:=Y lb _) a).trans l4;have k6:=(b.1.cell (p:=Y lb _) a).trans l6;have F:=(b.1.cell (p:=Y lb _) a).trans l7;have G:=(b.1.cell (p:=Y lb _) a).trans l8;have v1:=(b.1.frozen (p:=(Y lb (li*11+1))) a).trans P;have v2:=(b.1.frozen (p:=(Y lb (li*11+2))) a).trans Q;have v6:=(b.1.frozen (p:=(Y lb (li*11+6))) a).trans S;have v7:=(b.1.frozen (p:=(Y lb (li*11+7))) a).trans T;have v8:=(b.1.frozen (p:=(Y lb (li*11+8))) a).trans X;have t:lb<W.heap.size:=U;have m1:¬lb=w.heap.size:=U;have m2:¬w.heap.size=lb:=U;have J:=Dx (b.Mr (li:=li) a (l.H++bd) (l.f+1) f);have H:=Dx (And.intro l1 (And.intro l2 (And.intro l4 (And.intro l7 l8))));clear b l1 l2 l3 l4 l5 l6 l7 l8 l9 l10 P Q S T X;go_wp2_with fail
 go_region_law (fail)
 go_wp2_with fail
 all_goals
  refine EE (E3 w (Mr w lb li (l.H++bd) (l.f+1) f) _) J.drew ?_;clear B v y b9 d k1 k2 E k6 F G v1 v2 v6 v7 v8 t;intro K c;obtain⟨l1,l2,l4,l7,l8⟩:=Dw H;obtain⟨B,v,y⟩:=TH c.2 3 6 7;have d:=Dv c.2;have t:lb<K.heap.size:=U;have O:(w.setCell (Y lb (li*11+7)) (.string (str (l.H++bd)))).cell? (Y lb (li*11+8))=some (Z l.f):=(AP (h:=by simp) ..).trans l8;have G:=(c.1.cell (p:=Y lb _) a).trans ((AP (h:=by simp) ..).trans (BU (h:=O) ..));have F:=(c.1.cell (p:=Y lb _) a).trans ((AP (h:=by simp) ..).trans ((AP (h:=by simp) ..).trans (BU (h:=l7) ..)));have E:=(c.1.cell (p:=Y lb _) a).trans ((AP (h:=by simp) ..).trans ((AP (h:=by simp) ..).trans ((AP (h:=by simp) ..).trans l4)));clear l1 l2 l4 l7 l8 O H;have r:=Dx c;clear c J;clear E F;go_quiet (fail);go_wp2_with fail
  refine cm (i _ (Ed r.1 _)) λA e=>?_
  have f6:=(e.cell (p:=EN w 6) d).trans v;have f7:=(e.cell (p:=EN w 7) d).trans y;have aa:K.heap.size<=A.heap.size:=e.size;have hB1:w.heap.size<A.heap.size:=U;have n1:¬w.heap.size=A.heap.size:=U;have n2:¬A.heap.size=w.heap.size:=U;have HB1:=(Ed r.1 _).trans (e.mono (Nat.le_of_lt d));clear e B v y i G;exact abz
theorem om(w:Aa)(x ci li g n cap lb nl:Nat)life(l:R.Ln)(p:Pk)(pb:Ab)r(er:Nat)(L:Nat->Value->World->Prop)(hp:p.H=li)(h:kC w x ci li g n cap lb nl life l)(P:0<=r/\r<=100)(h1:¬l.X<r-1)(M:¬l.f<p.Ez)(hf:p.Ez=l.f)(N:0<=l.f/\l.f<=99)(m:l.f+1=p.off)(C:l.H.length<=1000)(u:p.d.length<=1000)(z:∀o,DJ w lb o)
  (v:Hid (∀W,D7 193 #[.string (str l.b),Z 0] W (.tuple #[.string pb,Z r]) λs=>s=W))
  (t:Hid (∀W,ET 115 #[.string l.to,.string (str (l.H++p.d))] W λe s=>∃F on G,e=.returned (.tuple #[.slice F on G,Z er])/\L W (.slice F on G) s/\DY W s)):
  D7 244 #[Ey x,Z ci,pv p] w DI λs=>∃B O D,w.heap.size<=B/\B<=D.heap.size/\L B O D/\Below w (Mr w lb li (l.H++p.d) (l.f+1) r) D/\s=(D.setCell (Y lb (li*11+2)) O).setCell (Y lb (li*11+1)) (Z 2):=by
 obtain⟨x9,c0,c2,⟨l0,l1,⟨ra,rn,rc,l2⟩,l3,l4,l5,l6,l7,l8,l9,l10⟩,hc,hl⟩:=h;obtain⟨kd,cl,lf,ln,sq,ud,pt,off,pl,bd⟩:=p;simp only at hp M hf m u t;subst hp;subst hf;subst m;have q0:0<=(ci:Int):=U;have q1:(ci:Int)<n:=U;have q2:0<=(li:Int):=U;have q3:(li:Int)<nl:=U;have e1:IntKind.i64.wrap (r-1)=r-1:=Iz;have e2:IntKind.i64.wrap (l.f+1)=l.f+1:=Iz;have aa:=Td C u;obtain⟨hx,hg,a⟩:=Va x9 c0 l0;have z1:=z (li*11+1);have z2:=z (li*11+2);have z6:=z (li*11+6);have z7:=z (li*11+7);have z8:=z (li*11+8);have HZ:=Dx z;clear hc hl P N C u z
 delta D7
 go_in
 go_wp2_with fail
 go_quiet (fail);go_wp2_with (first|(go_at_call 193;refine cs (v _) ?_))
 go_quiet (fail);go_wp2_with fail
 go_quiet (fail);refine EE (E3 w w _) (((JJ).drewN _).drewN _) ?_;intro W d;obtain⟨b3,b6,b7⟩:=TH d.2 3 6 7;have b9:=EI d.2 9;have q:=Dv d.2;have k1:=(d.1.cell (p:=Y lb _) a).trans l1;have k2:=(d.1.cell (p:=Y lb _) a).trans l2;have Q:=(d.1.cell (p:=Y lb _) a).trans l4;have k6:=(d.1.cell (p:=Y lb _) a).trans l6;have S:=(d.1.cell (p:=Y lb _) a).trans l7;have k8:=(d.1.cell (p:=Y lb _) a).trans l8;have v1:=(d.1.frozen (p:=(Y lb (li*11+1))) a).trans z1;have v2:=(d.1.frozen (p:=(Y lb (li*11+2))) a).trans z2;have v6:=(d.1.frozen (p:=(Y lb (li*11+6))) a).trans z6;have v7:=(d.1.frozen (p:=(Y lb (li*11+7))) a).trans z7;have v8:=(d.1.frozen (p:=(Y lb (li*11+8))) a).trans z8;have c:lb<W.heap.size:=U;have m1:¬lb=w.heap.size:=U;have m2:¬w.heap.size=lb:=U;have X:=Dx (d.Mr (li:=li) a (l.H++bd) (l.f+1) r);have J:=Dx (And.intro l1 (And.intro l2 (And.intro l4 (And.intro l7 l8))));clear d l1 l2 l3 l4 l5 l6 l7 l8 l9 l10 z1 z2 z6 z7 z8;go_wp2_with fail
 go_region_law (fail)
 go_wp2_with fail
 all_goals
  refine EE (E3 w (Mr w lb li (l.H++bd) (l.f+1) r) _) X.drew ?_;clear b3 b6 b7 b9 q k1 k2 Q k6 S k8 v1 v2 v6 v7 v8 c;intro E f;obtain⟨l1,l2,l4,l7,l8⟩:=Dw J;obtain⟨b3,b6,b7⟩:=TH f.2 3 6 7;have q:=Dv f.2;have c:lb<E.heap.size:=U;have y8:(w.setCell (Y lb (li*11+7)) (.string (str (l.H++bd)))).cell? (Y lb (li*11+8))=some (Z l.f):=(AP (h:=by simp) ..).trans l8;have k8:=(f.1.cell (p:=Y lb _) a).trans ((AP (h:=by simp) ..).trans (BU (h:=y8) ..));have S:=(f.1.cell (p:=Y lb _) a).trans ((AP (h:=by simp) ..).trans ((AP (h:=by simp) ..).trans (BU (h:=l7) ..)));have Q:=(f.1.cell (p:=Y lb _) a).trans ((AP (h:=by simp) ..).trans ((AP (h:=by simp) ..).trans ((AP (h:=by simp) ..).trans l4)));have y:=J;clear l1 l2 l4 l7 l8 y8 J;have i:=Dx f;clear f X;have A:Hid (∀j,DY E j->DJ j lb (li*11+1)/\DJ j lb (li*11+2)/\j.cell? (Y lb (li*11+1))=some (Z l.d)/\j.cell? (Y lb (li*11+2))=some (.slice ra rn rc)):=Dx (λj b=>by
   obtain⟨l1,l2,l4,l7,l8⟩:=Dw y;exact⟨((b.frozen (p:=Y lb _) c).trans (i.1.frozen (p:=Y lb _) a)).trans (by simpa using HZ (li*11+1)),((b.frozen (p:=Y lb _) c).trans (i.1.frozen (p:=Y lb _) a)).trans (by simpa using HZ (li*11+2)),((b.cell (p:=Y lb _) c).trans (i.1.cell (p:=Y lb _) a)).trans ((AP (h:=by simp) ..).trans ((AP (h:=by simp) ..).trans ((AP (h:=by simp) ..).trans l1))),((b.cell (p:=Y lb _) c).trans (i.1.cell (p:=Y lb _) a)).trans ((AP (h:=by simp) ..).trans ((AP (h:=by simp) ..).trans ((AP (h:=by simp) ..).trans l2)))⟩)
  clear y;go_quiet (fail);go_wp2_with fail
  go_region_held3 (λs=>s.cell? (Y lb (li*11+4))=some (.string l.to)/\s.cell? (Y lb (li*11+7))=some (.string (str (l.H++bd)))) (go_keep) (first|(go_at_call 115;refine(t _).mono ?_;rintro e j ⟨F,on,G,rfl,hR,b⟩;have y4:j.cell? (Y lb (li*11+4))=some (.string l.to):=(b.cell (p:=(Y lb (li*11+4))) c).trans Q;have y7:j.cell? (Y lb (li*11+7))=some (.string (str (l.H++bd))):=(b.cell (p:=(Y lb (li*11+7))) c).trans S;have T:=Dx hR;have k:=Dx b;clear hR b))
  all_goals
   obtain⟨g1,g2,g3,g4⟩:=A j ((Ed (AA _ _) _).trans k);have an:=Ai c k.size;have K:Hid (∃B,w.heap.size<=B/\B<=j.heap.size/\L B (.slice F on G) j):=⟨_,Nat.le_of_lt q,k.size,T⟩;have H:=i.1.trans (((Ed (AA E.heap.size E) _).trans k).mono (Nat.le_of_lt q));clear T k i A;go_wp2_with fail
   go_returns;obtain⟨B,h1,M,h3⟩:=Dw K;exact⟨I,B,_,j,h1,M,h3,H,I⟩
theorem RM.hdc(h:RM x v F G w)(hc:G.b[i]?=c)(hl:c.a[k]?=l){lb:Nat}(b:v.h[i]?=lb):∃g cap,kC w x i k g G.b cap lb c.a c.b l:=by
 have⟨g,cap,z,d,a⟩:=h.at hc;have e:z.2.lb=lb:=by grind [Tk.h]
 subst e;exact⟨g,cap,a.x9,a.c0,a.c2,a.cells hl,(GG hc),(GG hl)⟩
theorem RM.lb(h:RM x v F G w)(hc:G.b[i]?=c):∃lb,v.h[i]?=some lb:=by grind [RM,RV.h]
theorem lW(b:R.Wf G)(hc:G.b[i]?=c)(hl:c.a[k]?=l)(e:l.d=1)(j:EC P):EC ⟨6,i,c.b,k,l.a,l.c,P.Ez,P.off,false,[]⟩:=by
 have a:=(b.cl i c hc).H k l hl;have⟨m,n,_,_,_,_⟩:=a.one e;have f:=(b.cl i c hc).b;have g:=a.a;have d:=b.cf;unfold R.GA at d;have e:=b.a;have h:=(b.cl i c hc).a
 grind [EC,Ju]
theorem jG(hc:G.b[i]?=c)(hl:c.a[k]?=l)(a:P.H=k):R.LP G i P=R.E9 G (-1) ⟨6,i,c.b,k,l.a,l.c,P.Ez,P.off,false,[]⟩:=by grind [R.LP,R.FH,R.GH]
theorem RM.H(h:RM x v F G w){l:R.Ln}(hc:G.b[i]?=c)(hl:c.a[k]?=l)(t:l.d≠2){lb:Nat}(q:v.h[i]?=lb)(s:Ac)(p a:Int):∃n e,RM x n e (R.Eh G i k {l with H:=s,f:=p,X:=a}) (Mr w lb k s p a)/\D8 F e w (Mr w lb k s p a)/\n.h=v.h:=by
 have⟨g,cap,z,y,d⟩:=h.at hc;have o:z.2.lb=lb:=by grind [Tk.h]
 subst o;have⟨m,r,_⟩:=d.H hl t;have b:=GG m;refine h.M5 hc d (l':={l with H:=s,f:=p,X:=a}) (V':=Dz) (Rs.nil w F r) (((Eg _).trans (Eg _)).trans (Eg _)) ?_;have s2:=FL (l:={l with H:=s}) (l1:={l with H:=s,f:=p}) (FL (l1:={l with H:=s}) d.lb m (j:=7) (u:=.string (str s)) U I) (AO b) (j:=8) (u:=Z p) U I;rw[A5]at s2;have s3:=FL (l:={l with H:=s,f:=p}) (l1:={l with H:=s,f:=p,X:=a}) s2 (AO b) (j:=6) (u:=Z a) U I;rw[A5]at s3;exact s3
theorem UN(hc:G.b[i]?=c)(hl:c.a[k]?=l)(l':R.Ln):(R.Eh G i k l').b[i]?=some {c with a:=c.a.set k l'}/\(c.a.set k l')[k]?=l':=by grind [R.Ft]
theorem RM.ended(h:RM x v F G w)(hc:G.b[i]?=c)(hl:c.a[k]?=l)(E:l.d≠2){lb:Nat}(C:v.h[i]?=lb){O:Ad}{a:List R.It}(y:V.Row w B O a)(hB:B<=w)(p:a≠[]):∃m F',RM x m F' (R.Eh G i k {l with D:=a,d:=2}) ((w.setCell (Y lb (k*11+2)) O).setCell (Y lb (k*11+1)) (Z 2))/\DF (λb=>b=lb) w ((w.setCell (Y lb (k*11+2)) O).setCell (Y lb (k*11+1)) (Z 2))/\(∀j,F' j->F j\/B<=j)/\F lb/\m.h=v.h:=by
 obtain⟨n,o⟩:=ND y p;have r:=h.acE (F':=λj=>F j\/O.ownBlock=some j) (λ_ q=>Aj q) (λj e=>by
  rcases e with e|e
  .exact h.lt j e
  .exact(o j e).2)
 obtain⟨g,cap,z,M,f⟩:=r.at hc;have t:z.2.lb=lb:=by all_goals grind [Tk.h]
 subst t;obtain⟨s,L,_⟩:=f.H hl E;have hk:DF (λb=>b=z.2.lb) w ((w.setCell (Y z.2.lb (k*11+2)) O).setCell (Y z.2.lb (k*11+1)) (Z 2)):=(Eg _).trans (Eg _);have A:Rs w (λj=>F j\/O.ownBlock=some j) O {l with D:=a,d:=2}:=⟨n.keep (DF.refl (λ_=>False) w) (λ_ _ _ _ q=>q) (λ_ q=>Am q),λq=>absurd I q⟩;obtain⟨m,F',H,J,K⟩:=r.M5 hc f (l':={l with D:=a,d:=2}) (V':=O) A hk (by
  have s2:=FL (V:=O) (V1:=O) (l:={l with D:=a}) (l1:={l with D:=a,d:=2}) (FL (V1:=O) (l1:={l with D:=a}) f.lb s (j:=2) (u:=O) U I) (AO (GG s)) (j:=1) (u:=Z 2) U I;rw[A5]at s2;exact s2)
 refine⟨m,F',H,hk,λj e=>?_,?_,K⟩
 .rcases J.fresh j e with (q|q)|q;all_goals grind
 .exact(h.b i z f.hz).1
structure Pn(x:Nat)(v:RV)(F:D9)(G:R.Wd)(w:Aa)(i k:Nat)(P:Pk)(b:Bool)(Gm:R.Wd):Prop where
 no:b=false->R.IL G i P=Gm
 N3:b=true->R.IL G i P=R.JS Gm i k/\Gm.c=G.c/\∃c' l',Gm.b[i]?=some c'/\c'.a[k]?=some l'/\l'.d≠2
 call:∀W,Below w.heap.size w W->Calls prog 244 #[Ey x,Z i,pv P] W λe w'=>e=.returned (.bool b)/\∃v' F',RM x v' F' Gm w'/\D8 F F' w w'/\v'.h=v.h
theorem RW.D(h:RW x v F G w)(hI:R.Inv M G)(r:R.At G i k c l)(h1:l.d=1)(K:P.H=k)(hr:EC P){d:R.Cd}{e:R.En}(hd:M ⟨i,c.b,k,l.a⟩=d)(hdn:R.Kz G.a ⟨i,c.b,k,l.a⟩ d e rb)(ho:P.off=R.DL rb)(hb:P.d=R.EY rb P.Ez):∃b Gm,Pn x v F G w i k P b Gm:=by
 have⟨lb,z⟩:=h.toRM.lb r.cl;have ad:=(h.wf.cl i c r.cl).H k l r.ln;have⟨z1,z2,T,b1,ar,aq⟩:=ad.one h1;have⟨d',w1,w2,w3,w4,w5,w6,w7⟩:=(hI.ln i c k l r.cl r.ln).H h1;rw[hd]at w1;cases w1;have b9:=hr.2.2.2.2.2.2.2.1;have b7:=hr.2.2.2.2.2.2.1;have ba:=R.IV T.2;have aN:=R.ID (s:=l.b) T.1;have ab:=lW h.wf r.cl r.ln h1 hr;have aS:rb.length<=70:=by
  exact ab9
 have b4:l.H.length<=72/\(l.f<P.off):=by grind [R.Inv.unique,R.LF]
 have b3:P.d.length<=8:=by rw[hb,R.LA];omega
 have u:Hid (∀W,D7 193 #[.string (str l.b),Z 0] W (.tuple #[.string (str (R.EY l.b 0)),Z (R.DL l.b)]) λE=>E=W):=λW=>Ma l.b 0 U U W
 have b5:R.Ia G i P.H=l:=by rw[K];exact r.H
 have t:R.IL G i P=if l.X<R.DL l.b-1\/l.f<P.Ez then G else if P.Ez=l.f then (if l.f+1=P.off then R.Eh G i k {l with H:=l.H++P.d,f:=l.f+1,X:=R.DL l.b,D:=(V.I8 l.to (l.H++P.d)).2,d:=2} else R.JS (R.LP (R.Eh G i k {l with H:=l.H++P.d,f:=l.f+1,X:=R.DL l.b}) i P) i k) else R.LP G i P:=by grind [R.IL]
 have hC:∀W,DY w W->∃g cap,kC W x i k g G.b.length cap lb c.a.length c.b l:=λW m=>(h.toRM.h m).hdc r.cl r.ln z
 have L:∀{W},DY w W->D8 F F w W:=λm=>D8.J F m
 by_cases hold:l.X<R.DL l.b-1\/l.f<P.Ez
 .refine⟨false,G,⟨λ_=>by rw[t,Ay hold],Ev,λW m=>?_⟩⟩;have⟨g,cap,hd⟩:=hC W m;refine cm (vp W x i k g _ cap lb _ c.b l P _ _ K hd U U u) λE a=>?_
  have hT:=m.trans (a.mono m.size);exact⟨I,v,F,h.toRM.h hT,D8.J F hT,I⟩
 .by_cases S:P.Ez=l.f
  .have aa:=λW (m:DY w W)=>(h.toRM.h m).H r.cl r.ln U z (l.H++P.d) (l.f+1) (R.DL l.b)
   have⟨sc,sl⟩:=UN r.cl r.ln {l with H:=l.H++P.d,f:=l.f+1,X:=R.DL l.b};by_cases p:l.f+1=P.off
   .have C:l.H++P.d=rb:=by
     obtain⟨n,hn⟩:∃n:Nat,l.f=(n:Int):=⟨l.f.toNat,U⟩;have Q:l.H=rb.take (8*n):=by
      exact abU
     rw[Q,hb,S,hn,R.Md,R.L6 (by rw[<-ho,<-p,hn];rfl)]
    have y:V.I8 l.to (l.H++P.d)=(0,e.D):=by rw[C,w4];exact R.Kq hdn.bytes
    refine⟨false,R.Eh G i k {l with H:=l.H++P.d,f:=l.f+1,X:=R.DL l.b,D:=e.D,d:=2},⟨λ_=>by rw[t,Ao hold,Ay S,Ay p,y],Ev,λW m=>?_⟩⟩;have⟨g,cap,hd⟩:=hC W m;have⟨v1,F1,r1,r2,r3⟩:=aa W m;refine(om W x i k g _ cap lb _ c.b l P _ _ 0 (λB O E=>V.Row E B O e.D) K hd U U U S U p U U (λo=>(h.toRM.h m).FX r.cl z |>.z o) u (λW'=>?_)).mono ?_
    .have hu:=V.V5 l.to (l.H++P.d) W';rw[y]at hu;refine hu.mono ?_;rintro e' E ⟨O,rfl,hR,a⟩;obtain⟨oa,on,oc,rfl⟩:=Ei hR
     grind
    .rintro e' E ⟨rfl,B,O,W2,b2,am,hO,an,rfl⟩;have A:(Mr W lb k (l.H++P.d) (l.f+1) (R.DL l.b)).heap.size=W.heap.size:=Ev;have N:=an;rw[<-A]at N;have ac:v1.h[i]?=some lb:=by rw[r3];exact z
     have⟨v2,F2,m1,m2,m3,m4,m5⟩:=(r1.h N).ended sc sl (by show l.d≠2;omega) ac hO am (V6 hdn.bytes hdn.pos);rw[Pm]at m1;refine⟨I,v2,F2,m1,?_,m5.trans r3⟩;have J:=((L m).trans r2).trans (D8.J F1 N);refine⟨J.H.andThen m2 (λj hj e=>?_),λj hj=>?_⟩
     .subst e;rcases J.fresh j m4 with q|q
      .exact q
      .omega
     .rcases m3 j hj with q|q
      .exact J.fresh j q
      .exact Am (Br m.size U)
   .refine⟨true,R.LP (R.Eh G i k {l with H:=l.H++P.d,f:=l.f+1,X:=R.DL l.b}) i P,⟨Ev,λ_=>⟨by rw[t,Ao hold,Ay S,Ao p],?_,?_⟩,λW m=>?_⟩⟩
    .unfold R.LP;exact R.Mb _ _ _
    .grind [R.LP,K7]
    .have⟨g,cap,hd⟩:=hC W m;have⟨v1,F1,r1,r2,r3⟩:=aa W m;have A:(Mr W lb k (l.H++P.d) (l.f+1) (R.DL l.b)).heap.size=W.heap.size:=Ev;have ae:R.Wf (R.Eh G i k {l with H:=l.H++P.d,f:=l.f+1,X:=R.DL l.b}):=h.wf.h ⟨ad.a,λ_=>⟨z1,z2,T,by simp only;omega,ar,aq⟩⟩;have R1:RW x v1 F1 _ _:=⟨r1,ae,h.g⟩;refine oo W x i k g _ cap lb _ c.b l P _ _ _ K hd U U U S U p U U (λo=>(h.toRM.h m).FX r.cl z |>.z o) u (λW' a=>?_) (λW' a=>?_)
     .rw[<-A]at a;exact(R1.h a).Xz sc sl 6
     .rw[<-A]at a;refine((R1.h a).UL (-1) ⟨6,(i:Int),c.b,(k:Int),l.a,l.c,P.Ez,P.off,false,[]⟩ ab).mono ?_;rintro e' E ⟨rfl,v2,F2,m1,m2,m3⟩;refine⟨I,v2,F2,?_,(((L m).trans r2).trans (D8.J F1 a)).trans m2,(RV.eU m3).trans r3⟩;rw[jG sc sl K];exact m1.toRM
  .refine⟨false,R.LP G i P,⟨λ_=>by rw[t,Ao hold,Ao S],Ev,λW m=>?_⟩⟩;have⟨g,cap,hd⟩:=hC W m;refine gu W x i k g _ cap lb _ c.b l P _ _ _ K hd U U U S U u (λW' a=>?_) (λW' a=>?_)
   .exact((h.h m).h a).Xz r.cl r.ln 6
   .refine(((h.h m).h a).UL (-1) ⟨6,(i:Int),c.b,(k:Int),l.a,l.c,P.Ez,P.off,false,[]⟩ ab).mono ?_;rintro e' E ⟨rfl,v2,F2,m1,m2,m3⟩;refine⟨I,v2,F2,?_,((L m).trans (D8.J F a)).trans m2,RV.eU m3⟩;rw[jG r.cl r.ln K];exact m1.toRM
theorem RW.heard(h:RW x v F G w)(hI:R.Inv M G)(hr:EC P){to:Int}(b6:to≠-1)(hp:R.Tj M G.a to P):
  D7 197 #[Ey x,Z to,pv P] w Ep λz=>∃H A,RM x H A (R.Kl G to P) z/\D8 F A w z:=by
 have⟨d,hd,hu,hk⟩:=hp;have⟨b1,i,c,k,l,r1,r2,D,r4,r5,r6,r7,r8,r9⟩:=hI.bk _ d hd;simp only[R.JD]at r1 D r5 r6 r7 r8 r9;have hat:R.At G i k c l:=⟨r2,r4⟩;have ar:to=(i:Int):=by grind
 subst ar;have e0:R.Kl G i P=if l.d≠1\/P.b≠c.b\/P.a≠l.a then G else if P.J=2 then (if P.Ez=l.X then R.JS (if l.X+1<R.DL l.b then R.EG (R.Eh G i k {l with X:=l.X+1}) i k false else R.Eh G i k {l with X:=l.X+1}) i k else G) else if P.J=4 then R.JS G i k else if P.J=5 then R.IL G i P else if P.J=7 then R.Eh G i k {l with d:=4+P.Ez} else G:=by
  unfold R.Kl;simp only;rw[D,hat.H,R.GH hat.cl]
 rw[e0];have⟨lb,p⟩:=h.toRM.lb hat.cl;have⟨g,cap,hC⟩:=h.toRM.hdc hat.cl hat.ln p;have same:∀W,DY w W->∃H A,RM x H A G W/\D8 F A w W:=λW f=>⟨v,F,h.toRM.h f,D8.J F f⟩
 by_cases ah:l.d≠1\/P.b≠c.b\/P.a≠l.a
 .rw[Ay ah];refine cm (nT w x i k g _ cap lb _ c.b l P D hC U) λz T=>?_
  exact⟨I,same z T⟩
 rw[Ao ah];have h1:l.d=1:=by grind
 have s:P.b=c.b:=by grind
 have t:P.a=l.a:=by grind
 have ak:=(h.wf.cl i c hat.cl).H k l hat.ln;have⟨z1,z2,ae,aV,aw,av⟩:=ak.one h1;have b4:=R.IV ae.2;have o:Hid (∀W,D7 193 #[.string (str l.b),Z 0] W (.tuple #[.string (str (R.EY l.b 0)),Z (R.DL l.b)]) λz=>z=W):=λW=>Ma l.b 0 U U W
 have hkey:R.JD P=⟨i,c.b,k,l.a⟩:=by simp[R.JD,r1,D,s,t]
 have y:∀W,DY w W->EK W x lb G.c.c G.c.e:=λW f=>(h.toRM.h f).FX hat.cl p
 have b5:=hr.2.2.2.2.2.2.2.1;have b2:=hr.2.2.2.2.2.2.1;by_cases k2:P.J=2
 .rw[Ay k2];by_cases B:P.Ez=l.X
  .rw[Ay B];have hA:∀W,DY w W->_:=λW f=>(h.toRM.h f).abb (l':={l with X:=l.X+1}) hat.cl hat.ln U p (j:=6) (u:=Z (l.X+1)) U I (hI.ln i c k l hat.cl hat.ln |>.none U)
   have⟨sc,sl⟩:=UN hat.cl hat.ln {l with X:=l.X+1};have aN:P.off=R.DL l.b:=by
    exact afO
   by_cases hm:l.X+1<R.DL l.b
   .rw[Ay hm];refine ZV w x i k g _ cap lb _ c.b l P _ _ _ D hC h1 s t G.c.c G.c.e (λz=>∃H A,RM x H A (R.EG (R.Eh G i k {l with X:=l.X+1}) i k false) z/\D8 F A w z/\H.h=v.h) k2 B U hm o (λW f=>(y W f).z) (λW f=>?_) (λW' hq=>?_)
    .have⟨v1,N,a1,a2,a3⟩:=hA w (AA _ _);have hsz:(w.setCell (Y lb (k*11+6)) (Z (l.X+1))).heap.size=w.heap.size:=Ev;rw[<-hsz]at f;have R1:RW x v1 N _ _:=⟨a1,h.wf.h (l':={l with X:=l.X+1}) ⟨ak.a,λ_=>⟨z1,z2,ae,by simp only;omega,aw,av⟩⟩,h.g⟩;refine cm ((R1.h f).UK sc sl h1 (by exact hm) false) ?_;rintro z ⟨L,Q,C,m2,O⟩;exact⟨I,L,Q,C.toRM,(a2.trans (D8.J N f)).trans m2,(RV.eU O).trans a3⟩
    .have⟨L,Q,C,m2,O⟩:=hq;have K:(R.EG (R.Eh G i k {l with X:=l.X+1}) i k false).b[i]?=some {c with a:=c.a.set k {l with X:=l.X+1}}:=by
      unfold R.EG;rw[K7];exact sc
     have aa:(R.EG (R.Eh G i k {l with X:=l.X+1}) i k false).c=G.c:=by
      unfold R.EG;rw[R.Mb];rfl
     have n:L.h[i]?=some lb:=by rw[O];exact p
     have⟨g2,S,E⟩:=C.hdc K sl n;have r:=C.FX K n;rw[aa]at r;refine⟨r,E.ln,λW2 hb2=>?_⟩;have⟨v3,F3,n1,n2,n3⟩:=C.rest K sl (by show l.d≠2;omega) n;rw[aa]at n1 n2;exact abx
   .rw[Ao hm];refine ZU w x i k g _ cap lb _ c.b l P _ _ _ D hC h1 s t G.c.c G.c.e k2 B U hm o (λW f=>⟨y W f,λW' m=>?_⟩);have⟨v1,N,a1,a2,a3⟩:=hA W f;have ac:v1.h[i]?=some lb:=by rw[a3];exact p
    have⟨v3,F3,n1,n2,n3⟩:=a1.rest sc sl (by show l.d≠2;omega) ac;have hsz:(Qo (W.setCell (Y lb (k*11+6)) (Z (l.X+1))) lb k G.c.c G.c.e).heap.size=W.heap.size:=Ev;rw[<-hsz]at m;exact⟨v3,F3,n1.h m,(((D8.J F f).trans a2).trans n2).trans (D8.J F3 m)⟩
  .rw[Ao B];exact XK w x i k g _ cap lb _ c.b l P _ _ _ D hC h1 s t k2 B o same
 rw[Ao k2];by_cases k4:P.J=4
 .rw[Ay k4];refine ZW w x i k g _ cap lb _ c.b l P _ _ _ D hC h1 s t G.c.c G.c.e k4 o (λW f=>⟨y W f,λW' m=>?_⟩);have⟨v3,F3,n1,n2,n3⟩:=(h.toRM.h f).rest hat.cl hat.ln U p;have hsz:(Qo W lb k G.c.c G.c.e).heap.size=W.heap.size:=Ev;rw[<-hsz]at m;exact⟨v3,F3,n1.h m,((D8.J F f).trans n2).trans (D8.J F3 m)⟩
 rw[Ao k4];by_cases k5:P.J=5
 .rw[Ay k5];rw[hkey]at hd hk;rcases hk with ⟨q,_⟩|⟨q,_⟩|⟨q,_⟩|⟨q,_⟩|⟨_,_,e,rb,q1,q2,q3⟩|⟨q,_⟩|⟨q,_⟩
  .omega
  .omega
  .omega
  .omega
  .have⟨b,Gm,hR⟩:=h.D hI hat h1 D hr hd q1 q2 q3;refine fW w x i k g _ cap lb _ c.b l P _ _ _ D hC h1 s t G.c.c G.c.e b (λz=>∃H A,RM x H A Gm z/\D8 F A w z/\H.h=v.h) k5 o hR.call (λT W' hq=>?_) (λT W' hq=>?_)
   .have⟨L,Q,C,m2,O⟩:=hq;rw[hR.no T];exact⟨L,Q,C,m2⟩
   .have⟨L,Q,C,m2,O⟩:=hq;have⟨er,ec,c',l',J,ab,aq⟩:=hR.N3 T;rw[er];have n:L.h[i]?=some lb:=by rw[O];exact p
    have⟨g2,S,E⟩:=C.hdc J ab n;have r:=C.FX J n;rw[ec]at r;refine⟨r,⟨_,E.ln.l9⟩,⟨_,E.ln.l10⟩,λW2 hb2=>?_⟩;have⟨v3,F3,n1,n2,n3⟩:=C.rest J ab aq n;rw[ec]at n1 n2;exact abx
  .omega
  .omega
 rw[Ao k5];have k7:P.J=7:=by grind
 rw[Ay k7];refine ZX w x i k g _ cap lb _ c.b l P _ _ _ D hC h1 s t k7 U o (λW f=>⟨(y W f).z,λW' m=>?_⟩);have⟨v1,N,a1,a2,a3⟩:=(h.toRM.h f).abb (l':={l with d:=4+P.Ez}) hat.cl hat.ln U p (j:=1) (u:=Z (4+P.Ez)) U I (hI.ln i c k l hat.cl hat.ln |>.none U);have hsz:(W.setCell (Y lb (k*11+1)) (Z (4+P.Ez))).heap.size=W.heap.size:=Ev;rw[<-hsz]at m;exact⟨v1,N,a1.h m,((D8.J F f).trans a2).trans (D8.J N m)⟩
abbrev af5(w:Aa)(k c li ln sq u pa o:Int)(pl:Bool)(S:Ab):World:=w.alloc (.cells #[Z k,Z c,Z li,Z ln,Z sq,Z u,Z pa,Z o,.bool pl,.string S] 82)
theorem cW(w:Aa)(k c li ln b u pa o:Int)(a:Bool)(S:Ab):DY w (af5 w k c li ln b u pa o a S):=F9
abbrev aa9(b:Bool)(w:Aa):Ending->World->Prop:=λe w'=>e=.returned (.bool b)/\Below w w w'
theorem XF(p:Pk)(w:Aa):ET 186 #[pv p] w (aa9 (decide (EC p)) w):=by
 have⟨k,c,e,ln,f,u,pa,o,h,a⟩:=p;have HB:=Dx (cW w k c e ln f u pa o h (str a));obtain⟨b,g⟩:∃b,decide (EC ⟨k,c,e,ln,f,u,pa,o,h,a⟩)=b:=DK;rw[g];have HR:=Dx g;clear g;have i:=Er a;have HS:=Dx i;clear i;show ET 186 #[S9 k c e ln f u pa o h (str a)] w _;by_cases v:k<1;rotate_left;by_cases y:7<k;rotate_left;by_cases z:c<0;rotate_left;by_cases A:2<c;rotate_left;by_cases B:e<1;rotate_left;by_cases C:255<e;rotate_left;by_cases D:ln<0;rotate_left;by_cases E:2<ln;rotate_left;by_cases d:f<1;rotate_left;by_cases F:999<f;rotate_left;by_cases j:u<1;rotate_left;by_cases l:255<u;rotate_left;by_cases m:o<1;rotate_left;by_cases n:9<o;rotate_left;by_cases q:pa<0;rotate_left;by_cases r:o<=pa;rotate_left;by_cases k1:k=1\/k=5
 .by_cases d:((str a).size:Int)=8;rotate_left;by_cases s:pa=o-1
  .subst s;have d:(((str a).size:Int)==8)=false:=by simpa using d
   exact afH
  have d:(((str a).size:Int)==8)=false:=by simpa using d
  all_goals
   exact afH
 .have G:(k != 1)=true:=Fy;have H:(k != 5)=true:=Fy
  delta ET
  go_in
  go_wp2
  go_ret
  refine⟨?_,HB⟩;refine CG (λx=>Ending.returned (.bool x)) ?_;rw[<-HR.out,BH];clear HB HR HS;simp[EC,Ju,k1]
  grind
 all_goals
  delta ET
  go_in
  go_wp2
  go_ret
  refine⟨?_,HB⟩;rw[<-HR.out,decide_eq_false λt=>by simp only[EC]at t;omega];rfl
abbrev zL(r:Option Pk):Ending:=match r with
 |none=>.returned (.tuple #[NY,.int .i64 7])
 |some p=>.returned (.tuple #[pv p,.int .i64 0])
theorem aaU(c:UInt8):IntKind.i64.wrap c.toNat=c.toNat:=by
 have:=c.toNat_lt;rw[BS];omega
theorem tN(c:UInt8):IntKind.i64.wrap (256*c.toNat)=256*c.toNat:=by
 have:=c.toNat_lt;rw[BS];omega
theorem qq(a c:UInt8):IntKind.i64.wrap (256*a.toNat+c.toNat)=256*a.toNat+c.toNat:=by
 have:=a.toNat_lt;have:=c.toNat_lt;rw[BS];omega
theorem Vq(S:Ab)(w:Aa)(h:(S:Int)<13):D7 122 #[.string S] w (.tuple #[NY,Z 7]) (DY w):=by
 delta D7
 go_in
 go_wp2;refine Bm (v:=.tuple #[NY,Z 7]) (by simp[results,results122,go_sem]) I ⟨I,F9⟩
def aa8(S:Ab)(r:Bool)(ST:Ab)(v:Ad)(w:Aa):Ending->World->Prop:=λe w'=>e=.returned (if r=true/\ST=S then .tuple #[v,Z 0] else .tuple #[NY,Z 7])/\Below w w w'
abbrev opened(S:Ab)(h13:13<=S.size):Array Value:=#[Z ((S[0]'(Ai (by decide) h13)).toNat:Int),Z ((S[1]'(Ai (by decide) h13)).toNat:Int),Z ((S[2]'(Ai (by decide) h13)).toNat:Int),Z ((S[3]'(Ai (by decide) h13)).toNat:Int),Z (256*((S[4]'(Ai (by decide) h13)).toNat:Int)+((S[5]'(Ai (by decide) h13)).toNat:Int)),Z ((S[6]'(Ai (by decide) h13)).toNat:Int),Z ((S[7]'(Ai (by decide) h13)).toNat:Int),Z ((S[8]'(Ai (by decide) h13)).toNat:Int),.bool (((S[9]'(Ai (by decide) h13)).toNat:Int)==1),.string (S.extract 11 (S-2))]
theorem XD(S z:Ab)(r:Bool)(w:Aa)(a:13<=S.size)(hm:(S:Int)<=9223372036854775807)
  (p:∀w,ET 186 #[.agg #[Z ((S[0]'(Ai Em a)).toNat:Int),Z ((S[1]'(Ai Em a)).toNat:Int),Z ((S[2]'(Ai Em a)).toNat:Int),Z ((S[3]'(Ai Em a)).toNat:Int),Z (256*((S[4]'(Ai Em a)).toNat:Int)+((S[5]'(Ai Em a)).toNat:Int)),Z ((S[6]'(Ai Em a)).toNat:Int),Z ((S[7]'(Ai Em a)).toNat:Int),Z ((S[8]'(Ai Em a)).toNat:Int),.bool (((S[9]'(Ai Em a)).toNat:Int)==1),.string (S.extract 11 (S-2))]] w (aa9 r w))
  (q:r=true->∀w,D7 187 #[.agg #[Z ((S[0]'(Ai Em a)).toNat:Int),Z ((S[1]'(Ai Em a)).toNat:Int),Z ((S[2]'(Ai Em a)).toNat:Int),Z ((S[3]'(Ai Em a)).toNat:Int),Z (256*((S[4]'(Ai Em a)).toNat:Int)+((S[5]'(Ai Em a)).toNat:Int)),Z ((S[6]'(Ai Em a)).toNat:Int),Z ((S[7]'(Ai Em a)).toNat:Int),Z ((S[8]'(Ai Em a)).toNat:Int),.bool (((S[9]'(Ai Em a)).toNat:Int)==1),.string (S.extract 11 (S-2))]] w (.string z) (DY w)):
  ET 122 #[.string S] w (aa8 S r z (.agg #[Z ((S[0]'(Ai Em a)).toNat:Int),Z ((S[1]'(Ai Em a)).toNat:Int),Z ((S[2]'(Ai Em a)).toNat:Int),Z ((S[3]'(Ai Em a)).toNat:Int),Z (256*((S[4]'(Ai Em a)).toNat:Int)+((S[5]'(Ai Em a)).toNat:Int)),Z ((S[6]'(Ai Em a)).toNat:Int),Z ((S[7]'(Ai Em a)).toNat:Int),Z ((S[8]'(Ai Em a)).toNat:Int),.bool (((S[9]'(Ai Em a)).toNat:Int)==1),.string (S.extract 11 (S-2))]) w):=by
 obtain⟨j,l⟩:=FU p q;obtain⟨W,B⟩:∃W,w.alloc (.cells zeroCells 82)=W:=DK;have HW:=Dx B;have y:Hid (W.heap.size=w.heap.size+1):=by
  rw[<-B];show _=_;simp
 have G:Hid (Dy W w.heap.size zeroCells 82):=by
  rw[<-B];exact AF w _
 have F:Hid (DY w W):=by
  rw[<-B];exact F9
 clear B p q;have h:¬(S.size:Int)<13:=U;have ak:=Dx a;have hq:IntKind.i64.wrap ((S.size:Int)-2)=(S.size:Int)-2:=Iz;have J:(11:Int)<=(S.size:Int)-2:=U;have L:(S.size:Int)-2<=(S.size:Int):=U;have l0:0<S.size:=U;have l1:(1:Int)<(S.size:Int):=U;have l2:(2:Int)<(S.size:Int):=U;have l3:(3:Int)<(S.size:Int):=U;have l4:(4:Int)<(S.size:Int):=U;have l5:(5:Int)<(S.size:Int):=U;have l6:(6:Int)<(S.size:Int):=U;have l7:(7:Int)<(S.size:Int):=U;have l8:(8:Int)<(S.size:Int):=U;have l9:(9:Int)<(S.size:Int):=U;have M:(0:Int)<=(S.size:Int)-2:=U;obtain⟨b,d⟩:∃b,aa8 S r z (.agg #[Z ((S[0]'(Ai Em a)).toNat:Int),Z ((S[1]'(Ai Em a)).toNat:Int),Z ((S[2]'(Ai Em a)).toNat:Int),Z ((S[3]'(Ai Em a)).toNat:Int),Z (256*((S[4]'(Ai Em a)).toNat:Int)+((S[5]'(Ai Em a)).toNat:Int)),Z ((S[6]'(Ai Em a)).toNat:Int),Z ((S[7]'(Ai Em a)).toNat:Int),Z ((S[8]'(Ai Em a)).toNat:Int),.bool (((S[9]'(Ai Em a)).toNat:Int)==1),.string (S.extract 11 (S.size-2))]) w=b:=DK;have n:=Dx d;rw[d];clear d
 delta ET
 go_in
 go_wp2_with fail
 rw[Dw HW];refine wp_region_any EL ?_;try (change wpAny _ _ _ _ _ _ _ (World.drew _))
 refine NV 0 (h:=?_);refine NV 1 (h:=?_);refine NV 2 (h:=?_);refine NV 3 (h:=?_);refine NV 4 (h:=?_);refine NV 5 (h:=?_);refine NV 6 (h:=?_);refine NV 7 (h:=?_);refine NV 8 (h:=?_);refine NV 9 (h:=?_);refine NV 10 (h:=?_);refine NV 11 (h:=?_);refine NV 12 (h:=?_);refine NV 13 (h:=?_);refine NV 14 (h:=?_);refine NV 15 (h:=?_);refine NV 16 (h:=?_);refine NV 17 (h:=?_);refine NV 18 (h:=?_);refine NV 19 (h:=?_);refine NV 20 (h:=?_);refine NV 21 (h:=?_);refine NV 22 (h:=?_);refine NV 23 (h:=?_);refine NV 24 (h:=?_);refine NV 25 (h:=?_);refine NV 26 (h:=?_);refine NV 27 (h:=?_);refine NV 28 (h:=?_);refine NV 29 (h:=?_);refine NV 30 (h:=?_);refine NV 31 (h:=?_);refine NV 32 (h:=?_);refine NV 33 (h:=?_);refine NV 34 (h:=?_);refine NV 35 (h:=?_);refine NV 36 (h:=?_);refine NV 37 (h:=?_);simp only[aaU,tN,qq];refine wpAny_ready (rs:=[38]) EL Ev ?_;refine AllReady.cons I (λK A=>?_) AllReady.nil;go_simp;refine A _ _ ?_;clear A K;refine wpAny_ready (rs:=[39]) EL Ev ?_;refine AllReady.cons I (λK A=>?_) AllReady.nil;go_simp;refine A _ _ ?_;clear A K;refine wpAny_done EL ?_ _;generalize ((S[0]'(Ai Em a)).toNat:Int)=k at *;generalize ((S[1]'(Ai Em a)).toNat:Int)=c at *;generalize ((S[2]'(Ai Em a)).toNat:Int)=li at *;generalize ((S[3]'(Ai Em a)).toNat:Int)=ln at *;generalize 256*((S[4]'(Ai Em a)).toNat:Int)+((S[5]'(Ai Em a)).toNat:Int)=sq at *;generalize ((S[6]'(Ai Em a)).toNat:Int)=u at *;generalize ((S[7]'(Ai Em a)).toNat:Int)=pa at *;generalize ((S[8]'(Ai Em a)).toNat:Int)=o at *;generalize (((S[9]'(Ai Em a)).toNat:Int)==1)=pl at *;have D:((S.size:Int)-2).toNat=S.size-2:=U;rw[D];clear D;generalize S.extract 11 (S.size-2)=BD at *;generalize ((S[4]'(Ai Em a)).toNat:Int)=s4 at *;generalize ((S[5]'(Ai Em a)).toNat:Int)=s5 at *;generalize ((S[9]'(Ai Em a)).toNat:Int)=s9 at *;clear l0 l1 l2 l3 l4 l5 l6 l7 l8 l9 hq J L M;go_wp2_with fail
 refine cm (j _) λw1 e=>?_
 have N:=e.size;have m:=Dw y;simp at N;rw[m];have hz:=(e.block w.heap.size DX).trans ((AL W _ _ U).trans G);have E:(W.alloc (.cells #[Z k,Z c,Z li,Z ln,Z sq,Z u,Z pa,Z o,.bool pl,.string BD] 82)).drew.heap[w.heap.size+1]?=some (.cells #[Z k,Z c,Z li,Z ln,Z sq,Z u,Z pa,Z o,.bool pl,.string BD] 82):=by
  rw[<-m];exact AF W _
 have H:=(e.block (w.heap.size+1) DX).trans E;have s:=Dx ((F.alloc U (.cells #[Z k,Z c,Z li,Z ln,Z sq,Z u,Z pa,Z o,.bool pl,.string BD] 82)).drew.trans (e.mono DX));clear m y e E;obtain⟨z0,z1,z2,z3,z4,z5,z6,z7,z8,z9⟩:=Yy hz;obtain⟨X,p1,p2,p3,p4,p5,p6,p7,p8,p9⟩:=Yy H;have cz:=Hf hz;obtain⟨P,x⟩:=FU hz H;clear hz H;cases r with
 |false=>
  have HF:Hid (∀g,DY w g->b (.returned (.tuple #[NY,Z 7])) g):=λg C=>by
   rw[<-Dw n];exact⟨Ev,C⟩
  clear n l j;go_wp2;exact Bm (v:=.tuple #[NY,Z 7]) (by simp[results,results122,go_sem,z0,z1,z2,z3,z4,z5,z6,z7,z8,z9]) I (HF _ (PV s (Ar _) (Z 0) (Z 0) (Z 0) (Z 0) (Z 0) (Z 0) (Z 0) (Z 0) DI (.string ⟨#[]⟩)))
 |true=>
  have H7:=Dx (l I);clear l j;have ao:=Gv X;go_wp2_with fail
  refine cm (H7 _) λw2 i=>?_
  have O:=(i.block w.heap.size U).trans (Dw P);have T:=(i.block (w.heap.size+1) U).trans (Dw x);have t:=Dx (s.trans (i.mono U));clear i X p1 p2 p3 p4 p5 p6 p7 p8 p9 z0 z1 z2 z3 z4 z5 z6 z7 z8 z9 cz P x;obtain⟨y0,y1,y2,y3,y4,y5,y6,y7,y8,y9⟩:=Yy O;obtain⟨x0,x1,x2,x3,x4,x5,x6,x7,x8,x9⟩:=Yy T;have cy:=Hf O;clear O T;by_cases f:z=S
  .have HF:Hid (∀g,DY w g->b (.returned (.tuple #[.agg #[Z k,Z c,Z li,Z ln,Z sq,Z u,Z pa,Z o,.bool pl,.string BD],Z 0])) g):=λg C=>by
    rw[<-Dw n];refine⟨?_,C⟩;simp[f]
   subst f;clear n;go_wp2;exact Bm (v:=.tuple #[.agg #[Z k,Z c,Z li,Z ln,Z sq,Z u,Z pa,Z o,.bool pl,.string BD],Z 0]) (by simp[results,results122,go_sem,y0,y1,y2,y3,y4,y5,y6,y7,y8,y9]) I (HF _ (PV t (Ar _) (Z k) (Z c) (Z li) (Z ln) (Z sq) (Z u) (Z pa) (Z o) (.bool pl) (.string BD)))
  .have HF:Hid (∀g,DY w g->b (.returned (.tuple #[NY,Z 7])) g):=λg C=>by
    rw[<-Dw n];refine⟨?_,C⟩;simp[f]
   have aq:(!z.toList==S.toList)=true:=by
    rw[Bool.not_eq_true',beq_eq_false_iff_ne];intro Q;rw[CH,CH]at Q;exact f (CJ (by simpa using Q))
   clear n f;go_wp2;exact Bm (v:=.tuple #[NY,Z 7]) (by simp[results,results122,go_sem,y0,y1,y2,y3,y4,y5,y6,y7,y8,y9]) I (HF _ (PV t (Ar _) (Z 0) (Z 0) (Z 0) (Z 0) (Z 0) (Z 0) (Z 0) (Z 0) DI (.string ⟨#[]⟩)))
theorem T6(l:Ac)(i:Nat)(h:i<(str l)):((str l)[i]'h)=l.getD i 0:=by grind [K8]
theorem RP(l:Ac)(w:Aa)(hl:l.length<=9223372036854775807):ET 122 #[.string (str l)] w λe c=>e=zL (Ut l)/\DY w c:=by
 have d:=Er l;unfold Ut;by_cases a:l.length<13
 .all_goals grind [Vq]
 .rw[Ao a];have b:13<=(str l).size:=U;have g:pv (XE l)=.agg (opened (str l) b):=by all_goals grind [Ho,XE,E5,T6]
  have h:=XD (str l) (str (Gq (XE l))) (decide (EC (XE l))) w b U ?_ ?_
  .refine cm h λc f=>?_
   all_goals grind
  all_goals grind [XF,Ph]
theorem zO{i:Int}(x8:EB w x 8 (.slice a n cap))(h:i<0\/(¬i<0/\n<=i)):
  D7 141 #[Ey x,Z i] w (Z 9) λb=>b=w:=by
 have d:=Gv x8;rcases h with h|⟨h,c⟩;all_goals
  delta D7
  go_in
  go_wp2;go_returns;exact DN
structure Fs(w:Aa)(x g n cap k:Nat)(to:Int)(S:Ab)(bent:Bool):Prop where
 x8:w.cell? (Y x 8)=some (EJ g n cap)
 hk:k<n
 c0:w.cell? (Y g (k*3))=some (Z to)
 c1:w.cell? (Y g (k*3+1))=some (.string S)
 c2:w.cell? (Y g (k*3+2))=some (.bool bent)
abbrev qb(w:Aa)(x k:Nat)(to:Int)(S:Ab)(bent:Bool)(Q:World->Prop):Prop:=Calls prog 138 #[Ey x,Z k] (w.alloc (.cells #[Z to,.string S,.bool bent] 278)) λe w'=>(∃c,e=.returned (Z c))/\w'.heap[w.heap.size]?=some (.cells #[Z to,.string S,.bool bent] 278 (0,0))/\Q w'
theorem uJ{to:Int}{b:Bool}(Q a:World->Prop)(h:Fs w x g n cap k to S b)(p:Hid (qb w x k to S b Q))
  (q:Hid (∀d,Q d->D7 122 #[.string S] d (.tuple #[NY,Z 7]) (DY d)))
  (r:Hid (∀d l,Q d->DY d l->a l)):
  D7 141 #[Ey x,Z k] w (Z 0) λs=>a s:=by
 have⟨x8,hk,c0,c1,c2⟩:=h;obtain⟨z,A,B,C⟩:0<=(k:Int)/\(k:Int)<n/\¬(k:Int)<0/\¬(n:Int)<=k:=U;have⟨y,v⟩:=KM x8 c0;clear hk
 delta D7
 go_in
 go_wp2_with (first|(go_at_call 138;refine p.mono ?_;rintro e d ⟨⟨c,rfl⟩,j,o⟩;have u:=EI j 1;have hl:=Dv j;have t:=Dx j;have m:=Dx o;clear j o)|(go_at_call 122;refine cm (q _ m) λl i=>?_;have f:=Dx i;clear i))
 go_returns;exact⟨I,r _ _ m (f.alloc f.size _)⟩
theorem nD{to:Int}(Q b:World->Prop)(h:Fs w x g n cap k to S true)(p:Hid (qb w x k to S true Q))
  (q:Hid (∀d,Q d->D7 122 #[.string S] d (.tuple #[pv P,Z 0]) (DY d)))
  (r:Hid (∀d i,Q d->DY d i->b i)):
  D7 141 #[Ey x,Z k] w (Z 0) λv=>b v:=by
 have⟨x8,hk,c0,c1,c2⟩:=h;obtain⟨B,C,D,E⟩:0<=(k:Int)/\(k:Int)<n/\¬(k:Int)<0/\¬(n:Int)<=k:=U;have⟨A,z⟩:=KM x8 c0;clear hk
 delta D7
 go_in
 go_wp2_with (first|(go_at_call 138;refine p.mono ?_;rintro e d ⟨⟨c,rfl⟩,j,m⟩;have y:=EI j 1;have hl:=Dv j;have o:=Dx j;have l:=Dx m;clear j m))
 refine cm (q _ l) λi a=>?_
 have g2:=ED ((a.block _ hl).trans o) 2 _ I;have s:=Ai hl a.size;have t:¬w.heap.size=i.heap.size:=U;have u:¬i.heap.size=w.heap.size:=U;have f:=Dx a;clear a;go_wp2_with fail
 go_returns;exact⟨I,r _ _ l (f.alloc f.size _)⟩
theorem nE(Q b:World->Prop)(h:Fs w x g n cap k (-1) S false)(s:Hid (qb w x k (-1) S false Q))
  (t:Hid (∀d,Q d->D7 122 #[.string S] d (.tuple #[pv P,Z 0]) (DY d)))
  (u:Hid (∀d i,Q d->DY d i->D7 196 #[Ey x,pv P] i Ep λm=>b m)):
  D7 141 #[Ey x,Z k] w (Z 0) λm=>b m:=by
 have⟨x8,hk,c0,c1,c2⟩:=h;obtain⟨D,E,F,G⟩:0<=(k:Int)/\(k:Int)<n/\¬(k:Int)<0/\¬(n:Int)<=k:=U;have⟨C,B⟩:=KM x8 c0;clear hk
 delta D7
 go_in
 go_wp2_with (first|(go_at_call 138;refine s.mono ?_;rintro e d ⟨⟨c,rfl⟩,j,r⟩;have A:=EI j 1;have hl:=Dv j;have o:=Dx j;have p:=Dx r;clear j r))
 refine cm (t _ p) λi a=>?_
 have g2:=ED ((a.block _ hl).trans o) 2 _ I;have g0:=ED ((a.block _ hl).trans o) 0 _ I;have v:=Ai hl a.size;have y:¬w.heap.size=i.heap.size:=U;have z:¬i.heap.size=w.heap.size:=U;have f:=Dx a;clear a;go_wp2_with (first|(go_at_call 196;refine cm (u _ _ p (f.alloc f.size _)) λH q=>?_;have l:=Dx q;clear q))
 go_returns;exact⟨I,l⟩
theorem uK{to:Int}(y:¬to=-1)(Q b:World->Prop)(h:Fs w x g n cap k to S false)(s:Hid (qb w x k to S false Q))
  (t:Hid (∀d,Q d->D7 122 #[.string S] d (.tuple #[pv P,Z 0]) (DY d)))
  (u:Hid (∀d i,Q d->DY d i->D7 197 #[Ey x,Z to,pv P] i Ep λm=>b m)):
  D7 141 #[Ey x,Z k] w (Z 0) λm=>b m:=by
 have⟨x8,hk,c0,c1,c2⟩:=h;obtain⟨E,F,G,H⟩:0<=(k:Int)/\(k:Int)<n/\¬(k:Int)<0/\¬(n:Int)<=k:=U;have⟨D,C⟩:=KM x8 c0;clear hk
 delta D7
 go_in
 go_wp2_with (first|(go_at_call 138;refine s.mono ?_;rintro e d ⟨⟨c,rfl⟩,j,r⟩;have B:=EI j 1;have hl:=Dv j;have o:=Dx j;have p:=Dx r;clear j r))
 refine cm (t _ p) λi a=>?_
 have g2:=ED ((a.block _ hl).trans o) 2 _ I;have g0:=ED ((a.block _ hl).trans o) 0 _ I;have v:=Ai hl a.size;have z:¬w.heap.size=i.heap.size:=U;have A:¬i.heap.size=w.heap.size:=U;have f:=Dx a;clear a;go_wp2_with (first|(go_at_call 197;refine cm (u _ _ p (f.alloc f.size _)) λJ q=>?_;have l:=Dx q;clear q))
 go_returns;exact⟨I,l⟩
theorem Pg(a:EC P):D7 122 #[.string (str (Gq P))] w (.tuple #[pv P,Z 0]) (DY w):=by grind [J4,Mm,RP,Zx,L8]
theorem RW.Ki(h:RW x v F G w)(J:R.Inv M G)i:
  D7 141 #[Ey x,Z i] w (Z (R.Fv G i).1) λw'=>∃d F',RW x d F' (R.Fv G i).2 w'/\D8 F F' w w':=by
 have r:=J.Ki i;suffices H:D7 141 #[Ey x,Z i] w (Z (R.Fv G i).1) λw'=>∃d F',RM x d F' (R.Fv G i).2 w'/\D8 F F' w w' by
  refine cm H ?_;rintro w' ⟨d,F',m,r2⟩;exact⟨I,d,F',m.whole r.wf r.ws,r2⟩
 have⟨a,T,W,x8⟩:=h.VJ;by_cases E:R.off G i
 .have e0:R.Fv G i=(9,G):=by
   unfold R.Fv;rw[Ay E]
  rw[e0];refine(zO x8 (by unfold R.off at E;omega)).mono ?_;rintro e w' ⟨rfl,rfl⟩;exact⟨I,v,F,h.toRM,D8.refl F w'⟩
 .have B:=E;unfold R.off at E;obtain⟨n,rfl⟩:∃n:Nat,i=(n:Int):=⟨i.toNat,U⟩;have hn:n<G.D.length:=U;obtain⟨f,C⟩:∃f,G.D[n]?=some f:=⟨_,Ah hn⟩;have t:=J.fl f (Ap C);have A:=J.erase n;have e0:R.Fv G (n:Int)=(0,if f.a=true then {G with D:=G.D.eraseIdx n} else match Ih f.s with
   |none=>{G with D:=G.D.eraseIdx n}
   |some p=>if f.to=-1 then R.KB {G with D:=G.D.eraseIdx n} p else R.Kl {G with D:=G.D.eraseIdx n} f.to p):=by
   unfold R.Fv;rw[Ao B];simp only[AY];rw[C];rfl
  have N:(R.JM G (n:Int)).2={G with D:=G.D.eraseIdx n}:=by
   unfold R.JM;rw[Ao B];rfl
  have L:f.s.length<=1000:=by
   have:=h.wf.b f (Ap C);omega
  have⟨g,cap,O,Q,k,_⟩:=Jx FY (by have:=h.wf.X;omega) h.X C;have c:Fs w x g G.D.length cap n f.to (str f.s) f.a:=⟨ED h.bx 8 _ (by rw[<-O];rfl),hn,k 0 _ U I,k 1 _ U I,k 2 _ U I⟩;have o:Hid (qb w x n f.to (str f.s) f.a (λj=>∃d F',RW x d F' {G with D:=G.D.eraseIdx n} j/\D8 F F' w j)):=by
   have y:DY w (w.alloc (.cells #[Z f.to,.string (str f.s),.bool f.a] 278)):=F9;refine cm ((h.h y).drop (n:Int)) ?_;rintro w' ⟨d,F',m,r2⟩;rw[N]at m;refine⟨⟨_,I⟩,r2.H.at (AF w _) (λq=>?_),d,F',m,(D8.J F y).trans r2⟩;have:=h.lt _ q;omega
  rw[e0];unfold R.Sc at t;cases y:f.a with
  |true=>
   rw[y]at c o;simp only[CQ];have K:Hid (∀j z,(∃d F',RW x d F' {G with D:=G.D.eraseIdx n} j/\D8 F F' w j)->DY j z->∃d F',RM x d F' {G with D:=G.D.eraseIdx n} z/\D8 F F' w z):=λj z S hb2=>by
    have⟨d,F',m,r2⟩:=S;exact⟨d,F',m.toRM.h hb2,r2.trans (D8.J F' hb2)⟩
   have b:=λj=>RP f.s j U
   cases s:Ut f.s with
   |none=>
    rw[s]at b;exact uJ _ _ c o (λj _=>b j) K
   |some P=>
    rw[s]at b;exact nD _ _ c o (λj _=>b j) K
  |false=>
   rw[y]at c o;rw[y,Ao Ev]at t;have⟨P,s,H,u⟩:=t;simp only[Ao (show ¬(false:Bool)=true by simp)];rw[H,L8 s];rw[H]at c o;simp only;by_cases l:f.to=-1
   .rw[Ay l];rw[l]at u c o;refine nE _ _ c o (λj _=>Pg s) ?_;rintro j z ⟨d,F',m,r2⟩ hb2;refine cm ((m.toRM.h hb2).Q A s u) ?_;exact acg
   .rw[Ao l];refine uK l _ _ c o (λj _=>Pg s) ?_;rintro j z ⟨d,F',m,r2⟩ hb2;refine cm ((m.h hb2).heard A s l u) ?_;exact acg
theorem Xg{t:Tw}(h:Ii N t w)(hk:o.J=14):
  D7 79 #[t.val,o.val] w DC λp=>KA N t (t.G) w p:=by
 have⟨r,a,b,d,e,g⟩:=Jc h o;have f:=Dx a;have l:=Dv d.t;have m:=Dv d.o;have c0:=EI d.t 0;have k:(o.J==14)=true:=by rw[hk];rfl
 have i:=Dx e.l.D;have⟨s,u,_,x8⟩:=e.r.VJ;have v:=Gv x8;have c1:=EI d.t 1;have j:=Dx (KA.ahead b ((e.adh (AA _ _)).rD (AA _ _)));generalize t.G.D.length=n at *;clear h a d b e hk
 delta D7
 go_in
 go_wp2_with fail
 rw[Dw f];refine cm i λq c=>?_
 rw[c];clear c q;go_wp2;go_returns;exact⟨I,j⟩
theorem dS{t:Tw}(h:Ii N t w)(hk:o.J=15):
  D7 79 #[t.val,o.val] w DC λu=>KA N t (t.G) w u:=by
 have⟨m,c,d,b,k,e⟩:=Jc h o;have j:=Dx c;have r:=Dv b.t;have s:=Dv b.o;have c0:=EI b.t 0;have p:(o.J==14)=false:=by rw[hk];rfl
 have q:(o.J==15)=true:=by rw[hk];rfl
 have d2:=EI b.o 2;have l:Hid (D7 136 #[ptr t.p.x,Z o.a] m (.tuple #[Z (R.MC t.G o.a).1,.string (str (R.MC t.G o.a).2.1),Z (R.MC t.G o.a).2.2]) λg=>Mid N t (t.G) m g):=by
  refine cm (k.l.show o.a) λg a=>?_
  exact⟨I,k.adh a⟩
 clear h c hk;have⟨n,i⟩:=FU b d;clear b d
 delta D7
 go_in
 go_wp2_with fail
 rw[Dw j];refine cm l λg a=>?_
 have f:=n.stays a e;have l1:=Dv f.t;have l2:=Dv f.o;have e1:=EI f.t 1;have e2:=EI f.o 2;have H2:Hid (D7 137 #[Ey t.x,Z o.a] g (.tuple #[Z (R.MC t.G o.a).1,.string (str (R.MC t.G o.a).2.1),Z (R.MC t.G o.a).2.2]) λw3=>KA N t (t.G) w w3):=by
  refine cm (a.r.show o.a) λw3 h3=>?_
  exact⟨I,KA.ahead i (a.rD h3)⟩
 clear a f l k c0;exact yd
theorem dR{t:Tw}(h:Ii N t w)(hk:o.J=16):
  D7 79 #[t.val,o.val] w DC λv=>KA N t ((R.JM t.G o.a).2) w v:=by
 have⟨m,b,c,a,hT,d⟩:=Jc h o;have j:=Dx b;have s:=Dv a.t;have u:=Dv a.o;have c0:=EI a.t 0;have p:(o.J==14)=false:=by rw[hk];rfl
 have q:(o.J==15)=false:=by rw[hk];rfl
 have r:(o.J==16)=true:=by rw[hk];rfl
 have d2:=EI a.o 2;have k:Hid (D7 61 #[ptr t.p.x,Z o.a] m (Z (R.JM t.G o.a).1) λf=>Mid N t ((R.JM t.G o.a).2) m f):=by
  refine cm (hT.l.drop o.a) λf hM=>?_
  exact wT
 clear h b hk;have⟨n,i⟩:=FU a c;clear a c
 delta D7
 go_in
 go_wp2_with fail
 rw[Dw j];refine cm k λf hM=>?_
 have e:=n.stays hM d;have l1:=Dv e.t;have l2:=Dv e.o;have e1:=EI e.t 1;have e2:=EI e.o 2;have H2:Hid (D7 138 #[Ey t.x,Z o.a] f (Z (R.JM t.G o.a).1) λw3=>KA N t ((R.JM t.G o.a).2) w w3):=by
  refine cm (hM.r.drop o.a) λw3 h3=>?_
  exact⟨I,KA.ahead i (hM.done h3 (Bd.drop hM.a.bd _))⟩
 clear hM e k hT c0;exact yd
theorem dQ{t:Tw}(h:Ii N t w)(hk:o.J=17):
  D7 79 #[t.val,o.val] w DC λx=>KA N t ((R.JA t.G o.a).2) w x:=by
 have⟨m,b,c,a,hT,d⟩:=Jc h o;have j:=Dx b;have u:=Dv a.t;have v:=Dv a.o;have c0:=EI a.t 0;have p:(o.J==14)=false:=by rw[hk];rfl
 have q:(o.J==15)=false:=by rw[hk];rfl
 have r:(o.J==16)=false:=by rw[hk];rfl
 have s:(o.J==17)=true:=by rw[hk];rfl
 have d2:=EI a.o 2;have k:Hid (D7 62 #[ptr t.p.x,Z o.a] m (Z (R.JA t.G o.a).1) λf=>Mid N t ((R.JA t.G o.a).2) m f):=by
  refine cm (hT.l.copy o.a) λf hM=>?_
  exact wT
 clear h b hk;have⟨n,i⟩:=FU a c;clear a c
 delta D7
 go_in
 go_wp2_with fail
 rw[Dw j];refine cm k λf hM=>?_
 have e:=n.stays hM d;have l1:=Dv e.t;have l2:=Dv e.o;have e1:=EI e.t 1;have e2:=EI e.o 2;have H2:Hid (D7 139 #[Ey t.x,Z o.a] f (Z (R.JA t.G o.a).1) λw3=>KA N t ((R.JA t.G o.a).2) w w3):=by
  refine cm (hM.r.copy o.a) λw3 h3=>?_
  exact⟨I,KA.ahead i (hM.done h3 (Bd.copy hM.a.bd _))⟩
 clear hM e k hT c0;exact yd
theorem dP{t:Tw}(h:Ii N t w)(hk:o.J=18):
  D7 79 #[t.val,o.val] w DC λy=>KA N t ((R.Jz t.G o.a o.b o.c).2) w y:=by
 obtain⟨m,b,c,a,hT,d⟩:=Jc h o;have j:=Dx b;have v:=Dv a.t;have x:=Dv a.o;have c0:=EI a.t 0;have p:(o.J==14)=false:=by rw[hk];rfl
 have q:(o.J==15)=false:=by rw[hk];rfl
 have r:(o.J==16)=false:=by rw[hk];rfl
 have s:(o.J==17)=false:=by rw[hk];rfl
 have u:(o.J==18)=true:=by rw[hk];rfl
 obtain⟨d2,d3,d4⟩:=TH a.o 2 3 4;have k:Hid (D7 63 #[ptr t.p.x,Z o.a,Z o.b,Z o.c] m (Z (R.Jz t.G o.a o.b o.c).1) λf=>Mid N t ((R.Jz t.G o.a o.b o.c).2) m f):=by
  refine cm (hT.l.Sf o.a o.b o.c) λf hM=>?_
  exact wT
 clear h b hk;obtain⟨n,i⟩:=FU a c;clear a c
 delta D7
 go_in
 go_wp2_with fail
 rw[Dw j];refine cm k λf hM=>?_
 have e:=n.stays hM d;have l1:=Dv e.t;have l2:=Dv e.o;have e1:=EI e.t 1;obtain⟨e2,e3,e4⟩:=TH e.o 2 3 4;have H2:Hid (D7 140 #[Ey t.x,Z o.a,Z o.b,Z o.c] f (Z (R.Jz t.G o.a o.b o.c).1) λw3=>KA N t ((R.Jz t.G o.a o.b o.c).2) w w3):=by
  refine cm (hM.r.Sf o.a o.b o.c) λw3 h3=>?_
  exact⟨I,KA.ahead i (hM.done h3 (Bd.Sf hM.a.bd _ _ _))⟩
 clear hM e k hT c0;exact yd
theorem Vi{t:Tw}(h:Ii N t w)(hk:o.J=19)(r:JI w)(l:¬t.F 0):
  D7 79 #[t.val,o.val] w DC λC=>KA N t ((R.Fv t.G o.a).2) w C:=by
 have⟨n,e,b,c,d,f⟩:=Jc h o;have k:=Dx e;have A:=Dv c.t;have B:=Dv c.o;have c0:=EI c.t 0;have s:(o.J==14)=false:=by rw[hk];rfl
 have u:(o.J==15)=false:=by rw[hk];rfl
 have v:(o.J==16)=false:=by rw[hk];rfl
 have x:(o.J==17)=false:=by rw[hk];rfl
 have y:(o.J==18)=false:=by rw[hk];rfl
 have z:(o.J==19)=true:=by rw[hk];rfl
 have⟨M,p⟩:=d.bd.iv;have d2:=EI c.o 2;have m:Hid (D7 29 #[ptr t.p.x,Z o.a] n (Z (R.Fv t.G o.a).1) λi=>Mid N t ((R.Fv t.G o.a).2) n i):=by
  refine cm (d.l.Ki (r.h b) l p d.bd.rm o.a) λi a=>?_
  exact⟨I,d.mid a⟩
 clear h e hk;have⟨q,j⟩:=FU c b;clear c b
 delta D7
 go_in
 go_wp2_with fail
 rw[Dw k];refine cm m λi a=>?_
 have g:=q.stays a f;have l1:=Dv g.t;have l2:=Dv g.o;have e1:=EI g.t 1;have e2:=EI g.o 2;have H2:Hid (D7 141 #[Ey t.x,Z o.a] i (Z (R.Fv t.G o.a).1) λw3=>KA N t ((R.Fv t.G o.a).2) w w3):=by
  refine cm (a.r.Ki p o.a) λw3 h3=>?_
  exact⟨I,KA.ahead j (a.done h3 (Bd.Ki a.a.bd _))⟩
 clear a g m d c0;exact yd
theorem afc:(prog.info? 84).map (·.size)=some 24:=EL
theorem abf:(prog.info? 106).map (·.size)=some 2:=EL
section
variable {ops:Array Oper} {rest:List Oper} {op:Oper} {a:Act} {w:Aa} {Q:Exit->Act->World->Prop}
theorem xS(c:op.guard=none)(x:Operand)(d:op.op=.load 84 x)(b off:Nat)(f:a.eval x=.pointer (Y b off))(o:LD)(hc:∀(j:Nat) (u:Ad),o.cells[j]?=u->EB w b (off+j) u)(h:wpList prog ops Q rest (a.put op.dst o.val) w):wpList prog ops Q (op :: rest) a w:=
 wpList_load_mid c 84 x d b off f o.cells.toList _ (λj v e=>hc j v (by simpa using e)) underlying84 rfl afc h
theorem afX(c:op.guard=none)(x:Operand)(d:op.op=.load 106 x)(b off:Nat)(e:a.eval x=.pointer (Y b off))(t:Tw)(hc:∀(j:Nat) (u:Ad),(Vv t)[j]?=u->EB w b (off+j) u)(h:wpList prog ops Q rest (a.put op.dst t.val) w):wpList prog ops Q (op :: rest) a w:=
 wpList_load_mid c 106 x d b off e (Vv t) _ hc underlying106 rfl abf h
theorem MF(b:op.guard=none)(x:Operand)(d:op.op=.move x)(v:Ad)(e:a.eval x=v)(h:wpList prog ops Q rest (a.put op.dst v) w):wpList prog ops Q (op :: rest) a w:=
 wpList_plain b λK c=>by
  unfold Oper.wp;simp only[execOp,d,e,Sem.run_pure];exact c _ _ h
theorem aZ(b:op.guard=none)(v:Ad)(d:(execOp a.eval op).run prog w=.ok (.value v) w)(h:wpList prog ops Q rest (a.put op.dst v) w):wpList prog ops Q (op :: rest) a w:=
 wpList_plain b λK c=>by
  unfold Oper.wp;rw[d];exact c _ _ h
end
structure Bl(b:Nat)(t:Tw)(o:LD)(w:Aa):Prop where
 t:∀(j:Nat) (u:Ad),(Vv t)[j]?=some u->w.cell? (Y b (0+j))=some u
 o:∀(j:Nat) (u:Ad),o.cells[j]?=some u->w.cell? ⟨b+1,0+j,none⟩=some u
theorem Bx.bl{t:Tw}(a:Bx b t o w):Bl b t o w:=by grind [Bx,Bl,ED,Vv]
theorem Xf{c:Nat}(B A C:World->Prop)(hnm:R.Gf name=true)(hk:0<=kind/\kind<=2)(c5:EB w s 5 (.map (nm)))(c6:EB w s 6 (.slice a m c))(o:m<255)
  (d:(Instr.lookup 134 (.map (nm)) (.string (str name)) true).run prog w=.ok (.tuple #[Z u0,DC]) w)
  (h:Hid (D7 144 #[ptr s,Z u0] w Ep λb=>B b))
  (f:Hid (∀b,B b->D7 145 #[ptr s,Z kind] b (Z u) λb=>A b))
  (n:Hid (∀b,A b->EB b s 5 (.map (nm))))
  (HPUT:Hid (∀w1 w2,A w1->DY w1 w2->∃w3,(Instr.mapUpdate 134 (.map (nm)) (.string (str name)) (Z u)).run prog w2=.ok () w3/\C w3)):
  D7 83 #[ptr s,.string (str name),Z kind] w (.tuple #[Z u,Z 0]) λb=>C b:=by
 have k:=Dx (λw=>LU name hnm w);have i:name.length<=1000:=by
  exact aaL
 have H71:=Dx (λw=>Kr name w i);have j:Hid (∀w,D7 143 #[Z kind] w DC λb=>b=w):=λw=>by
  exact adU
 have e2:((m:Int)==255)=false:=Fy;generalize str name=SN at *;clear hnm o i
 delta D7
 go_in
 go_wp2_with (first|(go_at_call 142;refine cs (k _) ?_)|(go_at_call 143;refine cs (j _) ?_))
 refine cm h λw0 hB=>?_
 have g:=Dx (f w0 hB);clear hB h f d c5 c6;go_wp2_with fail
 refine cm g λw1 l=>?_
 have d0:=n w1 l;have hl1:=Gv d0;have HA1:=Dx l;clear l;exact afs
theorem Xe{c:Nat}(b:R.Gf name=true)(hk:0<=kind/\kind<=2)(c5:EB w s 5 (.map (nm)))(c6:EB w s 6 (.slice a 255 c))
  (d:(Instr.lookup 134 (.map (nm)) (.string (str name)) true).run prog w=.ok (.tuple #[Z u0,DC]) w):
  D7 83 #[ptr s,.string (str name),Z kind] w (.tuple #[Z 0,Z 11]) λe=>e=w:=by
 have H68:=Dx (λw=>LU name b w);have H32:Hid (∀w,D7 143 #[Z kind] w DC λe=>e=w):=λw=>by
  exact adU
 generalize str name=SN at *;clear b;exact aaF
theorem XU(e:G.f=G.e.length)(b:R.Gi G name=k){v:Int}(x:Ac):(x=name->Fu {G with f:=G.f.set k v} x=v)/\(¬x=name->Fu {G with f:=G.f.set k v} x=Fu G x):=by
 have hk:=R.Jp b;have d:=GG hk;constructor
 .grind [R.Gi,Fu]
 .intro g;unfold Fu;have a:R.Gi {G with f:=G.f.set k v} x=R.Gi G x:=rfl;rw[a];cases hj:R.Gi G x with
  |none=>rfl
  |some j=>
   have c:=R.Jp hj
   grind
theorem LW.YJ(h:LW p F G w)(hnm:R.Gf name=true)(hk:0<=kind/\kind<=2)(y:R.Gi G name=k):
  D7 83 #[ptr p.s,.string (str name),Z kind] w (.tuple #[Z (R.E4 G name kind).1.1,Z (R.E4 G name kind).1.2]) λd=>NM p F w (R.E4 G name kind).2 d:=by
 have⟨a,c,K⟩:=Fa h.a.Q;have O:name.length<=8:=by
  exact aaL
 have hzl:p.t.zs.length=G.a.length:=by rw[<-h.a.zs,AX]
 have x:Fu G name=some (G.f.getD k 0):=by
  unfold Fu;rw[y];rfl
 have b:=M6 h.e (s:=name) JG;rw[x]at b;have B:=(Bi.1 (R.Jp y)).1;have n:k<G.f.length:=by rw[h.wf.st];exact B
 have hu:=h.wf.d (G.f.getD k 0) (by
  rw[Bu,Ah n];exact CK n)
 generalize hu0:G.f.getD k 0=u0 at *;have j:R.E4 G name kind=if G.a.length=255 then ((0,11),G) else (((G.a.length:Int)+1,0),{R.GR G u0 with f:=G.f.set k ((G.a.length:Int)+1),a:=(R.GR G u0).a++[⟨kind,true,[]⟩]}):=by
  unfold R.E4;rw[hnm,Ao Ev,Ao U,y];simp only[hu0];rfl
 have J:=h.wf.sv;by_cases z:G.a.length=255
 .rw[j,Ay z];refine(Xe hnm hk (EI h.a.bs 5) (ED h.a.bs 6 _ (by rw[<-z,<-hzl,<-K];rfl)) b).mono ?_;rintro e d ⟨rfl,rfl⟩;exact⟨I,p.t,F,h,D8.refl F _⟩
 .rw[j,Ao z];obtain⟨u,rfl⟩:∃u:Nat,u0=(u:Int)+1:=⟨(u0-1).toNat,U⟩;have E:G.a[u]?=some (G.a[u]'U):=Ah _;have o:(R.GR G ((u:Int)+1)).a.length=G.a.length:=by simp[R.GR]
  have i:=h.wf.export name kind;rw[j,Ao z]at i;refine Xf (λd=>∃t,LW {p with t:=t} F (R.GR G ((u:Int)+1)) d/\D8 F F w d) (λd=>∃t g,LW {p with t:=t} g {R.GR G ((u:Int)+1) with a:=(R.GR G ((u:Int)+1)).a++[⟨kind,true,[]⟩]} d/\D8 F g w d) _ hnm hk (EI h.a.bs 5) (ED h.a.bs 6 _ (by rw[<-K];rfl)) U b (h.ends E) ?_ ?_ ?_
  .rintro d ⟨t,l,A⟩;have:=l.begun hk U;rw[o]at this;refine cm this ?_;rintro W ⟨T,g,P,Q⟩;exact⟨I,T,g,P,A.trans Q⟩
  .rintro d ⟨t,g,l,_⟩;exact EI l.a.bs 5
  .rintro w1 w2 ⟨t,g,l,A⟩ L;have m:=l.h L;have D:Fu {R.GR G ((u:Int)+1) with a:=(R.GR G ((u:Int)+1)).a++[⟨kind,true,[]⟩]} name=some ((u:Int)+1):=x;obtain⟨X,r,M,H⟩:=j6 m.e (by have:=h.wf.nm;show G.e.length<1000;omega) (s:=name) JG (v:=(G.a.length:Int)+1) U (Fu {G with f:=G.f.set k ((G.a.length:Int)+1)}) (XU h.wf.st y);refine⟨X,r,t,g,?_⟩;rw[D]at M;have C:=M;have q:=m.Um (N:=G.e) (S:=G.f.set k ((G.a.length:Int)+1)) (LC H) (C.congr (λ_=>rfl)) i;exact⟨q.1,(A.trans (D8.J g L)).trans q.2⟩
theorem Mp.del{α:Type}{k t:Ag}{lit:α->Lit}{g:α->Option Int}(h:Mp w k b lit g n)(K:Keyed prog k)(C:prog.underlying t=some (.map k 3)){key:Ad}{a:α}(d:keyOf prog k key=lit a)(hl:∀x y,lit x=lit y->x=y)(m:α->Option Int)(c:∀x,(x=a->m x=none)/\(¬x=a->m x=g x))(B:(g a).isSome=true)(ty:Ag):
  ∃l,(Builtin.delete_ #[t,k] ty #[.map (b),key]).run prog w=.ok Ep l/\Mp l k b lit m (n-1)/\w.mapTurned l b:=by
 have⟨D,r,v,o⟩:=h;have⟨l,i,z,A⟩:=r.drop K C d ty;have hz:=size_del (k:=lit a) (r.tidy K);rw[(o a).1,B,Ay I,v]at hz;have j:Maps.size (D.del (lit a))=n-1:=U;refine⟨l,i,⟨_,?_,j,λx=>?_⟩,A⟩
 .have⟨u,cl,E,F,G,s⟩:=z;refine⟨u,cl,E,F,?_,s⟩;rw[<-j,s];simp[Maps.size,length_sorted]
 .by_cases p:x=a
  .subst p;rw[(c x).1 rfl];exact⟨has_del_same,λy q=>by cases q⟩
  .have f:lit x≠lit a:=λe=>p (hl _ _ e)
   rw[(c x).2 p,has_del_other f];refine⟨(o x).1,λy q=>?_⟩;rw[atKey_del_other f];exact(o x).2 y q
theorem yK{g:List UInt8->Option Int}(h:Mp w 9 b Si g n){s:Ac}(f:s<=maxLen)(a:List UInt8->Option Int)(c:∀x,(x=s->a x=none)/\(¬x=s->a x=g x))(hi:(g s).isSome=true){ty:Ag}:
  ∃d,(Builtin.delete_ #[134,9] ty #[.map (b),.string (str s)]).run prog w=.ok Ep d/\Mp d 9 b Si a (n-1)/\w.mapTurned d b:=
 h.del (string_keyed underlying9) underlying134 (by rw[Dc underlying9 (by rw[Er];exact f)]) (λx y e=>by cases e;rfl) a c hi ty
theorem xQ(h:R.Wf G):R.Wf {G with e:=G.e.eraseIdx k,f:=G.f.eraseIdx k}:=by
 refine⟨h.cf,h.a,λi c hc=>⟨(h.cl i c hc).a,(h.cl i c hc).b,(h.cl i c hc).d,(h.cl i c hc).H⟩,h.X,h.b,h.sv,h.e,?_,?_,h.nd.sublist (List.eraseIdx_sublist ..),λu hu=>h.d u (Cj hu)⟩;all_goals grind [R.Wf]
theorem RI:∀{l:List (List UInt8)} {s:List Int} {k:Nat} {name x:Ac},l.Nodup->s.length=l.length->l[k]?=some name->(¬x=name->((l.eraseIdx k).findIdx? (·==x)).map (λj=>(s.eraseIdx k).getD j 0)=(l.findIdx? (·==x)).map (λj=>s.getD j 0))/\((l.eraseIdx k).findIdx? (·==name)).map (λj=>(s.eraseIdx k).getD j 0)=none
 |[],_,_,_,_,_,_,h=>by simp at h
 |a :: l,[],_,_,_,_,hl,_=>by simp at hl
 |a :: l,b :: s,0,name,x,hn,hl,h=>by
  obtain rfl:a=name:=by simpa using h
  have d:=(List.nodup_cons.1 hn).1;refine⟨λm=>?_,?_⟩
  .have c:(a==x)=false:=by simpa using λe=>m e.symm
   simp only[List.eraseIdx_zero,List.tail_cons,Dp,c,agx,agv,Option.map_map];congr 1
  .simp only[List.eraseIdx_zero,List.tail_cons];rw[Dm.2 (λy o=>by simp;exact λe=>d (e ▸ o))];rfl
 |a :: l,b :: s,k+1,name,x,hn,hl,h=>by
  have⟨d,i⟩:=List.nodup_cons.1 hn;have n:=RI (l:=l) (s:=s) (k:=k) (name:=name) (x:=x) i (by simpa using hl) (by simpa using h);have f:=Ap (by simpa using h);have g:(a==name)=false:=beq_eq_false_iff_ne.2 (λe=>d (e ▸ f));refine⟨λm=>?_,?_⟩
  .simp only[List.eraseIdx_cons_succ,Dp];by_cases c:(a==x)=true
   .simp[c]
   .simp only[c,agx,agv,Option.map_map];exact n.1 m
  .simp only[List.eraseIdx_cons_succ,Dp,g,agx,agv,Option.map_map];exact n.2
theorem pP(a:EB w s 5 (.map (nm)))(hl:(Instr.lookup 134 (.map (nm)) (.string (str name)) true).run prog w=.ok (.tuple #[Z 0,DI]) w):
  D7 191 #[ptr s,.string (str name)] w (Z 10) λb=>b=w:=by
 have c:=Gv a
 delta D7
 go_in
 go_wp2;go_returns;exact DN
theorem pQ(a:World->Prop)(g:EB w s 5 (.map (nm)))(hl:(Instr.lookup 134 (.map (nm)) (.string (str name)) true).run prog w=.ok (.tuple #[Z u0,DC]) w)(hd:∀ty,(Builtin.delete_ #[134,9] ty #[.map (nm),.string (str name)]).run prog w=.ok Ep w1)(c:D7 144 #[ptr s,Z u0] w1 Ep λb=>a b):
  D7 191 #[ptr s,.string (str name)] w (Z 0) λb=>a b:=by
 have h:=Gv g;have e:=Dx c;clear c
 delta D7
 go_in
 go_wp2_with fail
 refine cm e λi d=>?_
 have f:=Dx d;clear d;go_wp2_with fail
 go_returns;exact⟨I,f⟩
theorem LW.oW(h:LW p F G w)(name:Ac)(j:name<=maxLen):
  D7 191 #[ptr p.s,.string (str name)] w (Z (R.Fb G name).1) λC=>NM p F w (R.Fb G name).2 C:=by
 have a:=M6 h.e (s:=name) j;cases he:R.Gi G name with
 |none=>
  have b:Fu G name=none:=by unfold Fu;rw[he];rfl
  rw[b]at a;have A:R.Fb G name=(10,G):=by unfold R.Fb;rw[he]
  rw[A];refine cs (pP (EI h.a.bs 5) a) ?_;exact⟨I,p.t,F,h,D8.refl F _⟩
 |some k=>
  have b:Fu G name=some (G.f.getD k 0):=by unfold Fu;rw[he];rfl
  rw[b]at a;have g:=(Bi.1 (R.Jp he)).1;have i:k<G.f.length:=by rw[h.wf.st];exact g
  have hu:=h.wf.d (G.f.getD k 0) (by
   rw[Bu,Ah i];exact CK i)
  have A:R.Fb G name=(0,{R.GR G (G.f.getD k 0) with e:=G.e.eraseIdx k,f:=G.f.eraseIdx k}):=by
   unfold R.Fb;rw[he];rfl
  rw[A];have d:=λx=>RI (l:=G.e) (s:=G.f) (k:=k) (name:=name) (x:=x) h.wf.nd h.wf.st (R.Jp he)
  have c:∀ty,∃o,(Builtin.delete_ #[134,9] ty #[.map (some p.nm),.string (str name)]).run prog w=.ok Ep o/\Mp o 9 p.nm Si (Fu {G with e:=G.e.eraseIdx k,f:=G.f.eraseIdx k}) (G.e.length-1)/\w.mapTurned o p.nm:=λty=>yK h.e j _ (λx=>⟨λe=>by subst e;exact(d x).2,λe=>(d x).1 e⟩) (by rw[b];rfl)
  have⟨o,n,B,v⟩:=c 0;have y:∀ty,(Builtin.delete_ #[134,9] ty #[.map (some p.nm),.string (str name)]).run prog w=.ok Ep o:=λty=>n
  have m:(G.e.eraseIdx k).length=G.e.length-1:=by rw[List.length_eraseIdx,Ay g]
  rw[<-m]at B;have q:=h.Um (N:=G.e.eraseIdx k) (S:=G.f.eraseIdx k) (LC v) B (xQ h.wf);obtain⟨u,z⟩:∃u:Nat,G.f.getD k 0=(u:Int)+1:=⟨(G.f.getD k 0-1).toNat,U⟩;rw[z]at hu a ⊢;have r:G.a[u]?=some (G.a[u]'U):=Ah _;refine pQ (NM p F w _) (EI h.a.bs 5) a y ((q.1.ends (u:=u) r).mono ?_);rintro e C ⟨rfl,t,D,E⟩;exact⟨I,t,F,D,q.2.trans E⟩
theorem LW.Iy(h:LW p F G w)(name:Ac)(a:name<=maxLen):
  D7 124 #[ptr p.x,.string (str name)] w (Z (R.Fb G name).1) λc=>NM p F w (R.Fb G name).2 c:=by
 have x1:=EI h.bx 1;have f:=Gv x1;have d:=Dx (h.oW name a);generalize R.Fb G name=Zq at *;clear h
 delta D7
 go_in
 go_wp2_with fail
 refine cm d λc b=>?_
 have e:=Dx b;clear b;go_wp2_with fail
 go_returns;exact⟨I,e⟩
def bR(b:UInt8):Bool:=!(decide (97<=b.toNat)&&decide (b.toNat<=122))
theorem qI{b:UInt8}(h:bR b=true):(b.toNat:Int)<97\/122<(b.toNat:Int):=by grind [bR]
theorem yr{b:UInt8}(h:¬bR b=true):97<=(b.toNat:Int)/\(b.toNat:Int)<=122:=by grind [bR]
theorem mJ{s:Ac}(h:R.Gf s=false)(hl:1<=s.length/\s.length<=8):∃k,k<s.length/\(∀hk:k<(str s),(((str s)[k]'hk).toNat:Int)<97\/122<(((str s)[k]'hk).toNat:Int))/\∀j,j<k->∀f:j<(str s),97<=(((str s)[j]'f).toNat:Int)/\(((str s)[j]'f).toNat:Int)<=122:=by
 have b:∃x∈s,bR x=true:=by grind [R.Gf,bR]
 have hk:=List.findIdx_lt_length_of_exists b;refine⟨s.findIdx bR,hk,λd=>?_,λj f c=>?_⟩
 .have a:=K8 s _ d;rw[Ah hk]at a;have e:=Option.some.inj a;rw[<-e];exact qI (List.findIdx_getElem (w:=hk))
 .have a:=K8 s j c;rw[Ah U]at a;have e:=Option.some.inj a;rw[<-e];exact yr (by simpa using List.not_of_lt_findIdx f)
theorem ml(s:Ac)(h:R.Gf s=false)(w:Aa):D7 142 #[.string (str s)] w DI λl=>l=w:=by
 have hz:=Er s;by_cases hl:1<=s.length/\s.length<=8
 .have⟨k,hk,d,e⟩:=mJ h hl;rw[<-hz]at hk hl;have⟨f,g⟩:=FU d e;generalize str s=S at *;clear h hz d e;obtain⟨n,hn⟩:∃n,S.size=n:=DK;rw[hn]at hl hk
  delta D7
  go_in
  go_wp2;go_loopw [14] (λiv wr=>∃i:Nat,i<=k/\iv=Z i/\wr=w) (λiv _=>n-(intOf iv).toNat)
  case atStart=>exact⟨0,AV _,I,I⟩
  case round=>
   obtain⟨i,hi,rfl,rfl⟩:=hrel;by_cases b:i<k
   .have⟨a,c⟩:=g i b U;have j:i<n:=U;go_wp2;exact⟨⟨i+1,U,Kc,BR⟩,by simp[intOf];omega⟩
   .obtain rfl:i=k:=U;rcases f U with a|a
    .go_wp2;go_returns;exact DN
    .have c:¬((S[i]'U).toNat:Int)<97:=U;go_wp2;go_returns;exact DN
 .rw[<-hz]at hl;generalize str s=S at *;clear h hz;obtain⟨n,hn⟩:∃n,S.size=n:=DK;rw[hn]at hl;have hc:(n:Int)<1\/(¬(n:Int)<1/\(8:Int)<n):=U;rcases hc with a|⟨a,c⟩
  .delta D7
   go_in
   go_wp2;go_returns;exact DN
  .delta D7
   go_in
   go_wp2;go_returns;exact DN
theorem jL(kind:Int):Hid (∀w,D7 143 #[Z kind] w (.bool (decide (0<=kind/\kind<=2))) λa=>a=w):=λw=>by
 refine cs (Nx kind w) ?_;refine⟨?_,I⟩;have:(kind==0 || kind==1 || kind==2)=decide (0<=kind/\kind<=2):=by
  rw[BH];simp;omega
 rw[this]
theorem TY(a:R.Gf name=false):
  D7 83 #[ptr s,.string (str name),Z kind] w (.tuple #[Z 0,Z 10]) λc=>c=w:=by
 have b:=Dx (λw=>ml name a w);generalize str name=SN at *;clear a
 delta D7
 go_in
 go_wp2_with (first|(go_at_call 142;refine cs (b _) ?_))
 go_returns;exact DN
theorem TX(a:R.Gf name=true)(hk:kind<0\/2<kind):
  D7 83 #[ptr s,.string (str name),Z kind] w (.tuple #[Z 0,Z 9]) λc=>c=w:=by
 have H68:=Dx (λw=>LU name a w);have H32:=jL kind;have b:decide (0<=kind/\kind<=2)=false:=Fy;rw[b]at H32;generalize str name=SN at *;clear a b hk;exact aaF
theorem YL{c:Nat}(e:R.Gf name=true)(hk:0<=kind/\kind<=2)(c5:EB w s 5 (.map (nm)))(c6:EB w s 6 (.slice a m c))
  (f:(Instr.lookup 134 (.map (nm)) (.string (str name)) true).run prog w=.ok (.tuple #[Z u0,DI]) w) (h:∀ty,(Builtin.len_ #[134] ty #[.map (nm)]).run prog w=.ok (Z nn) w) (b:nn=6\/(¬nn=6/\m=255)):
  D7 83 #[ptr s,.string (str name),Z kind] w (.tuple #[Z 0,Z (if nn=6 then 12 else 11)]) λi=>i=w:=by
 have H68:=Dx (λw=>LU name e w);have H32:=jL kind;have g:decide (0<=kind/\kind<=2)=true:=Fy;rw[g]at H32;have j:=Gv c5;generalize str name=SN at *;clear e g hk;rcases b with rfl|⟨d,rfl⟩
 .rw[Ay rfl];exact aaF
 .rw[Ao d];have hnb:(nn==6)=false:=by simpa using d
  exact aaF
theorem LW.aal(h:LW p F G w)(name:Ac)kind:
  D7 83 #[ptr p.s,.string (str name),Z kind] w (.tuple #[Z (R.E4 G name kind).1.1,Z (R.E4 G name kind).1.2]) λm=>NM p F w (R.E4 G name kind).2 m:=by
 by_cases b:R.Gf name=true
 .by_cases hk:0<=kind/\kind<=2
  .cases he:R.Gi G name with
   |some k=>exact h.YJ b hk he
   |none=>
    have q:name.length<=8:=by grind [R.Gf]
    have j:Fu G name=none:=by unfold Fu;rw[he];rfl
    have e:=M6 h.e (s:=name) JG;rw[j]at e;have hn:=R.VQ he;have x:=h.wf.nm;have l:=h.wf.sv;have d:R.E4 G name kind=if G.e.length=6 then ((0,12),G) else if G.a.length=255 then ((0,11),G) else (((G.a.length:Int)+1,0),Hz G name kind):=by
     unfold R.E4;rw[b,Ao Ev,Ao U,he];rfl
    by_cases g:G.e.length<6/\G.a.length<255
    .rw[d,Ao U,Ao U];refine cm (h.rQ b hk hn g.1 g.2) ?_;rintro m ⟨t,n,u,v⟩;exact⟨I,t,n,u,v⟩
    .have⟨a,c,o⟩:=Fa h.a.Q;have hzl:p.t.zs.length=G.a.length:=by rw[<-h.a.zs,AX]
     have f:=YL b hk (EI h.a.bs 5) (ED h.a.bs 6 _ (by rw[<-o];rfl)) e (λty=>h.e.len underlying134 ty) U;have r:R.E4 G name kind=((0,if (G.e.length:Int)=6 then 12 else 11),G):=by grind
     rw[r];refine cs f ?_;exact⟨I,p.t,F,h,D8.refl F _⟩
  .have d:R.E4 G name kind=((0,9),G):=by grind [R.E4]
   rw[d];refine cs (TX b U) ?_;exact⟨I,p.t,F,h,D8.refl F _⟩
 .have i:R.Gf name=false:=by simpa using b
  have d:R.E4 G name kind=((0,10),G):=by
   unfold R.E4;rw[Ay i]
  rw[d];refine cs (TY i) ?_;exact⟨I,p.t,F,h,D8.refl F _⟩
end Go.Proofs.YtblomippkddgiabGreatDoor
