import Derived.Test.YtblomippkddgiaaGreatDoorJ12
namespace Go.Proofs.YtblomippkddgiaaGreatDoor.V
open Go.Proofs.Tryz
variable {s:ByteArray}{x:It}{k0 ks:List Bool}{v:List It}{qs:List Nat}{f p:Nat}{E:Nat→List It→GB}{g:Nat→Nat}
theorem JO(h:(Jk s v).1=0):(Pt.O7 (nx s) s.size).1=0/\∃ks,Hg (nx s) (s.size+1) 0 v=some (ks,[])/\(Jk s v).2=Et ks v/\(Et ks v).length<=70:=by
 unfold Jk at h ⊢;split at h
 ·rename_i hc;rw[Ay hc];refine⟨hc,?_⟩;unfold Sw at h ⊢
  grind
 ·rename_i hc;exact absurd h hc
theorem jP(h:(Jk s v).1=0):(Jk s v).2.length<=70:=by grind [Jk,JO]
theorem iL(h:(Jk s v).1=0):I8 s (Jk s v).2=(0,v):=by
 have⟨hc,ks,e,u,w⟩:=JO h;have j:=Nw hc;have⟨m,y⟩:=Hs _ _ _ _ _ _ e;have⟨s1,s2⟩:=QO s _ _ j.ok _ _ _ e
 grind [List.length_drop,aaV,Ue]
theorem zx(hc:(Pt.O7 (nx s) s.size).1=0)(h:Hg (nx s) (s.size+1) 0 v=some (ks,[]))(e:(Et ks v).length<=70):Jk s v=(0,Et ks v):=by grind [Jk,Sw]
theorem Xa{e r:List It}{k1:List Bool}(h:EO g f p v=some (k0,qs,e))(j:E6 (Hg g f) qs e=some (k1,r)):Hg g (f+1) p v=some (k0++k1,r):=by
 simp only[Hg];rw[h];simp only;rw[j];rfl
theorem QP{r:List It}(h:Hg g (f+1) p v=some (ks,r)):∃k0 qs j m,EO g f p v=some (k0,qs,j)/\E6 (Hg g f) qs j=some (m,r)/\ks=k0++m:=by
 simp only[Hg]at h;cases hh:EO g f p v with
 |none=>rw[hh]at h;cases h
 |some e=>
  have⟨k0,qs,j⟩:=e;rw[hh]at h;simp only at h;cases hs:E6 (Hg g f) qs j with
  |none=>rw[hs]at h;cases h
  |some e2=>grind [Gu]
theorem Oi{r:List It}(j:g p≠97)(e:g p≠114)(h:g p≠115)(m:x.2.size=0/\FZ (g p)<=x.1/\x.1<=FD g f p):EO g f p (x :: r)=some ([false],(if g p=117 then [Gj (Pt.EW g f p) x.1] else if g p=113 then List.replicate x.1.toNat (p+2) else []),r):=by grind [EO]
theorem Qf{r:List It}(h:EO g f p v=some (k0,qs,r))(m:g p≠97)(e:g p≠114)(j:g p≠115):∃x,v=x :: r/\k0=[false]/\(x.2.size=0/\FZ (g p)<=x.1/\x.1<=FD g f p)/\qs=(if g p=117 then [Gj (Pt.EW g f p) x.1] else if g p=113 then List.replicate x.1.toNat (p+2) else []):=by
 unfold EO at h
 grind
theorem Xb{r:List It}(u:g p≠97)(h:g p≠114)(j:g p≠115)(m:g p≠117)(e:g p≠113)(w:x.2.size=0/\FZ (g p)<=x.1/\x.1<=FD g f p):Hg g (f+1) p (x :: r)=some ([false],r):=by grind [Hg,Oi,E6,Gu]
theorem Ob{r:List It}(h:Hg g (f+1) p v=some (ks,r))(w:g p≠97)(j:g p≠114)(m:g p≠115)(u:g p≠117)(e:g p≠113):∃x,v=x :: r/\ks=[false]/\x.2.size=0/\FZ (g p)<=x.1/\x.1<=FD g f p:=by grind [Hg,Qf,E6,Gu]
theorem XP{q:Nat}{P:It->Prop}{b:Bool}(e:∀x r,P x->E q (x :: r)=some ([b],r)):∀(v:List It),(∀x∈v,P x)->E6 E (List.replicate v.length q) v=some (List.replicate v.length b,[])
 |[],_=>rfl
 |x :: v,h=>by
  simp only[A4,BV,E6];rw[e x v (h x Ev)];simp only;rw[XP e v (λy j=>h y (by simp[j]))];rfl
theorem RY{q:Nat}{P:It->Prop}(u:∀v r ks,E q v=some (ks,r)->∃x,v=x :: r/\ks=[false]/\P x):∀(k:Nat) (v r:List It) (ks:List Bool),E6 E (List.replicate k q) v=some (ks,r)->∃a,v=a++r/\a.length=k/\∀x∈a,P x
 |0,v,r,ks,h=>by
  simp[E6]at h;exact⟨[],by simp[h.2],rfl,Ev⟩
 |k+1,v,r,ks,h=>by
  simp only[BV,E6]at h;cases hq:E q v with
  |none=>rw[hq]at h;cases h
  |some e=>
   have⟨Q,m⟩:=e;rw[hq]at h;simp only at h;have⟨x,M,_,O⟩:=u v m Q hq;cases hs:E6 E (List.replicate k q) m with
   |none=>rw[hs]at h;cases h
   |some e2=>
    have⟨k2,T⟩:=e2;rw[hs]at h;simp only[Gu,Option.some.injEq,Prod.mk.injEq]at h;have⟨a,w,B,D⟩:=RY u k m T k2 hs;refine⟨x :: a,by rw[M,w,<-h.2];rfl,by simp[B],λy j=>?_⟩;rcases CX.1 j with rfl|j
    ·exact O
    ·exact D y j
theorem rG{r:List It}(e:g p=115)(h:x.1=0/\x.2.size<=14):Hg g (f+1) p (x :: r)=some ([true],r):=by grind [Hg,EO,E6,Gu]
theorem TC:∀(v:List It),(∀x∈v,x.2.size<=14)->(Et (List.replicate v.length true) v).length<=16*v.length
 |[],_=>by simp[Et]
 |x :: v,h=>by
  have m:=TC v (λy e=>h y (by simp[e]));have j:=h x Ev;simp only[A4,BV,Et,AJ];have:(KL true x).length<=16:=by
   simp only[KL,CQ];split<;>simp[EU]<;>omega
  omega
theorem RD:∀(v:List It),(Et (List.replicate v.length false) v).length<=2*v.length
 |[]=>by simp[Et]
 |x :: v=>by
  have e:=RD v;simp only[A4,BV,Et,AJ];have:(KL false x).length<=2:=by simp[KL,EU]
  omega
end Go.Proofs.YtblomippkddgiaaGreatDoor.V
namespace Go.Proofs.YtblomippkddgiaaGreatDoor.R
open Go.Proofs.Tryz
open Go.Proofs.YtblomippkddgiaaGreatDoor.V
variable {f t:ByteArray}{c:Cl}{e:En}{Eo u:Int}{v:List It}{a b:List Sv}{bs name rb:List UInt8}{l l':Ln}{i k:Nat}{p:Pk}{s:Sv}{G:Wd}
theorem JK(h:Fi t v=some bs):(V.Jk t v).1=0:=by
 unfold Fi at h
 grind
theorem QM{g:List Bool}(hc:(Pt.O7 (nx t) t.size).1=0)(j:Hg (nx t) (t.size+1) 0 v=some (g,[]))(h:(Et g v).length<=70):Fi t v=some (Et g v):=by
 unfold Fi;rw[zx hc j h];rfl
def MW(lo hi:Int)(x:It):Prop:=x.2.size=0/\lo<=x.1/\x.1<=hi
theorem Ug(h:Fi t v=some bs)(y:nx t 0≠97)(j:nx t 0≠114)(m:nx t 0≠115)(w:nx t 0≠117)(g:nx t 0≠113):∃x,v=[x]/\MW (FZ (nx t 0)) (FD (nx t) t.size 0) x:=by
 have⟨_,O,M,_⟩:=JO (JK h);have⟨x,B,_,D⟩:=Ob M y j m w g;exact⟨x,B,D⟩
theorem qF(h:Fi (IE [105]) v=some bs):∃x,v=[x]/\MW (-32768) 32767 x:=by
 have:=Ug h Kx Kx Kx Kx Kx
 rwa [show FZ (nx (IE [105]) 0)=-32768 by decide +kernel,show FD (nx (IE [105])) (IE [105]).size 0=32767 by decide +kernel]at this
theorem qD(h:Fi (IE [98]) v=some bs):∃x,v=[x]/\MW 0 1 x:=by
 have:=Ug h Kx Kx Kx Kx Kx
 rwa [show FZ (nx (IE [98]) 0)=0 by decide +kernel,show FD (nx (IE [98])) (IE [98]).size 0=1 by decide +kernel]at this
theorem qE(h:Fi (IE [99]) v=some bs):∃x,v=[x]/\MW 0 65535 x:=by
 have:=Ug h Kx Kx Kx Kx Kx
 rwa [show FZ (nx (IE [99]) 0)=0 by decide +kernel,show FD (nx (IE [99])) (IE [99]).size 0=65535 by decide +kernel]at this
theorem jf(h:Fi (IE [115]) v=some bs):∃x,v=[x]/\x.1=0/\x.2.size<=14:=by
 have⟨_,B,j,_⟩:=JO (JK h);rw[show (IE [115]).size=1 from rfl]at j;have⟨k0,D,M,y,m,w,_⟩:=QP j;unfold EO at m;have g:nx (IE [115]) 0=115:=Kx
 grind [E6]
abbrev K9:ByteArray:=IE [114,40,101,51,113,51,105,41]
theorem rz:nx K9 0=114/\nx K9 2=101/\nx K9 4=113/\nx K9 6=105/\Pt.EW (nx K9) 8 0=[2,4]:=Kx
theorem je(h:Fi K9 v=some bs):∃d k a,v=d :: k :: a/\MW 0 2 d/\MW 0 3 k/\(a.length:Int)=k.1/\∀x∈a,MW (-32768) 32767 x:=by
 have⟨_,O,g,_⟩:=JO (JK h);have⟨a0,a2,a4,a6,m⟩:=rz;have a7:nx K9 (4+2)=105:=a6;rw[show K9.size+1=8+1 from rfl]at g;have⟨j0,Q,T,j1,j,g,_⟩:=QP g;unfold EO at j;rw[Ao U,Ay a0,m]at j;cases j;simp only[E6]at g;cases h1:Hg (nx K9) 8 2 v with
 |none=>rw[h1]at g;cases g
 |some x1=>
  have⟨k1,X⟩:=x1;rw[h1]at g;simp only at g;have⟨d,y,_,hd⟩:=Ob (f:=7) h1 U U U U U;rw[show FZ (nx K9 2)=0 by decide +kernel,show FD (nx K9) 7 2=2 by decide +kernel]at hd;cases h2:Hg (nx K9) 8 4 X with
  |none=>rw[h2]at g;cases g
  |some x2=>
   have⟨k2,r2⟩:=x2;rw[h2]at g;simp only[Gu]at g;cases g;have⟨k0,qs,r0,k3,B,M,_⟩:=QP (f:=7) h2;have⟨k,g1,g2,g3,g4⟩:=Qf B U U U;rw[Ao U,Ay a4]at g4;subst g4;rw[show FZ (nx K9 4)=0 by decide +kernel,show FD (nx K9) 7 4=3 by decide +kernel]at g3;have⟨a,b1,b2,w⟩:=RY (P:=MW (-32768) 32767) (λv r O D=>by
    have⟨x,c1,c2,c3⟩:=Ob (f:=6) D U U U U U;rw[show FZ (nx K9 (4+2))=-32768 by decide +kernel,show FD (nx K9) 6 (4+2)=32767 by decide +kernel]at c3;exact⟨x,c1,c2,c3⟩) _ _ _ _ M
   refine⟨d,k,a,?_,hd,g3,?_,w⟩;all_goals grind
theorem ae0{x:It}(h:MW 0 65535 x):∃rb,Fi (IE [99]) [x]=some rb/\1<=rb.length:=by
 have he:Hg (nx (IE [99])) ((IE [99]).size+1) 0 [x]=some ([false],[]):=Xb Kx Kx Kx Kx Kx (by
  rw[show FZ (nx (IE [99]) 0)=0 by decide +kernel,show FD (nx (IE [99])) (IE [99]).size 0=65535 by decide +kernel];exact h)
 exact acj
theorem ae1{l:List ByteArray}(M:l.length<=4)(h:∀s∈l,s.size<=14):∃rb,Fi (IE [113,52,115]) (num l.length :: l.map λs=>(0,s))=some rb/\1<=rb.length:=by
 have y:nx (IE [113,52,115]) 0=113/\nx (IE [113,52,115]) 2=115:=Kx;have D:Hg (nx (IE [113,52,115])) ((IE [113,52,115]).size+1) 0 (num l.length :: l.map λs=>(0,s))=some (false :: List.replicate l.length true,[]):=by
  rw[show (IE [113,52,115]).size+1=3+1 from rfl];have w:=Oi (g:=nx (IE [113,52,115])) (f:=3) (p:=0) (x:=num l.length) (r:=l.map λs=>((0,s):It)) U U U (by
   rw[show FZ (nx (IE [113,52,115]) 0)=0 by decide +kernel,show FD (nx (IE [113,52,115])) 3 0=4 by decide +kernel];exact⟨rfl,by simp[num],by simp[num];omega⟩)
  rw[Ao U,Ay y.1,show (num (l.length:Int)).1.toNat=l.length by simp[num]]at w;have:=XP (E:=Hg (nx (IE [113,52,115])) 3) (q:=0+2) (b:=true) (P:=λx=>x.1=0/\x.2.size<=14) (λx r j=>rG y.2 j) (l.map λs=>((0,s):It)) (λx j=>by
   obtain⟨s,m,rfl⟩:=Cy.1 j;exact⟨rfl,h s m⟩)
  rw[AX]at this;exact Xa w this
 have B:=TC (l.map λs=>((0,s):It)) (λx j=>by
  obtain⟨s,m,rfl⟩:=Cy.1 j;exact h s m)
 rw[AX]at B;have hl:(Et (false :: List.replicate l.length true) (num l.length :: l.map λs=>(0,s))).length=2+(Et (List.replicate l.length true) (l.map λs=>(0,s))).length:=by
  simp[Et,KL,V.EU];omega
 exact⟨_,QM Kx D U,U⟩
abbrev JB:ByteArray:=IE [117,40,98,113,51,105,41]
theorem YC:nx JB 0=117/\nx JB 2=98/\nx JB 3=113/\nx JB 5=105/\Pt.EW (nx JB) 7 0=[2,3]/\FD (nx JB) 7 0=1:=Kx
theorem adx:∃rb,Fi JB [num 0,num 0]=some rb/\1<=rb.length:=by
 have⟨a0,a2,a3,a5,m,j⟩:=YC;have he:Hg (nx JB) (JB.size+1) 0 [num 0,num 0]=some ([false,false],[]):=by
  rw[show JB.size+1=7+1 from rfl];have h:=Oi (g:=nx JB) (f:=7) (p:=0) (x:=num 0) (r:=[num 0]) U U U (by rw[a0,j];exact⟨rfl,Em,Em⟩);rw[Ay a0,m,show Gj [2,3] (num 0).1=2 by decide +kernel]at h;refine Xa (k1:=[false]) h ?_;simp only[E6];rw[Xb (f:=6) U U U U U (by rw[a2,show FD (nx JB) 6 2=1 by decide +kernel];exact⟨rfl,Em,Em⟩)];rfl
 exact acj
theorem ady{l:List It}(M:l.length<=3)(h:∀x∈l,MW (-32768) 32767 x):∃rb,Fi JB (num 1 :: num l.length :: l)=some rb/\1<=rb.length:=by
 have⟨a0,a2,a3,a5,y,w⟩:=YC;have a6:nx JB (3+2)=105:=a5;have B:Hg (nx JB) (JB.size+1) 0 (num 1 :: num l.length :: l)=some (false :: false :: List.replicate l.length false,[]):=by
  rw[show JB.size+1=7+1 from rfl];have m:=Oi (g:=nx JB) (f:=7) (p:=0) (x:=num 1) (r:=num l.length :: l) U U U (by rw[a0,w];exact⟨rfl,Em,Em⟩);rw[Ay a0,y,show Gj [2,3] (num 1).1=3 by decide +kernel]at m;refine Xa (k1:=false :: List.replicate l.length false) m ?_;simp only[E6];have j:=Oi (g:=nx JB) (f:=6) (p:=3) (x:=num l.length) (r:=l) U U U (by rw[a3,show FD (nx JB) 6 3=3 by decide +kernel];exact⟨rfl,by simp[num,FZ],by simp[num];omega⟩);rw[Ao U,Ay a3,show (num (l.length:Int)).1.toNat=l.length by simp[num]]at j;have:=XP (E:=Hg (nx JB) 6) (q:=3+2) (b:=false) (P:=MW (-32768) 32767) (λx r D=>Xb (f:=5) U U U U U (by rw[show FZ (nx JB (3+2))=-32768 by decide +kernel,show FD (nx JB) 5 (3+2)=32767 by decide +kernel];exact D)) l h;rw[Xa (f:=6) j this];simp[Gu]
 have O:=RD l;have hl:(Et (false :: false :: List.replicate l.length false) (num 1 :: num l.length :: l)).length=4+(Et (List.replicate l.length false) l).length:=by
  simp[Et,KL,V.EU];omega
 exact⟨_,QM Kx B U,U⟩
theorem MI:∀(l:List En) (n:Int),0<=n/\n<=65535->0<=Fh l n/\Fh l n<=65535
 |[],n,h=>h
 |e :: l,n,h=>by
  simp only[Fh];refine MI l _ ?_;split
  ·omega
  ·split
   ·omega
   ·exact h
theorem PK(l:List En):(Fe l).length<=4:=by
 simp only[Fe,A9];omega
theorem ae7(h:IY 1 e.Eo=some (f,t))(g:e.Eo=0):f=IE [115]:=by
 rw[g]at h;simp[IY]at h;exact h.1.symm
theorem ae6(h:IY 2 Eo=some (f,t)):f=K9/\t=JB/\Eo=0:=by
 unfold IY at h
 grind
abbrev OI(Dz:Int)(l:List En):Prop:=∀e∈l,∃f t b,IY Dz e.Eo=some (f,t)/\Fi f e.arg=some b
theorem XA{l:List En}(h:OI 1 l):∀s∈Fe l,s.size<=14:=λs D=>by
 have B:=List.mem_of_mem_drop D;obtain⟨e,g,rfl⟩:=Cy.1 B;have⟨g,m⟩:=Dn.1 g;have⟨f,t,b,w,j⟩:=h e g;rw[ae7 w (by simpa using m)]at j;have⟨x,M,_,y⟩:=jf j;simp[Tt,M,y]
theorem Nz:∀(l:List En),OI 2 l->∀(d:Int) (MP:List It),(MP.length<=3/\∀x∈MP,MW (-32768) 32767 x)->(I6 l d MP).length<=3/\∀x∈I6 l d MP,MW (-32768) 32767 x
 |[],_,d,MP,h=>h
 |e :: l,hl,d,MP,h=>by
  simp only[I6];refine Nz l (λx m=>hl x (by simp[m])) d _ ?_;split
  ·have⟨f,t,b,j,g⟩:=hl e Ev;rw[(ae6 j).1]at g;have⟨dd,k,a,g1,g2,g3,g4,g5⟩:=je g;rw[g1];simp only[List.drop_succ_cons,De];have:=g3.2.2;exact⟨U,g5⟩
  ·exact h
theorem yP{Dz:Int}{log:List En}{arg:List It}(hs:IY Dz Eo=some (f,t))(w:Fi f arg=some bs)(hl:∀e∈log,∃f t b,IY Dz e.Eo=some (f,t)/\Fi f e.arg=some b):∃rb,Fi t (Hw Dz log Eo arg)=some rb/\1<=rb.length:=by
 have hc:=MI log 0 Em;have m:=PK log;unfold IY at hs;split at hs
 ·rename_i h;exact wM
 ·split at hs
  ·rename_i h;exact wM
  ·split at hs
   ·rename_i h;exact wM
   ·split at hs
    ·rename_i h;cases hs;obtain⟨rfl,rfl⟩:=h;have j:=XA hl;exact ae1 (l:=(Fe log).take (IJ arg 0).toNat) (by rw[Bv];omega) (λs hs=>j s (CB hs))
    ·split at hs
     ·rename_i h;cases hs;obtain⟨rfl,rfl⟩:=h;have g:=Nz log hl (IJ arg 0) [] Ev;unfold Hw;simp only;rw[Ao Em,Ao Em];split
      ·exact adx
      ·exact ady g.1 g.2
     ·cases hs
theorem Jp(h:Gi G name=some k):G.Eu[k]?=some name:=by grind [Gi,List.findIdx?_eq_some_iff_getElem]
theorem VQ(h:Gi G name=none):name ∉ G.Eu:=by grind [Gi]
theorem Wf.ends(h:Wf G)(D5:Int):Wf (GR G D5):=by
 refine⟨h.cf,h.N5,λi c hc=>?_,h.JC,h.JX,by simpa [GR] using h.sv,λs g=>?_,h.nm,h.st,h.nd,λu hu=>?_⟩
 ·have q:=h.cl i c hc;exact⟨q.DV,q.DR,λu hu=>by simpa [GR] using q.Ee u hu,q.DZ⟩
 all_goals grind [Wf,GR,List.mem_iff_getElem?]
theorem Wf.serve(h:Wf G){Dz:Int}(hk:0<=Dz/\Dz<=2)(B:G.Dy.length<255){nm:List (List UInt8)}{st:List Int}(w:nm.length<=6)(j:st.length=nm.length)(g:nm.Nodup)(m:∀u∈st,1<=u/\u<=(G.Dy.length:Int)+1):Wf {G with Eu:=nm,Ec:=st,Dy:=G.Dy++[⟨Dz,true,[]⟩]}:=by
 refine⟨h.cf,h.N5,λi c hc=>?_,h.JC,h.JX,by simp only[AJ,CP];omega,λs y=>?_,w,j,g,λu hu=>?_⟩
 ·have q:=h.cl i c hc;refine⟨q.DV,q.DR,λu hu=>?_,q.DZ⟩;have:=q.Ee u hu;all_goals grind
 all_goals grind [Wf]
theorem Wf.export(h:Wf G)(name:Ac)(Dz:Int):Wf (E4 G name Dz).2:=by
 unfold E4;split
 ·exact h
 ·split
  ·exact h
  ·rename_i hk;split
   ·rename_i w;split
    ·exact h
    ·split
     ·exact h
     ·rename_i B y;have j:=h.nm;have g:=h.sv;refine h.serve U U (by simp only[AJ,CP];omega) (by simp[h.st]) ?_ (λu hu=>?_);all_goals grind [Wf,VQ]
   ·rename_i k w;split
    ·exact h
    ·rename_i y;have g:=h.sv;have m:=h.ends (G.Ec.getD k 0);have hl:(GR G (G.Ec.getD k 0)).Dy.length=G.Dy.length:=by simp[GR]
     have:=m.serve (Dz:=Dz) (nm:=G.Eu) (st:=G.Ec.set k ((G.Dy.length:Int)+1)) U (by rw[hl];omega) h.nm (by rw[BG];exact h.st) h.nd (λu hu=>by
      rw[hl];rcases BJ hu with q|q
      ·have:=h.Pn u q;omega
      ·rw[q];omega)
     exact this
theorem Wf.Iy(h:Wf G)(name:Ac):Wf (Fb G name).2:=by
 unfold Fb;split
 ·exact h
 ·rename_i k j;have g:=h.ends (G.Ec.getD k 0);refine⟨g.cf,g.N5,λi c hc=>⟨(g.cl i c hc).DV,(g.cl i c hc).DR,(g.cl i c hc).Ee,(g.cl i c hc).DZ⟩,g.JC,g.JX,g.sv,g.R7,?_,?_,g.nd.sublist (List.eraseIdx_sublist ..),λu hu=>g.Pn u (Cj hu)⟩;all_goals grind [Wf]
theorem Wf.imports(h:Wf G)(DJ:Int)(name:Ac):Wf (FV G DJ name).2:=by
 unfold FV;split
 ·exact h
 ·split
  ·exact h
  ·rename_i k j;refine⟨h.cf,by simpa using h.N5,λi c hc=>?_,h.JC,h.JX,h.sv,h.R7,h.nm,h.st,h.nd,h.Pn⟩;simp only[Df]at hc;cases hg:G.DI[i]? with
   |none=>rw[hg]at hc;cases hc
   |some c0=>
    rw[hg]at hc;have q:=h.cl i c0 hg;have g:=Option.some.inj hc;rw[<-g];split
    ·refine⟨q.DV,q.DR,λu hu=>?_,q.DZ⟩;rcases Bj.1 hu with r|r
     ·exact q.Ee u r
     ·rw[Bg.1 r];have hk:=(Bi.1 (Jp j)).1
      grind [Wf,List.getElem_mem]
    ·exact⟨q.DV,q.DR,q.Ee,q.DZ⟩
structure Key where
 DJ:Int
 DR:Int
 DZ:Int
 D4:Int
 deriving DecidableEq
structure Cd where
 D5:Int
 Eo:Int
 arg:List It
 LO:ByteArray
 to:ByteArray
 bs:List UInt8
abbrev Bk:=Key->Option Cd
def Cd.J9(d:Cd):List UInt8:=EU d.Eo++d.bs
def JD(p:Pk):Key:=⟨p.DJ,p.DR,p.DZ,p.D4⟩
def Oc(e:En):Key:=⟨e.DJ,e.DR,e.DZ,e.D4⟩
def NQ(sv:List Sv)(u:Int):Int:=((sv[(u-1).toNat]?).map (·.Dz)).getD 0
def Mj(sv:List Sv)(u:Int):List En:=((sv[(u-1).toNat]?).map (·.log)).getD []
def Jt(sv:List Sv)(u:Int):Bool:=decide (1<=u)&&((sv[(u-1).toNat]?).map (·.Fj)).getD false
structure R9(sv:List Sv)(d:Cd):Prop where
 D5:1<=d.D5/\d.D5<=(sv.length:Int)
 sig:IY (NQ sv d.D5) d.Eo=some (d.LO,d.to)
 bs:Fi d.LO d.arg=some d.bs
structure Kz(sv:List Sv)(k:Key)(d:Cd)(e:En)(rb:Ac):Prop where
 mem:e∈Mj sv d.D5
 key:Oc e=k
 bytes:Fi d.to e.DU=some rb
 pos:1<=rb.length
def Tj(M:Bk)(sv:List Sv)(to:Int)(p:Pk):Prop:=∃d,M (JD p)=some d/\p.D5=d.D5 /\
 ((p.Dz=1/\to=-1/\p.off=DL d.J9/\p.Ef=EY d.J9 p.Ez) \/
  (p.Dz=2/\to=p.DJ/\p.off=DL d.J9) \/
  (p.Dz=3/\to=-1) \/
  (p.Dz=4/\to=p.DJ) \/
  (p.Dz=5/\to=p.DJ/\∃e rb,Kz sv (JD p) d e rb/\p.off=DL rb/\p.Ef=EY rb p.Ez) \/
  (p.Dz=6/\to=-1) \/
  (p.Dz=7/\to=p.DJ/\p.off=2))
def Sc(M:Bk)(sv:List Sv)(f:Fl):Prop:=if f.Ij=true then Ih f.s=none else ∃p,EC p/\f.s=Gq p/\Tj M sv f.to p
structure JH(M:Bk)(sv:List Sv)(i:Nat)(DR:Int)(Ee:List Int)(k:Nat)(l:Ln):Prop where
 idle:l.DK=0↔l.D4=0
 Gw:1<=l.D4->∃d,M ⟨i,DR,k,l.D4⟩=some d
 pX:l.DK=1->∃d,M ⟨i,DR,k,l.D4⟩=some d/\l.D5=d.D5/\l.DC=d.J9/\l.to=d.to/\d.D5∈Ee/\(0<=l.DT/\(l.EK.length:Int)=8*l.DT)/\(0<l.DT->∃e rb,Kz sv ⟨i,DR,k,l.D4⟩ d e rb/\l.EK=rb.take (8*l.DT.toNat)/\8*l.DT<(rb.length:Int))
 done:l.DK=2->∃d e rb,M ⟨i,DR,k,l.D4⟩=some d/\Kz sv ⟨i,DR,k,l.D4⟩ d e rb/\l.DU=e.DU
 none:l.DK≠2->l.DU=[]
structure LK(M:Bk)(sv:List Sv)(k:Key)(r:Sn)(d:Cd):Prop where
 Gw:M k=some d
 D5:r.D5=d.D5
 Lu:r.DK=1->r.DC=d.J9.take (8*r.DT.toNat)/\8*r.DT<(d.J9.length:Int)
 El:r.DK=2->r.DC=d.J9
 open':r.DK=1\/r.DK=2->Jt sv d.D5=true/\∀e∈Mj sv d.D5,Oc e≠k
 MY:r.DK=3->∃e,Kz sv k d e r.DU
structure pZ(M:Bk)(u:Int)(e:En):Prop where
 some:∃d rb,M (Oc e)=some d/\d.D5=u/\e.Eo=d.Eo/\e.arg=d.arg/\Fi d.to e.DU=.some rb/\1<=rb.length
def Told(Dz:Int)(l:List En):Prop:=∀i e,l[i]?=some e->e.DU=Hw Dz (l.take i) e.Eo e.arg
def Before(a b:En):Prop:=a.DJ=b.DJ->a.DR=b.DR->a.DZ=b.DZ->a.D4<b.D4
structure iX(M:Bk)(u:Int)(s:Sv):Prop where
 each:∀e∈s.log,pZ M u e
 ord:s.log.Pairwise Before
 told:Told s.Dz s.log
def Vu(DN:List Sn)(DJ DZ:Int):Sn:=(DN[3*DJ.toNat+DZ.toNat]?).getD Ic
def Vy(DX:List Int)(DN:List Sn)(e:En):Prop:=e.DR<DX.getD e.DJ.toNat 0\/(e.DR=DX.getD e.DJ.toNat 0/\e.D4<=(Vu DN e.DJ e.DZ).D4)
def InR(cl:List Cl)(k:Key):Prop:=∃(i:Nat) (c:Cl) (n:Nat) (l:Ln),k.DJ=i/\cl[i]?=some c/\k.DZ=n/\c.DV[n]?=some l/\1<=k.DR/\k.DR<=c.DR/\1<=k.D4/\k.D4<=999/\(k.DR=c.DR->k.D4<=l.D4)
structure Tm(DR:Int)(r:Sn):Prop where
 zero:r.D4=0->r=Ic
 D4:0<=r.D4/\r.D4<=999
 some:r.D4≠0->1<=DR/\(1<=r.D5/\r.D5<=255)/\(1<=r.DK/\r.DK<=4)
 Lu:r.DK=1->(r.DC.length:Int)=8*r.DT/\0<=r.DT/\r.DT<=8
 El:r.DK=2->2<=r.DC.length/\r.DC.length<=72
 MY:r.DK=3->1<=r.DU.length/\r.DU.length<=72/\0<=r.at'/\r.at'<DL r.DU
 E1:r.E1=true->r.DK=3/\(1<=r.El/\r.El<=8)/\(0<=r.DW/\r.DW<=6)
structure MX(c:Cf)(DX:List Int)(DN:List Sn)(EF:List Jb):Prop where
 ll:DX.length=3
 lv:∀x∈DX,0<=x/\x<=255
 sl:DN.length=9
 sn:∀i r,DN[i]?=some r->Tm (DX.getD (i / 3) 0) r
 jl:(EF.length:Int)<=c.FF
 jb:∀j∈EF,(0<=j.DJ/\j.DJ<=2)/\(0<=j.DZ/\j.DZ<=2)
structure Inv(M:Bk)(G:Wd):Prop where
 wf:Wf G
 ws:MX G.c G.DX G.DN G.EF
 bk:∀k d,M k=some d->R9 G.Dy d/\InR G.DI k
 ln:∀(i:Nat) (c:Cl) (k:Nat) (l:Ln),G.DI[i]?=some c->c.DV[k]?=some l->JH M G.Dy i c.DR c.Ee k l
 fl:∀f∈G.Ej,Sc M G.Dy f
 sn:∀(i:Nat) (r:Sn),G.DN[i]?=some r->r.D4≠0->∃d,LK M G.Dy ⟨((i / 3:Nat):Int),G.DX.getD (i / 3) 0,((i % 3:Nat):Int),r.D4⟩ r d
 lg:∀(u:Nat) (s:Sv),G.Dy[u]?=some s->iX M ((u:Int)+1) s
 jE:∀(u:Nat) (s:Sv) (e:En),G.Dy[u]?=some s->s.Fj=true->e∈s.log->Vy G.DX G.DN e
 jb:∀j∈G.EF,∃d,M ⟨j.DJ,j.DR,j.DZ,j.D4⟩=some d/\j.D5=d.D5
 lv:∀(i:Nat) (c:Cl),G.DI[i]?=some c->G.DX.getD i 0<=c.DR
structure Gr(a b:List Sv):Prop where
 len:a.length<=b.length
 each:∀(u:Nat) (s:Sv),a[u]?=some s->∃s',b[u]?=some s'/\s'.Dz=s.Dz/\∃t,s'.log=s.log++t
theorem Gr.refl(a:List Sv):Gr a a:=⟨Ar _,λu s h=>⟨s,h,rfl,[],Ev⟩⟩
theorem Gr.Dz(h:Gr a b)(hu:1<=u/\u<=(a.length:Int)):NQ b u=NQ a u:=by
 have g:(u-1).toNat<a.length:=U;have⟨w,j,m,_⟩:=h.each _ _ (Ah g);unfold NQ;rw[j,Ah g];simp[m]
theorem Gr.log(h:Gr a b)(g:e∈Mj a u):e∈Mj b u:=by
 unfold Mj at g ⊢;cases ha:a[(u-1).toNat]? with
 |none=>rw[ha]at g;simp at g
 |some s=>
  rw[ha]at g;have⟨w,j,_,t,m⟩:=h.each _ _ ha;rw[j];simp at g ⊢;rw[m];exact List.mem_append_left _ g
theorem R9.grow(h:Gr a b){d:Cd}(hd:R9 a d):R9 b d:=by grind [Gr,R9,R.Gr.Dz]
theorem Kz.grow(h:Gr a b){k:Key}{d:Cd}(hd:Kz a k d e rb):Kz b k d e rb:=by grind [Kz,R.Gr.log]
def Le(M N:Bk):Prop:=∀k d,M k=some d->N k=some d
theorem Le.refl(M:Bk):Le M M:=λ_ _ h=>h
theorem Tj.grow{M N:Bk}(w:Le M N)(h:Gr a b){to:Int}(y:Tj M a to p):Tj N b to p:=by
 have⟨d,g,j,m⟩:=y;refine⟨d,w _ _ g,j,?_⟩;rcases m with q|q|q|q|⟨B,D,e,rb,O,Q⟩|q|q
 ·exact Aj q
 ·exact Am (Aj q)
 ·exact Am (Am (Aj q))
 ·all_goals grind
 ·exact Am (Am (Am (Am (Aj ⟨B,D,e,rb,O.grow h,Q⟩))))
 all_goals grind
theorem Sc.grow{M N:Bk}(y:Le M N)(h:Gr a b){f:Fl}(g:Sc M a f):Sc N b f:=by
 unfold Sc at g ⊢;split
 ·grind
 ·rename_i B;rw[Ao B]at g;have⟨p,j,m,w⟩:=g;exact⟨p,j,m,w.grow y h⟩
theorem JH.grow{M N:Bk}(B:Le M N)(h:Gr a b){DR:Int}{Ee g:List Int}(D:∀u∈Ee,u∈g)(hl:JH M a i DR Ee k l):JH N b i DR g k l:=by
 refine⟨hl.idle,λj=>?_,λj=>?_,λj=>?_,hl.none⟩
 ·grind [Le,JH]
 ·have⟨d,m,w,y,Q,T,X,q7⟩:=hl.pX j;refine⟨d,B _ _ m,w,y,Q,D _ T,X,λO=>?_⟩;have⟨e,rb,r1,r2⟩:=q7 O;exact⟨e,rb,r1.grow h,r2⟩
 ·have⟨d,e,rb,m,w,y⟩:=hl.done j;exact⟨d,e,rb,B _ _ m,w.grow h,y⟩
theorem pZ.grow{M N:Bk}(g:Le M N)(h:pZ M u e):pZ N u e:=by grind [Le,pZ]
theorem iX.grow{M N:Bk}(g:Le M N)(h:iX M u s):iX N u s:=⟨λe j=>(h.each e j).grow g,h.ord,h.told⟩
theorem LK.grow{M N:Bk}(g:Le M N){k:Key}{r:Sn}{d:Cd}(h:LK M a k r d):LK N a k r d:=by grind [Le,LK]
theorem ZA{l:List En}(h:l.Pairwise Before){a b:En}(g:a∈l)(j:b∈l)(e:Oc a=Oc b):a=b:=by
 induction l with
 |nil=>cases g
 |cons x l ih=>grind [Before,Oc,List.pairwise_cons]
theorem zv{sv:List Sv}(h:e∈Mj sv u)(hu:1<=u):∃(n:Nat) (s:Sv),u=(n:Int)+1/\sv[n]?=some s/\e∈s.log:=by
 unfold Mj at h;cases ha:sv[(u-1).toNat]? with
 |none=>rw[ha]at h;simp at h
 |some s=>
  rw[ha]at h;exact⟨(u-1).toNat,s,U,ha,by simpa using h⟩
theorem SV{sv:List Sv}{n:Nat}(h:sv[n]?=some s):Mj sv ((n:Int)+1)=s.log:=by
 simp[Mj,h]
theorem Inv.unique{M:Bk}(h:Inv M G){k:Key}{d:Cd}(hd:M k=some d){y:En}{j:Ac}(m:Kz G.Dy k d e rb)(w:Kz G.Dy k d y j):y=e/\j=rb:=by
 have⟨n,s,O,B,Q⟩:=zv m.mem (h.bk k d hd).1.D5.1;have g:=w.mem;rw[O,SV B]at g;have D:=ZA (h.lg n s B).ord g Q (by rw[m.key,w.key]);subst D;refine⟨rfl,?_⟩;have T:=m.bytes;have X:=w.bytes
 grind
theorem Nq(h:Fi t v=some bs):bs.length<=70:=by grind [Fi,V.jP]
theorem Kq(h:Fi t v=some bs):V.I8 t bs=(0,v):=by grind [Fi,V.iL]
theorem SX{sv:List Sv}{d:Cd}(h:R9 sv d):2<=d.J9.length/\d.J9.length<=72:=by grind [R9,Nq,Cd.J9,EU]
theorem Inv.E9{M:Bk}(h:Inv M G){to:Int}(j:EC p)(w:Tj M G.Dy to p):Inv M (E9 G to p):=by
 have g:=h.wf.E9 (to:=to) j;unfold R.E9 at g ⊢;split
 ·rename_i hl;rw[Ay hl]at g;refine⟨g,h.ws,h.bk,h.ln,λf m=>?_,h.sn,h.lg,h.jE,h.jb,h.lv⟩;rcases Bj.1 m with q|q
  ·exact h.fl f q
  ·simp only[Bg]at q;subst q;unfold Sc;rw[Ao Ev];exact⟨p,j,rfl,w⟩
 ·exact h
theorem Inv.JC{M:Bk}(h:Inv M G){fl:List Fl}(j:Wf {G with Ej:=fl})(g:∀f∈fl,Sc M G.Dy f):Inv M {G with Ej:=fl}:=⟨j,h.ws,h.bk,h.ln,g,h.sn,h.lg,h.jE,h.jb,h.lv⟩
theorem Inv.aB{M N:Bk}(h:Inv M G)(hc:G.DI[i]?=some c)(hl:c.DV[k]?=some l)(Q:O0 l')(ah:l.D4<=l'.D4)(y:Le M N)(O:∀q d,N q=some d->M q=some d\/(q=⟨i,c.DR,k,l'.D4⟩/\R9 G.Dy d/\1<=l'.D4))(ab:JH N G.Dy i c.DR c.Ee k l'):Inv N (Eh G i k l'):=by
 refine⟨h.wf.Eh Q,h.ws,λq d hq=>?_,λj c' n x g w=>?_,λf hf=>(h.fl f hf).grow y (Gr.refl _),λj r hr ac=>?_,λu s hs=>(h.lg u s hs).grow y,h.jE,λj g=>?_,λj c' g=>?_⟩
 ·rcases O q d hq with hq|⟨rfl,h1,h2⟩
  ·obtain⟨h1,a,X,n,x,r1,r2,r3,T,r5,r6,r7,r8,r9⟩:=h.bk q d hq;refine⟨h1,a,(if i=a then {X with DV:=X.DV.set k l'} else X),n,(if i=a/\k=n then l' else x),r1,by rw[Ft,r2];rfl,r3,?_,r5,?_,r7,r8,λe=>?_⟩
   ·by_cases B:i=a
    ·subst B;simp only[CQ,true_and];rw[Bf];by_cases m:k=n
     ·subst m;simp[(GG T)]
     ·simp[m,T]
    ·simp[B,T]
   ·split<;>exact r6
   ·have e':q.DR=X.DR:=by
     rw[e];split<;>rfl
    have:=r9 e';by_cases hh:i=a/\k=n
    ·obtain⟨rfl,rfl⟩:=hh;rw[hc]at r2;cases r2;rw[hl]at T;cases T;simp;omega
    ·rw[Ao hh];exact this
  ·have aa:=(h.wf.cl i c hc).DR;refine⟨h1,i,{c with DV:=c.DV.set k l'},k,l',rfl,by rw[Ft,hc];simp,rfl,by simp[(GG hl)],aa.1,BK _,h2,Q.D4.2,λ_=>BK _⟩
 ·rw[Ft]at g;cases h0:G.DI[j]? with
  |none=>rw[h0]at g;cases g
  |some c0=>
   rw[h0]at g;simp only[Ce,Option.some.injEq]at g;subst g;by_cases D:i=j
   ·subst D;rw[hc]at h0;cases h0;simp only[CQ]at w ⊢;rw[Bf]at w;by_cases m:k=n
    ·subst m;simp only[CQ]at w;split at w
     ·cases w;exact ab
     ·cases w
    ·simp only[m,if_false]at w;exact(h.ln i c n x hc w).grow y (Gr.refl _) (λ_ q=>q)
   ·simp only[D,if_false]at w ⊢;exact(h.ln j c0 n x h0 w).grow y (Gr.refl _) (λ_ q=>q)
 ·obtain⟨d,hd⟩:=h.sn j r hr ac;exact⟨d,hd.grow y⟩
 ·obtain⟨d,q1,q2⟩:=h.jb j g;exact⟨d,y _ _ q1,q2⟩
 ·rw[Ft]at g;cases h0:G.DI[j]? with
  |none=>rw[h0]at g;cases g
  |some c0=>
   rw[h0]at g;simp only[Ce,Option.some.injEq]at g;subst g;have:=h.lv j c0 h0;split<;>exact this
theorem Inv.Eh{M:Bk}(h:Inv M G)(hc:G.DI[i]?=some c)(hl:c.DV[k]?=some l)(m:O0 l')(g:l.D4<=l'.D4)(j:JH M G.Dy i c.DR c.Ee k l'):Inv M (Eh G i k l'):=
 h.aB hc hl m g (Le.refl M) (λ_ _ q=>Aj q) j
theorem Inv.EA{M:Bk}(h:Inv M G){r r':Sn}(Q:G.DN[i]?=some r)(D:r.D4<=r'.D4)(O:Tm (G.DX.getD (i / 3) 0) r')(hd:r'.D4≠0->∃d,LK M G.Dy ⟨((i / 3:Nat):Int),G.DX.getD (i / 3) 0,((i % 3:Nat):Int),r'.D4⟩ r' d):Inv M (EA G i r'):=by
 have hi:=GG Q;have w:∀j x,(G.DN.set i r')[j]?=some x->(j=i/\x=r')\/(j≠i/\G.DN[j]?=some x):=λj x m=>by
  rw[Bf]at m;by_cases g:i=j
  ·subst g;simp[hi]at m;exact Aj ⟨rfl,m.symm⟩
  ·simp[g]at m;exact Am ⟨λe=>g e.symm,m⟩
 refine⟨⟨h.wf.cf,h.wf.N5,λj c hc=>⟨(h.wf.cl j c hc).DV,(h.wf.cl j c hc).DR,(h.wf.cl j c hc).Ee,(h.wf.cl j c hc).DZ⟩,h.wf.JC,h.wf.JX,h.wf.sv,h.wf.R7,h.wf.nm,h.wf.st,h.wf.nd,h.wf.Pn⟩,⟨h.ws.ll,h.ws.lv,by simpa [R.EA] using h.ws.sl,λj x m=>?_,h.ws.jl,h.ws.jb⟩,h.bk,h.ln,h.fl,λj x m B=>?_,h.lg,λu s e hs T X=>?_,h.jb,h.lv⟩
 ·rcases w j x m with ⟨rfl,rfl⟩|⟨_,y⟩
  ·exact O
  ·exact h.ws.sn j x y
 ·rcases w j x m with ⟨rfl,rfl⟩|⟨_,y⟩
  ·exact hd B
  ·exact h.sn j x y B
 ·rcases h.jE u s e hs T X with q|⟨q1,q2⟩
  ·exact Aj q
  ·refine Am ⟨q1,Dj q2 ?_⟩;unfold Vu;show _<=(((G.DN.set i r')[3*e.DJ.toNat+e.DZ.toNat]?).getD Ic).D4;rw[Bf];by_cases g:i=3*e.DJ.toNat+e.DZ.toNat
   ·rw[<-g,Q];simp[hi];exact D
   ·simp[g]
end Go.Proofs.YtblomippkddgiaaGreatDoor.R
