import Derived.Test.YtblomippkddgiaaGreatDoorJ01
set_option maxHeartbeats 1000000
namespace Go.Proofs.YtblomippkddgiaaGreatDoor.V.Pt
open Go.Proofs.Tryz
variable {S:List (Nat×Nat×Nat)}{D L c k n p:Nat}{g:Nat→Nat}
def FI(c:Nat):Bool:=c==98 || c==99 || c==105 || c==115
def Pe(g:Nat->Nat)(least p:Nat):Bool×Nat:=if 48+least<=g p/\g p<=57 then (true,p+1) else (false,p)
def LV(T:Nat->Bool×Nat)(g:Nat->Nat):Nat->Nat->Bool×Nat
 |0,p=>if g p=41 then (true,p+1) else (false,p)
 |j+1,p=>if g p=41 then (true,p+1) else if (T p).1 then LV T g j (T p).2 else (false,(T p).2)
def ty(g:Nat->Nat):Nat->Nat->Bool×Nat
 |0,p=>(false,p)
 |f+1,p=>
  if FI (g p) then (true,p+1)
  else if g p=101 then Pe g 1 (p+1)
  else if g p=97 then (if (Pe g 1 (p+1)).1 then ty g f (p+2) else (false,p+1))
  else if g p=113 then (if (Pe g 0 (p+1)).1 then ty g f (p+2) else (false,p+1))
  else if g p=114\/g p=117 then
   (if g (p+1)=40 then (if (ty g f (p+2)).1 then LV (ty g f) g 5 (ty g f (p+2)).2 else (false,(ty g f (p+2)).2)) else (false,p+1))
  else (false,p)
def I7(T:Nat->Bool×Nat)(g:Nat->Nat):Nat->Nat->List Nat
 |0,_=>[]
 |j+1,p=>if g p=41 then [] else p :: I7 T g j (T p).2
def EW(g:Nat->Nat)(f p:Nat):List Nat:=
 if g p=97\/g p=113 then [p+2]
 else if g p=114\/g p=117 then (p+2) :: I7 (ty g f) g 5 (ty g f (p+2)).2
 else []
def top:List Nat->Nat
 |[]=>0
 |a :: l=>max a (top l)
def Lj(g:Nat->Nat):Nat->Nat->Nat
 |0,_=>0
 |f+1,p=>top ((EW g f p).map (Lj g f))+1
def EX(c L:Nat):Option (List (Nat×Nat×Nat)):=
 if FI c then some []
 else if c=101 then some [(2,0,0)]
 else if c=97 then some [(2,0,0),(1,0,L+1)]
 else if c=113 then some [(3,0,0),(1,0,L+1)]
 else if c=114\/c=117 then some [(4,0,0),(5,0,L+1)]
 else none
def FW:List (Nat×Nat×Nat)->Nat->Option (List (Nat×Nat×Nat))
 |[],_=>none
 |(h,k,L) :: S,c=>
  if h=2 then (if 49<=c/\c<=57 then some S else none)
  else if h=3 then (if 48<=c/\c<=57 then some S else none)
  else if h=4 then (if c=40 then some S else none)
  else if h=5 then (if c=41/\0<k then some S else if k=6 then none else (EX c L).map (·++(5,k+1,L) :: S))
  else (EX c L).map (·++S)
def nd(S:List (Nat×Nat×Nat))(c D:Nat):Nat:=
 match S with
 |[]=>D
 |(h,_,L) :: _=>if (h=1\/(h=5/\c≠41))/\D<L then L else D
def fin(n:Nat)(S:List (Nat×Nat×Nat))(D:Nat):Nat×Nat:=if S=[] then (if 4<D then (3,0) else (0,0)) else (2,n)
def run(g:Nat->Nat)(n:Nat):Nat->List (Nat×Nat×Nat)->Nat->Nat->Nat×Nat
 |0,S,D,_=>fin n S D
 |m+1,S,D,p=>match FW S (g p) with
  |none=>(2,p)
  |some S'=>run g n m S' (nd S (g p) D) (p+1)
def O7(g:Nat->Nat)(n:Nat):Nat×Nat:=
 if 40<n then (1,0)
 else if (ty g (n+1) 0).1 then (if (ty g (n+1) 0).2<n then (2,(ty g (n+1) 0).2) else if 4<Lj g (n+1) 0 then (3,0) else (0,0))
 else (2,(ty g (n+1) 0).2)
def ends(g:Nat->Nat)(n:Nat)(S:List (Nat×Nat×Nat))(D:Nat)(r:Bool×Nat):Nat×Nat:=
 if r.1 then run g n (n-r.2) S D r.2 else (2,r.2)
theorem Kf{S':List (Nat×Nat×Nat)}(f:p<n)(h:FW S (g p)=some S'):
  run g n (n-p) S D p=run g n (n-(p+1)) S' (nd S (g p) D) (p+1):=by
 obtain⟨m,e⟩:∃m,n-p=m+1:=⟨n-p-1,U⟩;rw[e,run,h,show n-(p+1)=m by omega]
theorem Lh(f:p<n)(h:FW S (g p)=none):
  run g n (n-p) S D p=(2,p):=by
 obtain⟨m,e⟩:∃m,n-p=m+1:=⟨n-p-1,U⟩;rw[e,run,h]
theorem OT{x:Nat×Nat×Nat}:run g n (n-n) (x :: S) D n=(2,n):=by
 rw[CZ,run,fin,Ao Ev]
theorem Qt{h e:Nat}(u:∀p,n<=p->g p=0)(y:p<=n)(hh:(h=2/\e=1)\/(h=3/\e=0)):
  run g n (n-p) ((h,0,0) :: S) D p=ends g n S D (Pe g e p)/\((Pe g e p).1=true->(Pe g e p).2=p+1/\p<n)/\((Pe g e p).1=false->(Pe g e p).2=p):=by
 by_cases hn:p=n
 ·subst hn;have w:=u p (Ar _);have hd:Pe g e p=(false,p):=by unfold Pe;rw[Ao U]
  rw[hd,OT];simp[ends]
 ·have j:p<n:=U;by_cases hc:48+e<=g p/\g p<=57
  ·have hd:Pe g e p=(true,p+1):=by unfold Pe;rw[Ay hc]
   have f:FW ((h,0,0) :: S) (g p)=some S:=by
    exact acx
   have m:nd ((h,0,0) :: S) (g p) D=D:=by
    rcases hh with ⟨rfl,rfl⟩|⟨rfl,rfl⟩<;>simp[nd]
   rw[hd,Kf j f,m];simp[ends,j]
  ·have hd:Pe g e p=(false,p):=by unfold Pe;rw[Ao hc]
   have f:FW ((h,0,0) :: S) (g p)=none:=by
    exact acx
   rw[hd,Lh j f];simp[ends]
theorem VS(h:k=0\/(c≠41/\k≠6)):FW ((5,k,L) :: S) c=FW ((1,0,L) :: (5,k+1,L) :: S) c:=by
 have e:¬(c=41/\0<k):=U;have f:¬k=6:=U;simp[FW,e,f]
theorem WM(L:Nat):EX 41 L=none:=by simp[EX,FI]
theorem Z9(j:p<=n)(h:k=0\/(g p≠41/\k≠6)):
  run g n (n-p) ((5,k,L) :: S) D p=run g n (n-p) ((1,0,L) :: (5,k+1,L) :: S) D p:=by
 by_cases hn:p=n
 ·subst hn;rw[OT,OT]
 ·have e:p<n:=U;have f:=VS (S:=S) (L:=L) h;cases hx:FW ((5,k,L) :: S) (g p) with
  |none=>rw[Lh e hx,Lh e (f ▸ hx)]
  |some S'=>
   rw[Kf e hx,Kf e (f ▸ hx)];by_cases hc:g p=41
   ·rcases h with rfl|h
    ·exfalso;rw[hc]at hx;simp[FW,WM]at hx
    ·omega
   ·simp[nd,hc]
def Agree(g:Nat->Nat)(n f:Nat):Prop:=∀(p k L D:Nat) (S:List (Nat×Nat×Nat)),p<=n->n-p<f ->
 run g n (n-p) ((1,k,L) :: S) D p=ends g n S (max D (L+Lj g f p-1)) (ty g f p)/\((ty g f p).1=true->p<(ty g f p).2/\(ty g f p).2<=n)/\((ty g f p).1=false->p<=(ty g f p).2/\(ty g f p).2<=n)
theorem tf{f:Nat}(hg:∀p,n<=p->g p=0)(Q:Agree g n f):∀(j p k L D:Nat) (S:List (Nat×Nat×Nat)),k+j=6->1<=k->p<=n->n-p<f->1<=L->L<=D+1 ->
  run g n (n-p) ((5,k,L) :: S) D p=ends g n S (max D (L+top ((I7 (ty g f) g j p).map (Lj g f))-1)) (LV (ty g f) g j p) /\
   ((LV (ty g f) g j p).1=true->p<(LV (ty g f) g j p).2/\(LV (ty g f) g j p).2<=n)/\((LV (ty g f) g j p).1=false->p<=(LV (ty g f) g j p).2/\(LV (ty g f) g j p).2<=n):=by
 have close:∀(p k L D:Nat) (S:List (Nat×Nat×Nat)),1<=k->p<=n->g p=41->L<=D+1->p<n/\run g n (n-p) ((5,k,L) :: S) D p=ends g n S (max D (L+0-1)) (true,p+1):=by
  intro p k L D S hk u hc y;have m:p<n:=by
   rcases CR p n with h|h
   ·exact h
   ·have:=hg p h;omega
  have M:FW ((5,k,L) :: S) (g p)=some S:=by
   have:0<k:=U;simp[FW,hc,this]
  refine⟨m,?_⟩;rw[Kf m M];have e1:nd ((5,k,L) :: S) (g p) D=D:=by simp[nd,hc]
  have e2:max D (L+0-1)=D:=U;rw[e1,e2];simp[ends]
 intro j;induction j with
 |zero=>
  intro p k L D S hk B u _ w y;obtain rfl:k=6:=U;by_cases hc:g p=41
  ·have⟨m,O⟩:=close p 6 L D S B u hc y;have e:LV (ty g f) g 0 p=(true,p+1):=by simp[LV,hc]
   rw[e,O];refine⟨?_,λ_=>⟨Ev,by show p+1<=n;omega⟩,λh=>by simp at h⟩;simp[I7,top]
  ·have e:LV (ty g f) g 0 p=(false,p):=by simp[LV,hc]
   rw[e];refine⟨?_,λh=>by simp at h,λ_=>⟨Ar _,u⟩⟩;by_cases hn:p=n
   ·subst hn;rw[OT];simp[ends]
   ·rw[Lh U (by simp[FW,hc])];simp[ends]
 |succ j ih=>
  intro p k L D S hk B u hf w y;by_cases hc:g p=41
  ·have⟨m,O⟩:=close p k L D S B u hc y;have e:LV (ty g f) g (j+1) p=(true,p+1):=by simp[LV,hc]
   rw[e,O];refine⟨?_,λ_=>⟨Ev,by show p+1<=n;omega⟩,λh=>by simp at h⟩;simp[I7,top,hc]
  ·rw[Z9 u (Am ⟨hc,U⟩)];have⟨T,X,hd⟩:=Q p 0 L D ((5,k+1,L) :: S) u hf;rw[T];cases hx:(ty g f p).1 with
   |false=>
    have e:LV (ty g f) g (j+1) p=(false,(ty g f p).2):=by simp[LV,hc,hx]
    rw[e];refine⟨?_,λh=>by simp at h,λ_=>hd hx⟩;simp[ends,hx]
   |true=>
    have⟨q1,q2⟩:=X hx;have e:LV (ty g f) g (j+1) p=LV (ty g f) g j (ty g f p).2:=by simp[LV,hc,hx]
    have e3:I7 (ty g f) g (j+1) p=p :: I7 (ty g f) g j (ty g f p).2:=by simp[I7,hc]
    rw[e,e3];have⟨ia,ib,ic⟩:=ih (ty g f p).2 (k+1) L (max D (L+Lj g f p-1)) S U U q2 U w U;have e4:ends g n ((5,k+1,L) :: S) (max D (L+Lj g f p-1)) (ty g f p)=run g n (n-(ty g f p).2) ((5,k+1,L) :: S) (max D (L+Lj g f p-1)) (ty g f p).2:=by simp[ends,hx]
    rw[e4,ia];refine⟨?_,λh=>?_,λh=>?_⟩
    ·have e5:max (max D (L+Lj g f p-1)) (L+top ((I7 (ty g f) g j (ty g f p).2).map (Lj g f))-1)=max D (L+top ((p :: I7 (ty g f) g j (ty g f p).2).map (Lj g f))-1):=by
      simp only[Cq,top];omega
     rw[e5]
    ·have:=ib h;omega
    ·have:=ic h;omega
theorem mh(h:FI c=true):c≠97/\c≠113/\c≠114/\c≠117/\c≠0/\c≠101:=by
 simp[FI]at h;omega
theorem mj(h:c=101\/c=97\/c=113\/c=114\/c=117\/c=0):FI c=false:=by
 rcases h with h|h|h|h|h|h<;>subst h<;>rfl
theorem IU:FW ((1,k,L) :: S) c=(EX c L).map (·++S):=by simp[FW]
theorem SZ:nd ((1,k,L) :: S) c D=max D L:=by grind [nd]
theorem agree(O:∀p,n<=p->g p=0):∀f,Agree g n f:=by
 intro f;induction f with
 |zero=>intro p k L D S hp hf;omega
 |succ f ih=>
  intro p k L D S hp hf;by_cases hn:p=n
  ·subst hn;have h0:=O p (Ar _);have e:ty g (f+1) p=(false,p):=by simp[ty,h0,FI]
   grind [OT,ends]
  have u:p<n:=U;cases hl:FI (g p) with
  |true=>
   have⟨a1,a2,a3,a4,_,_⟩:=mh hl;have e:ty g (f+1) p=(true,p+1):=by simp[ty,hl]
   have y:Lj g (f+1) p=1:=by simp[Lj,EW,a1,a2,a3,a4,top]
   have m:FW ((1,k,L) :: S) (g p)=some S:=by rw[IU];simp[EX,hl]
   rw[e,y,Kf u m,SZ]
   grind [ends]
  |false=>
  by_cases M:g p=101
  ·have e:ty g (f+1) p=Pe g 1 (p+1):=by simp[ty,M,FI]
   have y:Lj g (f+1) p=1:=by simp[Lj,EW,M,top]
   have m:FW ((1,k,L) :: S) (g p)=some ((2,0,0) :: S):=by rw[IU];simp[EX,M,FI]
   have⟨d1,d2,d3⟩:=Qt (S:=S) (D:=max D L) O (show p+1<=n by omega) (Aj ⟨rfl,rfl⟩);rw[e,y,Kf u m,SZ,d1]
   grind
  by_cases ha:g p=97\/g p=113
  ·obtain⟨h,j,hh,m,B⟩:∃h j,((h=2/\j=1)\/(h=3/\j=0))/\FW ((1,k,L) :: S) (g p)=some ((h,0,0) :: (1,0,L+1) :: S)/\ty g (f+1) p=(if (Pe g j (p+1)).1 then ty g f (p+2) else (false,p+1)):=by
    exact afJ
   have y:Lj g (f+1) p=Lj g f (p+2)+1:=by simp[Lj,EW,ha,top]
   have⟨d1,d2,d3⟩:=Qt (S:=(1,0,L+1) :: S) (D:=max D L) O (show p+1<=n by omega) hh;rw[Kf u m,SZ,d1,B,y];cases hx:(Pe g j (p+1)).1 with
   |false=>grind [ends]
   |true=>
    have⟨hq,w⟩:=d2 hx;rw[Ay rfl];have⟨ia,ib,ic⟩:=ih (p+2) 0 (L+1) (max D L) S U U
    grind [ends,Pe,run,Lj]
  by_cases X:g p=114\/g p=117
  ·have n1:¬g p=97:=U;have n2:¬g p=113:=U;have m:FW ((1,k,L) :: S) (g p)=some ((4,0,0) :: (5,0,L+1) :: S):=by grind [IU,EX]
   have B:ty g (f+1) p=(if g (p+1)=40 then (if (ty g f (p+2)).1 then LV (ty g f) g 5 (ty g f (p+2)).2 else (false,(ty g f (p+2)).2)) else (false,p+1)):=by
    simp[ty,hl,M,n1,n2,X]
   have y:Lj g (f+1) p=top (((p+2) :: I7 (ty g f) g 5 (ty g f (p+2)).2).map (Lj g f))+1:=by simp[Lj,EW,n1,n2,X]
   rw[Kf u m,SZ,B,y];by_cases Q:g (p+1)=40
   ·have w:p+1<n:=by grind
    rw[Ay Q,Kf w (show FW ((4,0,0) :: (5,0,L+1) :: S) (g (p+1))=some ((5,0,L+1) :: S) by simp[FW,Q])];have e1:nd ((4,0,0) :: (5,0,L+1) :: S) (g (p+1)) (max D L)=max D L:=by simp[nd]
    rw[e1,show p+1+1=p+2 from rfl,Z9 U (Aj rfl)];have⟨ia,ib,ic⟩:=ih (p+2) 0 (L+1) (max D L) ((5,0+1,L+1) :: S) U U;rw[ia];cases hx:(ty g f (p+2)).1 with
    |false=>grind [ends]
    |true=>
     have⟨q1,q2⟩:=ib hx;rw[Ay rfl];have⟨ja,jb,jc⟩:=tf O ih 5 (ty g f (p+2)).2 1 (L+1) (max (max D L) (L+1+Lj g f (p+2)-1)) S U U q2 U U U
     grind [ends,Lj,ty,run,top,I7]
   ·rw[Ao Q];refine⟨?_,λh=>by simp at h,λ_=>⟨Ev,by show p+1<=n;omega⟩⟩;by_cases T:p+1=n
    ·rw[T,OT];simp[ends]
    grind [Lh,FW,ends]
  grind [ty,FW,IU,EX,Lh,ends]
theorem aaf(u:∀p,n<=p->g p=0)(h:n<=40):run g n n [(1,0,1)] 0 0=O7 g n:=by
 have⟨j,m,hc⟩:=agree u (n+1) 0 0 1 0 [] U U;rw[Nat.sub_zero]at j;rw[j];unfold O7 ends;rw[Ao (show ¬40<n by omega)];cases hx:(ty g (n+1) 0).1 with
 |false=>simp
 |true=>
  have⟨w,y⟩:=m hx;rw[Ay rfl,Ay rfl];by_cases f:(ty g (n+1) 0).2<n
  ·rw[Ay f,Lh f Ky]
  ·rw[Ao f];have e:(ty g (n+1) 0).2=n:=U;rw[e,CZ,run,fin,Ay rfl]
   grind
end Go.Proofs.YtblomippkddgiaaGreatDoor.V.Pt
namespace Go.Proofs.YtblomippkddgiaaGreatDoor.V
open Go.Proofs.Tryz
open Go.RowKit
variable {a:Addr}{s:ByteArray}{xs:List Value}{B b c k m n p:Nat}{g:Nat→Nat}{S S':Nat→Prop}{a0 a1 a2:Value}{u v w w':World}
def nx(s:Ab)(p:Nat):Nat:=if h:p<s.size then (s[p]).toNat else 0
theorem Ot(h:s.size<=p):nx s p=0:=by unfold nx;rw[dif_neg U]
theorem Gd(h:p<s.size):nx s p=(s[p]).toNat:=by unfold nx;rw[dif_pos h]
theorem jU(s:Ab)(p:Nat):nx s p<256:=by grind [nx,UInt8.toNat_lt]
def At(w:Aa)(b:Nat)(s:Ab)(p:Nat):Prop:=w.heap[b]?=some (.cells #[.string s,Z p] 206 (0,0))
theorem At.text(h:At w b s p):w.cell? (Y b 0)=some (.string s):=by grind [At,World.cell?]
theorem At.place(h:At w b s p):w.cell? (Y b 1)=some (Z p):=by grind [At,World.cell?]
theorem At.wm(h:At w b s p):w.frozen? (Y b 1)=false:=by grind [At,World.frozen?]
theorem At.lt(h:At w b s p):b<w.heap.size:=by grind [At]
theorem At.set{q:Nat}(h:At w b s p):At (w.setCell (Y b 1) (Z q)) b s q:=by
 unfold At at h ⊢;exact xw
theorem At.alloc(h:At w b s p)(o:Obj):At (w.alloc o) b s p:=by grind [At,Below.heap_alloc]
theorem At.drew(h:At w b s p)(n:Nat):At (w.drewN n) b s p:=h
theorem se(e:p<s.size):Value.int .u8 (nx s p:Int)=.int .u8 ((s[p]).toNat:Int):=by rw[Gd e]
structure DF(b:Nat)(w w':Aa):Prop where
 os:w'.os=w.os
 tape:w'.tape=w.tape
 output:w'.output=w.output
 size:w.heap.size<=w'.heap.size
 block:∀k,k<w.heap.size->k≠b->w'.heap[k]?=w.heap[k]?
theorem DF.refl(b:Nat)(w:Aa):DF b w w:=by grind [DF]
theorem DF.trans(h:DF b u v)(k:DF b v w):DF b u w:=by grind [DF]
theorem DF.drew(h:DF b u v):DF b u v.drew:=⟨h.os,h.tape,h.output,h.size,h.block⟩
theorem DF.drewN(h:DF b u v)(n:Nat):DF b u (v.drewN n):=⟨h.os,h.tape,h.output,h.size,h.block⟩
theorem DF.alloc(h:DF b u v)(o:Obj):DF b u (v.alloc o):=
 h.trans ⟨rfl,rfl,rfl,Ev,λk hk _=>AL _ _ _ hk⟩
theorem DF.setCell(h:DF b u v){p:Addr}(e:p.block=b\/u.heap.size<=p.block)(x:Ad):DF b u (v.setCell p x):=by grind [DF,World.setCell]
theorem DF.DG(h:DF b u v)(e:b<=u.heap.size):Below b u v:=⟨h.os,h.tape,h.output,h.size,λk hk=>h.block k U U⟩
theorem DF.cell(h:DF b u v){p:Addr}(f:p.block<u.heap.size)(e:p.block≠b):v.cell? p=u.cell? p:=by grind [DF,World.cell?_of_block]
theorem DF.frozen(h:DF b u v){p:Addr}(f:p.block<u.heap.size)(e:p.block≠b):v.frozen? p=u.frozen? p:=by grind [DF,World.frozen?_of_block]
theorem zH(b p:Nat)(s:Ab)(w:Aa)(h:At w b s p)(f:p<s.size)(_hs:s.size<=40):
  D7 231 #[.pointer (some (Y b 0))] w (.int .u8 (nx s p)) λw'=>DF b w w'/\At w' b s p:=by
 have H:=h;have j:=h.text;have y:=h.place;have e:((p:Int)==(s.size:Int))=false:=Fy;rw[se f];go_enter func231,ntmps231;go_wp2;go_quiet (fail);go_wp2;go_quiet (fail);go_wp2
 go_ret
 exact⟨rfl,((DF.refl _ _).drewN _).drewN _,H⟩
theorem uj(b p:Nat)(s:Ab)(w:Aa)(h:At w b s p)(y:p=s.size):
  D7 231 #[.pointer (some (Y b 0))] w (.int .u8 (nx s p)) λw'=>DF b w w'/\At w' b s p:=by
 rw[Ot U];have H:=h;have f:=h.text;have j:=h.place;have e:((p:Int)==(s.size:Int))=true:=Fy;go_enter func231,ntmps231;go_wp2;go_quiet (fail);go_wp2
 go_ret
 exact⟨rfl,(DF.refl _ _).drewN _,H⟩
theorem Ld(b p:Nat)(s:Ab)(w:Aa)(h:At w b s p)(e:p<=s.size)(f:s.size<=40):
  D7 231 #[.pointer (some (Y b 0))] w (.int .u8 (nx s p)) λw'=>DF b w w'/\At w' b s p:=by grind [zH,uj]
theorem pU(b p:Nat)(s:Ab)(w:Aa)(h:At w b s p):
  D7 129 #[.pointer (some (Y b 0))] w (.agg #[Z 2,Z p]) λw'=>DF b w w':=by
 have e:=λo=>(h.alloc o).place
 go_enter func129,ntmps129;go_wp2;exact Bm (v:=.agg #[Z 2,Z p]) (by simp[results,results129,go_sem]) rfl ⟨rfl,(DF.refl _ _).alloc _⟩
abbrev Ji(q:Nat):Ending:=.panicked [{v:=.iface 86 (.agg #[Z 2,Z q]),recovered:=false}]
theorem M4(b p:Nat)(s:Ab)(w:Aa)(c:Nat)(h:At w b s p)(f:p<=s.size)(j:s.size<=40)(e:nx s p=c)(hc:c=98\/c=99\/c=105\/c=115\/c=101\/c=97\/c=113\/c=114\/c=117):
  D7 194 #[.pointer (some (Y b 0))] w (.int .u8 c) λw'=>DF b w w'/\At w' b s (p+1):=by
 have HN:=Ld b p s w h f j;rw[e]at HN;have y:=e;rcases hc with rfl|rfl|rfl|rfl|rfl|rfl|rfl|rfl|rfl;all_goals
  go_enter func194,ntmps194;exact abC
theorem mA(b p:Nat)(s:Ab)(w:Aa)(c:Nat)(h:At w b s p)(f:p<=s.size)(j:s.size<=40)(y:nx s p=c)(hc:¬(c=98\/c=99\/c=105\/c=115\/c=101\/c=97\/c=113\/c=114\/c=117)):
  ET 194 #[.pointer (some (Y b 0))] w λe w'=>e=Ji p/\DF b w w':=by
 have HN:=Ld b p s w h f j;rw[y]at HN;have c1:((c:Int)==98)=false:=Fy;have c2:((c:Int)==99)=false:=Fy;have c3:((c:Int)==105)=false:=Fy;have c4:((c:Int)==115)=false:=Fy;have c5:((c:Int)==101)=false:=Fy;have c6:((c:Int)==97)=false:=Fy;have D:((c:Int)==113)=false:=Fy;have M:((c:Int)==114)=false:=Fy;have c9:((c:Int)==117)=false:=Fy;go_enter func194,ntmps194;exact aaE
theorem YE(b p:Nat)(s:Ab)(w:Aa)(c l:Nat)(h:At w b s p)(e:p<=s.size)(f:s.size<=40)(j:nx s p=c)(hc:48+l<=c/\c<=57):
  D7 195 #[.pointer (some (Y b 0)),Z l] w (Z ((c:Int)-48)) λw'=>DF b w w'/\At w' b s (p+1):=by
 have HN:=Ld b p s w h e f;rw[j]at HN;have⟨c1,c2⟩:=hc;have d1:¬((c:Int)-48<(l:Int)):=U;have d2:¬((9:Int)<c-48):=U;go_enter func195,ntmps195;exact abC
theorem rA(b p:Nat)(s:Ab)(w:Aa)(c l:Nat)(h:At w b s p)(j:p<=s.size)(y:s.size<=40)(D:nx s p=c)(hc:¬(48+l<=c/\c<=57)):
  ET 195 #[.pointer (some (Y b 0)),Z l] w λe w'=>e=Ji p/\DF b w w':=by
 have HN:=Ld b p s w h j y;have f:=jU s p;rw[D]at HN f;by_cases d1:(c:Int)-48<(l:Int)
 ·clear hc;go_enter func195,ntmps195;exact aaE
 ·have d2:(9:Int)<c-48:=U;go_enter func195,ntmps195;exact aaE
theorem Np(h:At w b s p)(j:p<=s.size)(y:s.size<=40)(D:nx s p=c):
  D7 232 #[.pointer (some (Y b 0)),.int .u8 c] w Ep λw'=>DF b w w'/\At w' b s (p+1):=by
 have f:=Ld b p s w h j y;rw[D]at f;go_enter func232,ntmps232;go_wp2_with fail
 refine cm f ?_;rintro Q ⟨hk,e⟩;have M:=e.place;have O:=e.wm;go_wp2
 go_end0
 exact⟨rfl,hk.setCell (Aj rfl) _,e.set⟩
theorem TA{d:Nat}(h:At w b s p)(f:p<=s.size)(j:s.size<=40)(y:nx s p=c)(hd:c≠d):
  ET 232 #[.pointer (some (Y b 0)),.int .u8 d] w λe w'=>e=Ji p/\DF b w w':=by
 have HN:=Ld b p s w h f j;rw[y]at HN;have d1:((c:Int) != (d:Int))=true:=Fy;go_enter func232,ntmps232;exact aaE
def Gl(g:Nat->Nat)(p:Nat):Int:=if g p=101\/g p=97\/g p=113 then (g (p+1):Int)-48 else 0
def Ve(w:Aa)(S:Nat->Prop)(v:Ad)(n:Nat)(xs:Ae):Prop:=w.ownsRow 0 153 3 v n xs/\∀k,v.ownBlock=some k->S k
def NP(w:Aa)(S:Nat->Prop)(g:Nat->Nat):Nat->Nat->Value->Value->Value->Prop
 |0,_,_,_,_=>False
 |f+1,p,c0,c1,c2=>c0=.int .u8 (g p)/\c1=.int .i64 (Gl g p)/\∃xs:List Value,Ve w S c2 (Pt.EW g f p).length xs /\
   ∀(i q:Nat),(Pt.EW g f p)[i]?=some q->∃d0 d1 d2,xs[3*i]?=some d0/\xs[3*i+1]?=some d1/\xs[3*i+2]?=some d2/\NP w S g f q d0 d1 d2
structure Hq(S:Nat->Prop)(w w':Aa):Prop where
 size:w.heap.size<=w'.heap.size
 block:∀k,S k->k<w.heap.size->w'.heap[k]?=w.heap[k]?
theorem Hq.refl(S:Nat->Prop)(w:Aa):Hq S w w:=⟨Ar _,λ_ _ _=>rfl⟩
theorem Hq.trans(h:Hq S u v)(k:Hq S v w):Hq S u w:=by grind [Hq]
theorem Hq.alloc(h:Hq S u v)(o:Obj):Hq S u (v.alloc o):=
 h.trans ⟨Ev,λk _ hk=>AL _ _ _ hk⟩
theorem Hq.drewN(h:Hq S u v)(n:Nat):Hq S u (v.drewN n):=⟨h.size,h.block⟩
theorem Hq.setCell(h:Hq S u v)(e:¬S a.block)(x:Ad):Hq S u (v.setCell a x):=by grind [Hq,World.setCell]
theorem DF.above(h:DF b u v)(e:¬S b):Hq S u v:=by grind [DF,Hq]
theorem Dv{o:Obj}(h:w.heap[k]?=some o):k<w.heap.size:=by grind
theorem PI{v:Ad}(h:Ve w S v n xs)(hk:Hq S w w'):Ve w' S v n xs:=by
 have⟨⟨hl,h⟩,f⟩:=h;refine⟨⟨hl,?_⟩,f⟩;rcases h with h|⟨g,cap,e,y,D,j,r⟩
 ·exact Aj h
 ·refine Am ⟨g,cap,e,y,D,?_,r⟩;rw[hk.block g (f g (by rw[y];rfl)) (Dv j)];exact j
theorem QY{v:Ad}(h:Ve w S v n xs)(j:∀k,S k->k<w.heap.size->S' k):Ve w S' v n xs:=by
 refine⟨h.1,λk hk=>j k (h.2 k hk) ?_⟩;have⟨⟨_,h⟩,_⟩:=h;rcases h with ⟨e,_⟩|⟨g,cap,f,e,D,y,r⟩
 ·rw[e]at hk;cases hk
 ·rw[e]at hk;cases hk;exact Dv y
theorem Zz{d0 d1 d2:Ad}(X:Aa)(e:X.heap.size=m):Ve (X.alloc (.cells #[d0,d1,d2] 153)) (λk=>k=m) (EJ m 1 1) 1 [d0,d1,d2]:=by
 subst e;refine⟨⟨rfl,Am ⟨_,_,#[d0,d1,d2],rfl,AV _,?_,Ar _,Em,rfl,rfl⟩⟩,λk hk=>by cases hk;rfl⟩;show (X.heap.push _)[(zz X)]?=_;rw[Bz]
theorem GM(hk:Hq S w w'):∀{f p:Nat} {c0 c1 c2:Ad},NP w S g f p c0 c1 c2->NP w' S g f p c0 c1 c2:=by
 intro f;induction f with
 |zero=>intro p c0 c1 c2 h;exact h
 |succ f ih=>
  intro p c0 c1 c2 h;have⟨e,j,xs,y,hi⟩:=h;refine⟨e,j,xs,PI y hk,λi q D=>?_⟩
  grind
theorem Ke(y:∀k,S k->k<w.heap.size->S' k):∀{f p:Nat} {c0 c1 c2:Ad},NP w S g f p c0 c1 c2->NP w S' g f p c0 c1 c2:=by
 intro f;induction f with
 |zero=>intro p c0 c1 c2 h;exact h
 |succ f ih=>
  intro p c0 c1 c2 h;have⟨e,j,xs,D,hi⟩:=h;refine⟨e,j,xs,QY D y,λi q M=>?_⟩
  grind
theorem uA(w:Aa)(S:Nat->Prop):Ve w S (.slice none 0 0) 0 []:=⟨AZ _ _ _ _,λk hk=>by cases hk⟩
theorem ZQ{f:Nat}{c0 c1:Ad}(hk:Pt.EW g f p=[])(e:c0=.int .u8 (g p))(h:c1=Z (Gl g p)):NP w S g (f+1) p c0 c1 (.slice none 0 0):=by
 refine⟨e,h,[],?_,?_⟩;all_goals grind [uA]
theorem aeR{W e:Aa}(f:DF b W e):(∀k o,k<W.heap.size->¬k=b->e.cell? (Y k o)=W.cell? (Y k o))/\(∀k o,k<W.heap.size->¬k=b->e.frozen? (Y k o)=W.frozen? (Y k o)):=by grind [V.DF.cell,V.DF.frozen]
theorem At.other(h:At w b s p)(e:¬a.block=b)(x:Ad):At (w.setCell a x) b s p:=by grind [At,Below.heap_setCell]
def Ja(b:Nat)(s:Ab)(f p:Nat)(w:Aa)(e:Ending)(w':Aa):Prop:=
 if (Pt.ty (nx s) f p).1 then ∃c0 c1 c2,e=.returned (.agg #[c0,c1,c2])/\DF b w w'/\At w' b s (Pt.ty (nx s) f p).2/\NP w' (λk=>w.heap.size<=k) (nx s) f p c0 c1 c2
 else e=Ji (Pt.ty (nx s) f p).2/\DF b w w'
abbrev IZ:Obj:=.cells #[.int .u8 0,Z 0,.slice none 0 0] 153
theorem uq(h:At w b s p)(O:p<=s.size)(Q:s.size<=40)(y:nx s p=c)(hc:c=98\/c=99\/c=105\/c=115):
  D7 128 #[.pointer (some (Y b 0))] w (.agg #[.int .u8 c,Z 0,.slice none 0 0]) λw'=>DF b w w'/\At w' b s (p+1):=by
 have M:=h.lt;have j:=M4 b p s (w.alloc IZ) c (h.alloc _) O Q y U;clear y h;have e:¬w.heap.size=b:=U;rcases hc with rfl|rfl|rfl|rfl;all_goals
  go_enter func128,ntmps128;go_wp2_with fail
  refine cm j ?_;rintro T ⟨hk,D⟩;have⟨hc,X⟩:=aeR hk;have hz:w.heap.size<T.heap.size:=by have:=hk.size;simp at this;omega
  clear j;go_wp2;refine Bm (v:=.agg #[.int .u8 _,Z 0,.slice none 0 0]) (by simp[results,results128,go_sem,hc,hz,e]) rfl ⟨rfl,?_,?_⟩
  ·refine DF.alloc ?_ _;have f:=((DF.refl b w).alloc IZ).trans hk;repeat (first|exact f|refine DF.setCell ?_ Ev _)
  ·refine At.alloc ?_ _;repeat (first|exact D|refine At.other ?_ (by simpa using e) _)
theorem zJ(h:At w b s p)(y:p<=s.size)(D:s.size<=40)(j:nx s p=c)(hc:¬(c=98\/c=99\/c=105\/c=115\/c=101\/c=97\/c=113\/c=114\/c=117)):
  ET 128 #[.pointer (some (Y b 0))] w λe w'=>e=Ji p/\DF b w w':=by
 have f:=mA b p s (w.alloc IZ) c (h.alloc _) y D j hc;clear j h hc;go_enter func128,ntmps128;go_wp2_with fail
 refine f.mono ?_;rintro e M ⟨rfl,hk⟩;clear f;go_wp2;exact⟨rfl,rfl,((DF.refl b w).alloc IZ).trans hk⟩
def NZ(w:Aa)(k:Nat)(a0 a1 a2:Ad):Prop:=w.heap[k]?=some (.cells #[a0,a1,a2] 153 (0,0))
theorem NZ.facts(h:NZ w k a0 a1 a2):
  w.cell? (Y k 0)=some a0/\w.cell? (Y k 1)=some a1/\w.cell? (Y k 2)=some a2/\w.frozen? (Y k 0)=false/\w.frozen? (Y k 1)=false/\w.frozen? (Y k 2)=false:=by
 unfold NZ at h;simp[World.cell?,World.frozen?,h]
theorem NZ.new(w:Aa)(a0 a1 a2:Ad):NZ (w.alloc (.cells #[a0,a1,a2] 153)) w.heap.size a0 a1 a2:=by
 show (w.heap.push _)[(zz w)]?=_;rw[Bz]
theorem NZ.lt(h:NZ w k a0 a1 a2):k<w.heap.size:=by grind [NZ]
theorem NZ.E0(h:NZ w k a0 a1 a2)(hk:DF b w w')(e:k≠b):NZ w' k a0 a1 a2:=by grind [NZ,DF]
theorem NZ.alloc(h:NZ w k a0 a1 a2)(o:Obj):NZ (w.alloc o) k a0 a1 a2:=by grind [NZ,Below.heap_alloc]
theorem NZ.set1(h:NZ w k a0 a1 a2)(x:Ad):NZ (w.setCell (Y k 1) x) k a0 x a2:=by
 unfold NZ at h ⊢;exact xw
theorem NZ.other(h:NZ w k a0 a1 a2)(e:¬a.block=k)(x:Ad):NZ (w.setCell a x) k a0 a1 a2:=by grind [NZ,Below.heap_setCell]
theorem aeZ(h:At w b s p)(hp:p<s.size)(hs:s.size<=40)(hx:nx s p=101)(hd:49<=nx s (p+1)/\nx s (p+1)<=57):
  D7 128 #[.pointer (some (Y b 0))] w (.agg #[.int .u8 101,Z ((nx s (p+1):Int)-48),.slice none 0 0]) λw'=>DF b w w'/\At w' b s (p+2):=by
 have aa:=h.lt;have X:=M4 b p s (w.alloc IZ) 101 (h.alloc _) U hs hx U;clear hx h;have f:¬w.heap.size=b:=U;generalize hc2:nx s (p+1)=c2 at *;have D:Hid (nx s (p+1)=c2):=hc2;clear hc2;go_enter func128,ntmps128;go_wp2_with fail
 refine cm X ?_;rintro y ⟨hk,M⟩;have T:=(NZ.new w (.int .u8 0) (Z 0) (.slice none 0 0)).E0 hk f;have hz:=T.lt;have j:¬y.heap.size=b:=by have:=M.lt;omega
 have ab:¬w.heap.size=y.heap.size:=U;clear X;go_wp2_with fail
 refine cm (YE b (p+1) s _ c2 1 (M.alloc _) U hs D.out U) ?_;rintro w2 ⟨e,O⟩;have T1:=(NZ.new y (.int .u8 101) (Z 0) (.slice none 0 0)).E0 e j;have T2:=(T.alloc (.cells #[.int .u8 101,Z 0,.slice none 0 0] 153)).E0 e f;have Q:=(((DF.refl b w).alloc IZ).trans hk).trans (((DF.refl b y).alloc _).trans e);have⟨x0,x1,x2,y0,y1,y2⟩:=T1.facts;have⟨u0,u1,u2,v0,v1,v2⟩:=T2.facts;clear T hk e M T1 T2;go_wp2;refine Bm (v:=.agg #[.int .u8 101,Z ((c2:Int)-48),.slice none 0 0]) (by simp[results,results128,go_sem,u0,u1,u2]) rfl ⟨rfl,?_,?_⟩
 ·repeat (first|exact Q|refine DF.setCell ?_ sto _)
 ·repeat (first|exact O|refine At.other ?_ (by first|simpa using f|simpa using j) _)
abbrev Want:=Nat×Nat×Nat
def wc(x:Want):List Value:=[Z x.1,Z x.2.1,Z x.2.2]
def GV(S:List Want):List Value:=S.reverse.flatMap wc
def SG(w:Aa)(B:Nat)(v:Ad)(S:List Want):Prop:=w.ownsRow B 293 3 v S.length (GV S)
theorem KY(S:List Want):(GV S).length=S.length*3:=by
 unfold GV;induction S with
 |nil=>rfl
 |cons x S ih=>simp only[List.reverse_cons,List.flatMap_append,AJ,ih,A4];simp[wc];omega
theorem MQ(S R:List Want):GV (S++R)=GV R++GV S:=by grind [GV]
theorem PO{S:List Want}:∀u∈GV S,u.oneCell'=true:=by
 intro u hu;unfold GV at hu;rw[List.mem_flatMap]at hu;have⟨x,_,e⟩:=hu;simp[wc]at e;rcases e with rfl|rfl|rfl<;>rfl
theorem aaq(w:Aa)(B:Nat):SG w B (.slice none 0 0) []:=AZ _ _ _ _
theorem oT{l:List Want}{e:Array Value}(h:w.heap[m]?=some (.cells e 293 (0,0)))(hB:B<=m)(hn:n=l.length)(hl:e.toList=GV l)(f:n<=100):SG w B (EJ m n n) l:=by
 subst hn;refine⟨KY l,Am ⟨m,l.length,e,rfl,hB,h,Ar _,JG,?_,?_⟩⟩;all_goals grind [KY]
theorem XV{l:List Want}(X:Aa)(e:Array Value)(f:X.heap.size=m)(hB:B<=m)(hn:n=l.length)(hl:e.toList=GV l)(h:n<=100):SG (X.alloc (.cells e 293)) B (EJ m n n) l:=by
 subst f;refine oT ?_ hB hn hl h;show (X.heap.push _)[(zz X)]?=_;rw[Bz]
def Ge(c L:Nat)(w:Aa)(e:Ending)(w':Aa):Prop:=
 ∃v,e=.returned (.tuple #[v,.bool (Pt.EX c L).isSome])/\Below w.heap.size w w'/\SG w' w.heap.size v ((Pt.EX c L).getD [])
theorem kR(L:Nat)(w:Aa)(_hL:L<=1000):ET 238 #[.int .u8 98,Z L] w (Ge 98 L w):=by
 have e:Pt.EX 98 L=some []:=by simp[Pt.EX,Pt.FI]
 unfold Ge;rw[e];exact xt
theorem kS(L:Nat)(w:Aa)(_hL:L<=1000):ET 238 #[.int .u8 99,Z L] w (Ge 99 L w):=by
 have e:Pt.EX 99 L=some []:=by simp[Pt.EX,Pt.FI]
 unfold Ge;rw[e];exact xt
theorem bZ(L:Nat)(w:Aa)(_hL:L<=1000):ET 238 #[.int .u8 105,Z L] w (Ge 105 L w):=by
 have e:Pt.EX 105 L=some []:=by simp[Pt.EX,Pt.FI]
 unfold Ge;rw[e];exact xt
theorem cw(L:Nat)(w:Aa)(_hL:L<=1000):ET 238 #[.int .u8 115,Z L] w (Ge 115 L w):=by
 have e:Pt.EX 115 L=some []:=by simp[Pt.EX,Pt.FI]
 unfold Ge;rw[e];exact xt
theorem bY(L:Nat)(w:Aa)(_hL:L<=1000):ET 238 #[.int .u8 101,Z L] w (Ge 101 L w):=by
 have hx:Pt.EX 101 L=some [(2,0,0)]:=by simp[Pt.EX,Pt.FI]
 exact xm
theorem kQ(L:Nat)(w:Aa)(_hL:L<=1000):ET 238 #[.int .u8 97,Z L] w (Ge 97 L w):=by
 have hx:Pt.EX 97 L=some [(2,0,0),(1,0,L+1)]:=by simp[Pt.EX,Pt.FI]
 exact xm
theorem ck(L:Nat)(w:Aa)(_hL:L<=1000):ET 238 #[.int .u8 113,Z L] w (Ge 113 L w):=by
 have hx:Pt.EX 113 L=some [(3,0,0),(1,0,L+1)]:=by simp[Pt.EX,Pt.FI]
 exact xm
theorem cr(L:Nat)(w:Aa)(_hL:L<=1000):ET 238 #[.int .u8 114,Z L] w (Ge 114 L w):=by
 have hx:Pt.EX 114 L=some [(4,0,0),(5,0,L+1)]:=by simp[Pt.EX,Pt.FI]
 exact xm
theorem cB(L:Nat)(w:Aa)(_hL:L<=1000):ET 238 #[.int .u8 117,Z L] w (Ge 117 L w):=by
 have hx:Pt.EX 117 L=some [(4,0,0),(5,0,L+1)]:=by simp[Pt.EX,Pt.FI]
 exact xm
theorem QK(c L:Nat)(w:Aa)(_hL:L<=1000)(hc:¬(c=98\/c=99\/c=105\/c=115\/c=101\/c=97\/c=113\/c=114\/c=117)):ET 238 #[.int .u8 c,Z L] w (Ge c L w):=by
 have f:Pt.EX c L=none:=by
  have e:Pt.FI c=false:=by simp[Pt.FI];omega
  obtain⟨a1,a2,a3,a4,a5⟩:¬c=101/\¬c=97/\¬c=113/\¬c=114/\¬c=117:=U;simp[Pt.EX,e,a1,a2,a3,a4,a5]
 unfold Ge;rw[f];have c1:((c:Int)==98)=false:=Fy;have c2:((c:Int)==99)=false:=Fy;have c3:((c:Int)==105)=false:=Fy;have c4:((c:Int)==115)=false:=Fy;have c5:((c:Int)==101)=false:=Fy;have c6:((c:Int)==97)=false:=Fy;have h:((c:Int)==113)=false:=Fy;have j:((c:Int)==114)=false:=Fy;have c9:((c:Int)==117)=false:=Fy;exact xt
theorem Nn(c L:Nat)(w:Aa)(e:L<=1000):ET 238 #[.int .u8 c,Z L] w (Ge c L w):=by
 by_cases hc:c=98\/c=99\/c=105\/c=115\/c=101\/c=97\/c=113\/c=114\/c=117
 ·rcases hc with rfl|rfl|rfl|rfl|rfl|rfl|rfl|rfl|rfl;all_goals grind [kR,kS,bZ,cw,bY,kQ,ck,cr,cB]
 ·exact QK c L w e hc
end Go.Proofs.YtblomippkddgiaaGreatDoor.V
