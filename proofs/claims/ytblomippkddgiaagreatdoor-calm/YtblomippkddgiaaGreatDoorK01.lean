import Derived.Test.YtblomippkddgiaaGreatDoorK00
set_option maxHeartbeats 1000000
namespace Go.Proofs.YtblomippkddgiaaGreatDoor
open Go.RowKit
def tab{α:Type}(f:α->List Value)(xs:List α):List Value:=xs.flatMap f
theorem I5{α:Type}{f:α->List Value}{n:Nat}(hf:∀x,(f x).length=n):∀xs:List α,(tab f xs).length=n*xs.length
 |[]=>by simp[tab]
 |x :: xs=>by
  have h:=I5 hf xs;simp only[tab,List.flatMap_cons,List.length_append,hf,List.length_cons]at h ⊢;rw[h,Nat.mul_succ];omega
theorem GG{α:Type}{f:α->List Value}{n:Nat}(hf:∀x,(f x).length=n):∀(xs:List α) (k j:Nat) (x:α),xs[k]?=some x->j<n->(tab f xs)[k*n+j]?=(f x)[j]?
 |[],k,j,x,h,_=>by simp at h
 |y :: xs,0,j,x,h,hj=>by
  simp at h;subst h;simp only[tab,List.flatMap_cons,Nat.zero_mul,Nat.zero_add];rw[List.getElem?_append_left (by rw[hf];exact hj)]
 |y :: xs,k+1,j,x,h,hj=>by
  have ih:=GG hf xs k j x (by simpa using h) hj;simp only[tab,List.flatMap_cons]at ih ⊢;rw[List.getElem?_append_right (by rw[hf,Nat.succ_mul];omega),hf,<-ih];congr 1;rw[Nat.succ_mul];omega
theorem Om{α:Type}{f:α->List Value}{n:Nat}(hf:∀x,(f x).length=n):∀(xs:List α) (k j:Nat) (x x':α) (v:Value),xs[k]?=some x->j<n->f x'=(f x).set j v->(tab f xs).set (k*n+j) v=tab f (xs.set k x')
 |[],k,j,x,x',v,h,_,_=>by simp at h
 |y :: xs,0,j,x,x',v,h,hj,e=>by
  simp at h;subst h;simp only[tab,List.flatMap_cons,Nat.zero_mul,Nat.zero_add,List.set_cons_zero];rw[List.set_append_left _ _ (by rw[hf];exact hj),e]
 |y :: xs,k+1,j,x,x',v,h,hj,e=>by
  have ih:=Om hf xs k j x x' v (by simpa using h) hj e;simp only[tab,List.flatMap_cons,List.set_cons_succ]at ih ⊢;rw[List.set_append_right _ _ (by rw[hf,Nat.succ_mul];omega),hf,<-ih];congr 2;rw[Nat.succ_mul];omega
theorem Fa{α:Type}(f:α->List Value)(xs:List α)(x:α):tab f (xs++[x])=tab f xs++f x:=by simp[tab]
theorem Ak{w:World}{b off:Nat}{cs:List Value}{t:TypeId}{fz:Nat×Nat}(h:w.heap[b]?=some (.cells cs.toArray t fz))(v:Value):(w.setCell ⟨b,off,none⟩ v).heap[b]?=some (.cells (cs.set off v).toArray t fz):=by
 simp[World.setCell,Array.getElem?_modify,h]
theorem AY{w:World}{b off:Nat}{cs:List Value}{t:TypeId}{fz:Nat×Nat}{v:Value}(h:w.heap[b]?=some (.cells cs.toArray t fz))(hv:cs[off]?=some v):w.cell? ⟨b,off,none⟩=some v:=by
 simp[World.cell?,h,hv]
theorem open_list{w:World}{b off:Nat}{cs:Array Value}{t:TypeId}(h:w.heap[b]?=some (.cells cs t (0,0))):w.frozen? ⟨b,off,none⟩=false:=by
 simp[World.frozen?,h]
theorem Bi{w:World}{a b:Nat}{xs ys:Array Value}{t u:TypeId}{f g:Nat×Nat}(ha:w.heap[a]?=some (.cells xs t f))(hb:w.heap[b]?=some (.cells ys u g))(h:t≠u):a≠b:=by
 rintro rfl;rw[ha]at hb;cases hb;exact h rfl
theorem Hr{w:World}{a b:Nat}{xs:Array Value}{t:TypeId}{f:Nat×Nat}{es:Array MapEntry}{cl:Nat}(ha:w.heap[a]?=some (.cells xs t f))(hb:w.heap[b]?=some (.map es cl)):a≠b:=by
 rintro rfl;rw[ha]at hb;cases hb
end Go.Proofs.YtblomippkddgiaaGreatDoor
namespace Go.Proofs.YtblomippkddgiaaGreatDoor.V.Pt
def BZ(c:Nat):Bool:=c==98 || c==99 || c==105 || c==115
def Gd(g:Nat->Nat)(least p:Nat):Bool×Nat:=if 48+least<=g p/\g p<=57 then (true,p+1) else (false,p)
def E4(T:Nat->Bool×Nat)(g:Nat->Nat):Nat->Nat->Bool×Nat
 |0,p=>if g p=41 then (true,p+1) else (false,p)
 |j+1,p=>if g p=41 then (true,p+1) else if (T p).1 then E4 T g j (T p).2 else (false,(T p).2)
def ty(g:Nat->Nat):Nat->Nat->Bool×Nat
 |0,p=>(false,p)
 |f+1,p=>
  if BZ (g p) then (true,p+1)
  else if g p=101 then Gd g 1 (p+1)
  else if g p=97 then (if (Gd g 1 (p+1)).1 then ty g f (p+2) else (false,p+1))
  else if g p=113 then (if (Gd g 0 (p+1)).1 then ty g f (p+2) else (false,p+1))
  else if g p=114\/g p=117 then
   (if g (p+1)=40 then (if (ty g f (p+2)).1 then E4 (ty g f) g 5 (ty g f (p+2)).2 else (false,(ty g f (p+2)).2)) else (false,p+1))
  else (false,p)
def CP(T:Nat->Bool×Nat)(g:Nat->Nat):Nat->Nat->List Nat
 |0,_=>[]
 |j+1,p=>if g p=41 then [] else p :: CP T g j (T p).2
def kids(g:Nat->Nat)(f p:Nat):List Nat:=
 if g p=97\/g p=113 then [p+2]
 else if g p=114\/g p=117 then (p+2) :: CP (ty g f) g 5 (ty g f (p+2)).2
 else []
def top:List Nat->Nat
 |[]=>0
 |a :: l=>max a (top l)
def Eh(g:Nat->Nat):Nat->Nat->Nat
 |0,_=>0
 |f+1,p=>top ((kids g f p).map (Eh g f))+1
def begins(c L:Nat):Option (List (Nat×Nat×Nat)):=
 if BZ c then some []
 else if c=101 then some [(2,0,0)]
 else if c=97 then some [(2,0,0),(1,0,L+1)]
 else if c=113 then some [(3,0,0),(1,0,L+1)]
 else if c=114\/c=117 then some [(4,0,0),(5,0,L+1)]
 else none
def goes:List (Nat×Nat×Nat)->Nat->Option (List (Nat×Nat×Nat))
 |[],_=>none
 |(h,k,L) :: S,c=>
  if h=2 then (if 49<=c/\c<=57 then some S else none)
  else if h=3 then (if 48<=c/\c<=57 then some S else none)
  else if h=4 then (if c=40 then some S else none)
  else if h=5 then (if c=41/\0<k then some S else if k=6 then none else (begins c L).map (·++(5,k+1,L) :: S))
  else (begins c L).map (·++S)
def nd(S:List (Nat×Nat×Nat))(c D:Nat):Nat:=
 match S with
 |[]=>D
 |(h,_,L) :: _=>if (h=1\/(h=5/\c≠41))/\D<L then L else D
def fin(n:Nat)(S:List (Nat×Nat×Nat))(D:Nat):Nat×Nat:=if S=[] then (if 4<D then (3,0) else (0,0)) else (2,n)
def run(g:Nat->Nat)(n:Nat):Nat->List (Nat×Nat×Nat)->Nat->Nat->Nat×Nat
 |0,S,D,_=>fin n S D
 |m+1,S,D,p=>match goes S (g p) with
  |none=>(2,p)
  |some S'=>run g n m S' (nd S (g p) D) (p+1)
def G8(g:Nat->Nat)(n:Nat):Nat×Nat:=
 if 40<n then (1,0)
 else if (ty g (n+1) 0).1 then (if (ty g (n+1) 0).2<n then (2,(ty g (n+1) 0).2) else if 4<Eh g (n+1) 0 then (3,0) else (0,0))
 else (2,(ty g (n+1) 0).2)
def ends(g:Nat->Nat)(n:Nat)(S:List (Nat×Nat×Nat))(D:Nat)(r:Bool×Nat):Nat×Nat:=
 if r.1 then run g n (n-r.2) S D r.2 else (2,r.2)
theorem Ee{g:Nat->Nat}{n p D:Nat}{S S':List (Nat×Nat×Nat)}(hp:p<n)(h:goes S (g p)=some S'):
  run g n (n-p) S D p=run g n (n-(p+1)) S' (nd S (g p) D) (p+1):=by
 obtain⟨m,hm⟩:∃m,n-p=m+1:=⟨n-p-1,by omega⟩;rw[hm,run,h,show n-(p+1)=m by omega]
theorem Ga{g:Nat->Nat}{n p D:Nat}{S:List (Nat×Nat×Nat)}(hp:p<n)(h:goes S (g p)=none):
  run g n (n-p) S D p=(2,p):=by
 obtain⟨m,hm⟩:∃m,n-p=m+1:=⟨n-p-1,by omega⟩;rw[hm,run,h]
theorem Io{g:Nat->Nat}{n D:Nat}{x:Nat×Nat×Nat}{S:List (Nat×Nat×Nat)}:run g n (n-n) (x :: S) D n=(2,n):=by
 rw[Nat.sub_self,run,fin,if_neg (by simp)]
theorem TD{g:Nat->Nat}{n p D h least:Nat}{S:List (Nat×Nat×Nat)}(hg:∀p,n<=p->g p=0)(hp:p<=n)(hh:(h=2/\least=1)\/(h=3/\least=0)):
  run g n (n-p) ((h,0,0) :: S) D p=ends g n S D (Gd g least p)/\((Gd g least p).1=true->(Gd g least p).2=p+1/\p<n)/\((Gd g least p).1=false->(Gd g least p).2=p):=by
 by_cases hn:p=n
 ·subst hn;have h0:=hg p (Nat.le_refl _);have hd:Gd g least p=(false,p):=by unfold Gd;rw[if_neg (by omega)]
  rw[hd,Io];simp[ends]
 ·have hlt:p<n:=by omega
  by_cases hc:48+least<=g p/\g p<=57
  ·have hd:Gd g least p=(true,p+1):=by unfold Gd;rw[if_pos hc]
   have hgo:goes ((h,0,0) :: S) (g p)=some S:=by
    rcases hh with ⟨rfl,rfl⟩|⟨rfl,rfl⟩
    ·simp[goes];omega
    ·simp[goes];omega
   have hnd:nd ((h,0,0) :: S) (g p) D=D:=by
    rcases hh with ⟨rfl,rfl⟩|⟨rfl,rfl⟩<;>simp[nd]
   rw[hd,Ee hlt hgo,hnd];simp[ends,hlt]
  ·have hd:Gd g least p=(false,p):=by unfold Gd;rw[if_neg hc]
   have hgo:goes ((h,0,0) :: S) (g p)=none:=by
    rcases hh with ⟨rfl,rfl⟩|⟨rfl,rfl⟩
    ·simp[goes];omega
    ·simp[goes];omega
   rw[hd,Ga hlt hgo];simp[ends]
theorem Uu{c k L:Nat}{S:List (Nat×Nat×Nat)}(h:k=0\/(c≠41/\k≠6)):goes ((5,k,L) :: S) c=goes ((1,0,L) :: (5,k+1,L) :: S) c:=by
 have h1:¬(c=41/\0<k):=by omega
 have h2:¬k=6:=by omega
 simp[goes,h1,h2]
theorem Nx(L:Nat):begins 41 L=none:=by simp[begins,BZ]
theorem Qh{g:Nat->Nat}{n p k L D:Nat}{S:List (Nat×Nat×Nat)}(hp:p<=n)(h:k=0\/(g p≠41/\k≠6)):
  run g n (n-p) ((5,k,L) :: S) D p=run g n (n-p) ((1,0,L) :: (5,k+1,L) :: S) D p:=by
 by_cases hn:p=n
 ·subst hn;rw[Io,Io]
 ·have hlt:p<n:=by omega
  have hgo:=Uu (S:=S) (L:=L) h;cases hx:goes ((5,k,L) :: S) (g p) with
  |none=>rw[Ga hlt hx,Ga hlt (hgo ▸ hx)]
  |some S'=>
   rw[Ee hlt hx,Ee hlt (hgo ▸ hx)];by_cases hc:g p=41
   ·rcases h with rfl|h
    ·exfalso;rw[hc]at hx;simp[goes,Nx]at hx
    ·omega
   ·simp[nd,hc]
def Agree(g:Nat->Nat)(n f:Nat):Prop:=∀(p k L D:Nat) (S:List (Nat×Nat×Nat)),p<=n->n-p<f ->
 run g n (n-p) ((1,k,L) :: S) D p=ends g n S (max D (L+Eh g f p-1)) (ty g f p)/\((ty g f p).1=true->p<(ty g f p).2/\(ty g f p).2<=n)/\((ty g f p).1=false->p<=(ty g f p).2/\(ty g f p).2<=n)
theorem WR{g:Nat->Nat}{n f:Nat}(hg:∀p,n<=p->g p=0)(hT:Agree g n f):∀(j p k L D:Nat) (S:List (Nat×Nat×Nat)),k+j=6->1<=k->p<=n->n-p<f->1<=L->L<=D+1 ->
  run g n (n-p) ((5,k,L) :: S) D p=ends g n S (max D (L+top ((CP (ty g f) g j p).map (Eh g f))-1)) (E4 (ty g f) g j p) /\
   ((E4 (ty g f) g j p).1=true->p<(E4 (ty g f) g j p).2/\(E4 (ty g f) g j p).2<=n)/\((E4 (ty g f) g j p).1=false->p<=(E4 (ty g f) g j p).2/\(E4 (ty g f) g j p).2<=n):=by
 have close:∀(p k L D:Nat) (S:List (Nat×Nat×Nat)),1<=k->p<=n->g p=41->L<=D+1->p<n/\run g n (n-p) ((5,k,L) :: S) D p=ends g n S (max D (L+0-1)) (true,p+1):=by
  intro p k L D S hk hp hc hL;have hlt:p<n:=by
   rcases Nat.lt_or_ge p n with h|h
   ·exact h
   ·have:=hg p h;omega
  have hgo:goes ((5,k,L) :: S) (g p)=some S:=by
   have:0<k:=by omega
   simp[goes,hc,this]
  refine⟨hlt,?_⟩;rw[Ee hlt hgo];have e1:nd ((5,k,L) :: S) (g p) D=D:=by simp[nd,hc]
  have e2:max D (L+0-1)=D:=by omega
  rw[e1,e2];simp[ends]
 intro j;induction j with
 |zero=>
  intro p k L D S hk h1 hp _ hL1 hL;obtain rfl:k=6:=by omega
  by_cases hc:g p=41
  ·obtain⟨hlt,hr⟩:=close p 6 L D S h1 hp hc hL;have e:E4 (ty g f) g 0 p=(true,p+1):=by simp[E4,hc]
   rw[e,hr];refine⟨?_,fun _=>⟨by simp,by show p+1<=n;omega⟩,fun h=>by simp at h⟩;simp[CP,top]
  ·have e:E4 (ty g f) g 0 p=(false,p):=by simp[E4,hc]
   rw[e];refine⟨?_,fun h=>by simp at h,fun _=>⟨Nat.le_refl _,hp⟩⟩;by_cases hn:p=n
   ·subst hn;rw[Io];simp[ends]
   ·rw[Ga (by omega) (by simp[goes,hc])];simp[ends]
 |succ j ih=>
  intro p k L D S hk h1 hp hf hL1 hL;by_cases hc:g p=41
  ·obtain⟨hlt,hr⟩:=close p k L D S h1 hp hc hL;have e:E4 (ty g f) g (j+1) p=(true,p+1):=by simp[E4,hc]
   rw[e,hr];refine⟨?_,fun _=>⟨by simp,by show p+1<=n;omega⟩,fun h=>by simp at h⟩;simp[CP,top,hc]
  ·rw[Qh hp (Or.inr ⟨hc,by omega⟩)];obtain⟨ha,hb,hd⟩:=hT p 0 L D ((5,k+1,L) :: S) hp hf;rw[ha];cases hx:(ty g f p).1 with
   |false=>
    have e:E4 (ty g f) g (j+1) p=(false,(ty g f p).2):=by simp[E4,hc,hx]
    rw[e];refine⟨?_,fun h=>by simp at h,fun _=>hd hx⟩;simp[ends,hx]
   |true=>
    obtain⟨q1,q2⟩:=hb hx;have e:E4 (ty g f) g (j+1) p=E4 (ty g f) g j (ty g f p).2:=by simp[E4,hc,hx]
    have e3:CP (ty g f) g (j+1) p=p :: CP (ty g f) g j (ty g f p).2:=by simp[CP,hc]
    rw[e,e3];obtain⟨ia,ib,ic⟩:=ih (ty g f p).2 (k+1) L (max D (L+Eh g f p-1)) S (by omega) (by omega) q2 (by omega) hL1 (by omega);have e4:ends g n ((5,k+1,L) :: S) (max D (L+Eh g f p-1)) (ty g f p)=run g n (n-(ty g f p).2) ((5,k+1,L) :: S) (max D (L+Eh g f p-1)) (ty g f p).2:=by simp[ends,hx]
    rw[e4,ia];refine⟨?_,fun h=>?_,fun h=>?_⟩
    ·have e5:max (max D (L+Eh g f p-1)) (L+top ((CP (ty g f) g j (ty g f p).2).map (Eh g f))-1)=max D (L+top ((p :: CP (ty g f) g j (ty g f p).2).map (Eh g f))-1):=by
      simp only[List.map_cons,top];omega
     rw[e5]
    ·have:=ib h;omega
    ·have:=ic h;omega
theorem Ux{c:Nat}(h:BZ c=true):c≠97/\c≠113/\c≠114/\c≠117/\c≠0/\c≠101:=by
 simp[BZ]at h;omega
theorem Uy{c:Nat}(h:c=101\/c=97\/c=113\/c=114\/c=117\/c=0):BZ c=false:=by
 rcases h with h|h|h|h|h|h<;>subst h<;>rfl
theorem ET{c k L:Nat}{S:List (Nat×Nat×Nat)}:goes ((1,k,L) :: S) c=(begins c L).map (·++S):=by simp[goes]
theorem KG{c k L D:Nat}{S:List (Nat×Nat×Nat)}:nd ((1,k,L) :: S) c D=max D L:=by
 simp only[nd,true_or,true_and];split<;>omega
theorem agree{g:Nat->Nat}{n:Nat}(hg:∀p,n<=p->g p=0):∀f,Agree g n f:=by
 intro f;induction f with
 |zero=>intro p k L D S hp hf;omega
 |succ f ih=>
  intro p k L D S hp hf;by_cases hn:p=n
  ·subst hn;have h0:=hg p (Nat.le_refl _);have e:ty g (f+1) p=(false,p):=by simp[ty,h0,BZ]
   rw[e,Io];exact⟨by simp[ends],fun h=>by simp at h,fun _=>⟨Nat.le_refl _,hp⟩⟩
  have hlt:p<n:=by omega
  cases hl:BZ (g p) with
  |true=>
   obtain⟨a1,a2,a3,a4,_,_⟩:=Ux hl;have e:ty g (f+1) p=(true,p+1):=by simp[ty,hl]
   have ed:Eh g (f+1) p=1:=by simp[Eh,kids,a1,a2,a3,a4,top]
   have hgo:goes ((1,k,L) :: S) (g p)=some S:=by rw[ET];simp[begins,hl]
   rw[e,ed,Ee hlt hgo,KG];exact⟨by simp[ends],fun _=>⟨by simp,by show p+1<=n;omega⟩,fun h=>by simp at h⟩
  |false=>
  by_cases he:g p=101
  ·have e:ty g (f+1) p=Gd g 1 (p+1):=by simp[ty,he,BZ]
   have ed:Eh g (f+1) p=1:=by simp[Eh,kids,he,top]
   have hgo:goes ((1,k,L) :: S) (g p)=some ((2,0,0) :: S):=by rw[ET];simp[begins,he,BZ]
   obtain⟨d1,d2,d3⟩:=TD (S:=S) (D:=max D L) hg (show p+1<=n by omega) (Or.inl ⟨rfl,rfl⟩);rw[e,ed,Ee hlt hgo,KG,d1];exact⟨by simp,fun h=>by have:=d2 h;omega,fun h=>by have:=d3 h;omega⟩
  by_cases ha:g p=97\/g p=113
  ·obtain⟨h,least,hh,hgo,hty⟩:∃h least,((h=2/\least=1)\/(h=3/\least=0))/\goes ((1,k,L) :: S) (g p)=some ((h,0,0) :: (1,0,L+1) :: S)/\ty g (f+1) p=(if (Gd g least (p+1)).1 then ty g f (p+2) else (false,p+1)):=by
    rcases ha with ha|ha
    ·exact⟨2,1,Or.inl ⟨rfl,rfl⟩,by rw[ET];simp[begins,ha,BZ],by simp[ty,ha,BZ]⟩
    ·exact⟨3,0,Or.inr ⟨rfl,rfl⟩,by rw[ET];simp[begins,ha,BZ],by simp[ty,ha,BZ]⟩
   have ed:Eh g (f+1) p=Eh g f (p+2)+1:=by simp[Eh,kids,ha,top]
   obtain⟨d1,d2,d3⟩:=TD (S:=(1,0,L+1) :: S) (D:=max D L) hg (show p+1<=n by omega) hh;rw[Ee hlt hgo,KG,d1,hty,ed];cases hx:(Gd g least (p+1)).1 with
   |false=>
    have hq:=d3 hx;rw[if_neg (by simp)];refine⟨?_,fun h=>by simp at h,fun _=>⟨by simp,by show p+1<=n;omega⟩⟩;simp[ends,hx,hq]
   |true=>
    obtain⟨hq,hlt2⟩:=d2 hx;rw[if_pos rfl];obtain⟨ia,ib,ic⟩:=ih (p+2) 0 (L+1) (max D L) S (by omega) (by omega);refine⟨?_,fun h=>by have:=ib h;omega,fun h=>by have:=ic h;omega⟩;have e4:ends g n ((1,0,L+1) :: S) (max D L) (Gd g least (p+1))=run g n (n-(p+2)) ((1,0,L+1) :: S) (max D L) (p+2):=by simp[ends,hx,hq]
    rw[e4,ia];have e5:max (max D L) (L+1+Eh g f (p+2)-1)=max D (L+(Eh g f (p+2)+1)-1):=by omega
    rw[e5]
  by_cases hr:g p=114\/g p=117
  ·have n1:¬g p=97:=by omega
   have n2:¬g p=113:=by omega
   have hgo:goes ((1,k,L) :: S) (g p)=some ((4,0,0) :: (5,0,L+1) :: S):=by
    rw[ET];simp[begins,hl,he,n1,n2,hr]
   have hty:ty g (f+1) p=(if g (p+1)=40 then (if (ty g f (p+2)).1 then E4 (ty g f) g 5 (ty g f (p+2)).2 else (false,(ty g f (p+2)).2)) else (false,p+1)):=by
    simp[ty,hl,he,n1,n2,hr]
   have ed:Eh g (f+1) p=top (((p+2) :: CP (ty g f) g 5 (ty g f (p+2)).2).map (Eh g f))+1:=by simp[Eh,kids,n1,n2,hr]
   rw[Ee hlt hgo,KG,hty,ed];by_cases hb:g (p+1)=40
   ·have hlt2:p+1<n:=by
     rcases Nat.lt_or_ge (p+1) n with h|h
     ·exact h
     ·have:=hg _ h;omega
    rw[if_pos hb,Ee hlt2 (show goes ((4,0,0) :: (5,0,L+1) :: S) (g (p+1))=some ((5,0,L+1) :: S) by simp[goes,hb])];have e1:nd ((4,0,0) :: (5,0,L+1) :: S) (g (p+1)) (max D L)=max D L:=by simp[nd]
    rw[e1,show p+1+1=p+2 from rfl,Qh (by omega) (Or.inl rfl)];obtain⟨ia,ib,ic⟩:=ih (p+2) 0 (L+1) (max D L) ((5,0+1,L+1) :: S) (by omega) (by omega);rw[ia];cases hx:(ty g f (p+2)).1 with
    |false=>
     rw[if_neg (by simp)];refine⟨?_,fun h=>by simp at h,fun _=>by have:=ic hx;simp;omega⟩;simp[ends,hx]
    |true=>
     obtain⟨q1,q2⟩:=ib hx;rw[if_pos rfl];obtain⟨ja,jb,jc⟩:=WR hg ih 5 (ty g f (p+2)).2 1 (L+1) (max (max D L) (L+1+Eh g f (p+2)-1)) S (by omega) (by omega) q2 (by omega) (by omega) (by omega);refine⟨?_,fun h=>by have:=jb h;omega,fun h=>by have:=jc h;omega⟩;have e4:ends g n ((5,0+1,L+1) :: S) (max (max D L) (L+1+Eh g f (p+2)-1)) (ty g f (p+2))=run g n (n-(ty g f (p+2)).2) ((5,1,L+1) :: S) (max (max D L) (L+1+Eh g f (p+2)-1)) (ty g f (p+2)).2:=by simp[ends,hx]
     rw[e4,ja];have e5:max (max (max D L) (L+1+Eh g f (p+2)-1)) (L+1+top ((CP (ty g f) g 5 (ty g f (p+2)).2).map (Eh g f))-1)=max D (L+(top (((p+2) :: CP (ty g f) g 5 (ty g f (p+2)).2).map (Eh g f))+1)-1):=by
      simp only[List.map_cons,top];omega
     rw[e5]
   ·rw[if_neg hb];refine⟨?_,fun h=>by simp at h,fun _=>⟨by simp,by show p+1<=n;omega⟩⟩;by_cases hn2:p+1=n
    ·rw[hn2,Io];simp[ends]
    ·rw[Ga (by omega) (by simp[goes,hb])];simp[ends]
  ·have e:ty g (f+1) p=(false,p):=by
    have n1:¬g p=97:=by omega
    have n2:¬g p=113:=by omega
    simp[ty,hl,he,n1,n2,hr]
   have hgo:goes ((1,k,L) :: S) (g p)=none:=by
    have n1:¬g p=97:=by omega
    have n2:¬g p=113:=by omega
    rw[ET];simp[begins,hl,he,n1,n2,hr]
   rw[e,Ga hlt hgo];exact⟨by simp[ends],fun h=>by simp at h,fun _=>⟨Nat.le_refl _,hp⟩⟩
end Go.Proofs.YtblomippkddgiaaGreatDoor.V.Pt
namespace Go.Proofs.YtblomippkddgiaaGreatDoor.V
open Go.RowKit
def nx(s:ByteArray)(p:Nat):Nat:=if h:p<s.size then (s[p]).toNat else 0
theorem JS{s:ByteArray}{p:Nat}(h:s.size<=p):nx s p=0:=by unfold nx;rw[dif_neg (by omega)]
theorem acd{s:ByteArray}{p:Nat}(h:p<s.size):nx s p=(s[p]).toNat:=by unfold nx;rw[dif_pos h]
theorem ace(s:ByteArray)(p:Nat):nx s p<256:=by
 unfold nx;split
 ·exact UInt8.toNat_lt _
 ·omega
def At(w:World)(b:Nat)(s:ByteArray)(p:Nat):Prop:=w.heap[b]?=some (.cells #[.string s,.int .i64 p] 206 (0,0))
theorem At.text{w:World}{b p:Nat}{s:ByteArray}(h:At w b s p):w.cell? ⟨b,0,none⟩=some (.string s):=by
 unfold At at h;simp[World.cell?,h]
theorem At.place{w:World}{b p:Nat}{s:ByteArray}(h:At w b s p):w.cell? ⟨b,1,none⟩=some (.int .i64 p):=by
 unfold At at h;simp[World.cell?,h]
theorem At.Sy{w:World}{b p:Nat}{s:ByteArray}(h:At w b s p):w.frozen? ⟨b,1,none⟩=false:=by
 unfold At at h;simp[World.frozen?,h]
theorem At.lt{w:World}{b p:Nat}{s:ByteArray}(h:At w b s p):b<w.heap.size:=by
 unfold At at h;rcases Nat.lt_or_ge b w.heap.size with hh|hh
 ·exact hh
 ·rw[Array.getElem?_eq_none hh]at h;cases h
theorem At.set{w:World}{b p q:Nat}{s:ByteArray}(h:At w b s p):At (w.setCell ⟨b,1,none⟩ (.int .i64 q)) b s q:=by
 unfold At at h ⊢;simp only[World.setCell,Array.getElem?_modify,h];simp
theorem At.alloc{w:World}{b p:Nat}{s:ByteArray}(h:At w b s p)(o:Obj):At (w.alloc o) b s p:=by
 have hl:=h.lt;unfold At at h ⊢;rw[Below.heap_alloc w o b hl];exact h
theorem Wt{s:ByteArray}{p:Nat}(hp:p<s.size):Value.int .u8 (nx s p:Int)=.int .u8 ((s[p]).toNat:Int):=by rw[acd hp]
structure Af(b:Nat)(w w':World):Prop where
 os:w'.os=w.os
 tape:w'.tape=w.tape
 output:w'.output=w.output
 size:w.heap.size<=w'.heap.size
 block:∀k,k<w.heap.size->k≠b->w'.heap[k]?=w.heap[k]?
theorem Af.refl(b:Nat)(w:World):Af b w w:=⟨rfl,rfl,rfl,Nat.le_refl _,fun _ _ _=>rfl⟩
theorem Af.trans{b:Nat}{u v w:World}(h:Af b u v)(k:Af b v w):Af b u w:=
 ⟨k.os.trans h.os,k.tape.trans h.tape,k.output.trans h.output,Nat.le_trans h.size k.size,fun i hi hb=>(k.block i (Nat.lt_of_lt_of_le hi h.size) hb).trans (h.block i hi hb)⟩
theorem Af.drewN{b:Nat}{u v:World}(h:Af b u v)(n:Nat):Af b u (v.drewN n):=⟨h.os,h.tape,h.output,h.size,h.block⟩
theorem Af.alloc{b:Nat}{u v:World}(h:Af b u v)(o:Obj):Af b u (v.alloc o):=
 h.trans ⟨rfl,rfl,rfl,by simp,fun k hk _=>Below.heap_alloc _ _ _ hk⟩
theorem Af.setCell{b:Nat}{u v:World}(h:Af b u v){p:Addr}(hp:p.block=b\/u.heap.size<=p.block)(x:Value):Af b u (v.setCell p x):=
 ⟨h.os,h.tape,h.output,by simpa [World.setCell] using h.size,fun k hk hb=>by
  rw[Below.heap_setCell v p x k (by omega)];exact h.block k hk hb⟩
theorem Af.cell{b:Nat}{u v:World}(h:Af b u v){p:Addr}(hp:p.block<u.heap.size)(hb:p.block≠b):v.cell? p=u.cell? p:=World.cell?_of_block (w:=u) (h.block p.block hp hb)
theorem Af.frozen{b:Nat}{u v:World}(h:Af b u v){p:Addr}(hp:p.block<u.heap.size)(hb:p.block≠b):v.frozen? p=u.frozen? p:=World.frozen?_of_block (w:=u) (h.block p.block hp hb)
theorem Zt(b p:Nat)(s:ByteArray)(w:World)(h:At w b s p)(hp:p<s.size)(_hs:s.size<=40):
  Calls Tryz.prog 231 #[.pointer (some ⟨b,0,none⟩)] w fun e w'=>e=.returned (.int .u8 (nx s p))/\Af b w w'/\At w' b s p:=by
 have H:=h;have h1:=h.text;have h2:=h.place;have hne:((p:Int)==(s.size:Int))=false:=by simp;omega
 rw[Wt hp];clear h;go_enter Tryz.func231,Tryz.ntmps231;go_wp2;go_quiet (fail);go_wp2;go_quiet (fail);go_wp2
 go_ret
 exact⟨rfl,((Af.refl _ _).drewN _).drewN _,H⟩
theorem Xk(b p:Nat)(s:ByteArray)(w:World)(h:At w b s p)(hp:p=s.size):
  Calls Tryz.prog 231 #[.pointer (some ⟨b,0,none⟩)] w fun e w'=>e=.returned (.int .u8 (nx s p))/\Af b w w'/\At w' b s p:=by
 rw[JS (by omega)];have H:=h;have h1:=h.text;have h2:=h.place;have hne:((p:Int)==(s.size:Int))=true:=by simp;omega
 clear h hp;go_enter Tryz.func231,Tryz.ntmps231;go_wp2;go_quiet (fail);go_wp2
 go_ret
 exact⟨rfl,(Af.refl _ _).drewN _,H⟩
theorem ED(b p:Nat)(s:ByteArray)(w:World)(h:At w b s p)(hp:p<=s.size)(hs:s.size<=40):
  Calls Tryz.prog 231 #[.pointer (some ⟨b,0,none⟩)] w fun e w'=>e=.returned (.int .u8 (nx s p))/\Af b w w'/\At w' b s p:=by
 by_cases hlt:p<s.size
 ·exact Zt b p s w h hlt hs
 ·exact Xk b p s w h (by omega)
theorem Gc(b p:Nat)(s:ByteArray)(w:World)(h:At w b s p):
  Calls Tryz.prog 129 #[.pointer (some ⟨b,0,none⟩)] w fun e w'=>e=.returned (.agg #[.int .i64 2,.int .i64 p])/\Af b w w':=by
 have h2:=fun o=>(h.alloc o).place
 clear h;go_enter Tryz.func129,Tryz.ntmps129;go_wp2;exact bodyPost_ret (v:=.agg #[.int .i64 2,.int .i64 p]) (by simp[results,Tryz.results129,go_sem]) rfl ⟨rfl,(Af.refl _ _).alloc _⟩
abbrev BB(q:Nat):Ending:=.panicked [{v:=.iface 86 (.agg #[.int .i64 2,.int .i64 q]),recovered:=false}]
theorem Ck(b p:Nat)(s:ByteArray)(w:World)(c:Nat)(h:At w b s p)(hp:p<=s.size)(hs:s.size<=40)(hx:nx s p=c)(hc:c=98\/c=99\/c=105\/c=115\/c=101\/c=97\/c=113\/c=114\/c=117):
  Calls Tryz.prog 194 #[.pointer (some ⟨b,0,none⟩)] w fun e w'=>e=.returned (.int .u8 c)/\Af b w w'/\At w' b s (p+1):=by
 have HN:=ED b p s w h hp hs;rw[hx]at HN;have HX:Hid (nx s p=c):=hx;clear hx;rcases hc with rfl|rfl|rfl|rfl|rfl|rfl|rfl|rfl|rfl;all_goals
  go_enter Tryz.func194,Tryz.ntmps194;go_wp2_with fail
  refine HN.mono ?_;rintro e w1 ⟨rfl,hk,ha⟩;have h2:=ha.place;have h3:=ha.Sy;go_wp2
  go_ret
  exact⟨rfl,hk.setCell (Or.inl rfl) _,ha.set⟩
theorem UC(b p:Nat)(s:ByteArray)(w:World)(c:Nat)(h:At w b s p)(hp:p<=s.size)(hs:s.size<=40)(hx:nx s p=c)(hc:¬(c=98\/c=99\/c=105\/c=115\/c=101\/c=97\/c=113\/c=114\/c=117)):
  Calls Tryz.prog 194 #[.pointer (some ⟨b,0,none⟩)] w fun e w'=>e=BB p/\Af b w w':=by
 have HN:=ED b p s w h hp hs;rw[hx]at HN;clear hx;have c1:((c:Int)==98)=false:=by simp;omega
 have c2:((c:Int)==99)=false:=by simp;omega
 have c3:((c:Int)==105)=false:=by simp;omega
 have c4:((c:Int)==115)=false:=by simp;omega
 have c5:((c:Int)==101)=false:=by simp;omega
 have c6:((c:Int)==97)=false:=by simp;omega
 have c7:((c:Int)==113)=false:=by simp;omega
 have c8:((c:Int)==114)=false:=by simp;omega
 have c9:((c:Int)==117)=false:=by simp;omega
 clear hc;go_enter Tryz.func194,Tryz.ntmps194;go_wp2_with fail
 refine HN.mono ?_;rintro e w1 ⟨rfl,hk,ha⟩;go_wp2_with fail
 refine(Gc b p s _ ha).mono ?_;rintro e w2 ⟨rfl,hk2⟩;go_wp2;exact⟨rfl,rfl,hk.trans hk2⟩
theorem G9(b p:Nat)(s:ByteArray)(w:World)(c l:Nat)(h:At w b s p)(hp:p<=s.size)(hs:s.size<=40)(hx:nx s p=c)(hc:48+l<=c/\c<=57):
  Calls Tryz.prog 195 #[.pointer (some ⟨b,0,none⟩),.int .i64 l] w fun e w'=>e=.returned (.int .i64 ((c:Int)-48))/\Af b w w'/\At w' b s (p+1):=by
 have HN:=ED b p s w h hp hs;rw[hx]at HN;clear hx h;obtain⟨c1,c2⟩:=hc;have d1:¬((c:Int)-48<(l:Int)):=by omega
 have d2:¬((9:Int)<(c:Int)-48):=by omega
 go_enter Tryz.func195,Tryz.ntmps195;go_wp2_with fail
 refine HN.mono ?_;rintro e w1 ⟨rfl,hk,ha⟩;have h2:=ha.place;have h3:=ha.Sy;clear HN;go_wp2
 go_ret
 exact⟨rfl,hk.setCell (Or.inl rfl) _,ha.set⟩
theorem La(b p:Nat)(s:ByteArray)(w:World)(c l:Nat)(h:At w b s p)(hp:p<=s.size)(hs:s.size<=40)(hx:nx s p=c)(hc:¬(48+l<=c/\c<=57)):
  Calls Tryz.prog 195 #[.pointer (some ⟨b,0,none⟩),.int .i64 l] w fun e w'=>e=BB p/\Af b w w':=by
 have HN:=ED b p s w h hp hs;have hlt:=ace s p;rw[hx]at HN hlt;clear hx h;by_cases d1:(c:Int)-48<(l:Int)
 ·clear hc;go_enter Tryz.func195,Tryz.ntmps195;go_wp2_with fail
  refine HN.mono ?_;rintro e w1 ⟨rfl,hk,ha⟩;clear HN;go_wp2_with fail
  refine(Gc b p s _ ha).mono ?_;rintro e w2 ⟨rfl,hk2⟩;go_wp2;exact⟨rfl,rfl,hk.trans hk2⟩
 ·have d2:(9:Int)<(c:Int)-48:=by omega
  clear hc;go_enter Tryz.func195,Tryz.ntmps195;go_wp2_with fail
  refine HN.mono ?_;rintro e w1 ⟨rfl,hk,ha⟩;clear HN;go_wp2_with fail
  refine(Gc b p s _ ha).mono ?_;rintro e w2 ⟨rfl,hk2⟩;go_wp2;exact⟨rfl,rfl,hk.trans hk2⟩
theorem Gj(b p:Nat)(s:ByteArray)(w:World)(c:Nat)(h:At w b s p)(hp:p<=s.size)(hs:s.size<=40)(hx:nx s p=c):
  Calls Tryz.prog 232 #[.pointer (some ⟨b,0,none⟩),.int .u8 c] w fun e w'=>e=.returned (.tuple #[])/\Af b w w'/\At w' b s (p+1):=by
 have HN:=ED b p s w h hp hs;rw[hx]at HN;clear hx h;go_enter Tryz.func232,Tryz.ntmps232;go_wp2_with fail
 refine HN.mono ?_;rintro e w1 ⟨rfl,hk,ha⟩;have h2:=ha.place;have h3:=ha.Sy;clear HN;go_wp2
 go_end0
 exact⟨rfl,hk.setCell (Or.inl rfl) _,ha.set⟩
theorem KU(b p:Nat)(s:ByteArray)(w:World)(c d:Nat)(h:At w b s p)(hp:p<=s.size)(hs:s.size<=40)(hx:nx s p=c)(hd:c≠d):
  Calls Tryz.prog 232 #[.pointer (some ⟨b,0,none⟩),.int .u8 d] w fun e w'=>e=BB p/\Af b w w':=by
 have HN:=ED b p s w h hp hs;rw[hx]at HN;clear hx h;have d1:((c:Int) != (d:Int))=true:=by simp;omega
 clear hd;go_enter Tryz.func232,Tryz.ntmps232;go_wp2_with fail
 refine HN.mono ?_;rintro e w1 ⟨rfl,hk,ha⟩;clear HN;go_wp2_with fail
 refine(Gc b p s _ ha).mono ?_;rintro e w2 ⟨rfl,hk2⟩;go_wp2;exact⟨rfl,rfl,hk.trans hk2⟩
end Go.Proofs.YtblomippkddgiaaGreatDoor.V
