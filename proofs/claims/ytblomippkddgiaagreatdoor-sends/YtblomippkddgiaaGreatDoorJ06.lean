import Derived.Test.YtblomippkddgiaaGreatDoorJ04
import Derived.Test.YtblomippkddgiaaGreatDoorJ05
set_option maxRecDepth 100000
set_option maxHeartbeats 1000000
namespace Go.Proofs.YtblomippkddgiaaGreatDoor.V.Pt
def bh(g:Nat->Nat):Nat->List (Nat×Nat×Nat)->Nat->Nat
 |0,_,p=>p
 |m+1,S,p=>match goes S (g p) with
  |none=>p
  |some S'=>bh g m S' (p+1)
def CX(g:Nat->Nat)(n:Nat)(S:List (Nat×Nat×Nat))(r:Bool×Nat):Nat:=if r.1 then bh g (n-r.2) S r.2 else r.2
theorem DX{g:Nat->Nat}{n p:Nat}{S S':List (Nat×Nat×Nat)}(hp:p<n)(h:goes S (g p)=some S'):bh g (n-p) S p=bh g (n-(p+1)) S' (p+1):=by
 obtain⟨m,hm⟩:∃m,n-p=m+1:=⟨n-p-1,by omega⟩;rw[hm,bh,h,show n-(p+1)=m by omega]
theorem E8{g:Nat->Nat}{n p:Nat}{S:List (Nat×Nat×Nat)}(hp:p<n)(h:goes S (g p)=none):bh g (n-p) S p=p:=by
 obtain⟨m,hm⟩:∃m,n-p=m+1:=⟨n-p-1,by omega⟩;rw[hm,bh,h]
theorem Gg{g:Nat->Nat}{n:Nat}{S:List (Nat×Nat×Nat)}:bh g (n-n) S n=n:=by
 rw[Nat.sub_self,bh]
theorem TB{g:Nat->Nat}{n p:Nat}:bh g (n-p) [] p=p:=by
 cases h:n-p with
 |zero=>rfl
 |succ m=>rfl
theorem TA{g:Nat->Nat}{n p h least:Nat}{S:List (Nat×Nat×Nat)}(hg:∀p,n<=p->g p=0)(hp:p<=n)(hh:(h=2/\least=1)\/(h=3/\least=0)):
  bh g (n-p) ((h,0,0) :: S) p=CX g n S (Ee g least p):=by
 by_cases hn:p=n
 ·subst hn;have h0:=hg p (Nat.le_refl _);have hd:Ee g least p=(false,p):=by unfold Ee;rw[if_neg (by omega)]
  rw[hd,Gg];simp[CX]
 ·have hlt:p<n:=by omega
  by_cases hc:48+least<=g p/\g p<=57
  ·have hd:Ee g least p=(true,p+1):=by unfold Ee;rw[if_pos hc]
   have hgo:goes ((h,0,0) :: S) (g p)=some S:=by
    rcases hh with ⟨rfl,rfl⟩|⟨rfl,rfl⟩
    ·simp[goes];omega
    ·simp[goes];omega
   rw[hd,DX hlt hgo];simp[CX]
  ·have hd:Ee g least p=(false,p):=by unfold Ee;rw[if_neg hc]
   have hgo:goes ((h,0,0) :: S) (g p)=none:=by
    rcases hh with ⟨rfl,rfl⟩|⟨rfl,rfl⟩
    ·simp[goes];omega
    ·simp[goes];omega
   rw[hd,E8 hlt hgo];simp[CX]
theorem PR{g:Nat->Nat}{n p k L:Nat}{S:List (Nat×Nat×Nat)}(hp:p<=n)(h:k=0\/(g p≠41/\k≠6)):
  bh g (n-p) ((5,k,L) :: S) p=bh g (n-p) ((1,0,L) :: (5,k+1,L) :: S) p:=by
 by_cases hn:p=n
 ·subst hn;rw[Gg,Gg]
 ·have hlt:p<n:=by omega
  have hgo:=J8 (S:=S) (L:=L) h;cases hx:goes ((5,k,L) :: S) (g p) with
  |none=>rw[E8 hlt hx,E8 hlt (hgo ▸ hx)]
  |some S'=>rw[DX hlt hx,DX hlt (hgo ▸ hx)]
def Tf(g:Nat->Nat)(n f:Nat):Prop:=∀(p k L:Nat) (S:List (Nat×Nat×Nat)),p<=n->n-p<f->bh g (n-p) ((1,k,L) :: S) p=CX g n S (ty g f p)
theorem Ri{g:Nat->Nat}{n f:Nat}(hg:∀p,n<=p->g p=0)(hA:Agree g n f)(hT:Tf g n f):∀(j p k L:Nat) (S:List (Nat×Nat×Nat)),k+j=6->1<=k->p<=n->n-p<f ->
  bh g (n-p) ((5,k,L) :: S) p=CX g n S (DC (ty g f) g j p):=by
 have close:∀(p k L:Nat) (S:List (Nat×Nat×Nat)),1<=k->p<=n->g p=41->bh g (n-p) ((5,k,L) :: S) p=CX g n S (true,p+1):=by
  intro p k L S hk hp hc;have hlt:p<n:=by
   rcases Nat.lt_or_ge p n with h|h
   ·exact h
   ·have:=hg p h;omega
  have hgo:goes ((5,k,L) :: S) (g p)=some S:=by
   have:0<k:=by omega
   simp[goes,hc,this]
  rw[DX hlt hgo];simp[CX]
 intro j;induction j with
 |zero=>
  intro p k L S hk h1 hp _;obtain rfl:k=6:=by omega
  by_cases hc:g p=41
  ·rw[close p 6 L S h1 hp hc];simp[DC,hc]
  ·have e:DC (ty g f) g 0 p=(false,p):=by simp[DC,hc]
   rw[e];by_cases hn:p=n
   ·subst hn;rw[Gg];simp[CX]
   ·rw[E8 (by omega) (by simp[goes,hc])];simp[CX]
 |succ j ih=>
  intro p k L S hk h1 hp hf;by_cases hc:g p=41
  ·rw[close p k L S h1 hp hc];simp[DC,hc]
  ·rw[PR hp (Or.inr ⟨hc,by omega⟩),hT p 0 L ((5,k+1,L) :: S) hp hf];obtain⟨_,hb,_⟩:=hA p 0 L 0 [] hp hf;cases hx:(ty g f p).1 with
   |false=>
    have e:DC (ty g f) g (j+1) p=(false,(ty g f p).2):=by simp[DC,hc,hx]
    rw[e];simp[CX,hx]
   |true=>
    obtain⟨q1,q2⟩:=hb hx;have e:DC (ty g f) g (j+1) p=DC (ty g f) g j (ty g f p).2:=by simp[DC,hc,hx]
    rw[e,<-ih (ty g f p).2 (k+1) L S (by omega) (by omega) q2 (by omega)];simp[CX,hx]
theorem X3{g:Nat->Nat}{n:Nat}(hg:∀p,n<=p->g p=0):∀f,Tf g n f:=by
 intro f;induction f with
 |zero=>intro p k L S hp hf;omega
 |succ f ih=>
  intro p k L S hp hf;by_cases hn:p=n
  ·subst hn;have h0:=hg p (Nat.le_refl _);have e:ty g (f+1) p=(false,p):=by simp[ty,h0,AL]
   rw[e,Gg];simp[CX]
  have hlt:p<n:=by omega
  cases hl:AL (g p) with
  |true=>
   have e:ty g (f+1) p=(true,p+1):=by simp[ty,hl]
   have hgo:goes ((1,k,L) :: S) (g p)=some S:=by rw[B5];simp[begins,hl]
   rw[e,DX hlt hgo];simp[CX]
  |false=>
  by_cases he:g p=101
  ·have e:ty g (f+1) p=Ee g 1 (p+1):=by simp[ty,he,AL]
   have hgo:goes ((1,k,L) :: S) (g p)=some ((2,0,0) :: S):=by rw[B5];simp[begins,he,AL]
   rw[e,DX hlt hgo,TA hg (show p+1<=n by omega) (Or.inl ⟨rfl,rfl⟩)]
  by_cases ha:g p=97\/g p=113
  ·obtain⟨h,least,hh,hgo,hty⟩:∃h least,((h=2/\least=1)\/(h=3/\least=0))/\goes ((1,k,L) :: S) (g p)=some ((h,0,0) :: (1,0,L+1) :: S)/\ty g (f+1) p=(if (Ee g least (p+1)).1 then ty g f (p+2) else (false,p+1)):=by
    rcases ha with ha|ha
    ·exact⟨2,1,Or.inl ⟨rfl,rfl⟩,by rw[B5];simp[begins,ha,AL],by simp[ty,ha,AL]⟩
    ·exact⟨3,0,Or.inr ⟨rfl,rfl⟩,by rw[B5];simp[begins,ha,AL],by simp[ty,ha,AL]⟩
   obtain⟨_,d2,d3⟩:=Lj (S:=S) (D:=0) hg (show p+1<=n by omega) hh;rw[DX hlt hgo,TA hg (show p+1<=n by omega) hh,hty];cases hx:(Ee g least (p+1)).1 with
   |false=>
    have hq:=d3 hx;rw[if_neg (by simp)];simp[CX,hx,hq]
   |true=>
    obtain⟨hq,hlt2⟩:=d2 hx;rw[if_pos rfl,<-ih (p+2) 0 (L+1) S (by omega) (by omega)];simp[CX,hx,hq]
  by_cases hr:g p=114\/g p=117
  ·have n1:¬g p=97:=by omega
   have n2:¬g p=113:=by omega
   have hgo:goes ((1,k,L) :: S) (g p)=some ((4,0,0) :: (5,0,L+1) :: S):=by
    rw[B5];simp[begins,hl,he,n1,n2,hr]
   have hty:ty g (f+1) p=(if g (p+1)=40 then (if (ty g f (p+2)).1 then DC (ty g f) g 5 (ty g f (p+2)).2 else (false,(ty g f (p+2)).2)) else (false,p+1)):=by
    simp[ty,hl,he,n1,n2,hr]
   rw[DX hlt hgo,hty];by_cases hb:g (p+1)=40
   ·have hlt2:p+1<n:=by
     rcases Nat.lt_or_ge (p+1) n with h|h
     ·exact h
     ·have:=hg _ h;omega
    rw[if_pos hb,DX hlt2 (show goes ((4,0,0) :: (5,0,L+1) :: S) (g (p+1))=some ((5,0,L+1) :: S) by simp[goes,hb]),show p+1+1=p+2 from rfl,PR (by omega) (Or.inl rfl),ih (p+2) 0 (L+1) _ (by omega) (by omega)];obtain⟨_,ib,_⟩:=agree hg f (p+2) 0 1 0 [] (by omega) (by omega);cases hx:(ty g f (p+2)).1 with
    |false=>
     rw[if_neg (by simp)];simp[CX,hx]
    |true=>
     obtain⟨q1,q2⟩:=ib hx;rw[if_pos rfl,<-Ri hg (agree hg f) ih 5 (ty g f (p+2)).2 1 (L+1) S (by omega) (by omega) q2 (by omega)];simp[CX,hx]
   ·rw[if_neg hb];by_cases hn2:p+1=n
    ·rw[hn2,Gg];simp[CX]
    ·rw[E8 (by omega) (by simp[goes,hb])];simp[CX]
  ·have n1:¬g p=97:=by omega
   have n2:¬g p=113:=by omega
   have e:ty g (f+1) p=(false,p):=by simp[ty,hl,he,n1,n2,hr]
   have hgo:goes ((1,k,L) :: S) (g p)=none:=by rw[B5];simp[begins,hl,he,n1,n2,hr]
   rw[e,E8 hlt hgo];simp[CX]
theorem QF{g:Nat->Nat}{n f p:Nat}(hg:∀p,n<=p->g p=0)(hp:p<=n)(hf:n-p<f):bh g (n-p) [(1,0,1)] p=(ty g f p).2:=by
 rw[X3 hg f p 0 1 [] hp hf];unfold CX;split
 ·exact TB
 ·rfl
def chain(T:Nat->Bool×Nat)(g:Nat->Nat):Nat->List Nat->Nat->Prop
 |start,[],c=>start=c/\g c=41
 |start,k :: r,c=>start=k/\g k≠41/\(T k).1=true/\chain T g (T k).2 r c
theorem LK{T:Nat->Bool×Nat}{g:Nat->Nat}:∀(j p:Nat),(DC T g j p).1=true->chain T g p (Cc T g j p) ((DC T g j p).2-1)/\1<=(DC T g j p).2:=by
 intro j;induction j with
 |zero=>
  intro p h;by_cases hc:g p=41
  ·simp[DC,hc,Cc,chain]
  ·simp[DC,hc]at h
 |succ j ih=>
  intro p h;by_cases hc:g p=41
  ·simp[DC,hc,Cc,chain]
  ·cases hx:(T p).1 with
   |false=>simp[DC,hc,hx]at h
   |true=>
    have e:DC T g (j+1) p=DC T g j (T p).2:=by simp[DC,hc,hx]
    rw[e]at h ⊢;obtain⟨h1,h2⟩:=ih (T p).2 h;refine⟨?_,h2⟩;simp only[Cc,hc,if_false];exact⟨rfl,hc,hx,h1⟩
end Go.Proofs.YtblomippkddgiaaGreatDoor.V.Pt
namespace Go.Proofs.YtblomippkddgiaaGreatDoor.V
open Go.RowKit
theorem IZ(s:ByteArray)(p:Nat)(w:World)(hp:p<s.size)(hd:48<=nx s p):
  Calls Tryz.prog 260 #[.string s,.int .i64 p] w fun e w'=>e=.returned (.int .i64 ((nx s p:Int)-48))/\w'=w:=by
 have hb:=Qc s p;rw[Di hp]at *;go_enter Tryz.func260,Tryz.ntmps260;go_wp2
 go_ret
 exact⟨rfl,rfl⟩
structure BInv(s:ByteArray)(w:World)(res p:Nat)(S:List Want)(v:Value)(wr:World):Prop where
 le:p<=s.size
 stk:Ea wr w.heap.size v S
 len:S.length<=2*p+1
 all:∀x∈S,okW (p+1) x
 below:Below w.heap.size w wr
 run:Pt.bh (nx s) (s.size-p) S p=res
theorem Nv(s:ByteArray)(w:World)(p:Nat)(hp:p<=s.size):BInv s w (Pt.bh (nx s) (s.size-p) [(1,0,1)] p) p [(1,0,1)] (.slice (some ⟨w.heap.size,0,none⟩) 1 1) (w.alloc (.cells #[.int .i64 1,.int .i64 0,.int .i64 1] 293)):=by
 refine⟨hp,F5 w _ rfl (Nat.le_refl _) rfl (by simp[Aj,wc]) (by omega),by simp,?_,(Below.refl _ _).alloc (Nat.le_refl _) _,rfl⟩;intro x hx;simp at hx;subst hx;unfold okW;simp
theorem QH{s:ByteArray}{w wr w2:World}{res:Nat}{p:Nat}{S S':List Want}{v v':Value}(I:BInv s w res p S v wr)(hp:p<s.size)(hg:Pt.goes S (nx s p)=some S')(hb2:Below wr.heap.size wr w2)(hs:Ea w2 wr.heap.size v' S'):
  BInv s w res (p+1) S' v' w2:=by
 obtain⟨h1,h2⟩:=N3 I.all hg;have hsz:=I.below.size;have hl:=I.len;refine⟨hp,Cz hs hsz,by omega,h2,I.below.trans (hb2.mono hsz),?_⟩;rw[<-Pt.DX hp hg];exact I.run
theorem QE(s:ByteArray)(p:Nat)(w:World)(hp:p<=s.size)(hs:s.size<=40):
  Calls Tryz.prog 261 #[.string s,.int .i64 p] w fun e w'=>e=.returned (.int .i64 (Pt.bh (nx s) (s.size-p) [(1,0,1)] p))/\Below w.heap.size w w':=by
 have I0:=Ab (Nv s w p hp);generalize Pt.bh (nx s) (s.size-p) [(1,0,1)] p=res at *;go_enter Tryz.func261,Tryz.ntmps261;go_wp2;go_loopw [1,5] (fun i v wr=>∃(p:Nat) (S:List Want),i=.int .i64 p/\BInv s w res p S v wr) (fun i _ _=>s.size-(intOf i).toNat)
 case atStart=>exact⟨p,_,rfl,Aa I0⟩
 case round=>
  obtain⟨p,S,rfl,I⟩:=hrel;clear I0 hp;have hle:=I.le;have hSl:=I.len;have hbb:=I.below;have hSw:∀x∈S,1<=x.1/\x.1<=5/\x.2.1<=6/\x.2.2<=1000:=fun x hx=>by
   have:=I.all x hx;unfold okW at this;omega
  have HI:=Ab I;have hst:=I.stk;have hrun:=I.run;clear I;match S,HI,hst,hSl,hSw,hrun with
  |[],HI,hst,hSl,hSw,hrun=>
   obtain⟨a,cap,rfl⟩:∃a cap,u5=.slice a 0 cap:=by
    obtain⟨_,h⟩:=hst;rcases h with ⟨hv,_⟩|⟨gb,cap,cur,hv,_⟩
    ·exact⟨_,_,hv⟩
    ·exact⟨_,_,hv⟩
   obtain rfl:p=res:=by rw[<-hrun,Pt.TB]
   clear hst hrun hSl hSw;go_wp2
   go_ret
   exact⟨rfl,hbb⟩
  |x :: R,HI,hst,hSl,hSw,hrun=>
   obtain⟨gb,cap,rfl,hcap,hgl,_,f0,f1,f2⟩:=MW hst;clear f0 f1 f2;simp only[List.length_cons]at hSl;by_cases hlt:p<s.size
   ·have hc:nx s p=(s[p]).toNat:=Di hlt;have HC:=Ab hc;have HG:=Ab (T8 (x :: R) _ (s[p]).toNat wr (Cz hst (Nat.zero_le _)) (by simp;omega) hSw);have HRUN:=Ab hrun;clear hc hst hSw hrun;cases hg:Pt.goes (x :: R) (s[p]).toNat with
    |none=>
     obtain rfl:p=res:=by rw[<-Aa HRUN,Pt.E8 hlt (by rw[Aa HC];exact hg)]
     have HGG:Hid (Calls Tryz.prog 205 #[.slice (some ⟨gb,0,none⟩) (R.length+1) cap,.int .u8 (s[p]).toNat] wr fun e w'=>∃v,e=.returned (.tuple #[v,.bool false])/\Below wr.heap.size wr w'):=by
      refine(Aa HG).mono ?_;rintro e w' ⟨v',rfl,hb,_⟩;rw[hg];exact⟨v',rfl,hb⟩
     clear HG hg HRUN;go_wp2_with fail
     refine(Aa HGG).mono ?_;rintro e w2 ⟨v2,rfl,hb2⟩;go_wp2
     go_ret
     exact⟨rfl,hbb.trans (hb2.mono hbb.size)⟩
    |some S'=>
     have HGG:Hid (Calls Tryz.prog 205 #[.slice (some ⟨gb,0,none⟩) (R.length+1) cap,.int .u8 (s[p]).toNat] wr fun e w'=>∃v,e=.returned (.tuple #[v,.bool true])/\Below wr.heap.size wr w'/\Ea w' wr.heap.size v S'):=by
      refine(Aa HG).mono ?_;rintro e w' ⟨v',rfl,hb,hst⟩;rw[hg];exact⟨v',rfl,hb,hst S' hg⟩
     have HS:Hid (Pt.goes (x :: R) (nx s p)=some S'):=by rw[Aa HC];exact hg
     clear HG hg HRUN;go_wp2_with fail
     refine(Aa HGG).mono ?_;rintro e w2 ⟨v2,rfl,hb2,hst2⟩;have J:=Ab (QH (Aa HI) hlt (Aa HS) hb2 hst2);clear hb2 hst2;go_wp2;go_roundw
     case rel=>exact⟨p+1,_,by go_num,Aa J⟩
     case measure=>simp[intOf];omega
   ·obtain rfl:p=s.size:=by omega
    obtain rfl:s.size=res:=by rw[<-hrun,Pt.Gg]
    clear hst hrun hSw;go_wp2
    go_ret
    exact⟨rfl,hbb⟩
theorem Nt(s:ByteArray)(f p:Nat)(w:World)(hp:p<=s.size)(hs:s.size<=40)(hf:s.size-p<f):
  Calls Tryz.prog 261 #[.string s,.int .i64 p] w fun e w'=>e=.returned (.int .i64 (Pt.ty (nx s) f p).2)/\Below w.heap.size w w':=by
 have h:=QE s p w hp hs;rw[Pt.QF (f:=f) (fun p hp=>Gm hp) hp hf]at h;exact h
def partOf(ks:List Nat)(k:Int):Nat:=if 0<=k then (ks[k.toNat]?).getD ks.length else ks.length
structure GV(s:ByteArray)(f p:Nat):Prop where
 le:p<=s.size
 fuel:s.size-p<f
 ok:(Pt.ty (nx s) f p).1=true
theorem GV.ends{s:ByteArray}{f p:Nat}(h:GV s f p):p<(Pt.ty (nx s) f p).2/\(Pt.ty (nx s) f p).2<=s.size:=by
 obtain⟨_,hb,_⟩:=Pt.agree (g:=nx s) (n:=s.size) (fun p hp=>Gm hp) f p 0 1 0 [] h.le h.fuel;exact hb h.ok
theorem GV.lt{s:ByteArray}{f p:Nat}(h:GV s f p):p<s.size:=by
 have:=h.ends;omega
theorem TE{s:ByteArray}{f:Nat}:∀(ks:List Nat) (start c:Nat),Pt.chain (Pt.ty (nx s) f) (nx s) start ks c->start<=s.size->s.size-start<f->∀k∈ks,start<=k/\GV s f k:=by
 intro ks;induction ks with
 |nil=>intro start c _ _ _ k hk;cases hk
 |cons a ks ih=>
  intro start c h hle hf k hk;obtain⟨rfl,_,hT,hr⟩:=h;have ho:GV s f start:=⟨hle,hf,hT⟩;have he:=ho.ends;rcases List.mem_cons.1 hk with rfl|hk
  ·exact⟨Nat.le_refl _,ho⟩
  ·have:=ih _ c hr he.2 (by omega) k hk;exact⟨by omega,this.2⟩
structure PK(s:ByteArray)(f p:Nat):Prop where
 here:nx s p=114\/nx s p=117
 ok:GV s (f+1) p
theorem PK.chain{s:ByteArray}{f p:Nat}(h:PK s f p):p+2<=s.size/\s.size-(p+2)<f/\∃c,Pt.chain (Pt.ty (nx s) f) (nx s) (p+2) (Pt.kids (nx s) f p) c:=by
 have hlt:=h.ok.lt;have hfu:=h.ok.fuel;have n1:¬nx s p=97:=by have:=h.here;omega
 have n2:¬nx s p=113:=by have:=h.here;omega
 have n3:¬nx s p=101:=by have:=h.here;omega
 have n4:Pt.AL (nx s p)=false:=Pt.Q9 (by have:=h.here;omega);have hok:=h.ok.ok;have hty:Pt.ty (nx s) (f+1) p=(if nx s (p+1)=40 then (if (Pt.ty (nx s) f (p+2)).1 then Pt.DC (Pt.ty (nx s) f) (nx s) 5 (Pt.ty (nx s) f (p+2)).2 else (false,(Pt.ty (nx s) f (p+2)).2)) else (false,p+1)):=by
  simp[Pt.ty,n4,n3,n1,n2,h.here]
 rw[hty]at hok;have hks:Pt.kids (nx s) f p=(p+2) :: Pt.Cc (Pt.ty (nx s) f) (nx s) 5 (Pt.ty (nx s) f (p+2)).2:=by simp[Pt.kids,n1,n2,h.here]
 by_cases h40:nx s (p+1)=40
 ·have hlt2:p+1<s.size:=Ev h40 (by omega);rw[if_pos h40]at hok;cases hx:(Pt.ty (nx s) f (p+2)).1 with
  |false=>rw[hx]at hok;simp at hok
  |true=>
   rw[hx,if_pos rfl]at hok;have ho2:GV s f (p+2):=⟨by omega,by omega,hx⟩;have hl2:=ho2.lt;refine⟨by omega,by omega,(Pt.DC (Pt.ty (nx s) f) (nx s) 5 (Pt.ty (nx s) f (p+2)).2).2-1,?_⟩;rw[hks];refine⟨rfl,?_,hx,(Pt.LK 5 _ hok).1⟩;intro h41;cases f with
   |zero=>omega
   |succ f=>
    have:Pt.ty (nx s) (f+1) (p+2)=(false,p+2):=by simp[Pt.ty,h41,Pt.AL]
    rw[this]at hx;cases hx
 ·rw[if_neg h40]at hok;simp at hok
theorem FH(s:ByteArray)(f p:Nat)(k:Int)(w:World)(h:PK s f p)(hs:s.size<=40)(hk1:-1<=k)(hk2:k<=1000):
  Calls Tryz.prog 244 #[.string s,.int .i64 p,.int .i64 k] w fun e w'=>e=.returned (.int .i64 (partOf (Pt.kids (nx s) f p) k))/\Below w.heap.size w w':=by
 obtain⟨hp2,hf2,c,hch⟩:=h.chain;have hkl:=CK (nx s) f p;generalize Pt.kids (nx s) f p=ks at *;have HCH:=Ab hch;have HF2:=Ab hf2;clear hch h hf2;go_enter Tryz.func244,Tryz.ntmps244;go_wp2;go_loopw [1,7] (fun a n wr=>∃(j start:Nat) (rest:List Nat),a=.int .i64 start/\n=.int .i64 j/\start<=s.size/\s.size-start<f/\j+rest.length=ks.length/\Hid (ks.drop j=rest/\Pt.chain (Pt.ty (nx s) f) (nx s) start rest c)/\¬(0<=k/\k<j)/\Below w.heap.size w wr) (fun _ n _=>7-(intOf n).toNat)
 case atStart=>exact⟨0,p+2,ks,by go_num,rfl,hp2,Aa HF2,by omega,⟨rfl,Aa HCH⟩,by omega,Below.refl _ _⟩
 case round=>
  obtain⟨j,start,rest,rfl,rfl,hle,hfu,hlen,HR,hnk,hb⟩:=hrel;clear HCH HF2 hp2;match rest,hlen,HR with
  |[],hlen,HR=>
   obtain⟨rfl,hc⟩:=(Aa HR).2;have hlt:=Ev hc (by omega);have hne:((((s[start]).toNat:Nat):Int) != 41)=false:=by rw[<-Di hlt,hc];rfl
   simp only[List.length_nil,Nat.add_zero]at hlen;go_wp2
   go_ret
   have e:partOf ks k=j:=by
    unfold partOf;split
    ·rw[List.getElem?_eq_none (by omega)];simpa using hlen.symm
    ·exact hlen.symm
   exact⟨by rw[e];rfl,hb⟩
  |q :: r,hlen,HR=>
   obtain⟨hd,rfl,h41,hT,hr⟩:=Aa HR;have ho:GV s f start:=⟨hle,hfu,hT⟩;have hlt:=ho.lt;have hen:=ho.ends;have hne:((((s[start]).toNat:Nat):Int) != 41)=true:=by rw[<-Di hlt];simp;omega
   simp only[List.length_cons]at hlen;have hj:j<ks.length:=by omega
   have hdj:ks[j]?=some start:=by
    have h1:(ks.drop j)[0]?=some start:=by rw[hd];rfl
    rw[List.getElem?_drop]at h1;simpa using h1
   have hdr:ks.drop (j+1)=r:=by
    rw[<-List.drop_drop,hd];rfl
   have HX:=Ab (And.intro hdr hr);have HDJ:=Ab hdj;clear HR hd hr hT h41 hdr hdj;by_cases hjk:(j:Int)=k
   ·have hje:((j:Int)==k)=true:=by simpa using hjk
    have HJK:=Ab hjk;clear hjk;go_wp2
    go_ret
    have e:partOf ks k=start:=by
     unfold partOf;rw[if_pos (by have:=Aa HJK;omega),show k.toNat=j by have:=Aa HJK;omega,Aa HDJ];rfl
    exact⟨by rw[e];rfl,hb⟩
   ·have hje:((j:Int)==k)=false:=by simpa using hjk
    have HB:=Ab (fun w=>Nt s f start w hle hs hfu);obtain⟨q,hq⟩:∃q,q=(Pt.ty (nx s) f start).2:=⟨_,rfl⟩;rw[<-hq]at HB hen HX;clear hq;go_wp2_with fail
    refine((Aa HB) _).mono ?_;rintro e w2 ⟨rfl,hb2⟩;have hb':=hb.trans (hb2.mono hb.size);clear hb2 hb;go_wp2;go_roundw
    case rel=>exact⟨j+1,q,r,rfl,by go_num,by omega,by omega,by omega,Aa HX,by omega,hb'⟩
    case measure=>simp[intOf];omega
theorem Cw{s:ByteArray}{f p:Nat}(h:GV s (f+1) p):
  (nx s p=98\/nx s p=99\/nx s p=105\/nx s p=115)\/(nx s p=101/\p+1<s.size/\49<=nx s (p+1)/\nx s (p+1)<=57) \/
  (nx s p=97/\p+1<s.size/\49<=nx s (p+1)/\nx s (p+1)<=57/\GV s f (p+2))\/(nx s p=113/\p+1<s.size/\48<=nx s (p+1)/\nx s (p+1)<=57/\GV s f (p+2))\/PK s f p:=by
 have hlt:=h.lt;have hfu:=h.fuel;have hok:=h.ok;by_cases hl:nx s p=98\/nx s p=99\/nx s p=105\/nx s p=115
 ·exact Or.inl hl
 have hlf:Pt.AL (nx s p)=false:=by simp[Pt.AL];omega
 by_cases he:nx s p=101
 ·have hty:Pt.ty (nx s) (f+1) p=Pt.Ee (nx s) 1 (p+1):=by simp[Pt.ty,he,Pt.AL]
  rw[hty]at hok;unfold Pt.Ee at hok;split at hok
  ·rename_i hc;exact Or.inr (Or.inl ⟨he,Ev (s:=s) (p:=p+1) rfl (by omega),by omega,hc.2⟩)
  ·cases hok
 by_cases ha:nx s p=97
 ·have hty:Pt.ty (nx s) (f+1) p=(if (Pt.Ee (nx s) 1 (p+1)).1 then Pt.ty (nx s) f (p+2) else (false,p+1)):=by simp[Pt.ty,ha,Pt.AL]
  rw[hty]at hok;by_cases hc:48+1<=nx s (p+1)/\nx s (p+1)<=57
  ·have hd:Pt.Ee (nx s) 1 (p+1)=(true,p+2):=by unfold Pt.Ee;rw[if_pos hc]
   rw[hd,if_pos rfl]at hok;have hl1:=Ev (s:=s) (p:=p+1) rfl (by omega);exact Or.inr (Or.inr (Or.inl ⟨ha,hl1,by omega,hc.2,⟨by omega,by omega,hok⟩⟩))
  ·have hd:Pt.Ee (nx s) 1 (p+1)=(false,p+1):=by unfold Pt.Ee;rw[if_neg hc]
   rw[hd,if_neg (by simp)]at hok;cases hok
 by_cases hq:nx s p=113
 ·have hty:Pt.ty (nx s) (f+1) p=(if (Pt.Ee (nx s) 0 (p+1)).1 then Pt.ty (nx s) f (p+2) else (false,p+1)):=by simp[Pt.ty,hq,Pt.AL]
  rw[hty]at hok;by_cases hc:48+0<=nx s (p+1)/\nx s (p+1)<=57
  ·have hd:Pt.Ee (nx s) 0 (p+1)=(true,p+2):=by unfold Pt.Ee;rw[if_pos hc]
   rw[hd,if_pos rfl]at hok;have hl1:=Ev (s:=s) (p:=p+1) rfl (by omega);exact Or.inr (Or.inr (Or.inr (Or.inl ⟨hq,hl1,by omega,hc.2,⟨by omega,by omega,hok⟩⟩)))
  ·have hd:Pt.Ee (nx s) 0 (p+1)=(false,p+1):=by unfold Pt.Ee;rw[if_neg hc]
   rw[hd,if_neg (by simp)]at hok;cases hok
 by_cases hr:nx s p=114\/nx s p=117
 ·exact Or.inr (Or.inr (Or.inr (Or.inr ⟨hr,h⟩)))
 ·have hty:Pt.ty (nx s) (f+1) p=(false,p):=by simp[Pt.ty,hlf,he,ha,hq,hr]
  rw[hty]at hok;cases hok
theorem Du{s:ByteArray}{f p:Nat}(h:PK s f p):∀q∈Pt.kids (nx s) f p,p<q/\GV s f q:=by
 obtain⟨h1,h2,c,hc⟩:=h.chain;intro q hq;have:=TE _ _ _ hc h1 h2 q hq;exact⟨by omega,this.2⟩
theorem A6{s:ByteArray}{p c:Nat}(hp:p<s.size)(h:nx s p=c):((s[p]).toNat:Int)=(c:Int):=by rw[<-Di hp,h]
def CL(c:Nat):Int:=if c=105 then -32768 else 0
def BF(g:Nat->Nat)(f p:Nat):Int:=
 if g p=98 then 1 else if g p=99 then 65535 else if g p=105 then 32767 else if g p=101 then (g (p+1):Int)-48-1 else if g p=113 then (g (p+1):Int)-48 else ((Pt.kids g f p).length:Int)-1
theorem P4(s:ByteArray)(p:Nat)(w:World)(hp:p+1<s.size)(ha:nx s p=97)(hd:48<=nx s (p+1))(hs:s.size<=40):
  Calls Tryz.prog 241 #[.string s,.int .i64 p] w fun e w'=>e=.returned (.int .i64 ((nx s (p+1):Int)-48))/\Below w.heap.size w w':=by
 have HD:=Ab (fun w=>IZ s (p+1) w hp hd);have hb:((((s[p]).toNat:Nat):Int)==97)=true:=by rw[A6 (by omega) ha];rfl
 clear hd ha;go_enter Tryz.func241,Tryz.ntmps241;go_wp2_with fail
 refine((Aa HD) _).mono ?_;rintro e w1 ⟨rfl,rfl⟩;go_wp2
 go_ret
 exact⟨rfl,Below.refl _ _⟩
theorem P5(s:ByteArray)(f p:Nat)(w:World)(h:PK s f p)(hs:s.size<=40):
  Calls Tryz.prog 241 #[.string s,.int .i64 p] w fun e w'=>e=.returned (.int .i64 ((Pt.kids (nx s) f p).length:Int))/\Below w.heap.size w w':=by
 have hp:=h.ok.lt;have HD:=Ab (fun w=>FH s f p (-1) w h hs (by omega) (by omega));have hb:((((s[p]).toNat:Nat):Int)==97)=false:=by rw[<-Di hp];have:=h.here;simp;omega
 rw[show partOf (Pt.kids (nx s) f p) (-1)=(Pt.kids (nx s) f p).length from rfl]at HD;clear h;go_enter Tryz.func241,Tryz.ntmps241;go_wp2_with fail
 refine((Aa HD) _).mono ?_;rintro e w1 ⟨rfl,hb1⟩;go_wp2
 go_ret
 exact⟨rfl,hb1⟩
theorem M1(s:ByteArray)(p k:Nat)(w:World)(hp:p<s.size)(ha:nx s p=97)(hs:s.size<=40):
  Calls Tryz.prog 242 #[.string s,.int .i64 p,.int .i64 k] w fun e w'=>e=.returned (.int .i64 ((p:Int)+2))/\Below w.heap.size w w':=by
 have hb:((((s[p]).toNat:Nat):Int)==97)=true:=by rw[A6 (by omega) ha];rfl
 clear ha;go_enter Tryz.func242,Tryz.ntmps242;go_wp2
 go_ret
 exact⟨rfl,Below.refl _ _⟩
theorem M2(s:ByteArray)(f p k:Nat)(w:World)(h:PK s f p)(hs:s.size<=40)(hk:k<=100):
  Calls Tryz.prog 242 #[.string s,.int .i64 p,.int .i64 k] w fun e w'=>e=.returned (.int .i64 (partOf (Pt.kids (nx s) f p) k))/\Below w.heap.size w w':=by
 have hp:=h.ok.lt;have HD:=Ab (fun w=>FH s f p k w h hs (by omega) (by omega));have hb:((((s[p]).toNat:Nat):Int)==97)=false:=by rw[<-Di hp];have:=h.here;simp;omega
 clear h;go_enter Tryz.func242,Tryz.ntmps242;go_wp2_with fail
 refine((Aa HD) _).mono ?_;rintro e w1 ⟨rfl,hb1⟩;go_wp2
 go_ret
 exact⟨rfl,hb1⟩
theorem WQ(s:ByteArray)(f p:Nat)(w:World)(hp:p<s.size)(hc:nx s p=98):
  Calls Tryz.prog 243 #[.string s,.int .i64 p] w fun e w'=>e=.returned (.tuple #[.int .i64 (CL (nx s p)),.int .i64 (BF (nx s) f p)])/\Below w.heap.size w w':=by
 have e1:CL (nx s p)=0:=by rw[hc];rfl
 have e2:BF (nx s) f p=1:=by simp[BF,hc]
 rw[e1,e2];have hb:=A6 hp hc;go_enter Tryz.func243,Tryz.ntmps243;go_wp2
 go_ret2
 exact⟨rfl,Below.refl _ _⟩
theorem WR(s:ByteArray)(f p:Nat)(w:World)(hp:p<s.size)(hc:nx s p=99):
  Calls Tryz.prog 243 #[.string s,.int .i64 p] w fun e w'=>e=.returned (.tuple #[.int .i64 (CL (nx s p)),.int .i64 (BF (nx s) f p)])/\Below w.heap.size w w':=by
 have e1:CL (nx s p)=0:=by rw[hc];rfl
 have e2:BF (nx s) f p=65535:=by simp[BF,hc]
 rw[e1,e2];have hb:=A6 hp hc;go_enter Tryz.func243,Tryz.ntmps243;go_wp2
 go_ret2
 exact⟨rfl,Below.refl _ _⟩
theorem Ut(s:ByteArray)(f p:Nat)(w:World)(hp:p<s.size)(hc:nx s p=105):
  Calls Tryz.prog 243 #[.string s,.int .i64 p] w fun e w'=>e=.returned (.tuple #[.int .i64 (CL (nx s p)),.int .i64 (BF (nx s) f p)])/\Below w.heap.size w w':=by
 have e1:CL (nx s p)=-32768:=by rw[hc];rfl
 have e2:BF (nx s) f p=32767:=by simp[BF,hc]
 rw[e1,e2];have hb:=A6 hp hc;go_enter Tryz.func243,Tryz.ntmps243;go_wp2
 go_ret2
 exact⟨rfl,Below.refl _ _⟩
theorem Us(s:ByteArray)(f p:Nat)(w:World)(hp:p+1<s.size)(hs:s.size<=40)(hc:nx s p=101)(hd:48<=nx s (p+1)):
  Calls Tryz.prog 243 #[.string s,.int .i64 p] w fun e w'=>e=.returned (.tuple #[.int .i64 (CL (nx s p)),.int .i64 (BF (nx s) f p)])/\Below w.heap.size w w':=by
 have HD:=Ab (fun w=>IZ s (p+1) w hp hd);have hx:=Qc s (p+1);have e1:CL (nx s p)=0:=by rw[hc];rfl
 have e2:BF (nx s) f p=(nx s (p+1):Int)-48-1:=by simp[BF,hc]
 rw[e1,e2];have hb:=A6 (by omega) hc;generalize nx s (p+1)=d at *;go_enter Tryz.func243,Tryz.ntmps243;go_wp2_with fail
 refine((Aa HD) _).mono ?_;rintro e w1 ⟨rfl,rfl⟩;go_wp2
 go_ret2
 exact⟨rfl,Below.refl _ _⟩
theorem Uu(s:ByteArray)(f p:Nat)(w:World)(hp:p+1<s.size)(hs:s.size<=40)(hc:nx s p=113)(hd:48<=nx s (p+1)):
  Calls Tryz.prog 243 #[.string s,.int .i64 p] w fun e w'=>e=.returned (.tuple #[.int .i64 (CL (nx s p)),.int .i64 (BF (nx s) f p)])/\Below w.heap.size w w':=by
 have HD:=Ab (fun w=>IZ s (p+1) w hp hd);have hx:=Qc s (p+1);have e1:CL (nx s p)=0:=by rw[hc];rfl
 have e2:BF (nx s) f p=(nx s (p+1):Int)-48:=by simp[BF,hc]
 rw[e1,e2];have hb:=A6 (by omega) hc;generalize nx s (p+1)=d at *;go_enter Tryz.func243,Tryz.ntmps243;go_wp2_with fail
 refine((Aa HD) _).mono ?_;rintro e w1 ⟨rfl,rfl⟩;go_wp2
 go_ret2
 exact⟨rfl,Below.refl _ _⟩
theorem Yr(s:ByteArray)(f p:Nat)(w:World)(h:PK s f p)(hs:s.size<=40)(hc:nx s p=117):
  Calls Tryz.prog 243 #[.string s,.int .i64 p] w fun e w'=>e=.returned (.tuple #[.int .i64 (CL (nx s p)),.int .i64 (BF (nx s) f p)])/\Below w.heap.size w w':=by
 have hp:=h.ok.lt;have HD:=Ab (fun w=>FH s f p (-1) w h hs (by omega) (by omega));rw[show partOf (Pt.kids (nx s) f p) (-1)=(Pt.kids (nx s) f p).length from rfl]at HD;have e1:CL (nx s p)=0:=by rw[hc];rfl
 have e2:BF (nx s) f p=((Pt.kids (nx s) f p).length:Int)-1:=by simp[BF,hc]
 have hx:=CK (nx s) f p;rw[e1,e2];have hb:=A6 (by omega) hc;generalize (Pt.kids (nx s) f p).length=d at *;clear h;go_enter Tryz.func243,Tryz.ntmps243;go_wp2_with fail
 refine((Aa HD) _).mono ?_;rintro e w1 ⟨rfl,hb1⟩;go_wp2
 go_ret2
 exact⟨rfl,hb1⟩
end Go.Proofs.YtblomippkddgiaaGreatDoor.V
