import Derived.Test.YtblomippkddgiabGreatDoorJ09
namespace Go.Proofs.YtblomippkddgiabGreatDoor.V
variable {s:ByteArray}{x:It}{k0 ks:List Bool}{r v:List It}{qs:List Nat}{f p:Nat}{g:Nat→Nat}
theorem Ef(h:(CW s v).1=0):(Pt.IZ (nx s) s.size).1=0/\∃ks,CF (nx s) (s.size+1) 0 v=some (ks,[])/\(CW s v).2=bytesOf ks v/\(bytesOf ks v).length<=70:=by
 unfold CW at h ⊢;split at h
 ·rename_i hc;rw[if_pos hc];refine⟨hc,?_⟩;unfold NG at h ⊢;split at h
  ·cases h
  ·rename_i ks r he;split at h
   ·rename_i hr;subst hr;split at h
    ·cases h
    ·rename_i hb;exact⟨ks,he,by simp[hb],by omega⟩
   ·cases h
 ·rename_i hc;exact absurd h hc
theorem U2(h:(CW s v).1=0):(CW s v).2.length<=70:=by
 obtain⟨_,ks,_,h2,h3⟩:=Ef h;rw[h2];exact h3
theorem Uu(h:(CW s v).1=0):D5 s (CW s v).2=(0,v):=by
 obtain⟨hc,ks,he,h2,h3⟩:=Ef h;have hg:=Py hc;obtain⟨h1,h4⟩:=Gp _ _ _ _ _ _ he;obtain⟨s1,s2⟩:=VM s _ _ hg.ok _ _ _ he;have hl:ks.length=v.length:=by
  have:=congrArg List.length h1;rw[agf]at this;simp at this;omega
 rw[h2];exact(abD s v ks hc he (Yp s2 hl) h3).1
theorem aa3(hc:(Pt.IZ (nx s) s.size).1=0)(he:CF (nx s) (s.size+1) 0 v=some (ks,[]))(hb:(bytesOf ks v).length<=70):CW s v=(0,bytesOf ks v):=by
 have:¬70<(bytesOf ks v).length:=by omega
 simp[CW,hc,he,NG,this]
theorem Pn{r0:List It}{k1:List Bool}(h:AO g f p v=some (k0,qs,r0))(hs:BU (CF g f) qs r0=some (k1,r)):CF g (f+1) p v=some (k0++k1,r):=by
 simp only[CF];rw[h];simp only;rw[hs];rfl
theorem Kt(h:CF g (f+1) p v=some (ks,r)):∃k0 qs r0 k1,AO g f p v=some (k0,qs,r0)/\BU (CF g f) qs r0=some (k1,r)/\ks=k0++k1:=by
 simp only[CF]at h;cases hh:AO g f p v with
 |none=>rw[hh]at h;cases h
 |some e=>
  obtain⟨k0,qs,r0⟩:=e;rw[hh]at h;simp only at h;cases hs:BU (CF g f) qs r0 with
  |none=>rw[hs]at h;cases h
  |some e2=>
   obtain⟨k1,r1⟩:=e2;rw[hs]at h;simp only[Ck,Option.some.injEq,Prod.mk.injEq]at h;exact⟨k0,qs,r0,k1,rfl,by rw[<-h.2,hs],h.1.symm⟩
theorem Il(ac:g p≠97)(aa:g p≠114)(ab:g p≠115)(hx:x.2.size=0/\CG (g p)<=x.1/\x.1<=Ci g f p):AO g f p (x :: r)=some ([false],(if g p=117 then [partOf (Pt.kids g f p) x.1] else if g p=113 then List.replicate x.1.toNat (p+2) else []),r):=by
 unfold AO;rw[if_neg ac,if_neg aa];simp only;rw[if_neg ab,if_pos hx]
theorem J2(h:AO g f p v=some (k0,qs,r))(ac:g p≠97)(aa:g p≠114)(ab:g p≠115):∃x,v=x :: r/\k0=[false]/\(x.2.size=0/\CG (g p)<=x.1/\x.1<=Ci g f p)/\qs=(if g p=117 then [partOf (Pt.kids g f p) x.1] else if g p=113 then List.replicate x.1.toNat (p+2) else []):=by
 unfold AO at h;rw[if_neg ac,if_neg aa]at h;cases v with
 |nil=>cases h
 |cons x v=>
  simp only at h;rw[if_neg ab]at h;split at h
  ·rename_i hx;cases h;exact⟨x,rfl,rfl,hx,rfl⟩
  ·cases h
theorem GQ(ae:g p≠97)(ab:g p≠114)(ac:g p≠115)(ad:g p≠117)(aa:g p≠113)(hx:x.2.size=0/\CG (g p)<=x.1/\x.1<=Ci g f p):CF g (f+1) p (x :: r)=some ([false],r):=by
 simp only[CF];rw[Il ae ab ac hx];simp[ad,aa,BU,Ck]
theorem Ig(h:CF g (f+1) p v=some (ks,r))(ae:g p≠97)(ab:g p≠114)(ac:g p≠115)(ad:g p≠117)(aa:g p≠113):∃x,v=x :: r/\ks=[false]/\x.2.size=0/\CG (g p)<=x.1/\x.1<=Ci g f p:=by
 simp only[CF]at h;cases hh:AO g f p v with
 |none=>rw[hh]at h;cases h
 |some e=>
  obtain⟨k0,qs,r0⟩:=e;rw[hh]at h;obtain⟨x,h1,h2,h3,h4⟩:=J2 hh ae ab ac;rw[if_neg ad,if_neg aa]at h4;subst h4;simp[BU,Ck]at h;exact⟨x,by rw[h1,h.2],by rw[<-h.1,h2],h3⟩
theorem PX{E:Nat->List It->DZ}{q:Nat}{P:It->Prop}{b:Bool}(hE:∀x r,P x->E q (x :: r)=some ([b],r)):∀(v:List It),(∀x∈v,P x)->BU E (List.replicate v.length q) v=some (List.replicate v.length b,[])
 |[],_=>rfl
 |x :: v,h=>by
  simp only[af1,age,BU];rw[hE x v (h x (by simp))];simp only;rw[PX hE v (fun y hy=>h y (by simp[hy]))];rfl
theorem Ls{E:Nat->List It->DZ}{q:Nat}{P:It->Prop}(hE:∀v r ks,E q v=some (ks,r)->∃x,v=x :: r/\ks=[false]/\P x):∀(k:Nat) (v r:List It) (ks:List Bool),BU E (List.replicate k q) v=some (ks,r)->∃a,v=a++r/\a.length=k/\∀x∈a,P x
 |0,v,r,ks,h=>by
  simp[BU]at h;exact⟨[],by simp[h.2],rfl,by simp⟩
 |k+1,v,r,ks,h=>by
  simp only[age,BU]at h;cases hq:E q v with
  |none=>rw[hq]at h;cases h
  |some e=>
   obtain⟨k1,r1⟩:=e;rw[hq]at h;simp only at h;obtain⟨x,h1,_,h3⟩:=hE v r1 k1 hq;cases hs:BU E (List.replicate k q) r1 with
   |none=>rw[hs]at h;cases h
   |some e2=>
    obtain⟨k2,r2⟩:=e2;rw[hs]at h;simp only[Ck,Option.some.injEq,Prod.mk.injEq]at h;obtain⟨a,b1,b2,b3⟩:=Ls hE k r1 r2 k2 hs;refine⟨x :: a,by rw[h1,b1,<-h.2];rfl,by simp[b2],fun y hy=>?_⟩;rcases agR.1 hy with rfl|hy
    ·exact h3
    ·exact b3 y hy
theorem X8(aa:g p=115)(hx:x.1=0/\x.2.size<=14):CF g (f+1) p (x :: r)=some ([true],r):=by
 simp only[CF];unfold AO;rw[if_neg (by omega),if_neg (by omega)];simp only;rw[if_pos aa,if_pos hx];simp[BU,Ck]
theorem Mr:∀(v:List It),(∀x∈v,x.2.size<=14)->(bytesOf (List.replicate v.length true) v).length<=16*v.length
 |[],_=>by simp[bytesOf]
 |x :: v,h=>by
  have ih:=Mr v (fun y hy=>h y (by simp[hy]));have hx:=h x (by simp);simp only[af1,age,bytesOf,afS];have:(EE true x).length<=16:=by
   simp only[EE,if_true];split<;>simp[A5]<;>omega
  omega
theorem K6:∀(v:List It),(bytesOf (List.replicate v.length false) v).length<=2*v.length
 |[]=>by simp[bytesOf]
 |x :: v=>by
  have ih:=K6 v;simp only[af1,age,bytesOf,afS];have:(EE false x).length<=2:=by simp[EE,A5]
  omega
end Go.Proofs.YtblomippkddgiabGreatDoor.V
namespace Go.Proofs.YtblomippkddgiabGreatDoor.R
open Go.Proofs.YtblomippkddgiabGreatDoor.V
variable {f t:ByteArray}{proc:Int}{v:List It}{bs name:List UInt8}{G:Wd}
theorem DF(h:Ba t v=some bs):(V.CW t v).1=0:=by
 unfold Ba at h;split at h
 ·assumption
 ·cases h
theorem IE{ks:List Bool}(hc:(Pt.IZ (nx t) t.size).1=0)(he:CF (nx t) (t.size+1) 0 v=some (ks,[]))(hb:(bytesOf ks v).length<=70):Ba t v=some (bytesOf ks v):=by
 unfold Ba;rw[aa3 hc he hb];rfl
def Gd(lo hi:Int)(x:It):Prop:=x.2.size=0/\lo<=x.1/\x.1<=hi
theorem M2(h:Ba t v=some bs)(ae:nx t 0≠97)(ab:nx t 0≠114)(ac:nx t 0≠115)(ad:nx t 0≠117)(aa:nx t 0≠113):∃x,v=[x]/\Gd (CG (nx t 0)) (Ci (nx t) t.size 0) x:=by
 obtain⟨_,ks,he,_⟩:=Ef (DF h);obtain⟨x,h1,_,h3⟩:=Ig he ae ab ac ad aa;exact⟨x,h1,h3⟩
theorem abK(h:Ba (txt [105]) v=some bs):∃x,v=[x]/\Gd (-32768) 32767 x:=by
 have:=M2 h (by decide +kernel) (by decide +kernel) (by decide +kernel) (by decide +kernel) (by decide +kernel)
 rwa [show CG (nx (txt [105]) 0)=-32768 by decide +kernel,show Ci (nx (txt [105])) (txt [105]).size 0=32767 by decide +kernel]at this
theorem abI(h:Ba (txt [98]) v=some bs):∃x,v=[x]/\Gd 0 1 x:=by
 have:=M2 h (by decide +kernel) (by decide +kernel) (by decide +kernel) (by decide +kernel) (by decide +kernel)
 rwa [show CG (nx (txt [98]) 0)=0 by decide +kernel,show Ci (nx (txt [98])) (txt [98]).size 0=1 by decide +kernel]at this
theorem abJ(h:Ba (txt [99]) v=some bs):∃x,v=[x]/\Gd 0 65535 x:=by
 have:=M2 h (by decide +kernel) (by decide +kernel) (by decide +kernel) (by decide +kernel) (by decide +kernel)
 rwa [show CG (nx (txt [99]) 0)=0 by decide +kernel,show Ci (nx (txt [99])) (txt [99]).size 0=65535 by decide +kernel]at this
theorem XF(h:Ba (txt [115]) v=some bs):∃x,v=[x]/\x.1=0/\x.2.size<=14:=by
 obtain⟨_,ks,he,_⟩:=Ef (DF h);rw[show (txt [115]).size=1 from rfl]at he;obtain⟨k0,qs,r0,k1,h1,h2,_⟩:=Kt he;unfold AO at h1;have aa:nx (txt [115]) 0=115:=by decide +kernel
 rw[if_neg (by omega),if_neg (by omega)]at h1;cases v with
 |nil=>cases h1
 |cons x v=>
  simp only at h1;rw[if_pos aa]at h1;split at h1
  ·rename_i hx;cases h1;simp[BU]at h2;exact⟨x,by rw[h2.2],hx⟩
  ·cases h1
abbrev EN:ByteArray:=txt [114,40,101,51,113,51,105,41]
theorem X0:nx EN 0=114/\nx EN 2=101/\nx EN 4=113/\nx EN 6=105/\Pt.kids (nx EN) 8 0=[2,4]:=by decide +kernel
theorem XE(h:Ba EN v=some bs):∃d k a,v=d :: k :: a/\Gd 0 2 d/\Gd 0 3 k/\(a.length:Int)=k.1/\∀x∈a,Gd (-32768) 32767 x:=by
 obtain⟨_,ks,he,_⟩:=Ef (DF h);obtain⟨a0,a2,a4,a6,ak⟩:=X0;have a7:nx EN (4+2)=105:=a6;rw[show EN.size+1=8+1 from rfl]at he;obtain⟨j0,ac,ad,j1,aa,he,_⟩:=Kt he;unfold AO at aa;rw[if_neg (by omega),if_pos a0,ak]at aa;cases aa;simp only[BU]at he;cases h1:CF (nx EN) 8 2 v with
 |none=>rw[h1]at he;cases he
 |some x1=>
  obtain⟨k1,r1⟩:=x1;rw[h1]at he;simp only at he;obtain⟨d,ab,_,hd⟩:=Ig (f:=7) h1 (by omega) (by omega) (by omega) (by omega) (by omega);rw[show CG (nx EN 2)=0 by decide +kernel,show Ci (nx EN) 7 2=2 by decide +kernel]at hd;cases h2:CF (nx EN) 8 4 r1 with
  |none=>rw[h2]at he;cases he
  |some x2=>
   obtain⟨k2,r2⟩:=x2;rw[h2]at he;simp only[Ck]at he;cases he;obtain⟨k0,qs,r0,k3,hh,hs,_⟩:=Kt (f:=7) h2;obtain⟨k,g1,g2,g3,g4⟩:=J2 hh (by omega) (by omega) (by omega);rw[if_neg (by omega),if_pos a4]at g4;subst g4;rw[show CG (nx EN 4)=0 by decide +kernel,show Ci (nx EN) 7 4=3 by decide +kernel]at g3;obtain⟨a,b1,b2,b3⟩:=Ls (P:=Gd (-32768) 32767) (fun v r ks hq=>by
    obtain⟨x,c1,c2,c3⟩:=Ig (f:=6) hq (by omega) (by omega) (by omega) (by omega) (by omega);rw[show CG (nx EN (4+2))=-32768 by decide +kernel,show Ci (nx EN) 6 (4+2)=32767 by decide +kernel]at c3;exact⟨x,c1,c2,c3⟩) _ _ _ _ hs
   refine⟨d,k,a,?_,hd,g3,?_,b3⟩
   ·rw[ab,g1,b1];simp
   ·have:=g3.2.1;omega
theorem Zz{x:It}(h:Gd 0 65535 x):∃rb,Ba (txt [99]) [x]=some rb/\1<=rb.length:=by
 have he:CF (nx (txt [99])) ((txt [99]).size+1) 0 [x]=some ([false],[]):=GQ (by decide +kernel) (by decide +kernel) (by decide +kernel) (by decide +kernel) (by decide +kernel) (by
  rw[show CG (nx (txt [99]) 0)=0 by decide +kernel,show Ci (nx (txt [99])) (txt [99]).size 0=65535 by decide +kernel];exact h)
 exact⟨_,IE (by decide +kernel) he (by simp[bytesOf,EE,V.A5]),by simp[bytesOf,EE,V.A5]⟩
theorem ad9{l:List ByteArray}(h4:l.length<=4)(h:∀s∈l,s.size<=14):∃rb,Ba (txt [113,52,115]) (num l.length :: l.map fun s=>(0,s))=some rb/\1<=rb.length:=by
 have hq:nx (txt [113,52,115]) 0=113/\nx (txt [113,52,115]) 2=115:=by decide +kernel
 have he:CF (nx (txt [113,52,115])) ((txt [113,52,115]).size+1) 0 (num l.length :: l.map fun s=>(0,s))=some (false :: List.replicate l.length true,[]):=by
  rw[show (txt [113,52,115]).size+1=3+1 from rfl];have hh:=Il (g:=nx (txt [113,52,115])) (f:=3) (p:=0) (x:=num l.length) (r:=l.map fun s=>((0,s):It)) (by omega) (by omega) (by omega) (by
   rw[show CG (nx (txt [113,52,115]) 0)=0 by decide +kernel,show Ci (nx (txt [113,52,115])) 3 0=4 by decide +kernel];exact⟨rfl,by simp[num],by simp[num];omega⟩)
  rw[if_neg (by omega),if_pos hq.1,show (num (l.length:Int)).1.toNat=l.length by simp[num]]at hh;have:=PX (E:=CF (nx (txt [113,52,115])) 3) (q:=0+2) (b:=true) (P:=fun x=>x.1=0/\x.2.size<=14) (fun x r hx=>X8 hq.2 hx) (l.map fun s=>((0,s):It)) (fun x hx=>by
   obtain⟨s,hs,rfl⟩:=agE.1 hx;exact⟨rfl,h s hs⟩)
  rw[af0]at this;exact Pn hh this
 have hb:=Mr (l.map fun s=>((0,s):It)) (fun x hx=>by
  obtain⟨s,hs,rfl⟩:=agE.1 hx;exact h s hs)
 rw[af0]at hb;have hl:(bytesOf (false :: List.replicate l.length true) (num l.length :: l.map fun s=>(0,s))).length=2+(bytesOf (List.replicate l.length true) (l.map fun s=>(0,s))).length:=by
  simp[bytesOf,EE,V.A5];omega
 exact⟨_,IE (by decide +kernel) he (by omega),by omega⟩
abbrev Du:ByteArray:=txt [117,40,98,113,51,105,41]
theorem Qx:nx Du 0=117/\nx Du 2=98/\nx Du 3=113/\nx Du 5=105/\Pt.kids (nx Du) 7 0=[2,3]/\Ci (nx Du) 7 0=1:=by decide +kernel
theorem acD:∃rb,Ba Du [num 0,num 0]=some rb/\1<=rb.length:=by
 obtain⟨a0,a2,a3,a5,ak,ah⟩:=Qx;have he:CF (nx Du) (Du.size+1) 0 [num 0,num 0]=some ([false,false],[]):=by
  rw[show Du.size+1=7+1 from rfl];have hh:=Il (g:=nx Du) (f:=7) (p:=0) (x:=num 0) (r:=[num 0]) (by omega) (by omega) (by omega) (by rw[a0,ah];exact⟨rfl,by decide,by decide⟩);rw[if_pos a0,ak,show partOf [2,3] (num 0).1=2 by decide +kernel]at hh;refine Pn (k1:=[false]) hh ?_;simp only[BU];rw[GQ (f:=6) (by omega) (by omega) (by omega) (by omega) (by omega) (by rw[a2,show Ci (nx Du) 6 2=1 by decide +kernel];exact⟨rfl,by decide,by decide⟩)];rfl
 exact⟨_,IE (by decide +kernel) he (by simp[bytesOf,EE,V.A5]),by simp[bytesOf,EE,V.A5]⟩
theorem acE{l:List It}(h3:l.length<=3)(h:∀x∈l,Gd (-32768) 32767 x):∃rb,Ba Du (num 1 :: num l.length :: l)=some rb/\1<=rb.length:=by
 obtain⟨a0,a2,a3,a5,ak,ah⟩:=Qx;have a6:nx Du (3+2)=105:=a5;have he:CF (nx Du) (Du.size+1) 0 (num 1 :: num l.length :: l)=some (false :: false :: List.replicate l.length false,[]):=by
  rw[show Du.size+1=7+1 from rfl];have hh:=Il (g:=nx Du) (f:=7) (p:=0) (x:=num 1) (r:=num l.length :: l) (by omega) (by omega) (by omega) (by rw[a0,ah];exact⟨rfl,by decide,by decide⟩);rw[if_pos a0,ak,show partOf [2,3] (num 1).1=3 by decide +kernel]at hh;refine Pn (k1:=false :: List.replicate l.length false) hh ?_;simp only[BU];have aa:=Il (g:=nx Du) (f:=6) (p:=3) (x:=num l.length) (r:=l) (by omega) (by omega) (by omega) (by rw[a3,show Ci (nx Du) 6 3=3 by decide +kernel];exact⟨rfl,by simp[num,CG],by simp[num];omega⟩);rw[if_neg (by omega),if_pos a3,show (num (l.length:Int)).1.toNat=l.length by simp[num]]at aa;have:=PX (E:=CF (nx Du) 6) (q:=3+2) (b:=false) (P:=Gd (-32768) 32767) (fun x r hx=>GQ (f:=5) (by omega) (by omega) (by omega) (by omega) (by omega) (by rw[show CG (nx Du (3+2))=-32768 by decide +kernel,show Ci (nx Du) 5 (3+2)=32767 by decide +kernel];exact hx)) l h;rw[Pn (f:=6) aa this];simp[Ck]
 have hb:=K6 l;have hl:(bytesOf (false :: false :: List.replicate l.length false) (num 1 :: num l.length :: l)).length=4+(bytesOf (List.replicate l.length false) l).length:=by
  simp[bytesOf,EE,V.A5];omega
 exact⟨_,IE (by decide +kernel) he (by omega),by omega⟩
theorem F7:∀(l:List En) (n:Int),0<=n/\n<=65535->0<=BA l n/\BA l n<=65535
 |[],n,h=>h
 |e :: l,n,h=>by
  simp only[BA];refine F7 l _ ?_;split
  ·omega
  ·split
   ·omega
   ·exact h
theorem Jv(l:List En):(BG l).length<=4:=by
 simp only[BG,agf];omega
theorem aec{e:En}(h:C6 1 e.proc=some (f,t))(h0:e.proc=0):f=txt [115]:=by
 rw[h0]at h;simp[C6]at h;exact h.1.symm
theorem aeb(h:C6 2 proc=some (f,t)):f=EN/\t=Du/\proc=0:=by
 unfold C6 at h;simp at h;exact⟨h.2.1.symm,h.2.2.symm,h.1⟩
abbrev JF(kind:Int)(l:List En):Prop:=∀e∈l,∃f t b,C6 kind e.proc=some (f,t)/\Ba f e.arg=some b
theorem PT{l:List En}(h:JF 1 l):∀s∈BG l,s.size<=14:=fun s hs=>by
 have hm:=List.mem_of_mem_drop hs;obtain⟨e,he,rfl⟩:=agE.1 hm;obtain⟨he,h0⟩:=ag6.1 he;obtain⟨f,t,b,h1,h2⟩:=h e he;rw[aec h1 (by simpa using h0)]at h2;obtain⟨x,hx,_,h3⟩:=XF h2;simp[Vp,hx,h3]
theorem GV:∀(l:List En),JF 2 l->∀(d:Int) (aa:List It),(aa.length<=3/\∀x∈aa,Gd (-32768) 32767 x)->(Fq l d aa).length<=3/\∀x∈Fq l d aa,Gd (-32768) 32767 x
 |[],_,d,aa,h=>h
 |e :: l,hl,d,aa,h=>by
  simp only[Fq];refine GV l (fun x hx=>hl x (by simp[hx])) d _ ?_;split
  ·obtain⟨f,t,b,h1,h2⟩:=hl e (by simp);rw[(aeb h1).1]at h2;obtain⟨dd,k,a,g1,g2,g3,g4,g5⟩:=XE h2;rw[g1];simp only[List.drop_succ_cons,List.drop_zero];have:=g3.2.2;exact⟨by omega,g5⟩
  ·exact h
theorem aaB{kind:Int}{log:List En}{arg:List It}(hs:C6 kind proc=some (f,t))(hb:Ba f arg=some bs)(hl:∀e∈log,∃f t b,C6 kind e.proc=some (f,t)/\Ba f e.arg=some b):∃rb,Ba t (Cu kind log proc arg)=some rb/\1<=rb.length:=by
 have hc:=F7 log 0 (by decide);have ac:=Jv log;unfold C6 at hs;split at hs
 ·rename_i h;cases hs;rw[h.1,h.2];refine Zz ⟨rfl,?_,?_⟩<;>simp[num]<;>omega
 ·split at hs
  ·rename_i h;cases hs;rw[h.1,h.2];refine Zz ⟨rfl,?_,?_⟩<;>simp[num]<;>omega
  ·split at hs
   ·rename_i h;cases hs;rw[h.1,h.2];refine Zz ⟨rfl,?_,?_⟩<;>simp[num]<;>omega
   ·split at hs
    ·rename_i h;cases hs;obtain⟨rfl,rfl⟩:=h;have ab:=PT hl;exact ad9 (l:=(BG log).take (IY arg 0).toNat) (by rw[aga];omega) (fun s hs=>ab s (List.mem_of_mem_take hs))
    ·split at hs
     ·rename_i h;cases hs;obtain⟨rfl,rfl⟩:=h;have aa:=GV log hl (IY arg 0) [] (by simp);unfold Cu;simp only;rw[if_neg (by decide),if_neg (by decide)];split
      ·exact acD
      ·exact acE aa.1 aa.2
     ·cases hs
theorem Ek{k:Nat}(h:BI G name=some k):G.names[k]?=some name:=by
 unfold BI at h;rw[agZ]at h;obtain⟨hl,e,_⟩:=h;rw[afH hl];simpa using e
theorem VQ(h:BI G name=none):name ∉ G.names:=by
 unfold BI at h;rw[ag0]at h;intro hm;simpa using h name hm
theorem Wf.ends(h:Wf G)(uid:Int):Wf (Ch G uid):=by
 refine⟨h.cf,h.Gt,fun i c hc=>?_,h.E3,h.Eo,by simpa [Ch] using h.sv,fun s hs=>?_,h.nm,h.st,h.nd,fun u hu=>?_⟩
 ·have q:=h.cl i c hc;exact⟨q.lines,q.Ae,fun u hu=>by simpa [Ch] using q.bound u hu,q.line⟩
 ·obtain⟨j,hj⟩:=agY.1 hs;simp only[Ch,agm]at hj;cases hg:G.Ab[j]? with
  |none=>rw[hg]at hj;cases hj
  |some s0=>
   rw[hg]at hj;have hk:=h.Kh s0 (afU hg);have aa:=Option.some.inj hj;rw[<-aa];split<;>exact hk
 ·simpa [Ch] using h.I5 u hu
theorem Wf.serve(h:Wf G){kind:Int}(hk:0<=kind/\kind<=2)(hs:G.Ab.length<255){nm:List (List UInt8)}{st:List Int}(h6:nm.length<=6)(ad:st.length=nm.length)(ab:nm.Nodup)(aa:∀u∈st,1<=u/\u<=(G.Ab.length:Int)+1):Wf {G with names:=nm,stands:=st,Ab:=G.Ab++[⟨kind,true,[]⟩]}:=by
 refine⟨h.cf,h.Gt,fun i c hc=>?_,h.E3,h.Eo,by simp only[afS,agA];omega,fun s ac=>?_,h6,ad,ab,fun u hu=>?_⟩
 ·have q:=h.cl i c hc;refine⟨q.lines,q.Ae,fun u hu=>?_,q.line⟩;have:=q.bound u hu;simp only[afS,agA];omega
 ·rcases agb.1 ac with q|q
  ·exact h.Kh s q
  ·rw[af3.1 q];exact hk
 ·have:=aa u hu;simp only[afS,agA];omega
theorem Wf.export(h:Wf G)(name:List UInt8)(kind:Int):Wf (Bd G name kind).2:=by
 unfold Bd;split
 ·exact h
 ·split
  ·exact h
  ·rename_i hk;split
   ·rename_i he;split
    ·exact h
    ·split
     ·exact h
     ·rename_i h6 hs;have ab:=h.nm;have aa:=h.sv;refine h.serve (by omega) (by omega) (by simp only[afS,agA];omega) (by simp[h.st]) ?_ (fun u hu=>?_)
      ·rw[List.nodup_append];refine⟨h.nd,by simp,fun a ha b hb=>?_⟩;rw[af3.1 hb];intro e;exact VQ he (e ▸ ha)
      ·rcases agb.1 hu with q|q
       ·have:=h.I5 u q;omega
       ·rw[af3.1 q];omega
   ·rename_i k he;split
    ·exact h
    ·rename_i hs;have aa:=h.sv;have hE:=h.ends (G.stands.getD k 0);have hl:(Ch G (G.stands.getD k 0)).Ab.length=G.Ab.length:=by simp[Ch]
     have:=hE.serve (kind:=kind) (nm:=G.names) (st:=G.stands.set k ((G.Ab.length:Int)+1)) (by omega) (by rw[hl];omega) h.nm (by rw[agq];exact h.st) h.nd (fun u hu=>by
      rw[hl];rcases agc hu with q|q
      ·have:=h.I5 u q;omega
      ·rw[q];omega)
     exact this
theorem Wf.imports(h:Wf G)(client:Int)(name:List UInt8):Wf (E4 G client name).2:=by
 unfold E4;split
 ·exact h
 ·split
  ·exact h
  ·rename_i k he;refine⟨h.cf,by simpa using h.Gt,fun i c hc=>?_,h.E3,h.Eo,h.sv,h.Kh,h.nm,h.st,h.nd,h.I5⟩;simp only[agm]at hc;cases hg:G.Ad[i]? with
   |none=>rw[hg]at hc;cases hc
   |some c0=>
    rw[hg]at hc;have q:=h.cl i c0 hg;have ab:=Option.some.inj hc;rw[<-ab];split
    ·refine⟨q.lines,q.Ae,fun u hu=>?_,q.line⟩;rcases agb.1 hu with r|r
     ·exact q.bound u r
     ·rw[af3.1 r];have hk:=(afG.1 (Ek he)).1;have aa:k<G.stands.length:=by rw[h.st];exact hk
      have:G.stands.getD k 0∈G.stands:=by
       rw[afX,afH aa];exact agr aa
      exact h.I5 _ this
    ·exact⟨q.lines,q.Ae,q.bound,q.line⟩
end Go.Proofs.YtblomippkddgiabGreatDoor.R
