import Derived.Test.YtblomippkddgiaaGreatDoorJ12
import Derived.Test.YtblomippkddgiaaGreatDoorJ09
namespace Go.Proofs.YtblomippkddgiaaGreatDoor.V
theorem mRes_parts{s:ByteArray}{v:List It}(h:(mRes s v).1=0):(Pt.chk (nx s) s.size).1=0∧∃ks,eat (nx s) (s.size+1) 0 v=some (ks,[])∧(mRes s v).2=bytesOf ks v∧(bytesOf ks v).length≤70:=by
 unfold mRes at h ⊢
 split at h
 ·rename_i hc
  rw[if_pos hc]
  refine⟨hc,?_⟩
  unfold wRes at h ⊢
  split at h
  ·cases h
  ·rename_i ks r he
   split at h
   ·rename_i hr
    subst hr
    split at h
    ·cases h
    ·rename_i hb
     exact⟨ks,he,by simp[hb],by omega⟩
   ·cases h
 ·rename_i hc
  exact absurd h hc
theorem mRes_le{s:ByteArray}{v:List It}(h:(mRes s v).1=0):(mRes s v).2.length≤70:=by
 obtain⟨_,ks,_,h2,h3⟩:=mRes_parts h
 rw[h2]
 exact h3
theorem uFull_back{s:ByteArray}{v:List It}(h:(mRes s v).1=0):uFull s (mRes s v).2=(0,v):=by
 obtain⟨hc,ks,he,h2,h3⟩:=mRes_parts h
 have hg:=good_of hc
 obtain⟨h1,h4⟩:=eat_heads _ _ _ _ _ _ he
 obtain⟨s1,s2⟩:=alh s _ _ hg.ok _ _ _ he
 have hl:ks.length=v.length:=by
  have:=congrArg List.length h1
  rw[List.length_drop]at this
  simp at this
  omega
 rw[h2]
 exact(an8 s v ks hc he (anm s2 hl) h3).1
theorem aoF{s:ByteArray}{v:List It}{ks:List Bool}(hc:(Pt.chk (nx s) s.size).1=0)(he:eat (nx s) (s.size+1) 0 v=some (ks,[]))(hb:(bytesOf ks v).length≤70):mRes s v=(0,bytesOf ks v):=by
 have:¬70<(bytesOf ks v).length:=by omega
 simp[mRes,hc,he,wRes,this]
theorem aig{g:Nat→Nat}{f p:Nat}{v r0 r:List It}{k0 k1:List Bool}{qs:List Nat}(h:headOf g f p v=some (k0,qs,r0))(hs:seqE (eat g f) qs r0=some (k1,r)):eat g (f+1) p v=some (k0++k1,r):=by
 simp only[eat]
 rw[h]
 simp only
 rw[hs]
 rfl
theorem aef{g:Nat→Nat}{f p:Nat}{v r:List It}{ks:List Bool}(h:eat g (f+1) p v=some (ks,r)):∃k0 qs r0 k1,headOf g f p v=some (k0,qs,r0)∧seqE (eat g f) qs r0=some (k1,r)∧ks=k0++k1:=by
 simp only[eat]at h
 cases hh:headOf g f p v with
 |none=>rw[hh]at h;cases h
 |some e=>
  obtain⟨k0,qs,r0⟩:=e
  rw[hh]at h
  simp only at h
  cases hs:seqE (eat g f) qs r0 with
  |none=>rw[hs]at h;cases h
  |some e2=>
   obtain⟨k1,r1⟩:=e2
   rw[hs]at h
   simp only[joinE,Option.some.injEq,Prod.mk.injEq]at h
   exact⟨k0,qs,r0,k1,rfl,by rw[←h.2,hs],h.1.symm⟩
theorem acT{g:Nat→Nat}{f p:Nat}{x:It}{r:List It}(h97:g p≠97)(h114:g p≠114)(h115:g p≠115)(hx:x.2.size=0∧loOf (g p)≤x.1∧x.1≤hiOf g f p):headOf g f p (x :: r)=some ([false],(if g p=117 then [partOf (Pt.kids g f p) x.1] else if g p=113 then List.replicate x.1.toNat (p+2) else []),r):=by
 unfold headOf
 rw[if_neg h97,if_neg h114]
 simp only
 rw[if_neg h115,if_pos hx]
theorem adq{g:Nat→Nat}{f p:Nat}{v:List It}{k0:List Bool}{qs:List Nat}{r:List It}(h:headOf g f p v=some (k0,qs,r))(h97:g p≠97)(h114:g p≠114)(h115:g p≠115):∃x,v=x :: r∧k0=[false]∧(x.2.size=0∧loOf (g p)≤x.1∧x.1≤hiOf g f p)∧qs=(if g p=117 then [partOf (Pt.kids g f p) x.1] else if g p=113 then List.replicate x.1.toNat (p+2) else []):=by
 unfold headOf at h
 rw[if_neg h97,if_neg h114]at h
 cases v with
 |nil=>cases h
 |cons x v=>
  simp only at h
  rw[if_neg h115]at h
  split at h
  ·rename_i hx
   cases h
   exact⟨x,rfl,rfl,hx,rfl⟩
  ·cases h
theorem acE{g:Nat→Nat}{f p:Nat}{x:It}{r:List It}(h97:g p≠97)(h114:g p≠114)(h115:g p≠115)(h117:g p≠117)(h113:g p≠113)(hx:x.2.size=0∧loOf (g p)≤x.1∧x.1≤hiOf g f p):eat g (f+1) p (x :: r)=some ([false],r):=by
 simp only[eat]
 rw[acT h97 h114 h115 hx]
 simp[h117,h113,seqE,joinE]
theorem acD{g:Nat→Nat}{f p:Nat}{v r:List It}{ks:List Bool}(h:eat g (f+1) p v=some (ks,r))(h97:g p≠97)(h114:g p≠114)(h115:g p≠115)(h117:g p≠117)(h113:g p≠113):∃x,v=x :: r∧ks=[false]∧x.2.size=0∧loOf (g p)≤x.1∧x.1≤hiOf g f p:=by
 simp only[eat]at h
 cases hh:headOf g f p v with
 |none=>rw[hh]at h;cases h
 |some e=>
  obtain⟨k0,qs,r0⟩:=e
  rw[hh]at h
  obtain⟨x,h1,h2,h3,h4⟩:=adq hh h97 h114 h115
  rw[if_neg h117,if_neg h113]at h4
  subst h4
  simp[seqE,joinE]at h
  exact⟨x,by rw[h1,h.2],by rw[←h.1,h2],h3⟩
theorem agP{E:Nat→List It→Eaten}{q:Nat}{P:It→Prop}{b:Bool}(hE:∀x r,P x→E q (x :: r)=some ([b],r)):∀(v:List It),(∀x∈v,P x)→seqE E (List.replicate v.length q) v=some (List.replicate v.length b,[])
 |[],_=>rfl
 |x :: v,h=>by
  simp only[List.length_cons,List.replicate_succ,seqE]
  rw[hE x v (h x (by simp))]
  simp only
  rw[agP hE v (fun y hy=>h y (by simp[hy]))]
  rfl
theorem adW{E:Nat→List It→Eaten}{q:Nat}{P:It→Prop}(hE:∀v r ks,E q v=some (ks,r)→∃x,v=x :: r∧ks=[false]∧P x):∀(k:Nat) (v r:List It) (ks:List Bool),seqE E (List.replicate k q) v=some (ks,r)→∃a,v=a++r∧a.length=k∧∀x∈a,P x
 |0,v,r,ks,h=>by
  simp[seqE]at h
  exact⟨[],by simp[h.2],rfl,by simp⟩
 |k+1,v,r,ks,h=>by
  simp only[List.replicate_succ,seqE]at h
  cases hq:E q v with
  |none=>rw[hq]at h;cases h
  |some e=>
   obtain⟨k1,r1⟩:=e
   rw[hq]at h
   simp only at h
   obtain⟨x,h1,_,h3⟩:=hE v r1 k1 hq
   cases hs:seqE E (List.replicate k q) r1 with
   |none=>rw[hs]at h;cases h
   |some e2=>
    obtain⟨k2,r2⟩:=e2
    rw[hs]at h
    simp only[joinE,Option.some.injEq,Prod.mk.injEq]at h
    obtain⟨a,b1,b2,b3⟩:=adW hE k r1 r2 k2 hs
    refine⟨x :: a,by rw[h1,b1,←h.2];rfl,by simp[b2],fun y hy=>?_⟩
    rcases List.mem_cons.1 hy with rfl|hy
    ·exact h3
    ·exact b3 y hy
theorem anu{g:Nat→Nat}{f p:Nat}{x:It}{r:List It}(h115:g p=115)(hx:x.1=0∧x.2.size≤14):eat g (f+1) p (x :: r)=some ([true],r):=by
 simp only[eat]
 unfold headOf
 rw[if_neg (by omega),if_neg (by omega)]
 simp only
 rw[if_pos h115,if_pos hx]
 simp[seqE,joinE]
theorem ae7:∀(v:List It),(∀x∈v,x.2.size≤14)→(bytesOf (List.replicate v.length true) v).length≤16*v.length
 |[],_=>by simp[bytesOf]
 |x :: v,h=>by
  have ih:=ae7 v (fun y hy=>h y (by simp[hy]))
  have hx:=h x (by simp)
  simp only[List.length_cons,List.replicate_succ,bytesOf,List.length_append]
  have:(enc8 true x).length≤16:=by
   simp only[enc8,if_true]
   split <;> simp[two8] <;> omega
  omega
theorem aei:∀(v:List It),(bytesOf (List.replicate v.length false) v).length≤2*v.length
 |[]=>by simp[bytesOf]
 |x :: v=>by
  have ih:=aei v
  simp only[List.length_cons,List.replicate_succ,bytesOf,List.length_append]
  have:(enc8 false x).length≤2:=by simp[enc8,two8]
  omega
end Go.Proofs.YtblomippkddgiaaGreatDoor.V
namespace Go.Proofs.YtblomippkddgiaaGreatDoor.R
open Go.Proofs.YtblomippkddgiaaGreatDoor.V
theorem bytesP_some{t:ByteArray}{v:List It}{bs:List UInt8}(h:bytesP t v=some bs):(V.mRes t v).1=0:=by
 unfold bytesP at h
 split at h
 ·assumption
 ·cases h
theorem acX{t:ByteArray}{v:List It}{ks:List Bool}(hc:(Pt.chk (nx t) t.size).1=0)(he:eat (nx t) (t.size+1) 0 v=some (ks,[]))(hb:(bytesOf ks v).length≤70):bytesP t v=some (bytesOf ks v):=by
 unfold bytesP
 rw[aoF hc he hb]
 rfl
def adh(lo hi:Int)(x:It):Prop:=x.2.size=0∧lo≤x.1∧x.1≤hi
theorem afr{t:ByteArray}{v:List It}{bs:List UInt8}(h:bytesP t v=some bs)(h97:nx t 0≠97)(h114:nx t 0≠114)(h115:nx t 0≠115)(h117:nx t 0≠117)(h113:nx t 0≠113):∃x,v=[x]∧adh (loOf (nx t 0)) (hiOf (nx t) t.size 0) x:=by
 obtain⟨_,ks,he,_⟩:=mRes_parts (bytesP_some h)
 obtain⟨x,h1,_,h3⟩:=acD he h97 h114 h115 h117 h113
 exact⟨x,h1,h3⟩
theorem arg_i{v:List It}{bs:List UInt8}(h:bytesP (txt [105]) v=some bs):∃x,v=[x]∧adh (-32768) 32767 x:=by
 have:=afr h (by decide +kernel) (by decide +kernel) (by decide +kernel) (by decide +kernel) (by decide +kernel)
 rwa [show loOf (nx (txt [105]) 0)=-32768 by decide +kernel,show hiOf (nx (txt [105])) (txt [105]).size 0=32767 by decide +kernel]at this
theorem arg_b{v:List It}{bs:List UInt8}(h:bytesP (txt [98]) v=some bs):∃x,v=[x]∧adh 0 1 x:=by
 have:=afr h (by decide +kernel) (by decide +kernel) (by decide +kernel) (by decide +kernel) (by decide +kernel)
 rwa [show loOf (nx (txt [98]) 0)=0 by decide +kernel,show hiOf (nx (txt [98])) (txt [98]).size 0=1 by decide +kernel]at this
theorem arg_c{v:List It}{bs:List UInt8}(h:bytesP (txt [99]) v=some bs):∃x,v=[x]∧adh 0 65535 x:=by
 have:=afr h (by decide +kernel) (by decide +kernel) (by decide +kernel) (by decide +kernel) (by decide +kernel)
 rwa [show loOf (nx (txt [99]) 0)=0 by decide +kernel,show hiOf (nx (txt [99])) (txt [99]).size 0=65535 by decide +kernel]at this
theorem arg_s{v:List It}{bs:List UInt8}(h:bytesP (txt [115]) v=some bs):∃x,v=[x]∧x.1=0∧x.2.size≤14:=by
 obtain⟨_,ks,he,_⟩:=mRes_parts (bytesP_some h)
 rw[show (txt [115]).size=1 from rfl]at he
 obtain⟨k0,qs,r0,k1,h1,h2,_⟩:=aef he
 unfold headOf at h1
 have h115:nx (txt [115]) 0=115:=by decide +kernel
 rw[if_neg (by omega),if_neg (by omega)]at h1
 cases v with
 |nil=>cases h1
 |cons x v=>
  simp only at h1
  rw[if_pos h115]at h1
  split at h1
  ·rename_i hx
   cases h1
   simp[seqE]at h2
   exact⟨x,by rw[h2.2],hx⟩
  ·cases h1
abbrev deskA:ByteArray:=txt [114,40,101,51,113,51,105,41]
theorem anB:nx deskA 0=114∧nx deskA 2=101∧nx deskA 4=113∧nx deskA 6=105∧Pt.kids (nx deskA) 8 0=[2,4]:=by decide +kernel
theorem arg_d{v:List It}{bs:List UInt8}(h:bytesP deskA v=some bs):∃d k a,v=d :: k :: a∧adh 0 2 d∧adh 0 3 k∧(a.length:Int)=k.1∧∀x∈a,adh (-32768) 32767 x:=by
 obtain⟨_,ks,he,_⟩:=mRes_parts (bytesP_some h)
 obtain⟨a0,a2,a4,a6,ak⟩:=anB
 have a7:nx deskA (4+2)=105:=a6
 rw[show deskA.size+1=8+1 from rfl]at he
 obtain⟨j0,qs0,r00,j1,hh0,he,_⟩:=aef he
 unfold headOf at hh0
 rw[if_neg (by omega),if_pos a0,ak]at hh0
 cases hh0
 simp only[seqE]at he
 cases h1:eat (nx deskA) 8 2 v with
 |none=>rw[h1]at he;cases he
 |some x1=>
  obtain⟨k1,r1⟩:=x1
  rw[h1]at he
  simp only at he
  obtain⟨d,hd1,_,hd⟩:=acD (f:=7) h1 (by omega) (by omega) (by omega) (by omega) (by omega)
  rw[show loOf (nx deskA 2)=0 by decide +kernel,show hiOf (nx deskA) 7 2=2 by decide +kernel]at hd
  cases h2:eat (nx deskA) 8 4 r1 with
  |none=>rw[h2]at he;cases he
  |some x2=>
   obtain⟨k2,r2⟩:=x2
   rw[h2]at he
   simp only[joinE]at he
   cases he
   obtain⟨k0,qs,r0,k3,hh,hs,_⟩:=aef (f:=7) h2
   obtain⟨k,g1,g2,g3,g4⟩:=adq hh (by omega) (by omega) (by omega)
   rw[if_neg (by omega),if_pos a4]at g4
   subst g4
   rw[show loOf (nx deskA 4)=0 by decide +kernel,show hiOf (nx deskA) 7 4=3 by decide +kernel]at g3
   obtain⟨a,b1,b2,b3⟩:=adW (P:=adh (-32768) 32767) (fun v r ks hq=>by
    obtain⟨x,c1,c2,c3⟩:=acD (f:=6) hq (by omega) (by omega) (by omega) (by omega) (by omega)
    rw[show loOf (nx deskA (4+2))=-32768 by decide +kernel,show hiOf (nx deskA) 6 (4+2)=32767 by decide +kernel]at c3
    exact⟨x,c1,c2,c3⟩) _ _ _ _ hs
   refine⟨d,k,a,?_,hd,g3,?_,b3⟩
   ·rw[hd1,g1,b1]
    simp
   ·have:=g3.2.1
    omega
theorem aoq{x:It}(h:adh 0 65535 x):∃rb,bytesP (txt [99]) [x]=some rb∧1≤rb.length:=by
 have he:eat (nx (txt [99])) ((txt [99]).size+1) 0 [x]=some ([false],[]):=acE (by decide +kernel) (by decide +kernel) (by decide +kernel) (by decide +kernel) (by decide +kernel) (by
  rw[show loOf (nx (txt [99]) 0)=0 by decide +kernel,show hiOf (nx (txt [99])) (txt [99]).size 0=65535 by decide +kernel]
  exact h)
 exact⟨_,acX (by decide +kernel) he (by simp[bytesOf,enc8,V.two8]),by simp[bytesOf,enc8,V.two8]⟩
theorem aqx{l:List ByteArray}(h4:l.length≤4)(h:∀s∈l,s.size≤14):∃rb,bytesP (txt [113,52,115]) (num l.length :: l.map fun s=>(0,s))=some rb∧1≤rb.length:=by
 have hq:nx (txt [113,52,115]) 0=113∧nx (txt [113,52,115]) 2=115:=by decide +kernel
 have he:eat (nx (txt [113,52,115])) ((txt [113,52,115]).size+1) 0 (num l.length :: l.map fun s=>(0,s))=some (false :: List.replicate l.length true,[]):=by
  rw[show (txt [113,52,115]).size+1=3+1 from rfl]
  have hh:=acT (g:=nx (txt [113,52,115])) (f:=3) (p:=0) (x:=num l.length) (r:=l.map fun s=>((0,s):It)) (by omega) (by omega) (by omega) (by
   rw[show loOf (nx (txt [113,52,115]) 0)=0 by decide +kernel,show hiOf (nx (txt [113,52,115])) 3 0=4 by decide +kernel]
   exact⟨rfl,by simp[num],by simp[num];omega⟩)
  rw[if_neg (by omega),if_pos hq.1,show (num (l.length:Int)).1.toNat=l.length by simp[num]]at hh
  have:=agP (E:=eat (nx (txt [113,52,115])) 3) (q:=0+2) (b:=true) (P:=fun x=>x.1=0∧x.2.size≤14) (fun x r hx=>anu hq.2 hx) (l.map fun s=>((0,s):It)) (fun x hx=>by
   obtain⟨s,hs,rfl⟩:=List.mem_map.1 hx
   exact⟨rfl,h s hs⟩)
  rw[List.length_map]at this
  exact aig hh this
 have hb:=ae7 (l.map fun s=>((0,s):It)) (fun x hx=>by
  obtain⟨s,hs,rfl⟩:=List.mem_map.1 hx
  exact h s hs)
 rw[List.length_map]at hb
 have hl:(bytesOf (false :: List.replicate l.length true) (num l.length :: l.map fun s=>(0,s))).length=2+(bytesOf (List.replicate l.length true) (l.map fun s=>(0,s))).length:=by
  simp[bytesOf,enc8,V.two8]
  omega
 exact⟨_,acX (by decide +kernel) he (by omega),by omega⟩
abbrev deskB:ByteArray:=txt [117,40,98,113,51,105,41]
theorem aii:nx deskB 0=117∧nx deskB 2=98∧nx deskB 3=113∧nx deskB 5=105∧Pt.kids (nx deskB) 7 0=[2,3]∧hiOf (nx deskB) 7 0=1:=by decide +kernel
theorem apR:∃rb,bytesP deskB [num 0,num 0]=some rb∧1≤rb.length:=by
 obtain⟨a0,a2,a3,a5,ak,ah⟩:=aii
 have he:eat (nx deskB) (deskB.size+1) 0 [num 0,num 0]=some ([false,false],[]):=by
  rw[show deskB.size+1=7+1 from rfl]
  have hh:=acT (g:=nx deskB) (f:=7) (p:=0) (x:=num 0) (r:=[num 0]) (by omega) (by omega) (by omega) (by rw[a0,ah];exact⟨rfl,by decide,by decide⟩)
  rw[if_pos a0,ak,show partOf [2,3] (num 0).1=2 by decide +kernel]at hh
  refine aig (k1:=[false]) hh ?_
  simp only[seqE]
  rw[acE (f:=6) (by omega) (by omega) (by omega) (by omega) (by omega) (by rw[a2,show hiOf (nx deskB) 6 2=1 by decide +kernel];exact⟨rfl,by decide,by decide⟩)]
  rfl
 exact⟨_,acX (by decide +kernel) he (by simp[bytesOf,enc8,V.two8]),by simp[bytesOf,enc8,V.two8]⟩
theorem apQ{l:List It}(h3:l.length≤3)(h:∀x∈l,adh (-32768) 32767 x):∃rb,bytesP deskB (num 1 :: num l.length :: l)=some rb∧1≤rb.length:=by
 obtain⟨a0,a2,a3,a5,ak,ah⟩:=aii
 have a6:nx deskB (3+2)=105:=a5
 have he:eat (nx deskB) (deskB.size+1) 0 (num 1 :: num l.length :: l)=some (false :: false :: List.replicate l.length false,[]):=by
  rw[show deskB.size+1=7+1 from rfl]
  have hh:=acT (g:=nx deskB) (f:=7) (p:=0) (x:=num 1) (r:=num l.length :: l) (by omega) (by omega) (by omega) (by rw[a0,ah];exact⟨rfl,by decide,by decide⟩)
  rw[if_pos a0,ak,show partOf [2,3] (num 1).1=3 by decide +kernel]at hh
  refine aig (k1:=false :: List.replicate l.length false) hh ?_
  simp only[seqE]
  have hh2:=acT (g:=nx deskB) (f:=6) (p:=3) (x:=num l.length) (r:=l) (by omega) (by omega) (by omega) (by rw[a3,show hiOf (nx deskB) 6 3=3 by decide +kernel];exact⟨rfl,by simp[num,loOf],by simp[num];omega⟩)
  rw[if_neg (by omega),if_pos a3,show (num (l.length:Int)).1.toNat=l.length by simp[num]]at hh2
  have:=agP (E:=eat (nx deskB) 6) (q:=3+2) (b:=false) (P:=adh (-32768) 32767) (fun x r hx=>acE (f:=5) (by omega) (by omega) (by omega) (by omega) (by omega) (by rw[show loOf (nx deskB (3+2))=-32768 by decide +kernel,show hiOf (nx deskB) 5 (3+2)=32767 by decide +kernel];exact hx)) l h
  rw[aig (f:=6) hh2 this]
  simp[joinE]
 have hb:=aei l
 have hl:(bytesOf (false :: false :: List.replicate l.length false) (num 1 :: num l.length :: l)).length=4+(bytesOf (List.replicate l.length false) l).length:=by
  simp[bytesOf,enc8,V.two8]
  omega
 exact⟨_,acX (by decide +kernel) he (by omega),by omega⟩
theorem counted_range:∀(l:List En) (n:Int),0≤n∧n≤65535→0≤countedP l n∧countedP l n≤65535
 |[],n,h=>h
 |e :: l,n,h=>by
  simp only[countedP]
  refine counted_range l _ ?_
  split
  ·omega
  ·split
   ·omega
   ·exact h
theorem posted_len(l:List En):(postedP l).length≤4:=by
 simp only[postedP,List.length_drop]
 omega
theorem aqt{e:En}{f t:ByteArray}(h:sigP 1 e.proc=some (f,t))(h0:e.proc=0):f=txt [115]:=by
 rw[h0]at h
 simp[sigP]at h
 exact h.1.symm
theorem aqu{proc:Int}{f t:ByteArray}(h:sigP 2 proc=some (f,t)):f=deskA∧t=deskB∧proc=0:=by
 unfold sigP at h
 simp at h
 exact⟨h.2.1.symm,h.2.2.symm,h.1⟩
abbrev LogArgs(kind:Int)(l:List En):Prop:=∀e∈l,∃f t b,sigP kind e.proc=some (f,t)∧bytesP f e.arg=some b
theorem afZ{l:List En}(h:LogArgs 1 l):∀s∈postedP l,s.size≤14:=fun s hs=>by
 have hm:=List.mem_of_mem_drop hs
 obtain⟨e,he,rfl⟩:=List.mem_map.1 hm
 obtain⟨he,h0⟩:=List.mem_filter.1 he
 obtain⟨f,t,b,h1,h2⟩:=h e he
 rw[aqt h1 (by simpa using h0)]at h2
 obtain⟨x,hx,_,h3⟩:=arg_s h2
 simp[argS,hx,h3]
theorem laid_small:∀(l:List En),LogArgs 2 l→∀(d:Int) (was:List It),(was.length≤3∧∀x∈was,adh (-32768) 32767 x)→(laidP l d was).length≤3∧∀x∈laidP l d was,adh (-32768) 32767 x
 |[],_,d,was,h=>h
 |e :: l,hl,d,was,h=>by
  simp only[laidP]
  refine laid_small l (fun x hx=>hl x (by simp[hx])) d _ ?_
  split
  ·obtain⟨f,t,b,h1,h2⟩:=hl e (by simp)
   rw[(aqu h1).1]at h2
   obtain⟨dd,k,a,g1,g2,g3,g4,g5⟩:=arg_d h2
   rw[g1]
   simp only[List.drop_succ_cons,List.drop_zero]
   have:=g3.2.2
   exact⟨by omega,g5⟩
  ·exact h
theorem does_ok{kind:Int}{log:List En}{proc:Int}{arg:List It}{f t:ByteArray}{bs:List UInt8}(hs:sigP kind proc=some (f,t))(hb:bytesP f arg=some bs)(hl:∀e∈log,∃f t b,sigP kind e.proc=some (f,t)∧bytesP f e.arg=some b):∃rb,bytesP t (doesP kind log proc arg)=some rb∧1≤rb.length:=by
 have hc:=counted_range log 0 (by decide)
 have hp4:=posted_len log
 unfold sigP at hs
 split at hs
 ·rename_i h
  cases hs
  rw[h.1,h.2]
  refine aoq ⟨rfl,?_,?_⟩ <;> simp[num] <;> omega
 ·split at hs
  ·rename_i h
   cases hs
   rw[h.1,h.2]
   refine aoq ⟨rfl,?_,?_⟩ <;> simp[num] <;> omega
  ·split at hs
   ·rename_i h
    cases hs
    rw[h.1,h.2]
    refine aoq ⟨rfl,?_,?_⟩ <;> simp[num] <;> omega
   ·split at hs
    ·rename_i h
     cases hs
     obtain⟨rfl,rfl⟩:=h
     have hsm:=afZ hl
     exact aqx (l:=(postedP log).take (argN arg 0).toNat) (by rw[List.length_take];omega) (fun s hs=>hsm s (List.mem_of_mem_take hs))
    ·split at hs
     ·rename_i h
      cases hs
      obtain⟨rfl,rfl⟩:=h
      have hla:=laid_small log hl (argN arg 0) [] (by simp)
      unfold doesP
      simp only
      rw[if_neg (by decide),if_neg (by decide)]
      split
      ·exact apR
      ·exact apQ hla.1 hla.2
     ·cases hs
theorem agc{G:Wd}{name:List UInt8}{k:Nat}(h:entryP G name=some k):G.names[k]?=some name:=by
 unfold entryP at h
 rw[List.findIdx?_eq_some_iff_getElem]at h
 obtain⟨hl,e,_⟩:=h
 rw[List.getElem?_eq_getElem hl]
 simpa using e
theorem alg{G:Wd}{name:List UInt8}(h:entryP G name=none):name ∉ G.names:=by
 unfold entryP at h
 rw[List.findIdx?_eq_none_iff]at h
 intro hm
 simpa using h name hm
theorem Wf.ends{G:Wd}(h:Wf G)(uid:Int):Wf (adu G uid):=by
 refine⟨h.cf,h.ncl,fun i c hc=>?_,h.fly,h.flys,by simpa [adu] using h.sv,fun s hs=>?_,h.nm,h.st,h.nd,fun u hu=>?_⟩
 ·have q:=h.cl i c hc
  exact⟨q.lines,q.life,fun u hu=>by simpa [adu] using q.bound u hu,q.line⟩
 ·obtain⟨j,hj⟩:=List.mem_iff_getElem?.1 hs
  simp only[adu,List.getElem?_modify]at hj
  cases hg:G.services[j]? with
  |none=>rw[hg]at hj;cases hj
  |some s0=>
   rw[hg]at hj
   have hk:=h.svk s0 (List.mem_of_getElem? hg)
   have hj':=Option.some.inj hj
   rw[←hj']
   split <;> exact hk
 ·simpa [adu] using h.sts u hu
theorem Wf.serve{G:Wd}(h:Wf G){kind:Int}(hk:0≤kind∧kind≤2)(hs:G.services.length<255){nm:List (List UInt8)}{st:List Int}(h6:nm.length≤6)(hst:st.length=nm.length)(hnd:nm.Nodup)(hsts:∀u∈st,1≤u∧u≤(G.services.length:Int)+1):Wf {G with names:=nm,stands:=st,services:=G.services++[⟨kind,true,[]⟩]}:=by
 refine⟨h.cf,h.ncl,fun i c hc=>?_,h.fly,h.flys,by simp only[List.length_append,List.length_singleton];omega,fun s hs'=>?_,h6,hst,hnd,fun u hu=>?_⟩
 ·have q:=h.cl i c hc
  refine⟨q.lines,q.life,fun u hu=>?_,q.line⟩
  have:=q.bound u hu
  simp only[List.length_append,List.length_singleton]
  omega
 ·rcases List.mem_append.1 hs' with q|q
  ·exact h.svk s q
  ·rw[List.mem_singleton.1 q]
   exact hk
 ·have:=hsts u hu
  simp only[List.length_append,List.length_singleton]
  omega
theorem Wf.export{G:Wd}(h:Wf G)(name:List UInt8)(kind:Int):Wf (exportP G name kind).2:=by
 unfold exportP
 split
 ·exact h
 ·split
  ·exact h
  ·rename_i hk
   split
   ·rename_i he
    split
    ·exact h
    ·split
     ·exact h
     ·rename_i h6 hs
      have h6':=h.nm
      have hs':=h.sv
      refine h.serve (by omega) (by omega) (by simp only[List.length_append,List.length_singleton];omega) (by simp[h.st]) ?_ (fun u hu=>?_)
      ·rw[List.nodup_append]
       refine⟨h.nd,by simp,fun a ha b hb=>?_⟩
       rw[List.mem_singleton.1 hb]
       intro e
       exact alg he (e ▸ ha)
      ·rcases List.mem_append.1 hu with q|q
       ·have:=h.sts u q
        omega
       ·rw[List.mem_singleton.1 q]
        omega
   ·rename_i k he
    split
    ·exact h
    ·rename_i hs
     have hs':=h.sv
     have hE:=h.ends (G.stands.getD k 0)
     have hl:(adu G (G.stands.getD k 0)).services.length=G.services.length:=by simp[adu]
     have:=hE.serve (kind:=kind) (nm:=G.names) (st:=G.stands.set k ((G.services.length:Int)+1)) (by omega) (by rw[hl];omega) h.nm (by rw[List.length_set];exact h.st) h.nd (fun u hu=>by
      rw[hl]
      rcases List.mem_or_eq_of_mem_set hu with q|q
      ·have:=h.sts u q
       omega
      ·rw[q]
       omega)
     exact this
theorem Wf.imports{G:Wd}(h:Wf G)(client:Int)(name:List UInt8):Wf (importP G client name).2:=by
 unfold importP
 split
 ·exact h
 ·split
  ·exact h
  ·rename_i k he
   refine⟨h.cf,by simpa using h.ncl,fun i c hc=>?_,h.fly,h.flys,h.sv,h.svk,h.nm,h.st,h.nd,h.sts⟩
   simp only[List.getElem?_modify]at hc
   cases hg:G.clients[i]? with
   |none=>rw[hg]at hc;cases hc
   |some c0=>
    rw[hg]at hc
    have q:=h.cl i c0 hg
    have hc':=Option.some.inj hc
    rw[←hc']
    split
    ·refine⟨q.lines,q.life,fun u hu=>?_,q.line⟩
     rcases List.mem_append.1 hu with r|r
     ·exact q.bound u r
     ·rw[List.mem_singleton.1 r]
      have hk:=(List.getElem?_eq_some_iff.1 (agc he)).1
      have hk2:k<G.stands.length:=by rw[h.st];exact hk
      have:G.stands.getD k 0∈G.stands:=by
       rw[List.getD_eq_getElem?_getD,List.getElem?_eq_getElem hk2]
       exact List.getElem_mem hk2
      exact h.sts _ this
    ·exact⟨q.lines,q.life,q.bound,q.line⟩
end Go.Proofs.YtblomippkddgiaaGreatDoor.R
