import Derived.Test.YtblomippkddgiaaGreatDoorJ09
import Derived.Test.YtblomippkddgiaaGreatDoorJ11
namespace Go.Proofs.YtblomippkddgiaaGreatDoor.R
def restP(w:Wd)(client line:Int):Wd:=setLine w client line {lineP w client line with wait:=w.c.retry,tries:=w.c.tries}
def gotP(w:Wd)(client:Int)(p:Pk):Wd:=
 let l:=lineP w client p.line
 sendP w (-1) ⟨6,client,lifeP w client,p.line,l.seq,l.uid,p.part,p.off,false,[]⟩
def resultP(w:Wd)(client:Int)(p:Pk):Wd:=
 let l:=lineP w client p.line
 let n:=piecesP l.message
 if l.acked<n-1∨l.pieces<p.part then w
 else if p.part=l.pieces then
  if l.pieces+1=p.off then setLine w client p.line {l with came:=l.came++p.body,pieces:=l.pieces+1,acked:=n,result:=(V.uFull l.to (l.came++p.body)).2,state:=2}
  else restP (gotP (setLine w client p.line {l with came:=l.came++p.body,pieces:=l.pieces+1,acked:=n}) client p) client p.line
 else gotP w client p
def heardP(w:Wd)(client:Int)(p:Pk):Wd:=
 let l:=lineP w client p.line
 if l.state≠1∨p.life≠lifeP w client∨p.seq≠l.seq then w
 else if p.kind=2 then
  if p.part=l.acked then
   let w1:=setLine w client p.line {l with acked:=l.acked+1}
   restP (if l.acked+1<piecesP l.message then sendPieceP w1 client p.line false else w1) client p.line
  else w
 else if p.kind=4 then restP w client p.line
 else if p.kind=5 then resultP w client p
 else if p.kind=7 then setLine w client p.line {l with state:=4+p.part}
 else w
def replyP(w:Wd)(p:Pk)(kind k of':Int):Wd:=sendP w p.client ⟨kind,p.client,p.life,p.line,p.seq,p.uid,k,of',false,[]⟩
def tellP(w:Wd)(i:Nat):Wd:=
 let w1:=sendResultP w i
 let r:=seenP w1 i
 setSeen w1 i {r with timed:=decide (8*r.at'+8<(r.result.length:Int)),wait:=w.c.retry,tries:=w.c.tries}
def aliveP(w:Wd)(uid:Int):Bool:=decide (1≤uid)&&((w.services[(uid-1).toNat]?).map (·.alive)).getD false
def rememberedP(w:Wd):Nat:=(w.seen.filter fun r=>decide (0<r.seq)).length
def ackP(w:Wd)(p:Pk):Wd:=if p.please=true then replyP w p 2 p.part p.off else w
def gatherP(w:Wd)(i:Nat)(p:Pk):Wd:=
 let r:=seenP w i
 if p.part=r.pieces then
  if p.part=p.off-1 then
   if w.c.table≤(w.jobs.length:Int) then w
   else ackP {setSeen w i {r with state:=2,message:=r.message++p.body,pieces:=r.pieces+1} with jobs:=w.jobs++[⟨p.client,p.line,p.life,p.seq,p.uid⟩]} p
  else ackP (setSeen w i {r with message:=r.message++p.body,pieces:=r.pieces+1}) p
 else ackP w p
def knownP(w:Wd)(i:Nat)(p:Pk):Wd:=
 let r:=seenP w i
 if r.state=1 then (if p.kind=1∧p.part≤r.pieces then gatherP w i p else w)
 else if r.state=4 then replyP w p 7 0 2
 else if p.please=false then w
 else if r.state=3 then tellP w i
 else if p.kind=3 then replyP w p 4 0 1
 else replyP w p 2 p.part p.off
def livesP(w:Wd)(p:Pk):Wd:=
 if (w.lives.getD p.client.toNat 0)<p.life then {w with lives:=w.lives.set p.client.toNat p.life,seen:=((w.seen.set (3*p.client.toNat) sn0).set (3*p.client.toNat+1) sn0).set (3*p.client.toNat+2) sn0} else w
def askP(w:Wd)(i:Nat)(p:Pk):Wd:=
 let r:=seenP w i
 if p.kind=6 then
  if r.seq=p.seq∧r.state=3∧p.off=piecesP r.result∧p.part=r.at'∧r.at'<piecesP r.result-1 then tellP (setSeen w i {r with at':=r.at'+1}) i else w
 else if r.seq=p.seq then knownP w i p
 else if p.seq<r.seq then w
 else if aliveP w p.uid=false then replyP w p 7 0 2
 else if p.kind=3∨p.part≠0 then w
 else if r.seq=0∧w.c.table≤(rememberedP w:Int) then replyP w p 7 1 2
 else knownP (setSeen w i {sn0 with seq:=p.seq,uid:=p.uid,state:=1}) i p
def askedP(w:Wd)(p:Pk):Wd:=
 if p.life<w.lives.getD p.client.toNat 0 then w else askP (livesP w p) (3*p.client.toNat+p.line.toNat) p
def deliverP(w:Wd)(i:Int):Int×Wd:=if off w i then (9,w) else match w.flying[i.toNat]? with
 |none=>(9,w)
 |some f=>
  let w1:={w with flying:=w.flying.eraseIdx i.toNat}
  (0,if f.bent=true then w1 else match abn f.s with
   |none=>w1
   |some p=>if f.to=-1 then askedP w1 p else heardP w1 f.to p)
def argN(v:List It)(k:Nat):Int:=((v[k]?).map (·.1)).getD 0
def argS(v:List It)(k:Nat):ByteArray:=((v[k]?).map (·.2)).getD ⟨#[]⟩
def countedP:List En→Int→Int
 |[],n=>n
 |e :: es,n=>countedP es (if e.proc=0 then (n+argN e.arg 0+65536) % 65536 else if argN e.arg 0=1 then 0 else n)
def postedP(l:List En):List ByteArray:=
 let out:=(l.filter fun e=>decide (e.proc=0)).map fun e=>argS e.arg 0
 out.drop (out.length-4)
def laidP:List En→Int→List It→List It
 |[],_,was=>was
 |e :: es,d,was=>laidP es d (if argN e.arg 0=d then e.arg.drop 2 else was)
def num(n:Int):It:=(n,⟨#[]⟩)
def doesP(kind:Int)(l:List En)(proc:Int)(arg:List It):List It:=
 if kind=0 then [num (if proc=0 then (countedP l 0+argN arg 0+65536) % 65536 else countedP l 0)]
 else if kind=1 then
  if proc=0 then [num (min 4 (((postedP l).length:Int)+1))]
  else let b:=(postedP l).take (argN arg 0).toNat;num b.length :: b.map fun s=>(0,s)
 else
  let was:=laidP l (argN arg 0) []
  if was.length=0 then [num 0,num 0] else num 1 :: num was.length :: was
def doneP(w:Wd)(i:Nat):Wd:=
 let r:=seenP w i
 let k:=(r.uid-1).toNat
 let s:=(w.services[k]?).getD ⟨0,false,[]⟩
 let proc:=256*((r.message.getD 0 0).toNat:Int)+((r.message.getD 1 0).toNat:Int)
 let t:=(sigP s.kind proc).getD (⟨#[]⟩,⟨#[]⟩)
 let arg:=(V.uFull t.1 (r.message.drop 2)).2
 let out:=doesP s.kind s.log proc arg
 let w1:={w with services:=w.services.set k {s with log:=s.log++[⟨((i / 3:Nat):Int),w.lives.getD (i / 3) 0,((i % 3:Nat):Int),r.seq,proc,arg,out⟩]}}
 tellP (setSeen w1 i {r with state:=3,result:=(bytesP t.2 out).getD [],at':=0}) i
def waitsP(w:Wd)(j:Jb):Prop:=(seenP w (3*j.client.toNat+j.line.toNat)).state=2∧(seenP w (3*j.client.toNat+j.line.toNat)).seq=j.seq∧w.lives.getD j.client.toNat 0=j.life
instance (w:Wd) (j:Jb):Decidable (waitsP w j):=by unfold waitsP;infer_instance
def serveGo(w:Wd):List Jb→Int×Wd
 |[]=>(19,{w with jobs:=[]})
 |j :: js=>if waitsP w j then (0,doneP {w with jobs:=js} (3*j.client.toNat+j.line.toNat)) else serveGo w js
def serveP(w:Wd):Int×Wd:=serveGo w w.jobs
def madeP(w:Wd)(uid:Int):Prop:=1≤uid∧uid≤(w.services.length:Int)
instance (w:Wd) (uid:Int):Decidable (madeP w uid):=by unfold madeP;infer_instance
def logOf(w:Wd)(uid:Int):List En:=((w.services[(uid-1).toNat]?).map (·.log)).getD []
def logP(w:Wd)(uid:Int):Int×Int:=if madeP w uid then ((logOf w uid).length,0) else (0,9)
def entryAtP(w:Wd)(uid k:Int):Option En:=if madeP w uid∧0≤k then (logOf w uid)[k.toNat]? else none
end Go.Proofs.YtblomippkddgiaaGreatDoor.R
namespace Go.Proofs.YtblomippkddgiaaGreatDoor.V
open Go.RowKit
def behindOf(g:Nat→Nat)(f p:Nat)(t:Int):List Nat:=if g p=117 then [partOf (Pt.kids g f p) t] else if g p=113 then List.replicate t.toNat (p+2) else []
theorem ae6{σ:Type}(num:Int→Int→σ→Option (Int×σ))(txt:σ→Option σ)(g:Nat→Nat)(f p:Nat)(h1:¬g p=115)(h2:¬g p=97)(h3:¬g p=114) :
  carryP num txt g (f+1) p=fun x=>(num (loOf (g p)) (hiOf g f p) x).bind fun r=>seqC (carryP num txt g f) (behindOf g f p r.1) r.2:=by
 funext x
 simp only[carryP,if_neg h1,if_neg h2,if_neg h3,behindOf]
 congr 1
 funext r
 split
 ·simp only[seqC]
  cases carryP num txt g f (partOf (Pt.kids g f p) r.1) r.2 <;> rfl
 ·split
  ·rfl
  ·rfl
def Ret(E:List It→Eaten)(G:RSt→Option RSt):Prop:=∀v ks r,E v=some (ks,r)→abh ks v→∀e it,G (bytesOf ks v++e,it)=some (e,it++v.take ks.length)
theorem aja{k1 k2:List Bool}{v:List It}(h:abh (k1++k2) v):abh k1 v:=fun i k x hk hx=>h i k x (by rw[List.getElem?_append_left (List.getElem?_eq_some_iff.1 hk).1];exact hk) hx
theorem ahd{k1 k2:List Bool}{v:List It}(h:abh (k1++k2) v):abh k2 (v.drop k1.length):=fun i k x hk hx=>h (k1.length+i) k x (by rw[List.getElem?_append_right (by omega),Nat.add_sub_cancel_left];exact hk) (by rw[List.getElem?_drop]at hx;exact hx)
theorem aon{E:Nat→List It→Eaten}{G:Nat→RSt→Option RSt}:∀qs:List Nat,(∀q∈qs,ajK (E q))→(∀q∈qs,Ret (E q) (G q))→Ret (seqE E qs) (seqC G qs):=by
 intro qs
 induction qs with
 |nil=>
  intro _ _ v ks r h _ e it
  simp only[seqE,Option.some.injEq,Prod.mk.injEq]at h
  obtain⟨rfl,rfl⟩:=h
  simp[seqC,bytesOf]
 |cons q qs ih=>
  intro hH hR v ks r h hK e it
  simp only[seqE]at h
  cases hE:E q v with
  |none=>rw[hE]at h;cases h
  |some a=>
   obtain⟨k1,r1⟩:=a
   rw[hE]at h
   simp only at h
   cases hS:seqE E qs r1 with
   |none=>rw[hS]at h;cases h
   |some a=>
    obtain⟨k2,r2⟩:=a
    rw[hS]at h
    simp only[joinE,Option.some.injEq,Prod.mk.injEq]at h
    obtain⟨rfl,rfl⟩:=h
    obtain⟨h1,h2⟩:=hH q (List.mem_cons_self ..) v k1 r1 hE
    subst h1
    rw[acy k1 k2 v h2,List.append_assoc]
    simp only[seqC]
    rw[hR q (List.mem_cons_self ..) v k1 _ hE (aja hK)]
    show seqC G qs _=_
    rw[ih (fun q' h'=>hH q' (List.mem_cons_of_mem _ h')) (fun q' h'=>hR q' (List.mem_cons_of_mem _ h')) _ k2 r2 hS (ahd hK)]
    rw[List.length_append,List.take_add,List.append_assoc]
theorem af3(n:Int):∃a c:UInt8,two8 n=[a,c]∧(num2 a c:Int)=n % 65536:=by
 refine⟨_,_,rfl,?_⟩
 have h1:(0:Int)≤n % 65536 / 256:=by omega
 have h2:n % 65536 / 256≤255:=by omega
 have h3:(0:Int)≤n % 256:=by omega
 have h4:n % 256≤255:=by omega
 have b1:=aaA h1 h2
 have b2:=aaA h3 h4
 unfold num2
 omega
theorem aom(E:List It→Eaten)(hE:∀v ks r,E v=some (ks,r)→∃x,v=x :: r∧ks=[true]∧x.1=0∧x.2.size≤14):Ret E rTxt:=by
 intro v ks r h _ e it
 obtain⟨x,rfl,rfl,h0,h14⟩:=hE v ks r h
 obtain⟨a,c,hac,hn⟩:=af3 (x.2.size:Int)
 have hn':num2 a c=x.2.size:=by omega
 have hb:bytesOf [true] (x :: r)=a :: c :: (x.2.data.toList++(if x.2.size % 2=1 then [0] else [])):=by
  simp only[bytesOf,enc8,if_true,hac]
  simp
 have hl:x.2.data.toList.length=x.2.size:=by simp
 have hx:(0,str x.2.data.toList)=x:=by
  obtain⟨x0,x1⟩:=x
  simp only at h0
  subst h0
  simp
 rw[hb]
 simp only[List.cons_append,rTxt,hn']
 rw[if_pos ⟨h14,by simp only[List.length_append,hl];omega⟩]
 have htk:(x.2.data.toList++(if x.2.size % 2=1 then [0] else [])++e).take x.2.size=x.2.data.toList:=by
  rw[List.append_assoc,←hl,List.take_left]
 have hdr:(x.2.data.toList++(if x.2.size % 2=1 then [0] else [])++e).drop x.2.size=(if x.2.size % 2=1 then [0] else [])++e:=by
  rw[List.append_assoc,←hl,List.drop_left]
 rw[htk,hdr,hx]
 by_cases h2:x.2.size % 2=0
 ·rw[if_pos h2,if_neg (by omega)]
  simp
 ·rw[if_neg h2,if_pos (by omega)]
  simp
theorem aoo(lo hi:Int)(hlh:lo=0∨(lo=-32768∧hi=32767))(E:List It→Eaten)(E':Int→List It→Eaten)(G:Int→RSt→Option RSt)
  (hE:∀v ks r,E v=some (ks,r)→∃x r' k',v=x :: r'∧ks=false :: k'∧x.2.size=0∧lo≤x.1∧x.1≤hi∧E' x.1 r'=some (k',r)) (h:∀t,Ret (E' t) (G t)) :
  Ret E (fun x=>(rNum lo hi x).bind fun r=>G r.1 r.2):=by
 intro v ks r hEv hK e it
 obtain⟨x,r',k',rfl,rfl,hs0,hlo,hhi,hE'⟩:=hE v ks r hEv
 obtain⟨a,c,hac,hn⟩:=af3 x.1
 have hr:=(hK 0 false x rfl rfl).2 rfl
 have ht:abx lo hi (num2 a c)=x.1:=by
  unfold abx
  rcases hlh with h0|⟨h0,h1⟩
  ·rw[if_neg (by omega)]
   omega
  ·split <;> omega
 have hb:bytesOf (false :: k') (x :: r')=a :: c :: bytesOf k' r':=by
  simp[bytesOf,enc8,hac]
 have hx:(x.1,(⟨#[]⟩:ByteArray))=x:=by
  obtain⟨x0,x1⟩:=x
  simp only at hs0
  have:x1=⟨#[]⟩:=by
   apply ByteArray.ext
   apply Array.eq_empty_of_size_eq_zero
   exact hs0
  rw[this]
 rw[hb]
 simp only[List.cons_append,rNum,ht]
 rw[if_neg (by omega),hx]
 simp only[Option.bind_some]
 have hK':abh k' r':=fun i k y hk hy=>hK (i+1) k y (by simpa using hk) (by simpa using hy)
 rw[h x.1 r' k' r hE' hK' e (it++[x])]
 simp
theorem aop(g:Nat→Nat):∀f p,Ret (eat g f p) (carryP rNum rTxt g f p):=by
 intro f
 induction f with
 |zero=>intro p v ks r h;simp[eat]at h
 |succ f ih=>
  intro p
  have sq:=fun qs=>aon (E:=eat g f) (G:=carryP rNum rTxt g f) qs (fun q _=>eat_heads g f q) (fun q _=>ih q)
  by_cases ha:g p=97
  ·have e1:carryP rNum rTxt g (f+1) p=seqC (carryP rNum rTxt g f) (List.replicate (g (p+1)-48) (p+2)):=by funext x;simp[carryP,ha]
   have e2:eat g (f+1) p=seqE (eat g f) (List.replicate (g (p+1)-48) (p+2)):=by
    funext v
    have hh:headOf g f p v=some ([],List.replicate (g (p+1)-48) (p+2),v):=by simp[headOf,ha]
    rw[abp hh,acS]
   rw[e1,e2]
   exact sq _
  ·by_cases hr:g p=114
   ·have e1:carryP rNum rTxt g (f+1) p=seqC (carryP rNum rTxt g f) (Pt.kids g f p):=by funext x;simp[carryP,hr]
    have e2:eat g (f+1) p=seqE (eat g f) (Pt.kids g f p):=by
     funext v
     have hh:headOf g f p v=some ([],Pt.kids g f p,v):=by simp[headOf,hr]
     rw[abp hh,acS]
    rw[e1,e2]
    exact sq _
   ·by_cases hs:g p=115
    ·have e1:carryP rNum rTxt g (f+1) p=rTxt:=by funext x;simp[carryP,hs]
     rw[e1]
     refine aom _ fun v ks r h=>?_
     cases v with
     |nil=>simp[eat,headOf,ha,hr]at h
     |cons x v=>
      by_cases hok:x.1=0∧x.2.size≤14
      ·have hh:headOf g f p (x :: v)=some ([true],[],v):=by simp[headOf,hs,hok]
       rw[abp hh]at h
       simp only[seqE,joinE,List.append_nil,Option.some.injEq,Prod.mk.injEq]at h
       obtain⟨rfl,rfl⟩:=h
       exact⟨x,rfl,rfl,hok.1,hok.2⟩
      ·have hh:headOf g f p (x :: v)=none:=by
        simp only[headOf,hs]
        simp
        omega
       rw[acn hh]at h
       cases h
    ·rw[ae6 _ _ _ _ _ hs ha hr]
     have hlh:loOf (g p)=0∨(loOf (g p)=-32768∧hiOf g f p=32767):=by
      by_cases h5:g p=105
      ·exact Or.inr ⟨by simp[loOf,h5],by simp[hiOf,h5]⟩
      ·exact Or.inl (by simp[loOf,h5])
     refine aoo _ _ hlh _ (fun t=>seqE (eat g f) (behindOf g f p t)) (fun t=>seqC (carryP rNum rTxt g f) (behindOf g f p t)) (fun v ks r h=>?_) fun t=>sq _
     cases v with
     |nil=>simp[eat,headOf,ha,hr]at h
     |cons x v=>
      by_cases hok:x.2.size=0∧loOf (g p)≤x.1∧x.1≤hiOf g f p
      ·have hh:headOf g f p (x :: v)=some ([false],behindOf g f p x.1,v):=by
        simp only[headOf,if_neg ha,if_neg hr,if_neg hs,behindOf]
        rw[if_pos hok]
       rw[abp hh]at h
       cases hS:seqE (eat g f) (behindOf g f p x.1) v with
       |none=>rw[hS]at h;cases h
       |some a=>
        obtain⟨k',r'⟩:=a
        rw[hS]at h
        simp only[joinE,Option.some.injEq,Prod.mk.injEq]at h
        obtain⟨rfl,rfl⟩:=h
        exact⟨x,v,k',rfl,rfl,hok.1,hok.2.1,hok.2.2,hS⟩
      ·have hh:headOf g f p (x :: v)=none:=by
        simp only[headOf,if_neg ha,if_neg hr,if_neg hs]
        rw[if_neg hok]
       rw[acn hh]at h
       cases h
def Ext(G:RSt→Option RSt):Prop:=∀l it l' it',G (l,it)=some (l',it')→∀e,G (l++e,it)=some (l'++e,it')
theorem aoV{G:Nat→RSt→Option RSt}:∀qs:List Nat,(∀q∈qs,Ext (G q))→Ext (seqC G qs):=by
 intro qs
 induction qs with
 |nil=>
  intro _ l it l' it' h e
  simp only[seqC,Option.some.injEq,Prod.mk.injEq]at h ⊢
  exact⟨by rw[h.1],h.2⟩
 |cons q qs ih=>
  intro hq l it l' it' h e
  simp only[seqC]at h ⊢
  cases hG:G q (l,it) with
  |none=>rw[hG]at h;cases h
  |some a=>
   obtain⟨l1,it1⟩:=a
   rw[hG]at h
   rw[hq q (List.mem_cons_self ..) l it l1 it1 hG e]
   exact ih (fun q' h'=>hq q' (List.mem_cons_of_mem _ h')) l1 it1 l' it' h e
theorem aoW(lo hi:Int)(G:Int→RSt→Option RSt)(h:∀t,Ext (G t)):Ext (fun x=>(rNum lo hi x).bind fun r=>G r.1 r.2):=by
 intro l it l' it' hx e
 match l with
 |[]=>simp[rNum]at hx
 |[a]=>simp[rNum]at hx
 |a :: c :: r=>
  simp only[rNum,List.cons_append]at hx ⊢
  split at hx
  ·cases hx
  ·rename_i hb
   rw[if_neg hb]
   exact h _ _ _ _ _ hx e
theorem aoU:Ext rTxt:=by
 intro l it l' it' hx e
 match l with
 |[]=>simp[rTxt]at hx
 |[a]=>simp[rTxt]at hx
 |a :: c :: r=>
  simp only[rTxt,List.cons_append]at hx ⊢
  generalize num2 a c=n at hx ⊢
  split at hx
  ·rename_i hb
   rw[if_pos ⟨hb.1,by rw[List.length_append];omega⟩,List.take_append_of_le_length hb.2,List.drop_append_of_le_length hb.2]
   split at hx
   ·rename_i h2
    rw[if_pos h2]
    cases hx
    rfl
   ·rename_i h2
    rw[if_neg h2]
    cases hd:r.drop n with
    |nil=>rw[hd]at hx;cases hx
    |cons p r'=>
     rw[hd]at hx
     simp only[List.cons_append]at hx ⊢
     split at hx
     ·rename_i hp
      rw[if_pos hp]
      cases hx
      rfl
     ·cases hx
  ·cases hx
theorem aoX(g:Nat→Nat):∀f p,Ext (carryP rNum rTxt g f p):=by
 intro f
 induction f with
 |zero=>intro p l it l' it' h;simp[carryP]at h
 |succ f ih=>
  intro p
  have sq:=fun qs=>aoV (G:=carryP rNum rTxt g f) qs (fun q _=>ih q)
  by_cases hs:g p=115
  ·rw[show carryP rNum rTxt g (f+1) p=rTxt by funext x;simp[carryP,hs]]
   exact aoU
  ·by_cases ha:g p=97
   ·rw[show carryP rNum rTxt g (f+1) p=seqC (carryP rNum rTxt g f) (List.replicate (g (p+1)-48) (p+2)) by funext x;simp[carryP,ha]]
    exact sq _
   ·by_cases hr:g p=114
    ·rw[show carryP rNum rTxt g (f+1) p=seqC (carryP rNum rTxt g f) (Pt.kids g f p) by funext x;simp[carryP,hr]]
     exact sq _
    ·rw[ae6 _ _ _ _ _ hs ha hr]
     exact aoW _ _ _ fun t=>sq _
theorem an8(s:ByteArray)(v:List It)(ks:List Bool)(hc:(Pt.chk (nx s) s.size).1=0)(he:eat (nx s) (s.size+1) 0 v=some (ks,[]))(hK:aql ks v)(hl:(bytesOf ks v).length≤70) :
  uFull s (bytesOf ks v)=(0,v)∧(∀l b,bytesOf ks v=l++[b]→uFull s l=(6,[]))∧uFull s (bytesOf ks v++[0])=(if (bytesOf ks v).length=70 then 5 else 6,[]):=by
 have hR:=fun e=>aop (nx s) (s.size+1) 0 v ks [] he hK.2 e []
 have htk:v.take ks.length=v:=List.take_of_length_le (by rw[hK.1];exact Nat.le_refl _)
 simp only[htk,List.nil_append]at hR
 have hE:=aoX (nx s) (s.size+1) 0
 have hb:¬70<(bytesOf ks v).length:=by omega
 refine⟨?_,fun l b hlb=>?_,?_⟩
 ·have h:=hR []
  rw[List.append_nil]at h
  simp[uFull,hc,uRes,hb,h]
 ·have hll:¬70<l.length:=by
   have:=congrArg List.length hlb
   rw[List.length_append]at this
   omega
  simp only[uFull,hc,if_true,uRes,if_neg hll]
  cases hr:carryP rNum rTxt (nx s) (s.size+1) 0 (l,[]) with
  |none=>rfl
  |some a=>
   obtain⟨l',v'⟩:=a
   by_cases h0:l'=[]
   ·subst h0
    have h1:=hE l [] [] v' hr [b]
    rw[←hlb]at h1
    have h2:=hR []
    rw[List.append_nil,h1]at h2
    cases h2
   ·simp[h0]
 ·have h:=hR [0]
  by_cases h70:(bytesOf ks v).length=70
  ·rw[if_pos h70]
   simp[uFull,hc,uRes,h70]
  ·rw[if_neg h70]
   have:¬70<(bytesOf ks v++[0]).length:=by simp;omega
   simp only[uFull,hc,if_true,uRes,if_neg this,h]
   simp
end Go.Proofs.YtblomippkddgiaaGreatDoor.V
