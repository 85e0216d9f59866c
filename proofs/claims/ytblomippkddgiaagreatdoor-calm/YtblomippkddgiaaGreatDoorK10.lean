import Derived.Test.YtblomippkddgiaaGreatDoorK09
namespace Go.Proofs.YtblomippkddgiaaGreatDoor.R
def DN(w:Wd)(client line:Int):Wd:=Al w client line {A7 w client line with wait:=w.c.Be,tries:=w.c.tries}
def GQ(w:Wd)(client:Int)(p:Pk):Wd:=
 let l:=A7 w client p.line
 AU w (-1) ⟨6,client,Kd w client,p.line,l.seq,l.uid,p.part,p.off,false,[]⟩
def DG(w:Wd)(client:Int)(p:Pk):Wd:=
 let l:=A7 w client p.line
 let n:=Ae l.message
 if l.Ah<n-1\/l.pieces<p.part then w
 else if p.part=l.pieces then
  if l.pieces+1=p.off then Al w client p.line {l with came:=l.came++p.body,pieces:=l.pieces+1,Ah:=n,result:=(V.D3 l.to (l.came++p.body)).2,state:=2}
  else DN (GQ (Al w client p.line {l with came:=l.came++p.body,pieces:=l.pieces+1,Ah:=n}) client p) client p.line
 else GQ w client p
def CF(w:Wd)(client:Int)(p:Pk):Wd:=
 let l:=A7 w client p.line
 if l.state≠1\/p.Ag≠Kd w client\/p.seq≠l.seq then w
 else if p.kind=2 then
  if p.part=l.Ah then
   let w1:=Al w client p.line {l with Ah:=l.Ah+1}
   DN (if l.Ah+1<Ae l.message then AA w1 client p.line false else w1) client p.line
  else w
 else if p.kind=4 then DN w client p.line
 else if p.kind=5 then DG w client p
 else if p.kind=7 then Al w client p.line {l with state:=4+p.part}
 else w
def CU(w:Wd)(p:Pk)(kind k of':Int):Wd:=AU w p.client ⟨kind,p.client,p.Ag,p.line,p.seq,p.uid,k,of',false,[]⟩
def DR(w:Wd)(i:Nat):Wd:=
 let w1:=AB w i
 let r:=Ap w1 i
 Av w1 i {r with timed:=decide (8*r.at'+8<(r.result.length:Int)),wait:=w.c.Be,tries:=w.c.tries}
def AO(w:Wd)(uid:Int):Bool:=decide (1<=uid)&&((w.Ac[(uid-1).toNat]?).map (·.alive)).getD false
def A5(w:Wd):Nat:=(w.seen.filter fun r=>decide (0<r.seq)).length
def Iu(w:Wd)(p:Pk):Wd:=if p.please=true then CU w p 2 p.part p.off else w
def Cy(w:Wd)(i:Nat)(p:Pk):Wd:=
 let r:=Ap w i
 if p.part=r.pieces then
  if p.part=p.off-1 then
   if w.c.table<=(w.jobs.length:Int) then w
   else Iu {Av w i {r with state:=2,message:=r.message++p.body,pieces:=r.pieces+1} with jobs:=w.jobs++[⟨p.client,p.line,p.Ag,p.seq,p.uid⟩]} p
  else Iu (Av w i {r with message:=r.message++p.body,pieces:=r.pieces+1}) p
 else Iu w p
def CL(w:Wd)(i:Nat)(p:Pk):Wd:=
 let r:=Ap w i
 if r.state=1 then (if p.kind=1/\p.part<=r.pieces then Cy w i p else w)
 else if r.state=4 then CU w p 7 0 2
 else if p.please=false then w
 else if r.state=3 then DR w i
 else if p.kind=3 then CU w p 4 0 1
 else CU w p 2 p.part p.off
def CM(w:Wd)(p:Pk):Wd:=
 if (w.Ai.getD p.client.toNat 0)<p.Ag then {w with Ai:=w.Ai.set p.client.toNat p.Ag,seen:=((w.seen.set (3*p.client.toNat) De).set (3*p.client.toNat+1) De).set (3*p.client.toNat+2) De} else w
def G0(w:Wd)(i:Nat)(p:Pk):Wd:=
 let r:=Ap w i
 if p.kind=6 then
  if r.seq=p.seq/\r.state=3/\p.off=Ae r.result/\p.part=r.at'/\r.at'<Ae r.result-1 then DR (Av w i {r with at':=r.at'+1}) i else w
 else if r.seq=p.seq then CL w i p
 else if p.seq<r.seq then w
 else if AO w p.uid=false then CU w p 7 0 2
 else if p.kind=3\/p.part≠0 then w
 else if r.seq=0/\w.c.table<=(A5 w:Int) then CU w p 7 1 2
 else CL (Av w i {De with seq:=p.seq,uid:=p.uid,state:=1}) i p
def C3(w:Wd)(p:Pk):Wd:=
 if p.Ag<w.Ai.getD p.client.toNat 0 then w else G0 (CM w p) (3*p.client.toNat+p.line.toNat) p
def Au(w:Wd)(i:Int):Int×Wd:=if off w i then (9,w) else match w.Ao[i.toNat]? with
 |none=>(9,w)
 |some f=>
  let w1:={w with Ao:=w.Ao.eraseIdx i.toNat}
  (0,if f.VS=true then w1 else match Dk f.s with
   |none=>w1
   |some p=>if f.to=-1 then C3 w1 p else CF w1 f.to p)
def Iv(v:List It)(k:Nat):Int:=((v[k]?).map (·.1)).getD 0
def TT(v:List It)(k:Nat):ByteArray:=((v[k]?).map (·.2)).getD ⟨#[]⟩
def Bq:List En->Int->Int
 |[],n=>n
 |e :: es,n=>Bq es (if e.proc=0 then (n+Iv e.arg 0+65536) % 65536 else if Iv e.arg 0=1 then 0 else n)
def Br(l:List En):List ByteArray:=
 let out:=(l.filter fun e=>decide (e.proc=0)).map fun e=>TT e.arg 0
 out.drop (out.length-4)
def E3:List En->Int->List It->List It
 |[],_,was=>was
 |e :: es,d,was=>E3 es d (if Iv e.arg 0=d then e.arg.drop 2 else was)
def num(n:Int):It:=(n,⟨#[]⟩)
def Cs(kind:Int)(l:List En)(proc:Int)(arg:List It):List It:=
 if kind=0 then [num (if proc=0 then (Bq l 0+Iv arg 0+65536) % 65536 else Bq l 0)]
 else if kind=1 then
  if proc=0 then [num (min 4 (((Br l).length:Int)+1))]
  else let b:=(Br l).take (Iv arg 0).toNat;num b.length :: b.map fun s=>(0,s)
 else
  let was:=E3 l (Iv arg 0) []
  if was.length=0 then [num 0,num 0] else num 1 :: num was.length :: was
def Ha(w:Wd)(i:Nat):Wd:=
 let r:=Ap w i
 let k:=(r.uid-1).toNat
 let s:=(w.Ac[k]?).getD ⟨0,false,[]⟩
 let proc:=256*((r.message.getD 0 0).toNat:Int)+((r.message.getD 1 0).toNat:Int)
 let t:=(CO s.kind proc).getD (⟨#[]⟩,⟨#[]⟩)
 let arg:=(V.D3 t.1 (r.message.drop 2)).2
 let out:=Cs s.kind s.log proc arg
 let w1:={w with Ac:=w.Ac.set k {s with log:=s.log++[⟨((i / 3:Nat):Int),w.Ai.getD (i / 3) 0,((i % 3:Nat):Int),r.seq,proc,arg,out⟩]}}
 DR (Av w1 i {r with state:=3,result:=(AV t.2 out).getD [],at':=0}) i
def Et(w:Wd)(j:Jb):Prop:=(Ap w (3*j.client.toNat+j.line.toNat)).state=2/\(Ap w (3*j.client.toNat+j.line.toNat)).seq=j.seq/\w.Ai.getD j.client.toNat 0=j.Ag
instance (w:Wd) (j:Jb):Decidable (Et w j):=by unfold Et;infer_instance
def BV(w:Wd):List Jb->Int×Wd
 |[]=>(19,{w with jobs:=[]})
 |j :: js=>if Et w j then (0,Ha {w with jobs:=js} (3*j.client.toNat+j.line.toNat)) else BV w js
def AP(w:Wd):Int×Wd:=BV w w.jobs
def Ho(w:Wd)(uid:Int):Prop:=1<=uid/\uid<=(w.Ac.length:Int)
instance (w:Wd) (uid:Int):Decidable (Ho w uid):=by unfold Ho;infer_instance
def Jt(w:Wd)(uid:Int):List En:=((w.Ac[(uid-1).toNat]?).map (·.log)).getD []
def Iw(w:Wd)(uid:Int):Int×Int:=if Ho w uid then ((Jt w uid).length,0) else (0,9)
def Dr(w:Wd)(uid k:Int):Option En:=if Ho w uid/\0<=k then (Jt w uid)[k.toNat]? else none
end Go.Proofs.YtblomippkddgiaaGreatDoor.R
namespace Go.Proofs.YtblomippkddgiaaGreatDoor.V
open Go.RowKit
def EX(g:Nat->Nat)(f p:Nat)(t:Int):List Nat:=if g p=117 then [partOf (Pt.kids g f p) t] else if g p=113 then List.replicate t.toNat (p+2) else []
theorem KZ{σ:Type}(num:Int->Int->σ->Option (Int×σ))(txt:σ->Option σ)(g:Nat->Nat)(f p:Nat)(h1:¬g p=115)(h2:¬g p=97)(h3:¬g p=114):
  Aw num txt g (f+1) p=fun x=>(num (CG (g p)) (BO g f p) x).bind fun r=>CV (Aw num txt g f) (EX g f p r.1) r.2:=by
 funext x;simp only[Aw,if_neg h1,if_neg h2,if_neg h3,EX];congr 1;funext r;split
 ·simp only[CV];cases Aw num txt g f (partOf (Pt.kids g f p) r.1) r.2<;>rfl
 ·split
  ·rfl
  ·rfl
def Ret(E:List It->Dn)(G:Ot->Option Ot):Prop:=∀v ks r,E v=some (ks,r)->Dy ks v->∀e it,G (bytesOf ks v++e,it)=some (e,it++v.take ks.length)
theorem RE{k1 k2:List Bool}{v:List It}(h:Dy (k1++k2) v):Dy k1 v:=fun i k x hk hx=>h i k x (by rw[List.getElem?_append_left (List.getElem?_eq_some_iff.1 hk).1];exact hk) hx
theorem Pv{k1 k2:List Bool}{v:List It}(h:Dy (k1++k2) v):Dy k2 (v.drop k1.length):=fun i k x hk hx=>h (k1.length+i) k x (by rw[List.getElem?_append_right (by omega),Nat.add_sub_cancel_left];exact hk) (by rw[List.getElem?_drop]at hx;exact hx)
theorem ZF{E:Nat->List It->Dn}{G:Nat->Ot->Option Ot}:∀qs:List Nat,(∀q∈qs,ME (E q))->(∀q∈qs,Ret (E q) (G q))->Ret (BG E qs) (CV G qs):=by
 intro qs;induction qs with
 |nil=>
  intro _ _ v ks r h _ e it;simp only[BG,Option.some.injEq,Prod.mk.injEq]at h;obtain⟨rfl,rfl⟩:=h;simp[CV,bytesOf]
 |cons q qs ih=>
  intro hH hR v ks r h hK e it;simp only[BG]at h;cases hE:E q v with
  |none=>rw[hE]at h;cases h
  |some a=>
   obtain⟨k1,r1⟩:=a;rw[hE]at h;simp only at h;cases hS:BG E qs r1 with
   |none=>rw[hS]at h;cases h
   |some a=>
    obtain⟨k2,r2⟩:=a;rw[hS]at h;simp only[BS,Option.some.injEq,Prod.mk.injEq]at h;obtain⟨rfl,rfl⟩:=h;obtain⟨h1,h2⟩:=hH q (List.mem_cons_self ..) v k1 r1 hE;subst h1;rw[G4 k1 k2 v h2,List.append_assoc];simp only[CV];rw[hR q (List.mem_cons_self ..) v k1 _ hE (RE hK)];show CV G qs _=_;rw[ih (fun q' h'=>hH q' (List.mem_cons_of_mem _ h')) (fun q' h'=>hR q' (List.mem_cons_of_mem _ h')) _ k2 r2 hS (Pv hK)];rw[List.length_append,List.take_add,List.append_assoc]
theorem M3(n:Int):∃a c:UInt8,AX n=[a,c]/\(BK a c:Int)=n % 65536:=by
 refine⟨_,_,rfl,?_⟩;have h1:(0:Int)<=n % 65536 / 256:=by omega
 have h2:n % 65536 / 256<=255:=by omega
 have h3:(0:Int)<=n % 256:=by omega
 have h4:n % 256<=255:=by omega
 have b1:=Bn h1 h2;have b2:=Bn h3 h4;unfold BK;omega
theorem ZG(E:List It->Dn)(hE:∀v ks r,E v=some (ks,r)->∃x,v=x :: r/\ks=[true]/\x.1=0/\x.2.size<=14):Ret E C9:=by
 intro v ks r h _ e it;obtain⟨x,rfl,rfl,h0,h14⟩:=hE v ks r h;obtain⟨a,c,hac,hn⟩:=M3 (x.2.size:Int);have hn':BK a c=x.2.size:=by omega
 have hb:bytesOf [true] (x :: r)=a :: c :: (x.2.data.toList++(if x.2.size % 2=1 then [0] else [])):=by
  simp only[bytesOf,El,if_true,hac];simp
 have hl:x.2.data.toList.length=x.2.size:=by simp
 have hx:(0,str x.2.data.toList)=x:=by
  obtain⟨x0,x1⟩:=x;simp only at h0;subst h0;simp
 rw[hb];simp only[List.cons_append,C9,hn'];rw[if_pos ⟨h14,by simp only[List.length_append,hl];omega⟩];have htk:(x.2.data.toList++(if x.2.size % 2=1 then [0] else [])++e).take x.2.size=x.2.data.toList:=by
  rw[List.append_assoc,<-hl,List.take_left]
 have hdr:(x.2.data.toList++(if x.2.size % 2=1 then [0] else [])++e).drop x.2.size=(if x.2.size % 2=1 then [0] else [])++e:=by
  rw[List.append_assoc,<-hl,List.drop_left]
 rw[htk,hdr,hx];by_cases h2:x.2.size % 2=0
 ·rw[if_pos h2,if_neg (by omega)];simp
 ·rw[if_neg h2,if_pos (by omega)];simp
theorem ZE(lo hi:Int)(hlh:lo=0\/(lo=-32768/\hi=32767))(E:List It->Dn)(E':Int->List It->Dn)(G:Int->Ot->Option Ot)
  (hE:∀v ks r,E v=some (ks,r)->∃x r' k',v=x :: r'/\ks=false :: k'/\x.2.size=0/\lo<=x.1/\x.1<=hi/\E' x.1 r'=some (k',r)) (h:∀t,Ret (E' t) (G t)):
  Ret E (fun x=>(Dm lo hi x).bind fun r=>G r.1 r.2):=by
 intro v ks r hEv hK e it;obtain⟨x,r',k',rfl,rfl,hs0,hlo,hhi,hE'⟩:=hE v ks r hEv;obtain⟨a,c,hac,hn⟩:=M3 x.1;have hr:=(hK 0 false x rfl rfl).2 rfl;have ht:turned lo hi (BK a c)=x.1:=by
  unfold turned;rcases hlh with h0|⟨h0,h1⟩
  ·rw[if_neg (by omega)];omega
  ·split<;>omega
 have hb:bytesOf (false :: k') (x :: r')=a :: c :: bytesOf k' r':=by
  simp[bytesOf,El,hac]
 have hx:(x.1,(⟨#[]⟩:ByteArray))=x:=by
  obtain⟨x0,x1⟩:=x;simp only at hs0;have:x1=⟨#[]⟩:=by
   apply ByteArray.ext;apply Array.eq_empty_of_size_eq_zero;exact hs0
  rw[this]
 rw[hb];simp only[List.cons_append,Dm,ht];rw[if_neg (by omega),hx];simp only[Option.bind_some];have hK':Dy k' r':=fun i k y hk hy=>hK (i+1) k y (by simpa using hk) (by simpa using hy)
 rw[h x.1 r' k' r hE' hK' e (it++[x])];simp
theorem ZD(g:Nat->Nat):∀f p,Ret (Ct g f p) (Aw Dm C9 g f p):=by
 intro f;induction f with
 |zero=>intro p v ks r h;simp[Ct]at h
 |succ f ih=>
  intro p;have sq:=fun qs=>ZF (E:=Ct g f) (G:=Aw Dm C9 g f) qs (fun q _=>FM g f q) (fun q _=>ih q)
  by_cases ha:g p=97
  ·have e1:Aw Dm C9 g (f+1) p=CV (Aw Dm C9 g f) (List.replicate (g (p+1)-48) (p+2)):=by funext x;simp[Aw,ha]
   have e2:Ct g (f+1) p=BG (Ct g f) (List.replicate (g (p+1)-48) (p+2)):=by
    funext v;have hh:AF g f p v=some ([],List.replicate (g (p+1)-48) (p+2),v):=by simp[AF,ha]
    rw[Ec hh,Ii]
   rw[e1,e2];exact sq _
  ·by_cases hr:g p=114
   ·have e1:Aw Dm C9 g (f+1) p=CV (Aw Dm C9 g f) (Pt.kids g f p):=by funext x;simp[Aw,hr]
    have e2:Ct g (f+1) p=BG (Ct g f) (Pt.kids g f p):=by
     funext v;have hh:AF g f p v=some ([],Pt.kids g f p,v):=by simp[AF,hr]
     rw[Ec hh,Ii]
    rw[e1,e2];exact sq _
   ·by_cases hs:g p=115
    ·have e1:Aw Dm C9 g (f+1) p=C9:=by funext x;simp[Aw,hs]
     rw[e1];refine ZG _ fun v ks r h=>?_
     cases v with
     |nil=>simp[Ct,AF,ha,hr]at h
     |cons x v=>
      by_cases hok:x.1=0/\x.2.size<=14
      ·have hh:AF g f p (x :: v)=some ([true],[],v):=by simp[AF,hs,hok]
       rw[Ec hh]at h;simp only[BG,BS,List.append_nil,Option.some.injEq,Prod.mk.injEq]at h;obtain⟨rfl,rfl⟩:=h;exact⟨x,rfl,rfl,hok.1,hok.2⟩
      ·have hh:AF g f p (x :: v)=none:=by
        simp only[AF,hs];simp;omega
       rw[FN hh]at h;cases h
    ·rw[KZ _ _ _ _ _ hs ha hr];have hlh:CG (g p)=0\/(CG (g p)=-32768/\BO g f p=32767):=by
      by_cases h5:g p=105
      ·exact Or.inr ⟨by simp[CG,h5],by simp[BO,h5]⟩
      ·exact Or.inl (by simp[CG,h5])
     refine ZE _ _ hlh _ (fun t=>BG (Ct g f) (EX g f p t)) (fun t=>CV (Aw Dm C9 g f) (EX g f p t)) (fun v ks r h=>?_) fun t=>sq _
     cases v with
     |nil=>simp[Ct,AF,ha,hr]at h
     |cons x v=>
      by_cases hok:x.2.size=0/\CG (g p)<=x.1/\x.1<=BO g f p
      ·have hh:AF g f p (x :: v)=some ([false],EX g f p x.1,v):=by
        simp only[AF,if_neg ha,if_neg hr,if_neg hs,EX];rw[if_pos hok]
       rw[Ec hh]at h;cases hS:BG (Ct g f) (EX g f p x.1) v with
       |none=>rw[hS]at h;cases h
       |some a=>
        obtain⟨k',r'⟩:=a;rw[hS]at h;simp only[BS,Option.some.injEq,Prod.mk.injEq]at h;obtain⟨rfl,rfl⟩:=h;exact⟨x,v,k',rfl,rfl,hok.1,hok.2.1,hok.2.2,hS⟩
      ·have hh:AF g f p (x :: v)=none:=by
        simp only[AF,if_neg ha,if_neg hr,if_neg hs];rw[if_neg hok]
       rw[FN hh]at h;cases h
def Ext(G:Ot->Option Ot):Prop:=∀l it l' it',G (l,it)=some (l',it')->∀e,G (l++e,it)=some (l'++e,it')
theorem Y5{G:Nat->Ot->Option Ot}:∀qs:List Nat,(∀q∈qs,Ext (G q))->Ext (CV G qs):=by
 intro qs;induction qs with
 |nil=>
  intro _ l it l' it' h e;simp only[CV,Option.some.injEq,Prod.mk.injEq]at h ⊢;exact⟨by rw[h.1],h.2⟩
 |cons q qs ih=>
  intro hq l it l' it' h e;simp only[CV]at h ⊢;cases hG:G q (l,it) with
  |none=>rw[hG]at h;cases h
  |some a=>
   obtain⟨l1,it1⟩:=a;rw[hG]at h;rw[hq q (List.mem_cons_self ..) l it l1 it1 hG e];exact ih (fun q' h'=>hq q' (List.mem_cons_of_mem _ h')) l1 it1 l' it' h e
theorem Y4(lo hi:Int)(G:Int->Ot->Option Ot)(h:∀t,Ext (G t)):Ext (fun x=>(Dm lo hi x).bind fun r=>G r.1 r.2):=by
 intro l it l' it' hx e;match l with
 |[]=>simp[Dm]at hx
 |[a]=>simp[Dm]at hx
 |a :: c :: r=>
  simp only[Dm,List.cons_append]at hx ⊢;split at hx
  ·cases hx
  ·rename_i hb;rw[if_neg hb];exact h _ _ _ _ _ hx e
theorem Y6:Ext C9:=by
 intro l it l' it' hx e;match l with
 |[]=>simp[C9]at hx
 |[a]=>simp[C9]at hx
 |a :: c :: r=>
  simp only[C9,List.cons_append]at hx ⊢;generalize BK a c=n at hx ⊢;split at hx
  ·rename_i hb;rw[if_pos ⟨hb.1,by rw[List.length_append];omega⟩,List.take_append_of_le_length hb.2,List.drop_append_of_le_length hb.2];split at hx
   ·rename_i h2;rw[if_pos h2];cases hx;rfl
   ·rename_i h2;rw[if_neg h2];cases hd:r.drop n with
    |nil=>rw[hd]at hx;cases hx
    |cons p r'=>
     rw[hd]at hx;simp only[List.cons_append]at hx ⊢;split at hx
     ·rename_i hp;rw[if_pos hp];cases hx;rfl
     ·cases hx
  ·cases hx
theorem Y3(g:Nat->Nat):∀f p,Ext (Aw Dm C9 g f p):=by
 intro f;induction f with
 |zero=>intro p l it l' it' h;simp[Aw]at h
 |succ f ih=>
  intro p;have sq:=fun qs=>Y5 (G:=Aw Dm C9 g f) qs (fun q _=>ih q)
  by_cases hs:g p=115
  ·rw[show Aw Dm C9 g (f+1) p=C9 by funext x;simp[Aw,hs]];exact Y6
  ·by_cases ha:g p=97
   ·rw[show Aw Dm C9 g (f+1) p=CV (Aw Dm C9 g f) (List.replicate (g (p+1)-48) (p+2)) by funext x;simp[Aw,ha]];exact sq _
   ·by_cases hr:g p=114
    ·rw[show Aw Dm C9 g (f+1) p=CV (Aw Dm C9 g f) (Pt.kids g f p) by funext x;simp[Aw,hr]];exact sq _
    ·rw[KZ _ _ _ _ _ hs ha hr];exact Y4 _ _ _ fun t=>sq _
theorem ZT(s:ByteArray)(v:List It)(ks:List Bool)(hc:(Pt.G8 (nx s) s.size).1=0)(he:Ct (nx s) (s.size+1) 0 v=some (ks,[]))(hK:ZY ks v)(hl:(bytesOf ks v).length<=70):
  D3 s (bytesOf ks v)=(0,v)/\(∀l b,bytesOf ks v=l++[b]->D3 s l=(6,[]))/\D3 s (bytesOf ks v++[0])=(if (bytesOf ks v).length=70 then 5 else 6,[]):=by
 have hR:=fun e=>ZD (nx s) (s.size+1) 0 v ks [] he hK.2 e []
 have htk:v.take ks.length=v:=List.take_of_length_le (by rw[hK.1];exact Nat.le_refl _);simp only[htk,List.nil_append]at hR;have hE:=Y3 (nx s) (s.size+1) 0;have hb:¬70<(bytesOf ks v).length:=by omega
 refine⟨?_,fun l b hlb=>?_,?_⟩
 ·have h:=hR [];rw[List.append_nil]at h;simp[D3,hc,J0,hb,h]
 ·have hll:¬70<l.length:=by
   have:=congrArg List.length hlb;rw[List.length_append]at this;omega
  simp only[D3,hc,if_true,J0,if_neg hll];cases hr:Aw Dm C9 (nx s) (s.size+1) 0 (l,[]) with
  |none=>rfl
  |some a=>
   obtain⟨l',v'⟩:=a;by_cases h0:l'=[]
   ·subst h0;have h1:=hE l [] [] v' hr [b];rw[<-hlb]at h1;have h2:=hR [];rw[List.append_nil,h1]at h2;cases h2
   ·simp[h0]
 ·have h:=hR [0];by_cases h70:(bytesOf ks v).length=70
  ·rw[if_pos h70];simp[D3,hc,J0,h70]
  ·rw[if_neg h70];have:¬70<(bytesOf ks v++[0]).length:=by simp;omega
   simp only[D3,hc,if_true,J0,if_neg this,h];simp
theorem D5{s:ByteArray}{v:List It}(h:(Cn s v).1=0):(Pt.G8 (nx s) s.size).1=0/\∃ks,Ct (nx s) (s.size+1) 0 v=some (ks,[])/\(Cn s v).2=bytesOf ks v/\(bytesOf ks v).length<=70:=by
 unfold Cn at h ⊢;split at h
 ·rename_i hc;rw[if_pos hc];refine⟨hc,?_⟩;unfold H9 at h ⊢;split at h
  ·cases h
  ·rename_i ks r he;split at h
   ·rename_i hr;subst hr;split at h
    ·cases h
    ·rename_i hb;exact⟨ks,he,by simp[hb],by omega⟩
   ·cases h
 ·rename_i hc;exact absurd h hc
theorem Gv{s:ByteArray}{v:List It}(h:(Cn s v).1=0):(Cn s v).2.length<=70:=by
 obtain⟨_,ks,_,h2,h3⟩:=D5 h;rw[h2];exact h3
theorem SI{s:ByteArray}{v:List It}(h:(Cn s v).1=0):D3 s (Cn s v).2=(0,v):=by
 obtain⟨hc,ks,he,h2,h3⟩:=D5 h;have hg:=KD hc;obtain⟨h1,h4⟩:=FM _ _ _ _ _ _ he;obtain⟨s1,s2⟩:=Un s _ _ hg.ok _ _ _ he;have hl:ks.length=v.length:=by
  have:=congrArg List.length h1;rw[List.length_drop]at this;simp at this;omega
 rw[h2];exact(ZT s v ks hc he (WG s2 hl) h3).1
theorem Zo{s:ByteArray}{v:List It}{ks:List Bool}(hc:(Pt.G8 (nx s) s.size).1=0)(he:Ct (nx s) (s.size+1) 0 v=some (ks,[]))(hb:(bytesOf ks v).length<=70):Cn s v=(0,bytesOf ks v):=by
 have:¬70<(bytesOf ks v).length:=by omega
 simp[Cn,hc,he,H9,this]
theorem NL{g:Nat->Nat}{f p:Nat}{v r0 r:List It}{k0 k1:List Bool}{qs:List Nat}(h:AF g f p v=some (k0,qs,r0))(hs:BG (Ct g f) qs r0=some (k1,r)):Ct g (f+1) p v=some (k0++k1,r):=by
 simp only[Ct];rw[h];simp only;rw[hs];rfl
theorem JM{g:Nat->Nat}{f p:Nat}{v r:List It}{ks:List Bool}(h:Ct g (f+1) p v=some (ks,r)):∃k0 qs r0 k1,AF g f p v=some (k0,qs,r0)/\BG (Ct g f) qs r0=some (k1,r)/\ks=k0++k1:=by
 simp only[Ct]at h;cases hh:AF g f p v with
 |none=>rw[hh]at h;cases h
 |some e=>
  obtain⟨k0,qs,r0⟩:=e;rw[hh]at h;simp only at h;cases hs:BG (Ct g f) qs r0 with
  |none=>rw[hs]at h;cases h
  |some e2=>
   obtain⟨k1,r1⟩:=e2;rw[hs]at h;simp only[BS,Option.some.injEq,Prod.mk.injEq]at h;exact⟨k0,qs,r0,k1,rfl,by rw[<-h.2,hs],h.1.symm⟩
theorem Hl{g:Nat->Nat}{f p:Nat}{x:It}{r:List It}(h97:g p≠97)(h114:g p≠114)(h115:g p≠115)(hx:x.2.size=0/\CG (g p)<=x.1/\x.1<=BO g f p):AF g f p (x :: r)=some ([false],(if g p=117 then [partOf (Pt.kids g f p) x.1] else if g p=113 then List.replicate x.1.toNat (p+2) else []),r):=by
 unfold AF;rw[if_neg h97,if_neg h114];simp only;rw[if_neg h115,if_pos hx]
theorem Jp{g:Nat->Nat}{f p:Nat}{v:List It}{k0:List Bool}{qs:List Nat}{r:List It}(h:AF g f p v=some (k0,qs,r))(h97:g p≠97)(h114:g p≠114)(h115:g p≠115):∃x,v=x :: r/\k0=[false]/\(x.2.size=0/\CG (g p)<=x.1/\x.1<=BO g f p)/\qs=(if g p=117 then [partOf (Pt.kids g f p) x.1] else if g p=113 then List.replicate x.1.toNat (p+2) else []):=by
 unfold AF at h;rw[if_neg h97,if_neg h114]at h;cases v with
 |nil=>cases h
 |cons x v=>
  simp only at h;rw[if_neg h115]at h;split at h
  ·rename_i hx;cases h;exact⟨x,rfl,rfl,hx,rfl⟩
  ·cases h
theorem Gp{g:Nat->Nat}{f p:Nat}{x:It}{r:List It}(h97:g p≠97)(h114:g p≠114)(h115:g p≠115)(h117:g p≠117)(h113:g p≠113)(hx:x.2.size=0/\CG (g p)<=x.1/\x.1<=BO g f p):Ct g (f+1) p (x :: r)=some ([false],r):=by
 simp only[Ct];rw[Hl h97 h114 h115 hx];simp[h117,h113,BG,BS]
theorem Hd{g:Nat->Nat}{f p:Nat}{v r:List It}{ks:List Bool}(h:Ct g (f+1) p v=some (ks,r))(h97:g p≠97)(h114:g p≠114)(h115:g p≠115)(h117:g p≠117)(h113:g p≠113):∃x,v=x :: r/\ks=[false]/\x.2.size=0/\CG (g p)<=x.1/\x.1<=BO g f p:=by
 simp only[Ct]at h;cases hh:AF g f p v with
 |none=>rw[hh]at h;cases h
 |some e=>
  obtain⟨k0,qs,r0⟩:=e;rw[hh]at h;obtain⟨x,h1,h2,h3,h4⟩:=Jp hh h97 h114 h115;rw[if_neg h117,if_neg h113]at h4;subst h4;simp[BG,BS]at h;exact⟨x,by rw[h1,h.2],by rw[<-h.1,h2],h3⟩
theorem Og{E:Nat->List It->Dn}{q:Nat}{P:It->Prop}{b:Bool}(hE:∀x r,P x->E q (x :: r)=some ([b],r)):∀(v:List It),(∀x∈v,P x)->BG E (List.replicate v.length q) v=some (List.replicate v.length b,[])
 |[],_=>rfl
 |x :: v,h=>by
  simp only[List.length_cons,List.replicate_succ,BG];rw[hE x v (h x (by simp))];simp only;rw[Og hE v (fun y hy=>h y (by simp[hy]))];rfl
theorem Kn{E:Nat->List It->Dn}{q:Nat}{P:It->Prop}(hE:∀v r ks,E q v=some (ks,r)->∃x,v=x :: r/\ks=[false]/\P x):∀(k:Nat) (v r:List It) (ks:List Bool),BG E (List.replicate k q) v=some (ks,r)->∃a,v=a++r/\a.length=k/\∀x∈a,P x
 |0,v,r,ks,h=>by
  simp[BG]at h;exact⟨[],by simp[h.2],rfl,by simp⟩
 |k+1,v,r,ks,h=>by
  simp only[List.replicate_succ,BG]at h;cases hq:E q v with
  |none=>rw[hq]at h;cases h
  |some e=>
   obtain⟨k1,r1⟩:=e;rw[hq]at h;simp only at h;obtain⟨x,h1,_,h3⟩:=hE v r1 k1 hq;cases hs:BG E (List.replicate k q) r1 with
   |none=>rw[hs]at h;cases h
   |some e2=>
    obtain⟨k2,r2⟩:=e2;rw[hs]at h;simp only[BS,Option.some.injEq,Prod.mk.injEq]at h;obtain⟨a,b1,b2,b3⟩:=Kn hE k r1 r2 k2 hs;refine⟨x :: a,by rw[h1,b1,<-h.2];rfl,by simp[b2],fun y hy=>?_⟩;rcases List.mem_cons.1 hy with rfl|hy
    ·exact h3
    ·exact b3 y hy
theorem Wl{g:Nat->Nat}{f p:Nat}{x:It}{r:List It}(h115:g p=115)(hx:x.1=0/\x.2.size<=14):Ct g (f+1) p (x :: r)=some ([true],r):=by
 simp only[Ct];unfold AF;rw[if_neg (by omega),if_neg (by omega)];simp only;rw[if_pos h115,if_pos hx];simp[BG,BS]
theorem KW:∀(v:List It),(∀x∈v,x.2.size<=14)->(bytesOf (List.replicate v.length true) v).length<=16*v.length
 |[],_=>by simp[bytesOf]
 |x :: v,h=>by
  have ih:=KW v (fun y hy=>h y (by simp[hy]));have hx:=h x (by simp);simp only[List.length_cons,List.replicate_succ,bytesOf,List.length_append];have:(El true x).length<=16:=by
   simp only[El,if_true];split<;>simp[AX]<;>omega
  omega
theorem Ka:∀(v:List It),(bytesOf (List.replicate v.length false) v).length<=2*v.length
 |[]=>by simp[bytesOf]
 |x :: v=>by
  have ih:=Ka v;simp only[List.length_cons,List.replicate_succ,bytesOf,List.length_append];have:(El false x).length<=2:=by simp[El,AX]
  omega
end Go.Proofs.YtblomippkddgiaaGreatDoor.V
namespace Go.Proofs.YtblomippkddgiaaGreatDoor.R
open Go.Proofs.YtblomippkddgiaaGreatDoor.V
theorem Bv{t:ByteArray}{v:List It}{bs:List UInt8}(h:AV t v=some bs):(V.Cn t v).1=0:=by
 unfold AV at h;split at h
 ·assumption
 ·cases h
theorem Ie{t:ByteArray}{v:List It}{ks:List Bool}(hc:(Pt.G8 (nx t) t.size).1=0)(he:Ct (nx t) (t.size+1) 0 v=some (ks,[]))(hb:(bytesOf ks v).length<=70):AV t v=some (bytesOf ks v):=by
 unfold AV;rw[Zo hc he hb];rfl
def FH(lo hi:Int)(x:It):Prop:=x.2.size=0/\lo<=x.1/\x.1<=hi
theorem Lm{t:ByteArray}{v:List It}{bs:List UInt8}(h:AV t v=some bs)(h97:nx t 0≠97)(h114:nx t 0≠114)(h115:nx t 0≠115)(h117:nx t 0≠117)(h113:nx t 0≠113):∃x,v=[x]/\FH (CG (nx t 0)) (BO (nx t) t.size 0) x:=by
 obtain⟨_,ks,he,_⟩:=D5 (Bv h);obtain⟨x,h1,_,h3⟩:=Hd he h97 h114 h115 h117 h113;exact⟨x,h1,h3⟩
theorem Z4{v:List It}{bs:List UInt8}(h:AV (txt [105]) v=some bs):∃x,v=[x]/\FH (-32768) 32767 x:=by
 have:=Lm h (by decide +kernel) (by decide +kernel) (by decide +kernel) (by decide +kernel) (by decide +kernel)
 rwa [show CG (nx (txt [105]) 0)=-32768 by decide +kernel,show BO (nx (txt [105])) (txt [105]).size 0=32767 by decide +kernel]at this
theorem Z2{v:List It}{bs:List UInt8}(h:AV (txt [98]) v=some bs):∃x,v=[x]/\FH 0 1 x:=by
 have:=Lm h (by decide +kernel) (by decide +kernel) (by decide +kernel) (by decide +kernel) (by decide +kernel)
 rwa [show CG (nx (txt [98]) 0)=0 by decide +kernel,show BO (nx (txt [98])) (txt [98]).size 0=1 by decide +kernel]at this
theorem Z3{v:List It}{bs:List UInt8}(h:AV (txt [99]) v=some bs):∃x,v=[x]/\FH 0 65535 x:=by
 have:=Lm h (by decide +kernel) (by decide +kernel) (by decide +kernel) (by decide +kernel) (by decide +kernel)
 rwa [show CG (nx (txt [99]) 0)=0 by decide +kernel,show BO (nx (txt [99])) (txt [99]).size 0=65535 by decide +kernel]at this
theorem VO{v:List It}{bs:List UInt8}(h:AV (txt [115]) v=some bs):∃x,v=[x]/\x.1=0/\x.2.size<=14:=by
 obtain⟨_,ks,he,_⟩:=D5 (Bv h);rw[show (txt [115]).size=1 from rfl]at he;obtain⟨k0,qs,r0,k1,h1,h2,_⟩:=JM he;unfold AF at h1;have h115:nx (txt [115]) 0=115:=by decide +kernel
 rw[if_neg (by omega),if_neg (by omega)]at h1;cases v with
 |nil=>cases h1
 |cons x v=>
  simp only at h1;rw[if_pos h115]at h1;split at h1
  ·rename_i hx;cases h1;simp[BG]at h2;exact⟨x,by rw[h2.2],hx⟩
  ·cases h1
abbrev Ey:ByteArray:=txt [114,40,101,51,113,51,105,41]
theorem V9:nx Ey 0=114/\nx Ey 2=101/\nx Ey 4=113/\nx Ey 6=105/\Pt.kids (nx Ey) 8 0=[2,4]:=by decide +kernel
theorem VN{v:List It}{bs:List UInt8}(h:AV Ey v=some bs):∃d k a,v=d :: k :: a/\FH 0 2 d/\FH 0 3 k/\(a.length:Int)=k.1/\∀x∈a,FH (-32768) 32767 x:=by
 obtain⟨_,ks,he,_⟩:=D5 (Bv h);obtain⟨a0,a2,a4,a6,ak⟩:=V9;have a7:nx Ey (4+2)=105:=a6;rw[show Ey.size+1=8+1 from rfl]at he;obtain⟨j0,qs0,r00,j1,hh0,he,_⟩:=JM he;unfold AF at hh0;rw[if_neg (by omega),if_pos a0,ak]at hh0;cases hh0;simp only[BG]at he;cases h1:Ct (nx Ey) 8 2 v with
 |none=>rw[h1]at he;cases he
 |some x1=>
  obtain⟨k1,r1⟩:=x1;rw[h1]at he;simp only at he;obtain⟨d,hd1,_,hd⟩:=Hd (f:=7) h1 (by omega) (by omega) (by omega) (by omega) (by omega);rw[show CG (nx Ey 2)=0 by decide +kernel,show BO (nx Ey) 7 2=2 by decide +kernel]at hd;cases h2:Ct (nx Ey) 8 4 r1 with
  |none=>rw[h2]at he;cases he
  |some x2=>
   obtain⟨k2,r2⟩:=x2;rw[h2]at he;simp only[BS]at he;cases he;obtain⟨k0,qs,r0,k3,hh,hs,_⟩:=JM (f:=7) h2;obtain⟨k,g1,g2,g3,g4⟩:=Jp hh (by omega) (by omega) (by omega);rw[if_neg (by omega),if_pos a4]at g4;subst g4;rw[show CG (nx Ey 4)=0 by decide +kernel,show BO (nx Ey) 7 4=3 by decide +kernel]at g3;obtain⟨a,b1,b2,b3⟩:=Kn (P:=FH (-32768) 32767) (fun v r ks hq=>by
    obtain⟨x,c1,c2,c3⟩:=Hd (f:=6) hq (by omega) (by omega) (by omega) (by omega) (by omega);rw[show CG (nx Ey (4+2))=-32768 by decide +kernel,show BO (nx Ey) 6 (4+2)=32767 by decide +kernel]at c3;exact⟨x,c1,c2,c3⟩) _ _ _ _ hs
   refine⟨d,k,a,?_,hd,g3,?_,b3⟩
   ·rw[hd1,g1,b1];simp
   ·have:=g3.2.1;omega
theorem XU{x:It}(h:FH 0 65535 x):∃rb,AV (txt [99]) [x]=some rb/\1<=rb.length:=by
 have he:Ct (nx (txt [99])) ((txt [99]).size+1) 0 [x]=some ([false],[]):=Gp (by decide +kernel) (by decide +kernel) (by decide +kernel) (by decide +kernel) (by decide +kernel) (by
  rw[show CG (nx (txt [99]) 0)=0 by decide +kernel,show BO (nx (txt [99])) (txt [99]).size 0=65535 by decide +kernel];exact h)
 exact⟨_,Ie (by decide +kernel) he (by simp[bytesOf,El,V.AX]),by simp[bytesOf,El,V.AX]⟩
theorem acm{l:List ByteArray}(h4:l.length<=4)(h:∀s∈l,s.size<=14):∃rb,AV (txt [113,52,115]) (num l.length :: l.map fun s=>(0,s))=some rb/\1<=rb.length:=by
 have hq:nx (txt [113,52,115]) 0=113/\nx (txt [113,52,115]) 2=115:=by decide +kernel
 have he:Ct (nx (txt [113,52,115])) ((txt [113,52,115]).size+1) 0 (num l.length :: l.map fun s=>(0,s))=some (false :: List.replicate l.length true,[]):=by
  rw[show (txt [113,52,115]).size+1=3+1 from rfl];have hh:=Hl (g:=nx (txt [113,52,115])) (f:=3) (p:=0) (x:=num l.length) (r:=l.map fun s=>((0,s):It)) (by omega) (by omega) (by omega) (by
   rw[show CG (nx (txt [113,52,115]) 0)=0 by decide +kernel,show BO (nx (txt [113,52,115])) 3 0=4 by decide +kernel];exact⟨rfl,by simp[num],by simp[num];omega⟩)
  rw[if_neg (by omega),if_pos hq.1,show (num (l.length:Int)).1.toNat=l.length by simp[num]]at hh;have:=Og (E:=Ct (nx (txt [113,52,115])) 3) (q:=0+2) (b:=true) (P:=fun x=>x.1=0/\x.2.size<=14) (fun x r hx=>Wl hq.2 hx) (l.map fun s=>((0,s):It)) (fun x hx=>by
   obtain⟨s,hs,rfl⟩:=List.mem_map.1 hx;exact⟨rfl,h s hs⟩)
  rw[List.length_map]at this;exact NL hh this
 have hb:=KW (l.map fun s=>((0,s):It)) (fun x hx=>by
  obtain⟨s,hs,rfl⟩:=List.mem_map.1 hx;exact h s hs)
 rw[List.length_map]at hb;have hl:(bytesOf (false :: List.replicate l.length true) (num l.length :: l.map fun s=>(0,s))).length=2+(bytesOf (List.replicate l.length true) (l.map fun s=>(0,s))).length:=by
  simp[bytesOf,El,V.AX];omega
 exact⟨_,Ie (by decide +kernel) he (by omega),by omega⟩
abbrev Di:ByteArray:=txt [117,40,98,113,51,105,41]
theorem OT:nx Di 0=117/\nx Di 2=98/\nx Di 3=113/\nx Di 5=105/\Pt.kids (nx Di) 7 0=[2,3]/\BO (nx Di) 7 0=1:=by decide +kernel
theorem aaY:∃rb,AV Di [num 0,num 0]=some rb/\1<=rb.length:=by
 obtain⟨a0,a2,a3,a5,ak,ah⟩:=OT;have he:Ct (nx Di) (Di.size+1) 0 [num 0,num 0]=some ([false,false],[]):=by
  rw[show Di.size+1=7+1 from rfl];have hh:=Hl (g:=nx Di) (f:=7) (p:=0) (x:=num 0) (r:=[num 0]) (by omega) (by omega) (by omega) (by rw[a0,ah];exact⟨rfl,by decide,by decide⟩);rw[if_pos a0,ak,show partOf [2,3] (num 0).1=2 by decide +kernel]at hh;refine NL (k1:=[false]) hh ?_;simp only[BG];rw[Gp (f:=6) (by omega) (by omega) (by omega) (by omega) (by omega) (by rw[a2,show BO (nx Di) 6 2=1 by decide +kernel];exact⟨rfl,by decide,by decide⟩)];rfl
 exact⟨_,Ie (by decide +kernel) he (by simp[bytesOf,El,V.AX]),by simp[bytesOf,El,V.AX]⟩
theorem aaZ{l:List It}(h3:l.length<=3)(h:∀x∈l,FH (-32768) 32767 x):∃rb,AV Di (num 1 :: num l.length :: l)=some rb/\1<=rb.length:=by
 obtain⟨a0,a2,a3,a5,ak,ah⟩:=OT;have a6:nx Di (3+2)=105:=a5;have he:Ct (nx Di) (Di.size+1) 0 (num 1 :: num l.length :: l)=some (false :: false :: List.replicate l.length false,[]):=by
  rw[show Di.size+1=7+1 from rfl];have hh:=Hl (g:=nx Di) (f:=7) (p:=0) (x:=num 1) (r:=num l.length :: l) (by omega) (by omega) (by omega) (by rw[a0,ah];exact⟨rfl,by decide,by decide⟩);rw[if_pos a0,ak,show partOf [2,3] (num 1).1=3 by decide +kernel]at hh;refine NL (k1:=false :: List.replicate l.length false) hh ?_;simp only[BG];have hh2:=Hl (g:=nx Di) (f:=6) (p:=3) (x:=num l.length) (r:=l) (by omega) (by omega) (by omega) (by rw[a3,show BO (nx Di) 6 3=3 by decide +kernel];exact⟨rfl,by simp[num,CG],by simp[num];omega⟩);rw[if_neg (by omega),if_pos a3,show (num (l.length:Int)).1.toNat=l.length by simp[num]]at hh2;have:=Og (E:=Ct (nx Di) 6) (q:=3+2) (b:=false) (P:=FH (-32768) 32767) (fun x r hx=>Gp (f:=5) (by omega) (by omega) (by omega) (by omega) (by omega) (by rw[show CG (nx Di (3+2))=-32768 by decide +kernel,show BO (nx Di) 5 (3+2)=32767 by decide +kernel];exact hx)) l h;rw[NL (f:=6) hh2 this];simp[BS]
 have hb:=Ka l;have hl:(bytesOf (false :: false :: List.replicate l.length false) (num 1 :: num l.length :: l)).length=4+(bytesOf (List.replicate l.length false) l).length:=by
  simp[bytesOf,El,V.AX];omega
 exact⟨_,Ie (by decide +kernel) he (by omega),by omega⟩
theorem FC:∀(l:List En) (n:Int),0<=n/\n<=65535->0<=Bq l n/\Bq l n<=65535
 |[],n,h=>h
 |e :: l,n,h=>by
  simp only[Bq];refine FC l _ ?_;split
  ·omega
  ·split
   ·omega
   ·exact h
theorem IX(l:List En):(Br l).length<=4:=by
 simp only[Br,List.length_drop];omega
theorem acp{e:En}{f t:ByteArray}(h:CO 1 e.proc=some (f,t))(h0:e.proc=0):f=txt [115]:=by
 rw[h0]at h;simp[CO]at h;exact h.1.symm
theorem aco{proc:Int}{f t:ByteArray}(h:CO 2 proc=some (f,t)):f=Ey/\t=Di/\proc=0:=by
 unfold CO at h;simp at h;exact⟨h.2.1.symm,h.2.2.symm,h.1⟩
abbrev I9(kind:Int)(l:List En):Prop:=∀e∈l,∃f t b,CO kind e.proc=some (f,t)/\AV f e.arg=some b
theorem N9{l:List En}(h:I9 1 l):∀s∈Br l,s.size<=14:=fun s hs=>by
 have hm:=List.mem_of_mem_drop hs;obtain⟨e,he,rfl⟩:=List.mem_map.1 hm;obtain⟨he,h0⟩:=List.mem_filter.1 he;obtain⟨f,t,b,h1,h2⟩:=h e he;rw[acp h1 (by simpa using h0)]at h2;obtain⟨x,hx,_,h3⟩:=VO h2;simp[TT,hx,h3]
theorem Gu:∀(l:List En),I9 2 l->∀(d:Int) (was:List It),(was.length<=3/\∀x∈was,FH (-32768) 32767 x)->(E3 l d was).length<=3/\∀x∈E3 l d was,FH (-32768) 32767 x
 |[],_,d,was,h=>h
 |e :: l,hl,d,was,h=>by
  simp only[E3];refine Gu l (fun x hx=>hl x (by simp[hx])) d _ ?_;split
  ·obtain⟨f,t,b,h1,h2⟩:=hl e (by simp);rw[(aco h1).1]at h2;obtain⟨dd,k,a,g1,g2,g3,g4,g5⟩:=VN h2;rw[g1];simp only[List.drop_succ_cons,List.drop_zero];have:=g3.2.2;exact⟨by omega,g5⟩
  ·exact h
theorem YU{kind:Int}{log:List En}{proc:Int}{arg:List It}{f t:ByteArray}{bs:List UInt8}(hs:CO kind proc=some (f,t))(hb:AV f arg=some bs)(hl:∀e∈log,∃f t b,CO kind e.proc=some (f,t)/\AV f e.arg=some b):∃rb,AV t (Cs kind log proc arg)=some rb/\1<=rb.length:=by
 have hc:=FC log 0 (by decide);have hp4:=IX log;unfold CO at hs;split at hs
 ·rename_i h;cases hs;rw[h.1,h.2];refine XU ⟨rfl,?_,?_⟩<;>simp[num]<;>omega
 ·split at hs
  ·rename_i h;cases hs;rw[h.1,h.2];refine XU ⟨rfl,?_,?_⟩<;>simp[num]<;>omega
  ·split at hs
   ·rename_i h;cases hs;rw[h.1,h.2];refine XU ⟨rfl,?_,?_⟩<;>simp[num]<;>omega
   ·split at hs
    ·rename_i h;cases hs;obtain⟨rfl,rfl⟩:=h;have hsm:=N9 hl;exact acm (l:=(Br log).take (Iv arg 0).toNat) (by rw[List.length_take];omega) (fun s hs=>hsm s (List.mem_of_mem_take hs))
    ·split at hs
     ·rename_i h;cases hs;obtain⟨rfl,rfl⟩:=h;have hla:=Gu log hl (Iv arg 0) [] (by simp);unfold Cs;simp only;rw[if_neg (by decide),if_neg (by decide)];split
      ·exact aaY
      ·exact aaZ hla.1 hla.2
     ·cases hs
end Go.Proofs.YtblomippkddgiaaGreatDoor.R
