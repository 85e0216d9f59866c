import Derived.Test.YtblomippkddgiaaGreatDoorJ15
import Derived.Maps.OwnSet
set_option maxRecDepth 100000
set_option maxHeartbeats 4000000
namespace Go.Proofs.YtblomippkddgiaaGreatDoor
open Go.RowKit
abbrev Ag:=Nat->Prop
structure Ae(F:Ag)(w w':World):Prop where
 os:w'.os=w.os
 tape:w'.tape=w.tape
 output:w'.output=w.output
 size:w.heap.size<=w'.heap.size
 block:∀k,k<w.heap.size->¬F k->w'.heap[k]?=w.heap[k]?
theorem Ae.refl(F:Ag)(w:World):Ae F w w:=⟨rfl,rfl,rfl,Nat.le_refl _,fun _ _ _=>rfl⟩
theorem Ae.mono{F G:Ag}{w w':World}(h:Ae F w w')(hG:∀k,k<w.heap.size->F k->G k):Ae G w w':=⟨h.os,h.tape,h.output,h.size,fun k hk hn=>h.block k hk (fun hf=>hn (hG k hk hf))⟩
theorem Ae.andThen{F G:Ag}{a b c:World}(h:Ae F a b)(k:Ae G b c)(hG:∀i,i<a.heap.size->G i->F i):Ae F a c:=
 ⟨k.os.trans h.os,k.tape.trans h.tape,k.output.trans h.output,Nat.le_trans h.size k.size,fun i hi hn=>(k.block i (Nat.lt_of_lt_of_le hi h.size) (fun hg=>hn (hG i hi hg))).trans (h.block i hi hn)⟩
theorem Ae.trans{F:Ag}{a b c:World}(h:Ae F a b)(k:Ae F b c):Ae F a c:=h.andThen k (fun _ _ h=>h)
theorem Ae.Aq{w w':World}(h:Below w.heap.size w w')(F:Ag):Ae F w w':=⟨h.os,h.tape,h.output,h.size,fun k hk _=>h.block k hk⟩
theorem Ae.below{F:Ag}{w w':World}(h:Ae F w w'){B:Nat}(hB:B<=w.heap.size)(hF:∀k,F k->B<=k):Below B w w':=⟨h.os,h.tape,h.output,h.size,fun k hk=>h.block k (Nat.lt_of_lt_of_le hk hB) (fun hf=>by have:=hF k hf;omega)⟩
theorem Ae.drew{F:Ag}{a w:World}(h:Ae F a w):Ae F a w.drew:=⟨h.os,h.tape,h.output,h.size,h.block⟩
theorem Ae.alloc{F:Ag}{a w:World}(h:Ae F a w)(o:Obj):Ae F a (w.alloc o):=
 h.trans ⟨rfl,rfl,rfl,by simp,fun k hk _=>Below.heap_alloc _ _ _ hk⟩
theorem Ae.setCell{F:Ag}{a w:World}(h:Ae F a w){p:Addr}(hp:F p.block\/a.heap.size<=p.block)(u:Value):Ae F a (w.setCell p u):=
 ⟨h.os,h.tape,h.output,by simpa [World.setCell] using h.size,fun k hk hn=>by
  rw[Below.heap_setCell _ _ _ _ (fun e=>by
   subst e;rcases hp with hp|hp
   ·exact hn hp
   ·omega)]
  exact h.block k hk hn⟩
theorem Ae.grown{F:Ag}{a w w':World}{row:Option Nat}(h:Ae F a w)(hg:w.grownBy w' row)(hr:∀k,row=some k->F k\/a.heap.size<=k):Ae F a w':=
 ⟨hg.os.trans h.os,hg.tape.trans h.tape,hg.output.trans h.output,Nat.le_trans h.size hg.size,fun k hk hn=>by
  rw[hg.block k (Nat.lt_of_lt_of_le hk h.size) (fun e=>by
   rcases hr k e.symm with q|q
   ·exact hn q
   ·omega)]
  exact h.block k hk hn⟩
theorem Ae.at{F:Ag}{w w':World}(h:Ae F w w'){k:Nat}{o:Obj}(hk:w.heap[k]?=some o)(hn:¬F k):w'.heap[k]?=some o:=by
 rw[h.block k (Array.getElem?_eq_some_iff.1 hk).1 hn];exact hk
theorem Ae.row{F:Ag}{w w':World}(h:Ae F w w'){B n size:Nat}{e:TypeId}{v:Value}{xs:List Value}(hr:w.ownsRow B e size v n xs)(hn:∀j,v.ownBlock=some j->¬F j):w'.ownsRow B e size v n xs:=by
 obtain⟨hl,hr⟩:=hr;refine⟨hl,?_⟩;rcases hr with hr|⟨g,cap,cur,rfl,hb,hg,r⟩
 ·exact Or.inl hr
 ·exact Or.inr ⟨g,cap,cur,rfl,hb,h.at hg (hn g rfl),r⟩
theorem Ae.map{F:Ag}{w w':World}(h:Ae F w w'){H:Type}{P:Program}{k:TypeId}{R:Value->Option (DataW H×List MemPlace)}{b n:Nat}{D:DataW H}(hm:w.ownsMap P k R b n D)(hn:¬F b):w'.ownsMap P k R b n D:=by
 obtain⟨es,clock,hb,r⟩:=hm;exact⟨es,clock,h.at hb hn,r⟩
structure Ah(F F':Ag)(w w':World):Prop where
 keeps:Ae F w w'
 fresh:∀k,F' k->F k\/w.heap.size<=k
theorem Ah.refl(F:Ag)(w:World):Ah F F w w:=⟨Ae.refl F w,fun _ h=>Or.inl h⟩
theorem Ah.trans{F F' F'':Ag}{a b c:World}(h:Ah F F' a b)(k:Ah F' F'' b c):Ah F F'' a c:=
 ⟨h.keeps.andThen k.keeps (fun i hi hf=>(h.fresh i hf).resolve_right (by omega)),fun i hi=>by
  rcases k.fresh i hi with q|q
  ·exact h.fresh i q
  ·exact Or.inr (Nat.le_trans h.keeps.size q)⟩
theorem Ah.Aq{w w':World}(F:Ag)(h:Below w.heap.size w w'):Ah F F w w':=⟨Ae.Aq h F,fun _ h=>Or.inl h⟩
theorem Ah.apart{F F' G:Ag}{w w':World}(h:Ah F F' w w')(hG:∀k,G k->k<w.heap.size)(ha:∀k,F k->¬G k):∀k,F' k->¬G k:=fun k hf hg=>by
 rcases h.fresh k hf with q|q
 ·exact ha k q hg
 ·have:=hG k hg;omega
def tab{α:Type}(f:α->List Value)(xs:List α):List Value:=xs.flatMap f
theorem BN{α:Type}{f:α->List Value}{n:Nat}(hf:∀x,(f x).length=n):∀xs:List α,(tab f xs).length=n*xs.length
 |[]=>by simp[tab]
 |x :: xs=>by
  have h:=BN hf xs;simp only[tab,List.flatMap_cons,List.length_append,hf,List.length_cons]at h ⊢;rw[h,Nat.mul_succ];omega
theorem CW{α:Type}{f:α->List Value}{n:Nat}(hf:∀x,(f x).length=n):∀(xs:List α) (k j:Nat) (x:α),xs[k]?=some x->j<n->(tab f xs)[k*n+j]?=(f x)[j]?
 |[],k,j,x,h,_=>by simp at h
 |y :: xs,0,j,x,h,hj=>by
  simp at h;subst h;simp only[tab,List.flatMap_cons,Nat.zero_mul,Nat.zero_add];rw[List.getElem?_append_left (by rw[hf];exact hj)]
 |y :: xs,k+1,j,x,h,hj=>by
  have ih:=CW hf xs k j x (by simpa using h) hj;simp only[tab,List.flatMap_cons]at ih ⊢;rw[List.getElem?_append_right (by rw[hf,Nat.succ_mul];omega),hf,<-ih];congr 1;rw[Nat.succ_mul];omega
theorem Dy{α:Type}{f:α->List Value}{n:Nat}(hf:∀x,(f x).length=n):∀(xs:List α) (k j:Nat) (x x':α) (v:Value),xs[k]?=some x->j<n->f x'=(f x).set j v->(tab f xs).set (k*n+j) v=tab f (xs.set k x')
 |[],k,j,x,x',v,h,_,_=>by simp at h
 |y :: xs,0,j,x,x',v,h,hj,e=>by
  simp at h;subst h;simp only[tab,List.flatMap_cons,Nat.zero_mul,Nat.zero_add,List.set_cons_zero];rw[List.set_append_left _ _ (by rw[hf];exact hj),e]
 |y :: xs,k+1,j,x,x',v,h,hj,e=>by
  have ih:=Dy hf xs k j x x' v (by simpa using h) hj e;simp only[tab,List.flatMap_cons,List.set_cons_succ]at ih ⊢;rw[List.set_append_right _ _ (by rw[hf,Nat.succ_mul];omega),hf,<-ih];congr 2;rw[Nat.succ_mul];omega
theorem D9{α:Type}(f:α->List Value)(xs:List α)(x:α):tab f (xs++[x])=tab f xs++f x:=by simp[tab]
theorem Ap{w:World}{b off:Nat}{cs:List Value}{t:TypeId}{fz:Nat×Nat}(h:w.heap[b]?=some (.cells cs.toArray t fz))(v:Value):(w.setCell ⟨b,off,none⟩ v).heap[b]?=some (.cells (cs.set off v).toArray t fz):=by
 simp[World.setCell,Array.getElem?_modify,h]
theorem Bi{w:World}{b off:Nat}{cs:List Value}{t:TypeId}{fz:Nat×Nat}{v:Value}(h:w.heap[b]?=some (.cells cs.toArray t fz))(hv:cs[off]?=some v):w.cell? ⟨b,off,none⟩=some v:=by
 simp[World.cell?,h,hv]
theorem open_list{w:World}{b off:Nat}{cs:Array Value}{t:TypeId}(h:w.heap[b]?=some (.cells cs t (0,0))):w.frozen? ⟨b,off,none⟩=false:=by
 simp[World.frozen?,h]
theorem AO{w:World}{a b:Nat}{xs ys:Array Value}{t u:TypeId}{f g:Nat×Nat}(ha:w.heap[a]?=some (.cells xs t f))(hb:w.heap[b]?=some (.cells ys u g))(h:t≠u):a≠b:=by
 rintro rfl;rw[ha]at hb;cases hb;exact h rfl
theorem FG{w:World}{a b:Nat}{xs:Array Value}{t:TypeId}{f:Nat×Nat}{es:Array MapEntry}{cl:Nat}(ha:w.heap[a]?=some (.cells xs t f))(hb:w.heap[b]?=some (.map es cl)):a≠b:=by
 rintro rfl;rw[ha]at hb;cases hb
end Go.Proofs.YtblomippkddgiaaGreatDoor
namespace Go.Proofs.YtblomippkddgiaaGreatDoor.R
abbrev It:=Int×ByteArray
structure Cf where
 Ad:Int
 lines:Int
 Al:Int
 tries:Int
 table:Int
structure En where
 client:Int
 Ax:Int
 line:Int
 seq:Int
 proc:Int
 arg:List It
 result:List It
structure Fl where
 to:Int
 s:List UInt8
 Dn:Bool
structure Sv where
 kind:Int
 alive:Bool
 log:List En
structure Ln where
 seq:Int
 state:Int
 result:List It
 uid:Int
 to:ByteArray
 message:List UInt8
 Az:Int
 came:List UInt8
 pieces:Int
 wait:Int
 tries:Int
structure Cl where
 Ax:Int
 bound:List Int
 lines:List Ln
structure Sn where
 seq:Int
 uid:Int
 message:List UInt8
 pieces:Int
 state:Int
 result:List UInt8
 at':Int
 timed:Bool
 wait:Int
 tries:Int
structure Jb where
 client:Int
 line:Int
 Ax:Int
 seq:Int
 uid:Int
structure Wd where
 c:Cf
 names:List (List UInt8)
 stands:List Int
 Ac:List Sv
 Af:List Fl
 Ad:List Cl
 Ao:List Int
 seen:List Sn
 jobs:List Jb
def Um:Ln:=⟨0,0,[],0,⟨#[]⟩,[],0,[],0,0,0⟩
def Ef:Sn:=⟨0,0,[],0,0,[],0,false,0,0⟩
def LM(Ax:Int)(lines:Int):Cl:=⟨Ax,[],List.replicate lines.toNat Um⟩
def Cj(c:Cf):Prop:=(1<=c.Ad/\c.Ad<=3)/\(1<=c.lines/\c.lines<=3)/\(1<=c.Al/\c.Al<=8)/\(1<=c.tries/\c.tries<=6)/\(1<=c.table/\c.table<=9)
instance (c:Cf):Decidable (Cj c):=by unfold Cj;infer_instance
def AY(s:List UInt8):Bool:=decide (1<=s.length)&&decide (s.length<=8)&&s.all fun b=>decide (97<=b.toNat)&&decide (b.toNat<=122)
def Bh(w:Wd)(name:List UInt8):Option Nat:=w.names.findIdx? (·==name)
def Ce(w:Wd)(uid:Int):Wd:=
 {w with
  Ac:=w.Ac.modify (uid-1).toNat fun s=>{s with alive:=false}
  seen:=w.seen.map fun r=>if r.uid=uid/\r.state<3 then {r with state:=4} else r}
def AJ(w:Wd)(name:List UInt8)(kind:Int):(Int×Int)×Wd:=
 if AY name=false then ((0,10),w)
 else if kind<0\/2<kind then ((0,9),w)
 else match Bh w name with
  |none=>
   if w.names.length=6 then ((0,12),w)
   else if w.Ac.length=255 then ((0,11),w)
   else (((w.Ac.length:Int)+1,0),{w with names:=w.names++[name],stands:=w.stands++[(w.Ac.length:Int)+1],Ac:=w.Ac++[⟨kind,true,[]⟩]})
  |some k=>
   if w.Ac.length=255 then ((0,11),w)
   else
    let w1:=Ce w (w.stands.getD k 0)
    (((w.Ac.length:Int)+1,0),{w1 with stands:=w1.stands.set k ((w.Ac.length:Int)+1),Ac:=w1.Ac++[⟨kind,true,[]⟩]})
def AU(w:Wd)(name:List UInt8):Int×Wd:=match Bh w name with
 |none=>(10,w)
 |some k=>
  let w1:=Ce w (w.stands.getD k 0)
  (0,{w1 with names:=w1.names.eraseIdx k,stands:=w1.stands.eraseIdx k})
def Bn(w:Wd)(client:Int)(name:List UInt8):(Int×Int×Int)×Wd:=
 if client<0\/(w.Ad.length:Int)<=client then ((0,0,13),w)
 else match Bh w name with
  |none=>((0,0,10),w)
  |some k=>
   let uid:=w.stands.getD k 0
   ((uid,((w.Ac[(uid-1).toNat]?).map (·.kind)).getD 0,0),{w with Ad:=w.Ad.modify client.toNat fun c=>{c with bound:=c.bound++[uid]}})
def Ak(s:List UInt8):Int:=(((s.length+7) / 8:Nat):Int)
def Bs(s:List UInt8)(k:Int):List UInt8:=(s.drop (8*k.toNat)).take 8
def BM(w:Wd)(to:Int)(p:Pk):Wd:=if w.Af.length<40 then {w with Af:=w.Af++[⟨to,DG p,false⟩]} else w
def Da(w:Wd)(client line:Int):Ln:=((w.Ad[client.toNat]?).bind fun c=>c.lines[line.toNat]?).getD Um
def Jd(w:Wd)(client:Int):Int:=((w.Ad[client.toNat]?).map (·.Ax)).getD 0
def Ar(w:Wd)(client line:Int)(l:Ln):Wd:={w with Ad:=w.Ad.modify client.toNat fun c=>{c with lines:=c.lines.set line.toNat l}}
def A9(w:Wd)(client line:Int)(again:Bool):Wd:=
 let l:=Da w client line
 BM w (-1) ⟨1,client,Jd w client,line,l.seq,l.uid,l.Az,Ak l.message,again || decide (l.Az<Ak l.message-1),Bs l.message l.Az⟩
def Fg(w:Wd)(client line:Int):Wd:=
 let l:=Da w client line
 BM w (-1) ⟨3,client,Jd w client,line,l.seq,l.uid,0,1,true,[]⟩
def txt(l:List UInt8):ByteArray:=⟨l.toArray⟩
def E3(kind proc:Int):Option (ByteArray×ByteArray):=
 if kind=0/\proc=0 then some (txt [105],txt [99])
 else if kind=0/\proc=1 then some (txt [98],txt [99])
 else if kind=1/\proc=0 then some (txt [115],txt [99])
 else if kind=1/\proc=1 then some (txt [99],txt [113,52,115])
 else if kind=2/\proc=0 then some (txt [114,40,101,51,113,51,105,41],txt [117,40,98,113,51,105,41])
 else none
def Fa(t:ByteArray)(v:List It):Option (List UInt8):=if (V.C3 t v).1=0 then some (V.C3 t v).2 else none
def Bf(w:Wd)(client line uid proc:Int)(arg:List It):(Int×Int)×Wd:=
 if client<0\/(w.Ad.length:Int)<=client then ((0,13),w)
 else if line<0\/w.c.lines<=line then ((0,14),w)
 else if ¬uid∈((w.Ad[client.toNat]?).map (·.bound)).getD [] then ((0,15),w)
 else match E3 (((w.Ac[(uid-1).toNat]?).map (·.kind)).getD 0) proc with
  |none=>((0,16),w)
  |some (from',to)=>match Fa from' arg with
   |none=>((0,4),w)
   |some bs=>
    let l:=Da w client line
    if l.state=1 then ((0,17),w)
    else if l.seq=999 then ((0,11),w)
    else ((l.seq+1,0),A9 (Ar w client line ⟨l.seq+1,1,[],uid,to,AF proc++bs,0,[],0,w.c.Al,w.c.tries⟩) client line false)
def Df(w:Wd)(client line:Int):Int×Int×List It×Int:=
 if client<0\/(w.Ad.length:Int)<=client then (0,0,[],13)
 else if line<0\/w.c.lines<=line then (0,0,[],14)
 else ((Da w client line).state,(Da w client line).seq,(Da w client line).result,0)
def AB(w:Wd)(client line:Int):Wd:=
 let l:=Da w client line
 if l.state≠1 then w
 else if 1<l.wait then Ar w client line {l with wait:=l.wait-1}
 else if l.tries=0 then Ar w client line {l with wait:=l.wait-1,state:=3}
 else
  let w1:=Ar w client line {l with wait:=w.c.Al,tries:=l.tries-1}
  if 8*l.Az<(l.message.length:Int) then A9 w1 client line true else Fg w1 client line
def D7(w:Wd)(i:Nat):Sn:=(w.seen[i]?).getD Ef
def CU(w:Wd)(i:Nat)(r:Sn):Wd:={w with seen:=w.seen.set i r}
def BJ(w:Wd)(i:Nat):Wd:=
 let r:=D7 w i
 BM w ((i / 3:Nat):Int) ⟨5,((i / 3:Nat):Int),(w.Ao[i / 3]?).getD 0,((i % 3:Nat):Int),r.seq,r.uid,r.at',Ak r.result,false,Bs r.result r.at'⟩
def Ay(w:Wd)(i:Nat):Wd:=
 let r:=D7 w i
 if r.timed=false then w
 else if 1<r.wait then CU w i {r with wait:=r.wait-1}
 else if r.tries=0 then CU w i {r with wait:=r.wait-1,timed:=false}
 else BJ (CU w i {r with wait:=w.c.Al,tries:=r.tries-1}) i
def Eo(w:Wd):Wd:=(List.range w.Ad.length).foldl (fun w (i:Nat)=>(List.range w.c.lines.toNat).foldl (fun w (k:Nat)=>AB w (i:Int) (k:Int)) w) w
def FK(w:Wd):Wd:=(List.range 9).foldl Ay (Eo w)
def off(w:Wd)(i:Int):Prop:=i<0\/(w.Af.length:Int)<=i
instance (w:Wd) (i:Int):Decidable (off w i):=by unfold off;infer_instance
def EL(w:Wd)(i:Int):Int×List UInt8×Int:=if off w i then (0,[],9) else match w.Af[i.toNat]? with
 |none=>(0,[],9)
 |some f=>(f.to,f.s,0)
def EF(w:Wd)(i:Int):Int×Wd:=if off w i then (9,w) else (0,{w with Af:=w.Af.eraseIdx i.toNat})
def D5(w:Wd)(i:Int):Int×Wd:=if off w i then (9,w) else if 40<=w.Af.length then (12,w) else match w.Af[i.toNat]? with
 |none=>(9,w)
 |some f=>(0,{w with Af:=w.Af++[f]})
def D4(w:Wd)(i at' by':Int):Int×Wd:=if off w i then (9,w) else match w.Af[i.toNat]? with
 |none=>(9,w)
 |some f=>
  if at'<0\/(f.s.length:Int)<=at'\/by'<1\/255<by' then (9,w)
  else if f.Dn=true then (18,w)
  else (0,{w with Af:=w.Af.set i.toNat ⟨f.to,f.s.set at'.toNat ((f.s.getD at'.toNat 0) ^^^ b8 by'),true⟩})
structure Nc(l:Ln):Prop where
 seq:0<=l.seq/\l.seq<=999
 one:l.state=1->1<=l.seq/\(1<=l.uid/\l.uid<=255)/\(1<=l.message.length/\l.message.length<=72)/\(0<=l.Az/\l.Az<=Ak l.message)/\(1<=l.wait/\l.wait<=8)/\(0<=l.tries/\l.tries<=6)
structure ZX(G:Wd)(c:Cl):Prop where
 lines:(c.lines.length:Int)=G.c.lines
 Ax:1<=c.Ax/\c.Ax<=255
 bound:∀u∈c.bound,1<=u/\u<=(G.Ac.length:Int)
 line:∀(k:Nat) (l:Ln),c.lines[k]?=some l->Nc l
structure Wf(G:Wd):Prop where
 cf:Cj G.c
 JL:(G.Ad.length:Int)=G.c.Ad
 cl:∀(i:Nat) (c:Cl),G.Ad[i]?=some c->ZX G c
 EC:G.Af.length<=40
 EO:∀f∈G.Af,f.s.length<=21
 sv:G.Ac.length<=255
 Lr:∀s∈G.Ac,0<=s.kind/\s.kind<=2
 nm:G.names.length<=6
 st:G.stands.length=G.names.length
 nd:G.names.Nodup
 IC:∀u∈G.stands,1<=u/\u<=(G.Ac.length:Int)
theorem Bc{G:Wd}{i k:Nat}{c:Cl}{l:Ln}(hc:G.Ad[i]?=some c)(hl:c.lines[k]?=some l):Da G i k=l:=by
 simp[Da,hc,hl]
theorem DR{G:Wd}{i:Nat}{c:Cl}(hc:G.Ad[i]?=some c):Jd G i=c.Ax:=by
 simp[Jd,hc]
theorem Ze(G:Wd)(i k:Int)(l:Ln):(Ar G i k l).c=G.c:=rfl
theorem Vk(G:Wd)(i k:Int)(l:Ln):(Ar G i k l).Af=G.Af:=rfl
theorem Sg(G:Wd)(i k:Int)(l:Ln):(Ar G i k l).Ac=G.Ac:=rfl
theorem BK{G:Wd}{i k:Nat}{l:Ln}{j:Nat}:(Ar G i k l).Ad[j]?=(G.Ad[j]?).map fun c=>if i=j then {c with lines:=c.lines.set k l} else c:=by
 simp only[Ar,Int.toNat_natCast,List.getElem?_modify];by_cases h:i=j
 ·simp[h]
 ·simp[h]
theorem Wf.Ar{G:Wd}(h:Wf G){i k:Nat}{l':Ln}(hl:Nc l'):Wf (Ar G i k l'):=by
 refine⟨h.cf,by simpa [R.Ar] using h.JL,fun j c hc=>?_,h.EC,h.EO,h.sv,h.Lr,h.nm,h.st,h.nd,h.IC⟩;rw[BK]at hc;cases hj:G.Ad[j]? with
 |none=>rw[hj]at hc;cases hc
 |some c0=>
  rw[hj]at hc;have h0:=h.cl j c0 hj;simp only[Option.map_some,Option.some.injEq]at hc;subst hc;split
  ·refine⟨by simpa [R.Ar] using h0.lines,h0.Ax,h0.bound,fun m x hx=>?_⟩;simp only[List.getElem?_set]at hx;split at hx
   ·split at hx
    ·cases hx;exact hl
    ·cases hx
   ·exact h0.line m x hx
  ·exact⟨h0.lines,h0.Ax,h0.bound,h0.line⟩
theorem Xl{p:Pk}(h:Bq p):(DG p).length<=21:=by
 have:=KE h;simp[DG,Et,nums,AF];omega
theorem Wf.BM{G:Wd}(h:Wf G){to:Int}{p:Pk}(hr:Bq p):Wf (BM G to p):=by
 unfold R.BM;split
 ·rename_i hl;refine⟨h.cf,h.JL,fun j c hc=>?_,by simp;omega,fun f hf=>?_,h.sv,h.Lr,h.nm,h.st,h.nd,h.IC⟩
  ·have h0:=h.cl j c hc;exact⟨h0.lines,h0.Ax,h0.bound,h0.line⟩
  ·rcases List.mem_append.1 hf with hf|hf
   ·exact h.EO f hf
   ·simp only[List.mem_singleton]at hf;subst hf;exact Xl hr
 ·exact h
theorem Ff{s:List UInt8}(h:1<=s.length):1<=Ak s:=by unfold Ak;omega
theorem FW{s:List UInt8}(h:s.length<=72):Ak s<=9:=by unfold Ak;omega
theorem K8{s:List UInt8}{k:Int}:(Bs s k).length=min 8 (s.length-8*k.toNat):=by simp[Bs]
theorem Jn{s:List UInt8}{k:Int}(h0:0<=k):if k<Ak s-1 then (Bs s k).length=8 else (Bs s k).length<=8:=by
 rw[K8];unfold Ak at *;split<;>omega
theorem FO{s:List UInt8}{a:Int}:8*a<(s.length:Int)↔a<Ak s:=by unfold Ak;omega
def CH(G:Wd)(i k:Nat)(l:Ln)(again:Bool):Pk:=⟨1,i,Jd G i,k,l.seq,l.uid,l.Az,Ak l.message,again || decide (l.Az<Ak l.message-1),Bs l.message l.Az⟩
def Cr(G:Wd)(i k:Nat)(l:Ln):Pk:=⟨3,i,Jd G i,k,l.seq,l.uid,0,1,true,[]⟩
theorem IX{G:Wd}(h:Wf G){i k:Nat}{c:Cl}{l:Ln}(hc:G.Ad[i]?=some c)(hl:c.lines[k]?=some l)(h1:l.state=1)(ha:l.Az<Ak l.message)(again:Bool):Bq (CH G i k l again):=by
 have hi:=(List.getElem?_eq_some_iff.1 hc).1;have hk:=(List.getElem?_eq_some_iff.1 hl).1;have h0:=h.cl i c hc;obtain⟨q1,q2,q3,q4,q5,q6⟩:=(h0.line k l hl).one h1;have hs:=(h0.line k l hl).seq;have hn:=h.JL;have hcf:=h.cf;have hln:=h0.lines;have hlf:=h0.Ax;have hp:=FW q3.2;have hb:=Jn (s:=l.message) q4.1;have e:=DR hc;unfold Cj at hcf;refine⟨by simp[CH],by simp[CH];omega,by simp only[CH,e];omega,by simp[CH];omega,by simp[CH];omega,by simp[CH];omega,by simp[CH];omega,by simp[CH];omega,?_⟩;show Er (CH G i k l again);unfold Er;rw[if_pos (show (CH G i k l again).kind=1\/(CH G i k l again).kind=5 from Or.inl rfl)];exact hb
theorem Ii{G:Wd}(h:Wf G){i k:Nat}{c:Cl}{l:Ln}(hc:G.Ad[i]?=some c)(hl:c.lines[k]?=some l)(h1:l.state=1):Bq (Cr G i k l):=by
 have hi:=(List.getElem?_eq_some_iff.1 hc).1;have hk:=(List.getElem?_eq_some_iff.1 hl).1;have h0:=h.cl i c hc;obtain⟨q1,q2,q3,q4,q5,q6⟩:=(h0.line k l hl).one h1;have hs:=(h0.line k l hl).seq;have hn:=h.JL;have hcf:=h.cf;have hln:=h0.lines;have hlf:=h0.Ax;have e:=DR hc;unfold Cj at hcf;refine⟨by simp[Cr],by simp[Cr];omega,by simp only[Cr,e];omega,by simp[Cr];omega,by simp[Cr];omega,by simp[Cr];omega,by simp[Cr],by simp[Cr],?_⟩;simp[Er,Cr]
theorem Ge{G:Wd}{i k:Nat}{l:Ln}(hl:Da G i k=l)(again:Bool):A9 G i k again=BM G (-1) (CH G i k l again):=by
 unfold A9;rw[hl];rfl
theorem Rq{G:Wd}{i k:Nat}{l:Ln}(hl:Da G i k=l):Fg G i k=BM G (-1) (Cr G i k l):=by
 unfold Fg;rw[hl];rfl
end Go.Proofs.YtblomippkddgiaaGreatDoor.R
namespace Go.Proofs.YtblomippkddgiaaGreatDoor
open Go.RowKit
abbrev pv(p:Pk):Value:=.agg #[.int .i64 p.kind,.int .i64 p.client,.int .i64 p.Ax,.int .i64 p.line,.int .i64 p.seq,.int .i64 p.uid,.int .i64 p.part,.int .i64 p.off,.bool p.please,.string (str p.body)]
theorem cell_of{w:World}{s:Nat}{xs:Array Value}{t:TypeId}(h:w.heap[s]?=some (.cells xs t (0,0)))(o:Nat)(v:Value)(hv:xs[o]?=some v):w.cell? ⟨s,o,none⟩=some v:=by
 simp[World.cell?,h,hv]
theorem Cs{w:World}{s:Nat}{xs:Array Value}{t:TypeId}(h:w.heap[s]?=some (.cells xs t (0,0)))(o:Nat):w.frozen? ⟨s,o,none⟩=false:=by
 simp[World.frozen?,h]
def XB(n lo hi:Int)(w:World)(e:Ending)(w':World):Prop:=w'=w/\(((lo<=n/\n<=hi)/\e=.returned (.tuple #[]))\/(¬(lo<=n/\n<=hi)/\e=A5 7 0))
theorem PD(n lo hi:Int)(w:World):Calls Tryz.prog 117 #[.int .i64 n,.int .i64 lo,.int .i64 hi] w (XB n lo hi w):=by
 by_cases h1:n<lo
 ·go_enter Tryz.func117,Tryz.ntmps117;go_wp2;exact⟨rfl,rfl,Or.inr ⟨by omega,rfl⟩⟩
 ·by_cases h2:hi<n
  ·go_enter Tryz.func117,Tryz.ntmps117;go_wp2;exact⟨rfl,rfl,Or.inr ⟨by omega,rfl⟩⟩
  ·go_enter Tryz.func117,Tryz.ntmps117;go_wp2
   go_end0
   exact⟨rfl,Or.inl ⟨⟨by omega,by omega⟩,rfl⟩⟩
def BV(kind part off:Int):Int×Int:=if kind=1\/kind=5 then (if part<off-1 then (8,8) else (0,8)) else (0,0)
theorem J0(p:Pk):((BV p.kind p.part p.off).1<=(p.body.length:Int)/\(p.body.length:Int)<=(BV p.kind p.part p.off).2)↔Er p:=by
 unfold BV Er;split
 ·split<;>simp<;>omega
 ·simp
abbrev My(k c li ln sq u pa o:Int)(pl:Bool)(S:ByteArray):Value:=.agg #[.int .i64 k,.int .i64 c,.int .i64 li,.int .i64 ln,.int .i64 sq,.int .i64 u,.int .i64 pa,.int .i64 o,.bool pl,.string S]
theorem Ny(k c li ln sq u pa o:Int)(pl:Bool)(S:ByteArray)(w:World)(ho:1<=o/\o<=9):
  Calls Tryz.prog 118 #[My k c li ln sq u pa o pl S] w fun e w'=>e=.returned (.tuple #[.int .i64 (BV k pa o).1,.int .i64 (BV k pa o).2])/\Below w.heap.size w w':=by
 have hw:wrap64 (o-1)=o-1:=by unfold wrap64;omega
 have HB:=Ab ((Below.refl w.heap.size w).alloc (Nat.le_refl _) (.cells #[.int .i64 k,.int .i64 c,.int .i64 li,.int .i64 ln,.int .i64 sq,.int .i64 u,.int .i64 pa,.int .i64 o,.bool pl,.string S] 41));by_cases h1:k=1
 ·subst h1;by_cases h2:pa<o-1
  ·have e:BV 1 pa o=(8,8):=by simp[BV,h2]
   rw[e];go_enter Tryz.func118,Tryz.ntmps118;go_wp2;exact bodyPost_ret (v:=.tuple #[.int .i64 8,.int .i64 8]) (by simp[results,Tryz.results118,go_sem]) rfl ⟨rfl,Aa HB⟩
  ·have e:BV 1 pa o=(0,8):=by simp[BV,h2]
   rw[e];go_enter Tryz.func118,Tryz.ntmps118;go_wp2;exact bodyPost_ret (v:=.tuple #[.int .i64 0,.int .i64 8]) (by simp[results,Tryz.results118,go_sem]) rfl ⟨rfl,Aa HB⟩
 ·have hk:(k != 1)=true:=by simpa using h1
  by_cases h5:k=5
  ·subst h5;by_cases h2:pa<o-1
   ·have e:BV 5 pa o=(8,8):=by simp[BV,h2]
    rw[e];go_enter Tryz.func118,Tryz.ntmps118;go_wp2;exact bodyPost_ret (v:=.tuple #[.int .i64 8,.int .i64 8]) (by simp[results,Tryz.results118,go_sem]) rfl ⟨rfl,Aa HB⟩
   ·have e:BV 5 pa o=(0,8):=by simp[BV,h2]
    rw[e];go_enter Tryz.func118,Tryz.ntmps118;go_wp2;exact bodyPost_ret (v:=.tuple #[.int .i64 0,.int .i64 8]) (by simp[results,Tryz.results118,go_sem]) rfl ⟨rfl,Aa HB⟩
  ·have hk5:(k != 5)=true:=by simpa using h5
   have e:BV k pa o=(0,0):=by simp[BV,h1,h5]
   rw[e];clear h1 h5;go_enter Tryz.func118,Tryz.ntmps118;go_wp2;exact bodyPost_ret (v:=.tuple #[.int .i64 0,.int .i64 0]) (by simp[results,Tryz.results118,go_sem]) rfl ⟨rfl,Aa HB⟩
def Ki(p:Pk)(w:World)(e:Ending)(w':World):Prop:=Below w.heap.size w w'/\((Bq p/\e=.returned (.tuple #[]))\/(¬Bq p/\e=A5 7 0))
theorem RN{k c li ln sq u pa o:Int}{pl:Bool}{body:List UInt8}(h:Bq ⟨k,c,li,ln,sq,u,pa,o,pl,body⟩):((1<=k/\k<=7)/\(0<=c/\c<=2)/\(1<=li/\li<=255)/\(0<=ln/\ln<=2)/\(1<=sq/\sq<=999)/\(1<=u/\u<=255)/\(1<=o/\o<=9)/\(0<=pa/\pa<=o-1))/\((BV k pa o).1<=(body.length:Int)/\(body.length:Int)<=(BV k pa o).2):=by
 obtain⟨h1,h2,h3,h4,h5,h6,h7,h8,h9⟩:=h;exact⟨⟨h1,h2,h3,h4,h5,h6,h7,h8⟩,(J0 _).2 h9⟩
theorem RL(p:Pk)(w:World):Calls Tryz.prog 67 #[pv p] w (Ki p w):=by
 have HW:=Ab PD;have HBD:=Ab Ny;obtain⟨k,c,li,ln,sq,u,pa,o,pl,body⟩:=p;have hsz:=Au body;obtain⟨S,hS⟩:∃S,S=str body:=⟨_,rfl⟩;have HB:=Ab ((Below.refl w.heap.size w).alloc (Nat.le_refl _) (.cells #[.int .i64 k,.int .i64 c,.int .i64 li,.int .i64 ln,.int .i64 sq,.int .i64 u,.int .i64 pa,.int .i64 o,.bool pl,.string S] 41));have HWH:Hid (Bq ⟨k,c,li,ln,sq,u,pa,o,pl,body⟩->_):=RN;have HOK:=Ab (J0 ⟨k,c,li,ln,sq,u,pa,o,pl,body⟩);obtain⟨post,hpost⟩:∃post,post=Ki ⟨k,c,li,ln,sq,u,pa,o,pl,body⟩ w:=⟨_,rfl⟩;have HNO:Hid (∀w',Below w.heap.size w w'->¬Bq ⟨k,c,li,ln,sq,u,pa,o,pl,body⟩->post (A5 7 0) w'):=by
  rw[hpost];exact fun w' hb hr=>⟨hb,Or.inr ⟨hr,rfl⟩⟩
 have HYES:Hid (∀w',Below w.heap.size w w'->Bq ⟨k,c,li,ln,sq,u,pa,o,pl,body⟩->post (.returned (.tuple #[])) w'):=by
  rw[hpost];exact fun w' hb hr=>⟨hb,Or.inl ⟨hr,rfl⟩⟩
 show Calls Tryz.prog 67 #[My k c li ln sq u pa o pl (str body)] w _;rw[<-hS,<-hpost];have hsz2:(S.size:Int)=(body.length:Int):=by rw[hS,hsz]
 clear hsz hS hpost;go_enter Tryz.func67,Tryz.ntmps67;go_wp2_with (first
  |(go_at_call 117;refine((Aa HW) _ _ _ _).mono ?_;rintro e w1 ⟨rfl,⟨hin,rfl⟩|⟨hout,rfl⟩⟩;rotate_left;(exact⟨rfl,(Aa HNO) _ (Aa HB) (fun h=>by have hh:=((Aa HWH) h).1;omega)⟩);have ⟨hin1,hin2⟩:=hin))
 refine((Aa HBD) _ _ _ _ _ _ _ _ _ _ _ (by omega)).mono ?_;rintro e w2 ⟨rfl,hb2⟩;have hbw:=Ab ((Aa HB).trans (hb2.mono (by simp)));have c9:w2.cell? ⟨w.heap.size,9,none⟩=some (.string S):=(hb2.cell (p:=⟨w.heap.size,9,none⟩) (by simp)).trans (by simp[go_sem]);generalize BV k pa o=B at *;obtain⟨b1,b2⟩:=B;go_wp2_with fail
 refine((Aa HW) _ _ _ _).mono ?_;rintro e w1 ⟨rfl,⟨hin,rfl⟩|⟨hout,rfl⟩⟩
 ·go_wp2
  go_end0
  refine(Aa HYES) _ (Aa hbw) ?_;exact⟨by omega,by omega,by omega,by omega,by omega,by omega,by omega,by omega,(Aa HOK).1 hin⟩
 ·go_wp2;exact⟨rfl,(Aa HNO) _ (Aa hbw) (fun h=>hout ((Aa HWH) h).2)⟩
end Go.Proofs.YtblomippkddgiaaGreatDoor
