import Derived.Test.YtblomippkddgiaaGreatDoorJ09
set_option maxRecDepth 100000
set_option maxHeartbeats 4000000
namespace Go.Proofs.YtblomippkddgiaaGreatDoor
open Go.Proofs.Tryz
open Go.RowKit
variable {xs:Array Value}{a b n:Nat}{f fz:Nat×Nat}{t:TypeId}{w:World}
def tab{α:Type}(f:α->List Value)(xs:List α):List Value:=xs.flatMap f
theorem F8{α:Type}{f:α->List Value}(e:∀x,(f x).length=n):∀xs:List α,(tab f xs).length=n*xs.length
 |[]=>by simp[tab]
 |x :: xs=>by
  have h:=F8 e xs;simp only[tab,Ci,AJ,e,A4]at h ⊢;rw[h,Nat.mul_succ];omega
theorem Jh{α:Type}{f:α->List Value}(e:∀x,(f x).length=n):∀(xs:List α) (k j:Nat) (x:α),xs[k]?=some x->j<n->(tab f xs)[k*n+j]?=(f x)[j]?
 |[],k,j,x,h,_=>by simp at h
 |y :: xs,0,j,x,h,hj=>by
  simp at h;subst h;simp only[tab,Ci,Dt,Cr];rw[A6 (by rw[e];exact hj)]
 |y :: xs,k+1,j,x,h,hj=>by
  have g:=Jh e xs k j x (by simpa using h) hj;simp only[tab,Ci]at g ⊢;rw[Bq (by rw[e,Du];omega),e,<-g];congr 1;rw[Du];omega
theorem J6{α:Type}{f:α->List Value}(g:∀x,(f x).length=n):∀(xs:List α) (k j:Nat) (x x':α) (v:Ad),xs[k]?=some x->j<n->f x'=(f x).set j v->(tab f xs).set (k*n+j) v=tab f (xs.set k x')
 |[],k,j,x,x',v,h,_,_=>by simp at h
 |y :: xs,0,j,x,x',v,h,hj,e=>by
  simp at h;subst h;simp only[tab,Ci,Dt,Cr,Av];rw[List.set_append_left _ _ (by rw[g];exact hj),e]
 |y :: xs,k+1,j,x,x',v,h,hj,e=>by
  have m:=J6 g xs k j x x' v (by simpa using h) hj e;simp only[tab,Ci,Ax]at m ⊢;rw[List.set_append_right _ _ (by rw[g,Du];omega),g,<-m];congr 2;rw[Du];omega
theorem Jn{α:Type}(f:α->List Value)(xs:List α)(x:α):tab f (xs++[x])=tab f xs++f x:=by simp[tab]
theorem Ek{off:Nat}{cs:Ae}(h:w.heap[b]?=some (.cells cs.toArray t fz))(v:Ad):(w.setCell (Y b off) v).heap[b]?=some (.cells (cs.set off v).toArray t fz):=by grind [World.setCell]
theorem E7{off:Nat}{cs:Ae}{v:Ad}(h:w.heap[b]?=some (.cells cs.toArray t fz))(e:cs[off]?=some v):w.cell? (Y b off)=some v:=by
 simp[World.cell?,h,e]
theorem Eb{off:Nat}{cs:Array Value}(h:w.heap[b]?=some (.cells cs t (0,0))):w.frozen? (Y b off)=false:=by
 simp[World.frozen?,h]
theorem ES{e:Array Value}{u:Ag}{g:Nat×Nat}(j:w.heap[a]?=some (.cells xs t f))(m:w.heap[b]?=some (.cells e u g))(h:t≠u):a≠b:=by grind
theorem On{g:Array MapEntry}{cl:Nat}(h:w.heap[a]?=some (.cells xs t f))(e:w.heap[b]?=some (.map g cl)):a≠b:=by
 rintro rfl;rw[h]at e;cases e
end Go.Proofs.YtblomippkddgiaaGreatDoor
namespace Go.Proofs.YtblomippkddgiaaGreatDoor.R
open Go.Proofs.Tryz
variable {s:List UInt8}{i k:Nat}{p:Pk}
abbrev It:=Int×ByteArray
structure Cf where
 DI:Int
 DV:Int
 Ew:Int
 DW:Int
 FF:Int
structure En where
 DJ:Int
 DR:Int
 DZ:Int
 D4:Int
 Eo:Int
 arg:List It
 DU:List It
structure Fl where
 to:Int
 s:List UInt8
 Ij:Bool
structure Sv where
 Dz:Int
 Fj:Bool
 log:List En
structure Ln where
 D4:Int
 DK:Int
 DU:List It
 D5:Int
 to:ByteArray
 DC:List UInt8
 Ea:Int
 EK:List UInt8
 DT:Int
 El:Int
 DW:Int
structure Cl where
 DR:Int
 Ee:List Int
 DV:List Ln
structure Sn where
 D4:Int
 D5:Int
 DC:List UInt8
 DT:Int
 DK:Int
 DU:List UInt8
 at':Int
 E1:Bool
 El:Int
 DW:Int
structure Jb where
 DJ:Int
 DZ:Int
 DR:Int
 D4:Int
 D5:Int
structure Wd where
 c:Cf
 Eu:List (List UInt8)
 Ec:List Int
 Dy:List Sv
 Ej:List Fl
 DI:List Cl
 DX:List Int
 DN:List Sn
 EF:List Jb
def Vm:Ln:=⟨0,0,[],0,⟨#[]⟩,[],0,[],0,0,0⟩
def Ic:Sn:=⟨0,0,[],0,0,[],0,false,0,0⟩
def RF(DR:Int)(DV:Int):Cl:=⟨DR,[],List.replicate DV.toNat Vm⟩
def GA(c:Cf):Prop:=(1<=c.DI/\c.DI<=3)/\(1<=c.DV/\c.DV<=3)/\(1<=c.Ew/\c.Ew<=8)/\(1<=c.DW/\c.DW<=6)/\(1<=c.FF/\c.FF<=9)
instance (c:Cf):Decidable (GA c):=by unfold GA;infer_instance
def fh(c:Cf):Option Wd:=if GA c then some ⟨c,[],[],[],[],List.replicate c.DI.toNat (RF 1 c.DV),[0,0,0],List.replicate 9 Ic,[]⟩ else none
def Gf(s:Ac):Bool:=decide (1<=s.length)&&decide (s.length<=8)&&s.all λb=>decide (97<=b.toNat)&&decide (b.toNat<=122)
def Gi(w:Wd)(name:Ac):Option Nat:=w.Eu.findIdx? (·==name)
def GR(w:Wd)(D5:Int):Wd:=
 {w with
  Dy:=w.Dy.modify (D5-1).toNat λs=>{s with Fj:=false}
  DN:=w.DN.map λr=>if r.D5=D5/\r.DK<3 then {r with DK:=4} else r}
def E4(w:Wd)(name:Ac)(Dz:Int):(Int×Int)×Wd:=
 if Gf name=false then ((0,10),w)
 else if Dz<0\/2<Dz then ((0,9),w)
 else match Gi w name with
  |none=>
   if w.Eu.length=6 then ((0,12),w)
   else if w.Dy.length=255 then ((0,11),w)
   else (((w.Dy.length:Int)+1,0),{w with Eu:=w.Eu++[name],Ec:=w.Ec++[(w.Dy.length:Int)+1],Dy:=w.Dy++[⟨Dz,true,[]⟩]})
  |some k=>
   if w.Dy.length=255 then ((0,11),w)
   else
    let w1:=GR w (w.Ec.getD k 0)
    (((w.Dy.length:Int)+1,0),{w1 with Ec:=w1.Ec.set k ((w.Dy.length:Int)+1),Dy:=w1.Dy++[⟨Dz,true,[]⟩]})
def Fb(w:Wd)(name:Ac):Int×Wd:=match Gi w name with
 |none=>(10,w)
 |some k=>
  let w1:=GR w (w.Ec.getD k 0)
  (0,{w1 with Eu:=w1.Eu.eraseIdx k,Ec:=w1.Ec.eraseIdx k})
def FV(w:Wd)(DJ:Int)(name:Ac):(Int×Int×Int)×Wd:=
 if DJ<0\/(w.DI.length:Int)<=DJ then ((0,0,13),w)
 else match Gi w name with
  |none=>((0,0,10),w)
  |some k=>
   let D5:=w.Ec.getD k 0
   ((D5,((w.Dy[(D5-1).toNat]?).map (·.Dz)).getD 0,0),{w with DI:=w.DI.modify DJ.toNat λc=>{c with Ee:=c.Ee++[D5]}})
def DL(s:Ac):Int:=(((s.length+7) / 8:Nat):Int)
def EY(s:Ac)(k:Int):List UInt8:=(s.drop (8*k.toNat)).take 8
def E9(w:Wd)(to:Int)(p:Pk):Wd:=if w.Ej.length<40 then {w with Ej:=w.Ej++[⟨to,Gq p,false⟩]} else w
def Ia(w:Wd)(DJ DZ:Int):Ln:=((w.DI[DJ.toNat]?).bind λc=>c.DV[DZ.toNat]?).getD Vm
def Qj(w:Wd)(DJ:Int):Int:=((w.DI[DJ.toNat]?).map (·.DR)).getD 0
def Eh(w:Wd)(DJ DZ:Int)(l:Ln):Wd:={w with DI:=w.DI.modify DJ.toNat λc=>{c with DV:=c.DV.set DZ.toNat l}}
def EG(w:Wd)(DJ DZ:Int)(Ga:Bool):Wd:=
 let l:=Ia w DJ DZ
 E9 w (-1) ⟨1,DJ,Qj w DJ,DZ,l.D4,l.D5,l.Ea,DL l.DC,Ga || decide (l.Ea<DL l.DC-1),EY l.DC l.Ea⟩
def Lq(w:Wd)(DJ DZ:Int):Wd:=
 let l:=Ia w DJ DZ
 E9 w (-1) ⟨3,DJ,Qj w DJ,DZ,l.D4,l.D5,0,1,true,[]⟩
def IE(l:Ac):ByteArray:=⟨l.toArray⟩
def IY(Dz Eo:Int):Option (ByteArray×ByteArray):=
 if Dz=0/\Eo=0 then some (IE [105],IE [99])
 else if Dz=0/\Eo=1 then some (IE [98],IE [99])
 else if Dz=1/\Eo=0 then some (IE [115],IE [99])
 else if Dz=1/\Eo=1 then some (IE [99],IE [113,52,115])
 else if Dz=2/\Eo=0 then some (IE [114,40,101,51,113,51,105,41],IE [117,40,98,113,51,105,41])
 else none
def Fi(t:Ab)(v:List It):Option (List UInt8):=if (V.Jk t v).1=0 then some (V.Jk t v).2 else none
def Gc(w:Wd)(DJ DZ D5 Eo:Int)(arg:List It):(Int×Int)×Wd:=
 if DJ<0\/(w.DI.length:Int)<=DJ then ((0,13),w)
 else if DZ<0\/w.c.DV<=DZ then ((0,14),w)
 else if ¬D5∈((w.DI[DJ.toNat]?).map (·.Ee)).getD [] then ((0,15),w)
 else match IY (((w.Dy[(D5-1).toNat]?).map (·.Dz)).getD 0) Eo with
  |none=>((0,16),w)
  |some (LO,to)=>match Fi LO arg with
   |none=>((0,4),w)
   |some bs=>
    let l:=Ia w DJ DZ
    if l.DK=1 then ((0,17),w)
    else if l.D4=999 then ((0,11),w)
    else ((l.D4+1,0),EG (Eh w DJ DZ ⟨l.D4+1,1,[],D5,to,EU Eo++bs,0,[],0,w.c.Ew,w.c.DW⟩) DJ DZ false)
def KI(w:Wd)(DJ DZ:Int):Int×Int×List It×Int:=
 if DJ<0\/(w.DI.length:Int)<=DJ then (0,0,[],13)
 else if DZ<0\/w.c.DV<=DZ then (0,0,[],14)
 else ((Ia w DJ DZ).DK,(Ia w DJ DZ).D4,(Ia w DJ DZ).DU,0)
def EM(w:Wd)(DJ DZ:Int):Wd:=
 let l:=Ia w DJ DZ
 if l.DK≠1 then w
 else if 1<l.El then Eh w DJ DZ {l with El:=l.El-1}
 else if l.DW=0 then Eh w DJ DZ {l with El:=l.El-1,DK:=3}
 else
  let w1:=Eh w DJ DZ {l with El:=w.c.Ew,DW:=l.DW-1}
  if 8*l.Ea<(l.DC.length:Int) then EG w1 DJ DZ true else Lq w1 DJ DZ
def EZ(w:Wd)(i:Nat):Sn:=(w.DN[i]?).getD Ic
def EA(w:Wd)(i:Nat)(r:Sn):Wd:={w with DN:=w.DN.set i r}
def Ex(w:Wd)(i:Nat):Wd:=
 let r:=EZ w i
 E9 w ((i / 3:Nat):Int) ⟨5,((i / 3:Nat):Int),(w.DX[i / 3]?).getD 0,((i % 3:Nat):Int),r.D4,r.D5,r.at',DL r.DU,false,EY r.DU r.at'⟩
def EH(w:Wd)(i:Nat):Wd:=
 let r:=EZ w i
 if r.E1=false then w
 else if 1<r.El then EA w i {r with El:=r.El-1}
 else if r.DW=0 then EA w i {r with El:=r.El-1,E1:=false}
 else Ex (EA w i {r with El:=w.c.Ew,DW:=r.DW-1}) i
def Nh(w:Wd):Wd:=(List.range w.DI.length).foldl (λw (i:Nat)=>(List.range w.c.DV.toNat).foldl (λw (k:Nat)=>EM w (i:Int) (k:Int)) w) w
def Ni(w:Wd):Wd:=(List.range 9).foldl EH (Nh w)
def off(w:Wd)(i:Int):Prop:=i<0\/(w.Ej.length:Int)<=i
instance (w:Wd) (i:Int):Decidable (off w i):=by unfold off;infer_instance
def MC(w:Wd)(i:Int):Int×List UInt8×Int:=if off w i then (0,[],9) else match w.Ej[i.toNat]? with
 |none=>(0,[],9)
 |some f=>(f.to,f.s,0)
def JM(w:Wd)(i:Int):Int×Wd:=if off w i then (9,w) else (0,{w with Ej:=w.Ej.eraseIdx i.toNat})
def JA(w:Wd)(i:Int):Int×Wd:=if off w i then (9,w) else if 40<=w.Ej.length then (12,w) else match w.Ej[i.toNat]? with
 |none=>(9,w)
 |some f=>(0,{w with Ej:=w.Ej++[f]})
def Jz(w:Wd)(i at' by':Int):Int×Wd:=if off w i then (9,w) else match w.Ej[i.toNat]? with
 |none=>(9,w)
 |some f=>
  if at'<0\/(f.s.length:Int)<=at'\/by'<1\/255<by' then (9,w)
  else if f.Ij=true then (18,w)
  else (0,{w with Ej:=w.Ej.set i.toNat ⟨f.to,f.s.set at'.toNat ((f.s.getD at'.toNat 0) ^^^ b8 by'),true⟩})
structure O0(l:Ln):Prop where
 D4:0<=l.D4/\l.D4<=999
 one:l.DK=1->1<=l.D4/\(1<=l.D5/\l.D5<=255)/\(1<=l.DC.length/\l.DC.length<=72)/\(0<=l.Ea/\l.Ea<=DL l.DC)/\(1<=l.El/\l.El<=8)/\(0<=l.DW/\l.DW<=6)
structure af2(G:Wd)(c:Cl):Prop where
 DV:(c.DV.length:Int)=G.c.DV
 DR:1<=c.DR/\c.DR<=255
 Ee:∀u∈c.Ee,1<=u/\u<=(G.Dy.length:Int)
 DZ:∀(k:Nat) (l:Ln),c.DV[k]?=some l->O0 l
structure Wf(G:Wd):Prop where
 cf:GA G.c
 N5:(G.DI.length:Int)=G.c.DI
 cl:∀(i:Nat) (c:Cl),G.DI[i]?=some c->af2 G c
 JC:G.Ej.length<=40
 JX:∀f∈G.Ej,f.s.length<=21
 sv:G.Dy.length<=255
 R7:∀s∈G.Dy,0<=s.Dz/\s.Dz<=2
 nm:G.Eu.length<=6
 st:G.Ec.length=G.Eu.length
 nd:G.Eu.Nodup
 Pn:∀u∈G.Ec,1<=u/\u<=(G.Dy.length:Int)
theorem FH{G:Wd}{c:Cl}{l:Ln}(hc:G.DI[i]?=some c)(hl:c.DV[k]?=some l):Ia G i k=l:=by
 simp[Ia,hc,hl]
theorem GH{G:Wd}{c:Cl}(hc:G.DI[i]?=some c):Qj G i=c.DR:=by
 simp[Qj,hc]
theorem Ft{G:Wd}{l:Ln}{j:Nat}:(Eh G i k l).DI[j]?=(G.DI[j]?).map λc=>if i=j then {c with DV:=c.DV.set k l} else c:=by grind [Eh]
theorem Wf.Eh{G:Wd}(h:Wf G){l':Ln}(hl:O0 l'):Wf (Eh G i k l'):=by
 refine⟨h.cf,by simpa [R.Eh] using h.N5,λj c hc=>?_,h.JC,h.JX,h.sv,h.R7,h.nm,h.st,h.nd,h.Pn⟩;rw[Ft]at hc;cases hj:G.DI[j]? with
 |none=>rw[hj]at hc;cases hc
 |some c0=>
  rw[hj]at hc;have e:=h.cl j c0 hj;simp only[Ce,Option.some.injEq]at hc;subst hc;split
  ·refine⟨by simpa [R.Eh] using e.DV,e.DR,e.Ee,λm x f=>?_⟩;simp only[Bf]at f;split at f
   ·split at f
    ·cases f;exact hl
    ·cases f
   ·exact e.DZ m x f
  ·exact⟨e.DV,e.DR,e.Ee,e.DZ⟩
theorem aai(h:EC p):(Gq p).length<=21:=by
 have:=Mm h;simp[Gq,Ha,nums,EU];omega
theorem Wf.E9{G:Wd}(h:Wf G){to:Int}(m:EC p):Wf (E9 G to p):=by
 unfold R.E9;split
 ·rename_i hl;refine⟨h.cf,h.N5,λj c hc=>?_,Fy,λf e=>?_,h.sv,h.R7,h.nm,h.st,h.nd,h.Pn⟩
  ·have g:=h.cl j c hc;exact⟨g.DV,g.DR,g.Ee,g.DZ⟩
  ·rcases Bj.1 e with e|e
   ·exact h.JX f e
   ·simp only[Bg]at e;subst e;exact aai m
 ·exact h
theorem ID(h:1<=s.length):1<=DL s:=by unfold DL;omega
theorem IV(h:s.length<=72):DL s<=9:=by unfold DL;omega
theorem LA{k:Int}:(EY s k).length=min 8 (s.length-8*k.toNat):=by simp[EY]
theorem NB{k:Int}(e:0<=k):if k<DL s-1 then (EY s k).length=8 else (EY s k).length<=8:=by grind [LA,DL]
theorem LF{a:Int}:8*a<(s.length:Int)↔a<DL s:=by unfold DL;omega
def Ns(G:Wd)(i k:Nat)(l:Ln)(Ga:Bool):Pk:=⟨1,i,Qj G i,k,l.D4,l.D5,l.Ea,DL l.DC,Ga || decide (l.Ea<DL l.DC-1),EY l.DC l.Ea⟩
def Mx(G:Wd)(i k:Nat)(l:Ln):Pk:=⟨3,i,Qj G i,k,l.D4,l.D5,0,1,true,[]⟩
theorem Pv{G:Wd}(h:Wf G){c:Cl}{l:Ln}(hc:G.DI[i]?=some c)(hl:c.DV[k]?=some l)(f:l.DK=1)(u:l.Ea<DL l.DC)(Ga:Bool):EC (Ns G i k l Ga):=by
 have hi:=GG hc;have hk:=GG hl;have e:=h.cl i c hc;have⟨y,B,D,M,O,Q⟩:=(e.DZ k l hl).one f;have w:=(e.DZ k l hl).D4;have hn:=h.N5;have g:=h.cf;have m:=e.DV;have j:=e.DR
 grind [Ln,DL,EC,Ns,IV,NB,GH,GA,Ju]
theorem Ow{G:Wd}(h:Wf G){c:Cl}{l:Ln}(hc:G.DI[i]?=some c)(hl:c.DV[k]?=some l)(f:l.DK=1):EC (Mx G i k l):=by
 have hi:=GG hc;have hk:=GG hl;have e:=h.cl i c hc;have⟨w,y,B,D,M,O⟩:=(e.DZ k l hl).one f;have u:=(e.DZ k l hl).D4;have hn:=h.N5;have g:=h.cf;have m:=e.DV;have j:=e.DR
 grind [EC,Mx,GH,GA,Ju]
theorem MK{G:Wd}{l:Ln}(hl:Ia G i k=l)(Ga:Bool):EG G i k Ga=E9 G (-1) (Ns G i k l Ga):=by
 unfold EG;rw[hl];rfl
theorem V4{G:Wd}{l:Ln}(hl:Ia G i k=l):Lq G i k=E9 G (-1) (Mx G i k l):=by
 unfold Lq;rw[hl];rfl
end Go.Proofs.YtblomippkddgiaaGreatDoor.R
namespace Go.Proofs.YtblomippkddgiaaGreatDoor
open Go.Proofs.Tryz
open Go.RowKit
variable {xs:Array Value}{l:List UInt8}{b s:Nat}{t:TypeId}{c f k li ln o s1 s2 u:UInt8}{x0 x1 x2 x3 x4 x5 x6 x7 x8:Value}{W w w1:World}
theorem Xy(a c:Nat)(g:a<256)(hc:c<256):bits .or .i64 ((a:Int)*256) (c:Int)=a*256+(c:Int):=by
 have e:a*256 ||| c=a*256+c:=by
  have h:=Nat.two_pow_add_eq_or_of_lt (i:=8) (b:=c) U a
  grind
 have e0:(a:Int)*256=((a*256:Nat):Int):=U;rw[e0];exact afA
def agr(b:Nat)(l:Ac)(w:Aa)(e:Ending)(w':Aa):Prop:=J8 b w w'/\((l.length<2/\e=EQ 7 0)\/∃a c r,l=a :: c :: r/\e=.returned (Z (E5 a c))/\Rd w' b r)
theorem QA(b:Nat)(l:Ac)(w:Aa)(h:Rd w b l)(hl:l.length<=9223372036854775807):ET 114 #[.pointer (some (Y b 0))] w (agr b l w):=by
 obtain⟨B,D⟩:=FU (N8 h hl) (λ(r:Ac) (w:Aa) (h:Rd w b r) (hl:r.length<=9223372036854775807)=>N8 h hl);go_enter func114,ntmps114;go_wp2_with fail
 refine B.mono ?_;rintro e w1 ⟨g,⟨rfl,rfl⟩|⟨a,r,rfl,rfl,m⟩⟩
 ·go_wp2;exact⟨rfl,g,Aj ⟨Ev,rfl⟩⟩
 ·have M:=Dx (D r w1 m (by simp at hl;omega));have Q:=a.toNat_lt;have X:wrap64 ((a.toNat:Int)*256)=(a.toNat:Int)*256:=NU;go_wp2_with fail
  refine M.mono ?_;rintro e w2 ⟨j,⟨rfl,rfl⟩|⟨c,r,rfl,rfl,y⟩⟩
  ·go_wp2;exact⟨rfl,g.trans j,Aj ⟨Ev,rfl⟩⟩
  ·have hc:=c.toNat_lt;have T:=Xy a.toNat c.toNat U U;have O:=Dx y;go_wp2
   go_ret
   exact⟨g.trans j,Am ⟨a,c,r,rfl,rfl,O⟩⟩
theorem yT(b:Nat)(l:Ac)(w:Aa)(h:Rd w b l)(hl:l.length<=9223372036854775807):ET 69 #[.pointer (some (Y b 0))] w λe y=>y=w/\e=if l=[] then .returned Ep else EQ 7 0:=by
 have H:=Dx (JR b l w h);have B:=h.left;have m:=Er l;by_cases g:l=[]
 ·subst g;clear h;go_enter func69,ntmps69;go_wp2
  go_end0
  exact⟨rfl,rfl⟩
 ·have D:=Cg.2 g;rw[Ao g];have j:(0:Int)<((str l).size:Int):=U;generalize str l=S at *;clear h g;go_enter func69,ntmps69;go_wp2_with fail
  refine(Dw H).mono ?_;rintro e w1 ⟨rfl,rfl⟩;go_wp2;exact⟨rfl,rfl,rfl⟩
def aeH(b:Nat)(l:Ac)(w:Aa)(e:Ending)(w':Aa):Prop:=J8 b w w'/\(((∀f r,l=f :: r->¬f.toNat<=1)/\e=EQ 7 0)\/∃f r,l=f :: r/\f.toNat<=1/\e=.returned (.bool ((f.toNat:Int)==1))/\Rd w' b r)
theorem rV(h:Rd w b l)(hl:l.length<=9223372036854775807):ET 115 #[.pointer (some (Y b 0))] w (aeH b l w):=by
 obtain⟨y,m⟩:=FU (N8 h hl) (λ(r:Ac) (w:Aa) (h:Rd w b r)=>JR b r w h);clear h;go_enter func115,ntmps115;go_wp2_with fail
 refine(Dw y).mono ?_;rintro e w1 ⟨j,⟨rfl,rfl⟩|⟨a,r,rfl,rfl,g⟩⟩
 ·go_wp2;exact⟨rfl,j,Aj ⟨λf r h=>(by cases h),rfl⟩⟩
 ·by_cases M:(1:Int)<(a.toNat:Int)
  ·have B:=Dx ((Dw m) r w1 g);clear m g;go_wp2_with fail
   refine(Dw B).mono ?_;rintro e O ⟨rfl,rfl⟩;go_wp2;refine⟨rfl,j,Aj ⟨λf r h=>?_,rfl⟩⟩;cases h;omega
  ·have D:=Dx g;clear g m;go_wp2
   go_ret
   exact⟨j,Am ⟨a,r,rfl,U,rfl,Dw D⟩⟩
def aeo(b:Nat)(l:Ac)(w:Aa)(e:Ending)(w':Aa):Prop:=J8 b w w'/\(((∀L r,l=L :: r->¬L.toNat<=r.length)/\e=EQ 7 0)\/∃L r,l=L :: r/\L.toNat<=r.length/\e=.returned (.string (str (r.take L.toNat)))/\Rd w' b (r.drop L.toNat))
theorem qO(h:Rd w b l)(hl:l.length<=9223372036854775807):ET 116 #[.pointer (some (Y b 0))] w (aeo b l w):=by
 have Q:=Dx (N8 h hl);clear h;go_enter func116,ntmps116;go_wp2_with fail
 refine(Dw Q).mono ?_;rintro e w1 ⟨m,⟨rfl,rfl⟩|⟨L,r,rfl,rfl,g⟩⟩
 ·go_wp2;exact⟨rfl,m,Aj ⟨λf r h=>(by cases h),rfl⟩⟩
 ·have hL:=L.toNat_lt;have M:r.length<=9223372036854775807:=by simp at hl;omega
  by_cases B:L.toNat<=r.length
  ·have D:=Dx (ME b r L.toNat w1 g B M);have j:=g.set (r.drop L.toNat);have T:=Dx (Kr (r.take L.toNat) (w1.setCell (Y b 0) (.string (str (r.drop L.toNat)))) (by rw[Bv];omega));have X:=Dx (J8.set b 0 w1 (.string (str (r.drop L.toNat))));have HS:=Dx j;have O:=j.lt;clear j g;generalize hA:str (r.take L.toNat)=A at *;generalize hB:w1.setCell (Y b 0) (.string (str (r.drop L.toNat)))=W at *;go_wp2_with fail
   refine(Dw D).mono ?_;rintro e w2 ⟨rfl,rfl⟩;go_wp2_with fail
   refine(Dw T).mono ?_;rintro e w3 ⟨rfl,y⟩;go_wp2
   go_ret
   refine⟨(m.trans (Dw X)).trans (J8.of_below y U),Am ⟨L,r,rfl,B,by rw[hA];rfl,(Dw HS).DG y O⟩⟩
  ·have D:=Dx (Qy b r L.toNat w1 g B);clear g;go_wp2_with fail
   refine(Dw D).mono ?_;rintro e w2 ⟨rfl,rfl⟩;go_wp2;refine⟨rfl,m,Aj ⟨λf r h=>?_,rfl⟩⟩;cases h;exact B
abbrev pv(p:Pk):Value:=.agg #[Z p.Dz,Z p.DJ,Z p.DR,Z p.DZ,Z p.D4,Z p.D5,Z p.Ez,Z p.off,.bool p.Fs,.string (str p.Ef)]
abbrev NY:Value:=.agg #[Z 0,Z 0,Z 0,Z 0,Z 0,Z 0,Z 0,Z 0,.bool false,.string ⟨#[]⟩]
abbrev zeroCells:Array Value:=#[Z 0,Z 0,Z 0,Z 0,Z 0,Z 0,Z 0,Z 0,.bool false,.string ⟨#[]⟩]
structure St(b:Nat)(w W:Aa)(l:Ac):Prop where
 only:J8 b w W
 rd:Rd W b l
 len:l.length<=9223372036854775807
theorem jk(h:St b w W l):ET 113 #[.pointer (some (Y b 0))] W λe B=>(l=[]/\e=EQ 7 0/\J8 b w B)\/∃c r,l=c :: r/\e=.returned (Z (c.toNat:Int))/\St b w B r:=by
 refine(N8 h.rd h.len).mono ?_;rintro e w1 ⟨g,⟨j,m⟩|⟨a,r,j,m,y⟩⟩
 ·exact Aj ⟨j,m,h.only.trans g⟩
 ·refine Am ⟨a,r,j,m,h.only.trans g,y,?_⟩;have:=h.len
  grind
theorem adX(h:St b w W l):ET 114 #[.pointer (some (Y b 0))] W λe B=>(l.length<2/\e=EQ 7 0/\J8 b w B)\/∃a c r,l=a :: c :: r/\e=.returned (Z (E5 a c))/\St b w B r:=by
 refine(QA b l W h.rd h.len).mono ?_;rintro e w1 ⟨g,⟨j,m⟩|⟨a,c,r,j,m,y⟩⟩
 ·exact Aj ⟨j,m,h.only.trans g⟩
 ·refine Am ⟨a,c,r,j,m,h.only.trans g,y,?_⟩;have:=h.len
  grind
theorem za(h:St b w W l):ET 115 #[.pointer (some (Y b 0))] W λe g=>((∀f r,l=f :: r->¬f.toNat<=1)/\e=EQ 7 0/\J8 b w g)\/∃f r,l=f :: r/\Hid (f.toNat<=1)/\e=.returned (.bool ((f.toNat:Int)==1))/\St b w g r:=by
 refine(rV h.rd h.len).mono ?_;exact abh
theorem yy(h:St b w W l):ET 116 #[.pointer (some (Y b 0))] W λe g=>((∀L r,l=L :: r->¬L.toNat<=r.length)/\e=EQ 7 0/\J8 b w g)\/∃L r,l=L :: r/\Hid (L.toNat<=r.length)/\e=.returned (.string (str (r.take L.toNat)))/\St b w g (r.drop L.toNat):=by
 refine(qO h.rd h.len).mono ?_;exact abh
theorem ED(h:w.heap[s]?=some (.cells xs t (0,0)))(o:Nat)(v:Ad)(e:xs[o]?=some v):w.cell? (Y s o)=some v:=by
 simp[World.cell?,h,e]
theorem Hf(h:w.heap[s]?=some (.cells xs t (0,0)))(o:Nat):w.frozen? (Y s o)=false:=by
 simp[World.frozen?,h]
theorem J8.put{o:Nat}(h:J8 b w w1)(j:w.heap.size<=s)(g:b<s)(x:Ad):J8 b w (w1.setCell (Y s o) x):=
 ⟨h.DG.setCell Fy _,by simpa using h.size,λk hk e=>(AU _ _ _ _ Fy).trans (h.block k hk e)⟩
theorem Rd.other{o:Nat}(h:Rd w b l)(e:b<s)(x:Ad):Rd (w.setCell (Y s o) x) b l:=by grind [Rd,Below.heap_setCell]
abbrev km(w:Aa)(s:Nat)(x0 x1 x2 x3 x4 x5 x6 x7 x8 x9:Ad):World:=(((((((((w.setCell (Y s 0) x0).setCell (Y s 1) x1).setCell (Y s 2) x2).setCell (Y s 3) x3).setCell (Y s 4) x4).setCell (Y s 5) x5).setCell (Y s 6) x6).setCell (Y s 7) x7).setCell (Y s 8) x8).setCell (Y s 9) x9
theorem adq(h:J8 b w w1)(g:w.heap.size<=s)(e:b<s){x9:Ad}:J8 b w (km w1 s x0 x1 x2 x3 x4 x5 x6 x7 x8 x9):=
 (((((((((h.put g e _).put g e _).put g e _).put g e _).put g e _).put g e _).put g e _).put g e _).put g e _).put g e _
theorem agf(h:Rd w b l)(e:b<s){x9:Ad}:Rd (km w s x0 x1 x2 x3 x4 x5 x6 x7 x8 x9) b l:=
 (((((((((h.other e _).other e _).other e _).other e _).other e _).other e _).other e _).other e _).other e _).other e _
def dI(b:Nat)(l:Ac)(w:Aa)(e:Ending)(w':Aa):Prop:=J8 b w w'/\((GZ l=none/\e=EQ 7 0)\/∃p r,GZ l=some (p,r)/\e=.returned (pv p)/\Rd w' b r)
theorem few(h:l.length<11):GZ l=none:=by
 unfold GZ;split
 ·simp only[A4]at h;omega
 ·rfl
theorem age{pa:UInt8}(h:∀f r,l=f :: r->¬f.toNat<=1):GZ (k :: c :: li :: ln :: s1 :: s2 :: u :: pa :: o :: l)=none:=by
 unfold GZ;split
 ·rename_i e;simp only[List.cons.injEq]at e;have⟨_,_,_,_,_,_,_,_,_,e⟩:=e;rw[Ao (λg=>h _ _ e g.1)]
 ·rfl
theorem aeF{pa:UInt8}(h:∀L r,l=L :: r->¬L.toNat<=r.length):GZ (k :: c :: li :: ln :: s1 :: s2 :: u :: pa :: o :: f :: l)=none:=by
 unfold GZ;split
 ·rename_i e;simp only[List.cons.injEq]at e;have⟨_,_,_,_,_,_,_,_,_,_,e⟩:=e;rw[Ao (λg=>h _ _ e g.2)]
 ·rfl
theorem aem{pa L:UInt8}{r:Ac}(e:f.toNat<=1)(g:L.toNat<=r.length):GZ (k :: c :: li :: ln :: s1 :: s2 :: u :: pa :: o :: f :: L :: r)=some (⟨k.toNat,c.toNat,li.toNat,ln.toNat,E5 s1 s2,u.toNat,pa.toNat,o.toNat,(f.toNat:Int)==1,r.take L.toNat⟩,r.drop L.toNat):=by
 show (if f.toNat<=1/\L.toNat<=r.length then _ else _)=_;rw[Ay ⟨e,g⟩]
theorem dJ(b:Nat)(l:Ac)(w:Aa)(h:Rd w b l)(hl:l.length<=9223372036854775807):ET 66 #[.pointer (some (Y b 0))] w (dI b l w):=by
 have D:=h.lt;have y:J8 b w ((w.alloc (.cells zeroCells 41)).drew):=⟨((AA _ _).alloc U _).drew,Ev,λk hk _=>AL _ _ _ hk⟩;have h0:Rd ((w.alloc (.cells zeroCells 41)).drew) b l:=by
  unfold Rd at h ⊢;show (w.alloc _).heap[b]?=_;rw[AL _ _ _ D];exact h
 obtain⟨W,O⟩:∃W,W=(w.alloc (.cells zeroCells 41)).drew:=⟨_,rfl⟩;have M:W.heap[w.heap.size]?=some (.cells zeroCells 41 (0,0)):=by
  rw[O];show (w.heap.push _)[w.heap.size]?=_;rw[Bz]
 have j:St b W W l:=⟨J8.refl _ _,O ▸ h0,hl⟩;rw[<-O]at y;have T:=Dv M;clear h h0 hl;go_enter func66,ntmps66;go_wp2;go_region_with (first
  |(go_at_call 113;refine(jk (by rw[<-O];exact j)).mono ?_;rintro e w1 (⟨rfl,rfl,m⟩|⟨c,r,rfl,rfl,j⟩);(exact⟨rfl,y.trans m,Aj ⟨few Ev,rfl⟩⟩))
  |(go_at_call 113;refine(jk (by assumption)).mono ?_;rintro e w1 (⟨rfl,rfl,m⟩|⟨c,r,rfl,rfl,j⟩);(exact⟨rfl,y.trans m,Aj ⟨few Ev,rfl⟩⟩))
  |(go_at_call 114;refine(adX (by assumption)).mono ?_;rintro e w1 (⟨B,rfl,m⟩|⟨c,d,r,rfl,rfl,j⟩);(exact⟨rfl,y.trans m,Aj ⟨few (by simp only[A4];omega),rfl⟩⟩))
  |(go_at_call 115;refine(za (by assumption)).mono ?_;rintro e w1 (⟨B,rfl,m⟩|⟨f,r,rfl,X,rfl,j⟩);(exact⟨rfl,y.trans m,Aj ⟨age B,rfl⟩⟩))
  |(go_at_call 116;refine(yy (by assumption)).mono ?_;rintro e w1 (⟨B,rfl,m⟩|⟨L,r,rfl,Q,rfl,j⟩);(exact⟨rfl,y.trans m,Aj ⟨aeF B,rfl⟩⟩);have g:=(j.only.block _ T U).trans M;have c0:=EI g 0;have c1:=EI g 1;have c2:=EI g 2;have c3:=EI g 3;have c4:=EI g 4;have c5:=EI g 5;have c6:=EI g 6;have c7:=EI g 7;have c8:=EI g 8;have c9:=EI g 9;have cz:=Hf g;clear g))
 have⟨FO,FR⟩:=FU (y.trans j.only) j.rd;clear j;go_wp2;refine Bm (v:=pv ⟨_,_,_,_,_,_,_,_,_,_⟩) (by simp[results,results66,go_sem,c0,c1,c2,c3,c4,c5,c6,c7,c8,c9]) rfl ⟨adq FO (Ar _) D,Am ⟨_,_,aem X (Dw Q),rfl,agf FR D⟩⟩
def aaY(n lo hi:Int)(w:Aa)(e:Ending)(w':Aa):Prop:=w'=w/\(((lo<=n/\n<=hi)/\e=.returned Ep)\/(¬(lo<=n/\n<=hi)/\e=EQ 7 0))
theorem iQ(n lo hi:Int)(w:Aa):ET 117 #[Z n,Z lo,Z hi] w (aaY n lo hi w):=by
 by_cases e:n<lo
 ·go_enter func117,ntmps117;go_wp2;exact⟨rfl,rfl,Am ⟨U,rfl⟩⟩
 ·by_cases g:hi<n
  ·go_enter func117,ntmps117;go_wp2;exact⟨rfl,rfl,Am ⟨U,rfl⟩⟩
  ·go_enter func117,ntmps117;go_wp2
   go_end0
   exact⟨rfl,Aj ⟨⟨U,U⟩,rfl⟩⟩
def Ig(Dz Ez off:Int):Int×Int:=if Dz=1\/Dz=5 then (if Ez<off-1 then (8,8) else (0,8)) else (0,0)
theorem VE(p:Pk):((Ig p.Dz p.Ez p.off).1<=(p.Ef.length:Int)/\(p.Ef.length:Int)<=(Ig p.Dz p.Ez p.off).2)↔Ju p:=by grind [Ig,Ju]
abbrev S9(k c li ln sq u pa o:Int)(pl:Bool)(S:Ab):Value:=.agg #[Z k,Z c,Z li,Z ln,Z sq,Z u,Z pa,Z o,.bool pl,.string S]
theorem cO(k c li ln y u pa o:Int)(m:Bool)(S:Ab)(w:Aa)(M:1<=o/\o<=9):
  D7 118 #[S9 k c li ln y u pa o m S] w (.tuple #[Z (Ig k pa o).1,Z (Ig k pa o).2]) λD=>DY w D:=by
 have O:wrap64 (o-1)=o-1:=NU;have HB:=Dx ((AA (zz w) w).alloc (Ar _) (.cells #[Z k,Z c,Z li,Z ln,Z y,Z u,Z pa,Z o,.bool m,.string S] 41));by_cases h:k=1
 ·subst h;by_cases g:pa<o-1
  ·have e:Ig 1 pa o=(8,8):=by simp[Ig,g]
   exact abI
  ·have e:Ig 1 pa o=(0,8):=by simp[Ig,g]
   exact abJ
 ·have hk:(k != 1)=true:=by simpa using h
  by_cases j:k=5
  ·subst j;by_cases g:pa<o-1
   ·have e:Ig 5 pa o=(8,8):=by simp[Ig,g]
    exact abI
   ·have e:Ig 5 pa o=(0,8):=by simp[Ig,g]
    exact abJ
  ·have B:(k != 5)=true:=by simpa using j
   have e:Ig k pa o=(0,0):=by simp[Ig,h,j]
   rw[e];go_enter func118,ntmps118;go_wp2;exact Bm (v:=.tuple #[Z 0,Z 0]) (by simp[results,results118,go_sem]) rfl ⟨rfl,HB⟩
def V7(p:Pk)(w:Aa)(e:Ending)(w':Aa):Prop:=Below w.heap.size w w'/\((EC p/\e=.returned Ep)\/(¬EC p/\e=EQ 7 0))
theorem nU{k c li ln e u pa o:Int}{T:Bool}{Ef:Ac}(h:EC ⟨k,c,li,ln,e,u,pa,o,T,Ef⟩):((1<=k/\k<=7)/\(0<=c/\c<=2)/\(1<=li/\li<=255)/\(0<=ln/\ln<=2)/\(1<=e/\e<=999)/\(1<=u/\u<=255)/\(1<=o/\o<=9)/\(0<=pa/\pa<=o-1))/\((Ig k pa o).1<=(Ef.length:Int)/\(Ef.length:Int)<=(Ig k pa o).2):=by
 have⟨g,j,m,y,B,D,M,O,Q⟩:=h;exact⟨⟨g,j,m,y,B,D,M,O⟩,(VE _).2 Q⟩
theorem V8(p:Pk)(w:Aa):ET 67 #[pv p] w (V7 p w):=by
 have⟨HW,ab⟩:=FU iQ cO;have⟨k,c,li,ln,D,u,pa,o,y,Ef⟩:=p;have aa:=Er Ef;obtain⟨S,hS⟩:∃S,S=str Ef:=⟨_,rfl⟩;have HB:=Dx ((AA (zz w) w).alloc (Ar _) (.cells #[Z k,Z c,Z li,Z ln,Z D,Z u,Z pa,Z o,.bool y,.string S] 41));have O:Hid (EC ⟨k,c,li,ln,D,u,pa,o,y,Ef⟩->_):=nU;have ac:=Dx (VE ⟨k,c,li,ln,D,u,pa,o,y,Ef⟩);obtain⟨g,hpost⟩:∃g,g=V7 ⟨k,c,li,ln,D,u,pa,o,y,Ef⟩ w:=⟨_,rfl⟩;have M:Hid (∀w',DY w w'->¬EC ⟨k,c,li,ln,D,u,pa,o,y,Ef⟩->g (EQ 7 0) w'):=by
  rw[hpost];exact λw' hb hr=>⟨hb,Am ⟨hr,rfl⟩⟩
 have Q:Hid (∀w',DY w w'->EC ⟨k,c,li,ln,D,u,pa,o,y,Ef⟩->g (.returned Ep) w'):=by
  exact xd
 show ET 67 #[S9 k c li ln D u pa o y (str Ef)] w _;rw[<-hS,<-hpost];have al:(S.size:Int)=(Ef.length:Int):=by rw[hS,aa]
 clear aa hS hpost;go_enter func67,ntmps67;go_wp2_with (first
  |(go_at_call 117;refine(HW _ _ _ _).mono ?_;rintro e w1 ⟨rfl,⟨m,rfl⟩|⟨j,rfl⟩⟩;rotate_left;(exact⟨rfl,M _ HB (λh=>by have hh:=(O h).1;omega)⟩);have⟨ah,ak⟩:=m))
 refine cm (ab _ _ _ _ _ _ _ _ _ _ _ U) λw2 T=>?_
 have X:=Dx (HB.trans (T.mono Ev));have c9:Kk w2 w 9 (.string S):=(T.cell (p:=EN w 9) Ev).trans Vb;generalize Ig k pa o=B at *;have⟨b1,b2⟩:=B;go_wp2_with fail
 refine(HW _ _ _ _).mono ?_;rintro e w1 ⟨rfl,⟨m,rfl⟩|⟨j,rfl⟩⟩
 ·go_wp2
  go_end0
  refine Q _ X ?_;exact⟨U,U,U,U,U,U,U,U,ac.1 m⟩
 ·go_wp2;exact⟨rfl,M _ X (λh=>j (O h).2)⟩
def aar(b:Nat)(l r:Ac)(w:Aa)(e:Ending)(w':Aa):Prop:=J8 b w w'/\((Sp l r=none/\e=EQ 7 0)\/∃t,Sp l r=some t/\e=.returned Ep/\Rd w' b t)
theorem aat{r:Ac}(h:r.length<2):Sp l r=none:=by
 unfold Sp;split
 ·simp at h;omega
 ·rfl
theorem aas(b:Nat)(m r:Ac)(w:Aa)(h:Rd w b r)(hm:m.length<=1000)(hl:(m++r).length<=9223372036854775807):
  ET 68 #[.pointer (some (Y b 0)),.string (str (m++r))] w (aar b (m++r) r w):=by
 have hr:r.length<=9223372036854775807:=by rw[AJ]at hl;omega
 have⟨H2,O,y⟩:=Ll (QA b r w h hr) (λw=>R0 m w U) (λ(r:Ac) (w:Aa) (h:Rd w b r)=>JR b r w h);have h1:=h.left;have s1:=Er (m++r);have s2:=Er r;have ex:(str (m++r)).extract 0 m.length=str m:=by rw[Ho];simp
 have hw:wrap64 (((str (m++r)).size:Int)-((str r).size:Int))=(m.length:Int):=by
  rw[s1,s2,AJ];unfold wrap64;rw[AJ]at hl;omega
 have ab:(m.length:Int)<=((str (m++r)).size:Int):=by rw[s1,AJ];omega
 have X:=Dx (Rm m r);have aa:=Nt m;have D:((jr m).toNat:Int)=Kb m:=rfl;rw[D]at O;generalize hC:Kb m=C at *;generalize hS:str (m++r)=S at *;generalize hR:str r=R at *;generalize hM:str m=M at *;generalize m.length=n at *;clear h s1 s2 hR D;go_enter func68,ntmps68;go_wp2_with fail
 refine(Dw H2).mono ?_;rintro e w1 ⟨B,⟨T,rfl⟩|⟨a,c,t,rfl,rfl,j⟩⟩
 ·go_wp2;exact⟨rfl,B,Aj ⟨aat T,rfl⟩⟩
 ·by_cases g:E5 a c=C
  ·have hb:(E5 a c != C)=false:=by simpa using g
   have HR:=Dx j;clear j y;have Q:=Dx g;clear g;go_wp2_with fail
   refine((Dw O) _).mono ?_;rintro e w2 ⟨rfl,rfl⟩;go_wp2
   go_end0
   refine⟨B,Am ⟨t,?_,rfl,Dw HR⟩⟩;show (if E5 a c=Kb ((m++a :: c :: t).take ((m++a :: c :: t).length-(a :: c :: t).length)) then some t else none)=some t;rw[Dw X,hC,Ay (Dw Q)]
  ·have hb:(E5 a c != C)=true:=by simpa using g
   have HX:=Dx ((Dw y) t w1 j);clear j y;have Q:=Dx g;clear g;go_wp2_with fail
   refine((Dw O) _).mono ?_;rintro e w2 ⟨rfl,rfl⟩;go_wp2_with fail
   refine(Dw HX).mono ?_;rintro e w3 ⟨rfl,rfl⟩;go_wp2;refine⟨rfl,B,Aj ⟨?_,rfl⟩⟩;show (if E5 a c=Kb ((m++a :: c :: t).take ((m++a :: c :: t).length-(a :: c :: t).length)) then some t else none)=none;rw[Dw X,hC,Ao (Dw Q)]
end Go.Proofs.YtblomippkddgiaaGreatDoor
