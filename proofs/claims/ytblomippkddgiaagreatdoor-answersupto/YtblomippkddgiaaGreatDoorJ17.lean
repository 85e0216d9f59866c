import Derived.Test.YtblomippkddgiaaGreatDoorJ16
set_option maxRecDepth 100000
set_option maxHeartbeats 8000000
namespace Go.Proofs.YtblomippkddgiaaGreatDoor
open Go.Proofs.Tryz
def Ya(c:Int):Prop:=-9223372036854775808<=c/\c<=9223372036854775807
structure LD where
 Dz:Int
 on:Int
 a:Int
 b:Int
 c:Int
 d:Int
 s:List UInt8
 t:List UInt8
 L:Value
 P:Pk
 W:R.Cf
abbrev LD.cells(o:LD):Array Value:=#[Z o.Dz,Z o.on,Z o.a,Z o.b,Z o.c,Z o.d,.string (str o.s),.string (str o.t),o.L,
 Z o.P.Dz,Z o.P.DJ,Z o.P.DR,Z o.P.DZ,Z o.P.D4,Z o.P.D5,Z o.P.Ez,Z o.P.off,.bool o.P.Fs,.string (str o.P.Ef),
 Z o.W.DI,Z o.W.DV,Z o.W.Ew,Z o.W.DW,Z o.W.FF]
abbrev LD.val(o:LD):Value:=.agg o.cells
structure qh(w:Aa)(vb off:Nat)(o:LD)(v:List V.It):Prop where
 cell:∀(j:Nat) (u:Ad),o.cells[j]?=some u->w.cell? (Y vb (off+j))=some u
 s:o.s.length<=1000000000000000
 Gz:V.Ff w o.L v
 len:v.length<=9000000000000
 c:Ya o.c
 on:Ya o.on
def bK(w:Aa)(va:Af)(vn:Nat):Prop:=vn=0\/∃vb off,va=some (Y vb off)/\vb<w.heap.size/\∀i,i<vn->∃o v,qh w vb (off+i*24) o v
end Go.Proofs.YtblomippkddgiaaGreatDoor
namespace Go.Proofs.YtblomippkddgiaaGreatDoor.R
open Go.Proofs.Tryz
variable {M:Bk}{i k:Int}{a:List Sv}{l':Ln}{G:Wd}
structure iW(a b:List Ln):Prop where
 len:b.length=a.length
 each:∀(k:Nat) (l':Ln),b[k]?=some l'->∃l,a[k]?=some l/\l'.D4=l.D4
structure X7(a b:List Cl):Prop where
 len:b.length=a.length
 each:∀(i:Nat) (c':Cl),b[i]?=some c'->∃c,a[i]?=some c/\c'.DR=c.DR/\c'.Ee=c.Ee/\iW c.DV c'.DV
structure VB(a b:List Sv):Prop where
 len:b.length=a.length
 each:∀(u:Nat) (s':Sv),b[u]?=some s'->∃s,a[u]?=some s/\s'.Dz=s.Dz/\(s.Fj=false->s'.Fj=false/\s'.log=s.log)/\∃t,s'.log=s.log++t
structure Sm(G G':Wd):Prop where
 c:G'.c=G.c
 Eu:G'.Eu=G.Eu
 Ec:G'.Ec=G.Ec
 sv:VB G.Dy G'.Dy
 cl:X7 G.DI G'.DI
theorem iW.refl(a:List Ln):iW a a:=⟨rfl,λ_ l h=>⟨l,h,rfl⟩⟩
theorem X7.refl(a:List Cl):X7 a a:=by grind [X7,iW.refl]
theorem VB.refl(a:List Sv):VB a a:=⟨rfl,λ_ s h=>⟨s,h,rfl,λq=>⟨q,rfl⟩,[],Ev⟩⟩
theorem Sm.refl(G:Wd):Sm G G:=by grind [Sm,VB.refl,X7.refl]
theorem iW.trans{a b c:List Ln}(h:iW a b)(k:iW b c):iW a c:=by grind [iW]
theorem X7.trans{a b c:List Cl}(h:X7 a b)(k:X7 b c):X7 a c:=⟨k.len.trans h.len,λi l hl=>by
 have⟨l1,e,f,g,j⟩:=k.each i l hl;have⟨l2,g1,g2,g3,g4⟩:=h.each i l1 e;exact⟨l2,g1,f.trans g2,g.trans g3,g4.trans j⟩⟩
theorem VB.trans{b c:List Sv}(h:VB a b)(k:VB b c):VB a c:=⟨k.len.trans h.len,λi l hl=>by
 have⟨l1,e,f,g,B,j⟩:=k.each i l hl;have⟨l2,g1,g2,g3,D,g4⟩:=h.each i l1 e;refine⟨l2,g1,f.trans g2,λq=>?_,D++B,by rw[j,g4,Bs]⟩;have⟨m,u⟩:=g3 q;have⟨w,y⟩:=g m;exact⟨w,y.trans u⟩⟩
theorem Sm.trans{a b c:Wd}(h:Sm a b)(k:Sm b c):Sm a c:=⟨k.c.trans h.c,k.Eu.trans h.Eu,k.Ec.trans h.Ec,h.sv.trans k.sv,h.cl.trans k.cl⟩
theorem Sm.send(G:Wd)(to:Int)(p:Pk):Sm G (E9 G to p):=by grind [Sm,E9,VB.refl,X7.refl]
theorem iW.set{a:List Ln}{k:Nat}(h:∀l,a[k]?=some l->l'.D4=l.D4):iW a (a.set k l'):=by grind [iW]
theorem sQ{c:Cl}{l:Ln}(hc:G.DI[i.toNat]?=some c)(hl:c.DV[k.toNat]?=some l):Ia G i k=l:=by
 unfold Ia;rw[hc];simp[hl]
theorem Sm.DZ(h:l'.D4=(Ia G i k).D4):Sm G (Eh G i k l'):=by
 refine⟨rfl,rfl,rfl,VB.refl _,⟨by simp[Eh],λj f e=>?_⟩⟩;unfold Eh at e
 grind [iW.set,sQ,iW.refl]
theorem Sm.DN(G:Wd)(i:Nat)(r:Sn):Sm G (EA G i r):=by grind [Sm,EA,VB.refl,X7.refl]
theorem Sm.JC(G:Wd)(f:List Fl):Sm G {G with Ej:=f}:=by grind [Sm,VB.refl,X7.refl]
theorem Sm.other(G:Wd)(l:List Int)(s:List Sn)(j:List Jb):Sm G {G with DX:=l,DN:=s,EF:=j}:=by grind [Sm,VB.refl,X7.refl]
theorem Sm.piece(G:Wd)(i k:Int)(b:Bool):Sm G (EG G i k b):=Sm.send _ _ _
theorem Sm.jY(G:Wd)(i k:Int):Sm G (Lq G i k):=Sm.send _ _ _
theorem Sm.EM(G:Wd)(i k:Int):Sm G (EM G i k):=by
 unfold R.EM;simp only;split
 ·exact Sm.refl G
 ·split
  ·exact Sm.DZ rfl
  ·split
   ·exact Sm.DZ rfl
   ·split
    ·exact(Sm.DZ (G:=G) (i:=i) (k:=k) (l':={Ia G i k with El:=G.c.Ew,DW:=(Ia G i k).DW-1}) rfl).trans (Sm.piece _ _ _ _)
    ·exact(Sm.DZ (G:=G) (i:=i) (k:=k) (l':={Ia G i k with El:=G.c.Ew,DW:=(Ia G i k).DW-1}) rfl).trans (Sm.jY _ _ _)
theorem Sm.fold{α:Type}(f:Wd->α->Wd)(e:∀G a,Sm G (f G a)):∀(l:List α) (G:Wd),Sm G (l.foldl f G)
 |[],G=>Sm.refl G
 |a :: l,G=>(e G a).trans (Sm.fold f e l (f G a))
theorem Sm.JU(G:Wd)(i:Nat):Sm G (Ex G i):=Sm.send _ _ _
theorem Sm.EH(G:Wd)(i:Nat):Sm G (EH G i):=by
 unfold R.EH;simp only;split
 ·exact Sm.refl G
 ·split
  ·exact Sm.DN _ _ _
  ·split
   ·exact Sm.DN _ _ _
   ·exact(Sm.DN G i _).trans (Sm.JU _ _)
theorem Sm.tick(G:Wd):Sm G (Ni G):=by grind [Ni,Nh,Sm.trans,Sm.fold,Sm.EH,Sm.EM]
theorem Sm.rest(G:Wd)(i k:Int):Sm G (JS G i k):=Sm.DZ rfl
theorem Sm.got(G:Wd)(i:Int)(p:Pk):Sm G (LP G i p):=Sm.send _ _ _
theorem Sm.DU(G:Wd)(i:Int)(p:Pk):Sm G (IL G i p):=by
 unfold IL;simp only;split
 ·exact Sm.refl G
 ·split
  ·split
   ·exact Sm.DZ rfl
   ·exact((Sm.DZ (G:=G) (i:=i) (k:=p.DZ) (l':={Ia G i p.DZ with EK:=(Ia G i p.DZ).EK++p.Ef,DT:=(Ia G i p.DZ).DT+1,Ea:=DL (Ia G i p.DZ).DC}) rfl).trans (Sm.got _ _ _)).trans (Sm.rest _ _ _)
  ·exact Sm.got _ _ _
theorem Sm.heard(G:Wd)(i:Int)(p:Pk):Sm G (Kl G i p):=by grind [Kl,Sm.refl,Sm.trans,Sm.DZ,Sm.piece,Sm.rest,Sm.DU]
theorem Sm.KN(G:Wd)(p:Pk)(a b c:Int):Sm G (G8 G p a b c):=Sm.send _ _ _
theorem Sm.tell(G:Wd)(i:Nat):Sm G (JF G i):=by
 unfold JF;exact(Sm.JU G i).trans (Sm.DN _ _ _)
theorem Sm.ack(G:Wd)(p:Pk):Sm G (Mi G p):=by grind [Mi,Sm.KN,Sm.refl]
theorem Sm.gather(G:Wd)(i:Nat)(p:Pk):Sm G (Gy G i p):=by grind [Sm,Gy,Sm.refl,Sm.trans,Sm.ack,VB.refl,X7.refl,Sm.DN]
theorem Sm.known(G:Wd)(i:Nat)(p:Pk):Sm G (Hl G i p):=by grind [Hl,Sm.gather,Sm.refl,Sm.KN,Sm.tell]
theorem Sm.DX(G:Wd)(p:Pk):Sm G (Ib G p):=by grind [Sm,Ib,VB.refl,X7.refl]
theorem Sm.ask(G:Wd)(i:Nat)(p:Pk):Sm G (N0 G i p):=by
 unfold N0;simp only;split
 ·split
  ·exact(Sm.DN G i _).trans (Sm.tell _ _)
  ·exact Sm.refl G
 ·split
  ·exact Sm.known _ _ _
  ·split
   ·exact Sm.refl G
   ·split
    ·exact Sm.KN _ _ _ _ _
    ·split
     ·exact Sm.refl G
     ·split
      ·exact Sm.KN _ _ _ _ _
      ·exact(Sm.DN G i _).trans (Sm.known _ _ _)
theorem Sm.Gn(G:Wd)(p:Pk):Sm G (KB G p):=by
 unfold KB;split
 ·exact Sm.refl G
 ·exact(Sm.DX G p).trans (Sm.ask _ _ _)
theorem Sm.Ki(G:Wd)(i:Int):Sm G (Fv G i).2:=by
 unfold Fv
 grind [Fv,Sm.refl,Sm.trans,Sm.JC,Sm.Gn,Sm.heard]
theorem Sm.drop(G:Wd)(i:Int):Sm G (JM G i).2:=by grind [JM,Sm.refl,Sm.JC]
theorem Sm.copy(G:Wd)(i:Int):Sm G (JA G i).2:=by grind [JA,Sm.refl,Sm.JC]
theorem Sm.Sf(G:Wd)(i a b:Int):Sm G (Jz G i a b).2:=by grind [Jz,Sm.refl,Sm.JC]
theorem VB.done{n:Nat}{s:Sv}(h:a[n]?=some s)(f:s.Fj=true)(e:En):VB a (a.set n {s with log:=s.log++[e]}):=by
 refine⟨Ev,λu g hu=>?_⟩;rw[Bf]at hu;split at hu
 ·grind
 ·exact⟨g,hu,rfl,λq=>⟨q,rfl⟩,[],Ev⟩
theorem Sm.done(h:Inv M G){i:Nat}(hi:i<9)(e:(EZ G i).DK=2):Sm G (Oa G i):=by
 have⟨d,n,s,f,hd⟩:=h.W9 hi e;rw[hd.eq e];refine Sm.trans ?_ (Sm.tell _ _);unfold Lr;exact⟨rfl,rfl,rfl,VB.done hd.sv hd.Fj _,X7.refl _⟩
theorem Sm.Hy:∀(js:List Jb) {G:Wd} (_:Inv M G) (_:∃a,G.EF=a++js),Sm G (Hy G js).2
 |[],G,_,_=>by
  unfold R.Hy;exact⟨rfl,rfl,rfl,VB.refl _,X7.refl _⟩
 |j :: js,G,h,⟨a,ha⟩=>by
  unfold R.Hy;split
  ·rename_i g;unfold Km at g;have e:j∈G.EF:=by rw[ha];simp
   have u:=h.ws.jb j e;refine Sm.trans (b:={G with EF:=js}) ⟨rfl,rfl,rfl,VB.refl _,X7.refl _⟩ ?_;have m:Inv M {G with EF:=js}:=h.QZ (by
    have:=h.ws.jl;rw[ha]at this;simp at this;omega) (λq f=>⟨h.ws.jb q (by rw[ha];simp[f]),h.jb q (by rw[ha];simp[f])⟩)
   exact Sm.done m U g.1
  ·exact Sm.Hy js h ⟨a++[j],by rw[ha];simp⟩
theorem Sm.serve(h:Inv M G):Sm G (FQ G).2:=Sm.Hy G.EF h ⟨[],rfl⟩
end Go.Proofs.YtblomippkddgiaaGreatDoor.R
namespace Go.Proofs.YtblomippkddgiaaGreatDoor
open Go.Proofs.Tryz
open Go.RowKit
open Go.Conc Go.RowKit
variable {k p:Int}{b s:Nat}{P:Pk}{tt:TypeId}{w:World}
abbrev Ix:Array Value:=#[Z 0,Z 0,.string {data:=#[105]},.string {data:=#[99]},Z 0,Z 1,.string {data:=#[98]},.string {data:=#[99]},Z 1,Z 0,.string {data:=#[115]},.string {data:=#[99]},Z 1,Z 1,.string {data:=#[99]},.string {data:=#[113,52,115]},Z 2,Z 0,.string {data:=#[114,40,101,51,113,51,105,41]},.string {data:=#[117,40,98,113,51,105,41]}]
theorem i0(w:Aa):(Instr.index 198 (.agg Ix) (Z 0)).run prog w=.ok (.agg #[Z 0,Z 0,.string {data:=#[105]},.string {data:=#[99]}]) w:=EL
theorem i1(w:Aa):(Instr.index 198 (.agg Ix) (Z 1)).run prog w=.ok (.agg #[Z 0,Z 1,.string {data:=#[98]},.string {data:=#[99]}]) w:=EL
theorem i2(w:Aa):(Instr.index 198 (.agg Ix) (Z 2)).run prog w=.ok (.agg #[Z 1,Z 0,.string {data:=#[115]},.string {data:=#[99]}]) w:=EL
theorem i3(w:Aa):(Instr.index 198 (.agg Ix) (Z 3)).run prog w=.ok (.agg #[Z 1,Z 1,.string {data:=#[99]},.string {data:=#[113,52,115]}]) w:=EL
theorem i4(w:Aa):(Instr.index 198 (.agg Ix) (Z 4)).run prog w=.ok (.agg #[Z 2,Z 0,.string {data:=#[114,40,101,51,113,51,105,41]},.string {data:=#[117,40,98,113,51,105,41]}]) w:=EL
theorem Nx(k:Int)(w:Aa):
  D7 124 #[Z k] w (.bool (k==0 || k==1 || k==2)) λh=>h=w:=by
 by_cases e:k=0
 ·subst e;exact xe
 by_cases f:k=1
 ·subst f;exact xe
 by_cases g:k=2
 ·subst g;exact xe
 have e0:(k==0)=false:=by simpa using e
 have e1:(k==1)=false:=by simpa using f
 have e2:(k==2)=false:=by simpa using g
 go_enter func124,ntmps124;go_wp2
 go_ret
 exact⟨by rw[e0,e1,e2];rfl,rfl⟩
theorem mg(h:k<0\/2<k):
  D7 124 #[Z k] w (.bool false) λe=>e=w:=by
 refine cs (Nx k w) ?_;have e0:(k==0)=false:=Fy;have e1:(k==1)=false:=Fy;have e2:(k==2)=false:=Fy
 grind
theorem agu{P:Prop}(h:P:=by
 have j0:=i0;have j1:=i1;have j2:=i2;have j3:=i3;have j4:=i4;go_enter func75,ntmps75;go_wp2_with (first|(go_at_call 124;refine cs (Nx _ _) ?_)|(refine wpList_load_row rfl 198 _ rfl 0 rfl tt _ fr _ hg underlying198 rfl EL ?_))
 refine wp_loop_rounds 6 ?_;repeat (rw[rounds_succ];go_wp2)
 try go_region
 exact agq):P:=h
def Rh(k p:Int):ByteArray:=if k=0/\p=0 then {data:=#[105]} else if k=0/\p=1 then {data:=#[98]} else if k=1/\p=0 then {data:=#[115]} else if k=1/\p=1 then {data:=#[99]} else if k=2/\p=0 then {data:=#[114,40,101,51,113,51,105,41]} else {data:=#[]}
def Ri(k p:Int):ByteArray:=if k=0/\p=0 then {data:=#[99]} else if k=0/\p=1 then {data:=#[99]} else if k=1/\p=0 then {data:=#[99]} else if k=1/\p=1 then {data:=#[113,52,115]} else if k=2/\p=0 then {data:=#[117,40,98,113,51,105,41]} else {data:=#[]}
def aE(k p:Int):Int:=if k<0\/2<k then 9 else if k=0/\p=0 then 0 else if k=0/\p=1 then 0 else if k=1/\p=0 then 0 else if k=1/\p=1 then 0 else if k=2/\p=0 then 0 else 16
theorem aC{Q:Int->Int->Prop}(k p:Int)(m:∀k p,k<0\/2<k->Q k p)(e:Q 0 0)(f:Q 0 1)(g:Q 1 0)(h:Q 1 1)(j:Q 2 0)(u:∀p,¬p=0->¬p=1->Q 0 p)(y:∀p,¬p=0->¬p=1->Q 1 p)(B:∀p,¬p=0->Q 2 p):Q k p:=by grind
abbrev J5(k p:Int):Value:=.tuple #[.string (Rh k p),.string (Ri k p),Z (aE k p)]
theorem xF(k p:Int)(h:k<0\/2<k):J5 k p=.tuple #[.string {data:=#[]},.string {data:=#[]},Z 9]:=by grind [Rh,Ri,aE]
theorem xC(p:Int)(e:¬p=0)(f:¬p=1):J5 0 p=.tuple #[.string {data:=#[]},.string {data:=#[]},Z 16]:=by grind [Rh,Ri,aE]
theorem xD(p:Int)(e:¬p=0)(f:¬p=1):J5 1 p=.tuple #[.string {data:=#[]},.string {data:=#[]},Z 16]:=by grind [Rh,Ri,aE]
theorem xE(p:Int)(e:¬p=0):J5 2 p=.tuple #[.string {data:=#[]},.string {data:=#[]},Z 16]:=by grind [Rh,Ri,aE]
theorem XR(fr:Nat×Nat)(hg:w.heap[0]?=some (.cells Ix tt fr)):
  D7 75 #[Z k,Z p] w (J5 k p) λg=>DY w g:=by
 refine aC (Q:=λk p=>D7 75 #[Z k,Z p] w (J5 k p) λg=>DY w g) k p ?_ ?_ ?_ ?_ ?_ ?_ ?_ ?_ ?_
 ·intro k p h;rw[xF k p h];have j:Hid (k<0\/2<k):=h;clear h;go_enter func75,ntmps75;go_wp2_with (first|(go_at_call 124;refine cs (mg j.out) ?_))
  go_ret3
  exact⟨rfl,AA _ _⟩
 rotate_left 5
 ·intro p e f;rw[xC p e f];have e0:((0:Int)==p)=false:=Fy;have e1:((1:Int)==p)=false:=Fy;exact agu
 ·intro p e f;rw[xD p e f];have e0:((0:Int)==p)=false:=Fy;have e1:((1:Int)==p)=false:=Fy;exact agu
 ·intro p e;rw[xE p e];have e0:((0:Int)==p)=false:=Fy;exact agu
 all_goals exact agu
theorem rR(e:Nat×Nat)(h:w.heap[0]?=some (.cells Ix tt e)):
  D7 41 #[Z k,Z p] w (J5 k p) λf=>DY w f:=by
 go_enter func41,ntmps41;go_wp2_with (first|(go_at_call 75;refine cm (XR e (by exact h)) λf g=>?_))
 go_ret3
 exact⟨rfl,g⟩
theorem Qn(k p:Int)(w:Aa):
  D7 155 #[Z k,Z p] w (J5 k p) λg=>g=w:=by
 refine aC (Q:=λk p=>D7 155 #[Z k,Z p] w (J5 k p) λg=>g=w) k p ?_ ?_ ?_ ?_ ?_ ?_ ?_ ?_ ?_
 ·intro k p h;rw[xF k p h];by_cases j:k<0
  ·exact pu
  have h:2<k:=U;exact pu
 rotate_left 5
 ·intro p e f;rw[xC p e f];have e0:(p==0)=false:=Fy;have e1:(p==1)=false:=Fy;exact pu
 ·intro p e f;rw[xD p e f];have e0:(p==0)=false:=Fy;have e1:(p==1)=false:=Fy;exact pu
 ·intro p e;rw[xE p e];have e0:(p==0)=false:=Fy;exact pu
 all_goals exact pu
theorem aeL{f:Aa}{e:Nat×Nat}(j:w.heap[0]?=some (.cells Ix tt e))(h:DY w f):f.heap[0]?=some (.cells Ix tt e):=by
 have g:0<zz w:=by grind
 rw[h.block 0 g];exact j
theorem jX(k p:Int)(w:Aa)(tt:Ag)(e:Nat×Nat)(h:w.heap[0]?=some (.cells Ix tt e)):
  D7 92 #[Z k,Z p] w (.bool true) λf=>DY w f:=by
 go_enter func92,ntmps92;go_wp2_with (first|(go_at_call 41;refine cm (rR e (by exact h)) λf g=>?_)|(go_at_call 155;refine cs (Qn _ _ _) ?_)|(go_at_call 88;go_in))
 go_ret
 exact⟨rfl,g⟩
abbrev agn(w:Aa)(b:Nat)(v0 v1 v2 v3 v4:Ad):World:=((((w.setCell (Y b 0) v0).setCell (Y b 1) v1).setCell (Y b 2) v2).setCell (Y b 3) v3).setCell (Y b 4) v4
theorem sH{F:D9}{a:Aa}(u:F b\/a.heap.size<=b)(h:DF F a w)(e f g j m:Ad):DF F a (agn w b e f g j m):=by grind [DF.setCell]
theorem Uc{c cap:Nat}{buf:Array Value}{cl:Bool}{r:Nat}{tm:Bool}:DF (λk=>k=c) w (w.setChan c cap buf cl s r tm):=by grind [DF,World.setChan]
theorem ZI(w:Aa)(s jc cap a b:Nat)(buf:Array Value)(c0 c1 c2 c3 c4:Int)(h19:w.cell? (Y s 19)=some (.chan (some jc)))(m:w.heap[jc]?=some (.chan cap buf false a b false))(u:buf.size<cap):
  D7 264 #[.pointer (some (Y s 0)),.agg #[Z c0,Z c1,Z c2,Z c3,Z c4]] w (.bool true) λw'=>w'.heap[jc]?=some (.chan cap (buf.push (.agg #[Z c0,Z c1,Z c2,Z c3,Z c4])) false (a+1) b false)/\DF (λk=>k=jc) w w':=by
 refine calls_of_loneTo λcs=>?_
 have e:Frame.enter prog 264 #[.pointer (some (Y s 0)),.agg #[Z c0,Z c1,Z c2,Z c3,Z c4]] .normal=(base 264).at ⟨#[.pointer (some (Y s 0)),.agg #[Z c0,Z c1,Z c2,Z c3,Z c4],undef,undef,undef,undef,undef,undef,undef,undef,undef,undef,undef,undef],[]⟩ [.code (Tryz.f264.body.getD .skip)]:=by
  simp[Frame.enter,Frame.at,func264,base,Tryz.f264]
 rw[e];have hl:s<w.heap.size:=by
  exact aaG
 refine LoneTo.goes (n:=50) ?_;simp only[Tryz.f264,Bw]
 s_c stepG_seq
 s_reg
 s_op
 s_op
 s_c stepG_region_end
 s_c stepG_seq
 s_c stepG_seq
 s_reg
 s_op
 s_op
 s_op
 s_op
 s_op
 s_c stepG_region_end
 s_reg
 s_op
 s_c stepG_region_end
 s_c stepG_seq
 s_reg
 s_stop
 obtain⟨f,g⟩:∃f,w.alloc (.cells #[Z c0,Z c1,Z c2,Z c3,Z c4] 145)=f:=⟨_,rfl⟩;rw[g];have hB:DY w f:=by rw[<-g];exact F9
 have h:=(AB.1 m).1;have j:f.heap[jc]?=some (.chan cap buf false a b false):=by rw[hB.block jc h];exact m
 refine LoneTo.step (step_lone_select_send_room (c:=jc) (cap:=cap) (buf:=buf) (s:=a) (r:=b) (tm:=false) (stepG_comm (cases:=#[scase jc (.agg #[Z c0,Z c1,Z c2,Z c3,Z c4]) (.agg #[Z 0,Z 0,Z 0,Z 0,Z 0])]) (blocking:=false) (shape:=.select) (w':=f) rfl rfl Em (by simp[go_sem,execOp,scase,Act.eval])) j u) ?_;rw[Frame.finish_at]
 walk_nrm
 refine LoneTo.goes (n:=20) ?_
 s_op
 s_op
 s_c stepG_region_end
 s_c stepG_block
 s_cond true
 s_c stepG_seq
 s_reg
 s_op
 s_c stepG_region_end
 s_c stepG_ret'
 s_stop
 refine LoneTo.done ⟨.returned (.bool true),_,rfl,⟨rfl,heap_setChan f jc cap _ false (a+1) b false (Ai h hB.size),?_⟩,rfl,rfl,rfl,rfl,_,func264,by simp[results,Tryz.f264,Frame.at]⟩;exact(DF.D6 hB _).trans (Uc)
theorem ZH(w:Aa)(s jc cap a b:Nat)(buf:Array Value)(c0 c1 c2 c3 c4:Int)(h19:w.cell? (Y s 19)=some (.chan (some jc)))(m:w.heap[jc]?=some (.chan cap buf false a b false))(u:cap<=buf.size):
  D7 264 #[.pointer (some (Y s 0)),.agg #[Z c0,Z c1,Z c2,Z c3,Z c4]] w (.bool false) λw'=>DY w w':=by
 refine calls_of_loneTo λcs=>?_
 have e:Frame.enter prog 264 #[.pointer (some (Y s 0)),.agg #[Z c0,Z c1,Z c2,Z c3,Z c4]] .normal=(base 264).at ⟨#[.pointer (some (Y s 0)),.agg #[Z c0,Z c1,Z c2,Z c3,Z c4],undef,undef,undef,undef,undef,undef,undef,undef,undef,undef,undef,undef],[]⟩ [.code (Tryz.f264.body.getD .skip)]:=by
  simp[Frame.enter,Frame.at,func264,base,Tryz.f264]
 rw[e];have hl:s<w.heap.size:=by
  exact aaG
 refine LoneTo.goes (n:=50) ?_;simp only[Tryz.f264,Bw]
 s_c stepG_seq
 s_reg
 s_op
 s_op
 s_c stepG_region_end
 s_c stepG_seq
 s_c stepG_seq
 s_reg
 s_op
 s_op
 s_op
 s_op
 s_op
 s_c stepG_region_end
 s_reg
 s_op
 s_c stepG_region_end
 s_c stepG_seq
 s_reg
 s_stop
 obtain⟨f,g⟩:∃f,w.alloc (.cells #[Z c0,Z c1,Z c2,Z c3,Z c4] 145)=f:=⟨_,rfl⟩;rw[g];have hB:DY w f:=by rw[<-g];exact F9
 have j:=(AB.1 m).1;have h:f.heap[jc]?=some (.chan cap buf false a b false):=by rw[hB.block jc j];exact m
 refine LoneTo.step (step_lone_select_send_full (c:=jc) (cap:=cap) (buf:=buf) (s:=a) (r:=b) (tm:=false) (stepG_comm (cases:=#[scase jc (.agg #[Z c0,Z c1,Z c2,Z c3,Z c4]) (.agg #[Z 0,Z 0,Z 0,Z 0,Z 0])]) (blocking:=false) (shape:=.select) (w':=f) rfl rfl Em (by simp[go_sem,execOp,scase,Act.eval])) h u) ?_;rw[Frame.finish_at]
 walk_nrm
 refine LoneTo.goes (n:=20) ?_
 s_op
 s_op
 s_c stepG_region_end
 s_c stepG_block
 s_cond false
 s_c stepG_seq
 s_reg
 s_op
 s_c stepG_region_end
 s_c stepG_ret'
 s_stop
 exact LoneTo.done ⟨.returned (.bool false),_,rfl,⟨rfl,hB⟩,rfl,rfl,rfl,rfl,_,func264,by simp[results,Tryz.f264,Frame.at]⟩
theorem XY(w:Aa)(s jc cap a b:Nat)(buf:Array Value)(c0 c1 c2 c3 c4:Int)(h19:w.cell? (Y s 19)=some (.chan (some jc)))(T:w.heap[jc]?=some (.chan cap buf false a b false))(hr:0<buf.size)(h0:buf.getD 0 undef=.agg #[Z c0,Z c1,Z c2,Z c3,Z c4]):
  D7 81 #[.pointer (some (Y s 0))] w (.tuple #[.agg #[Z c0,Z c1,Z c2,Z c3,Z c4],.bool true]) λw'=>w'.heap[jc]?=some (.chan cap (buf.extract 1 buf.size) false a (b+1) false)/\DF (λk=>k=jc) w w':=by
 refine calls_of_loneTo λcs=>?_
 have e:Frame.enter prog 81 #[.pointer (some (Y s 0))] .normal=(base 81).at ⟨#[.pointer (some (Y s 0)),undef,undef,undef,undef,undef,undef,undef,undef,undef,undef,undef,undef,undef,undef,undef],[]⟩ [.code (Tryz.f81.body.getD .skip)]:=by
  simp[Frame.enter,Frame.at,func81,base,Tryz.f81]
 rw[e];have hl:s<w.heap.size:=by
  exact aaG
 refine LoneTo.goes (n:=50) ?_;simp only[Tryz.f81,Bw]
 s_c stepG_seq
 s_reg
 s_op
 s_op
 s_c stepG_region_end
 s_c stepG_seq
 s_reg
 s_op
 s_op
 s_op
 s_op
 s_op
 s_c stepG_region_end
 s_c stepG_seq
 s_reg
 s_stop
 obtain⟨f,h⟩:∃f,w.alloc (.cells #[Z 0,Z 0,Z 0,Z 0,Z 0] 145)=f:=⟨_,rfl⟩;rw[h];have hB:DY w f:=by rw[<-h];exact F9
 have u:=(AB.1 T).1;have D:f.heap[jc]?=some (.chan cap buf false a b false):=by rw[hB.block jc u];exact T
 have hz:f.heap[w.heap.size]?=some (.cells #[Z 0,Z 0,Z 0,Z 0,Z 0] 145 (0,0)):=by rw[<-h];exact AF w _
 have hzl:=(AB.1 hz).1;refine LoneTo.step (step_lone_select_recv_buf (c:=jc) (cap:=cap) (buf:=buf) (closed:=false) (s:=a) (r:=b) (tm:=false) (stepG_comm (cases:=#[rcase jc (.agg #[Z 0,Z 0,Z 0,Z 0,Z 0])]) (blocking:=false) (shape:=.select) (w':=f) rfl rfl Em (by simp[go_sem,execOp,rcase,Act.eval])) D hr) ?_;rw[Frame.finish_at,h0]
 walk_nrm
 obtain⟨g,m⟩:∃g,f.setChan jc cap (buf.extract 1 buf.size) false a (b+1) false=g:=⟨_,rfl⟩;rw[m];have y:DF (λk=>k=jc) f g:=by rw[<-m];exact Uc
 have M:g.heap[jc]?=some (.chan cap (buf.extract 1 buf.size) false a (b+1) false):=by rw[<-m];exact heap_setChan f jc cap _ false a (b+1) false (Ai u hB.size)
 have B:g.heap[w.heap.size]?=some (.cells #[Z 0,Z 0,Z 0,Z 0,Z 0] 145 (0,0)):=by
  rw[y.block _ hzl U];exact hz
 obtain⟨d0,d1,d2,d3,d4⟩:=bC B 0 1 2 3 4;have z:∀j,g.frozen? (EN w j)=false:=λj=>Eb B
 have O:=(AB.1 B).1;have aa:w.heap.size≠g.heap.size:=U;have X:g.heap.size≠w.heap.size:=U;refine LoneTo.goes (n:=30) ?_
 s_op
 s_op
 s_c stepG_region_end
 s_c stepG_block
 s_cond true
 s_c stepG_seq
 s_reg
 s_op
 s_op
 s_op
 s_c stepG_region_end
 s_c stepG_seq
 s_reg
 s_op
 s_op
 s_op
 s_c stepG_region_end
 s_c stepG_ret'
 s_stop
 have Q:=(sH (F:=λk=>k=w.heap.size) (b:=w.heap.size) (Aj rfl) (DF.refl (λk=>k=w.heap.size) g) (Z c0) (Z c1) (Z c2) (Z c3) (Z c4)).alloc (.cells #[Z c0,Z c1,Z c2,Z c3,Z c4] 145);refine LoneTo.done ⟨.returned (.tuple #[.agg #[Z c0,Z c1,Z c2,Z c3,Z c4],.bool true]),_,rfl,⟨rfl,?_,?_⟩,rfl,rfl,rfl,rfl,_,func81,?_⟩
 ·exact(Q.block jc (Ai (Ai u hB.size) y.size) U).trans M
 ·exact((DF.D6 hB _).trans y).andThen Q (λi hi e=>by omega)
 ·simp[results,Tryz.f81,Frame.at,go_sem,O,d0,d1,d2,d3,d4]
theorem XX(w:Aa)(s jc cap a b:Nat)(h19:w.cell? (Y s 19)=some (.chan (some jc)))(u:w.heap[jc]?=some (.chan cap #[] false a b false)):
  D7 81 #[.pointer (some (Y s 0))] w (.tuple #[.agg #[Z 0,Z 0,Z 0,Z 0,Z 0],.bool false]) λw'=>DY w w':=by
 refine calls_of_loneTo λcs=>?_
 have e:Frame.enter prog 81 #[.pointer (some (Y s 0))] .normal=(base 81).at ⟨#[.pointer (some (Y s 0)),undef,undef,undef,undef,undef,undef,undef,undef,undef,undef,undef,undef,undef,undef,undef],[]⟩ [.code (Tryz.f81.body.getD .skip)]:=by
  simp[Frame.enter,Frame.at,func81,base,Tryz.f81]
 rw[e];have hl:s<w.heap.size:=by
  exact aaG
 refine LoneTo.goes (n:=50) ?_;simp only[Tryz.f81,Bw]
 s_c stepG_seq
 s_reg
 s_op
 s_op
 s_c stepG_region_end
 s_c stepG_seq
 s_reg
 s_op
 s_op
 s_op
 s_op
 s_op
 s_c stepG_region_end
 s_c stepG_seq
 s_reg
 s_stop
 obtain⟨f,g⟩:∃f,w.alloc (.cells #[Z 0,Z 0,Z 0,Z 0,Z 0] 145)=f:=⟨_,rfl⟩;rw[g];have hB:DY w f:=by rw[<-g];exact F9
 have m:=(AB.1 u).1;have h:f.heap[jc]?=some (.chan cap #[] false a b false):=by rw[hB.block jc m];exact u
 have hz:f.heap[w.heap.size]?=some (.cells #[Z 0,Z 0,Z 0,Z 0,Z 0] 145 (0,0)):=by rw[<-g];exact AF w _
 have hzl:=(AB.1 hz).1;refine LoneTo.step (step_lone_select_default (c:=jc) (cap:=cap) (s:=a) (r:=b) (tm:=false) (stepG_comm (cases:=#[rcase jc (.agg #[Z 0,Z 0,Z 0,Z 0,Z 0])]) (blocking:=false) (shape:=.select) (w':=f) rfl rfl Em (by simp[go_sem,execOp,rcase,Act.eval])) h) ?_;rw[Frame.finish_at]
 walk_nrm
 have d0:=EI hz 0;have d1:=EI hz 1;have d2:=EI hz 2;have d3:=EI hz 3;have d4:=EI hz 4;have z:∀j,f.frozen? (EN w j)=false:=λj=>Eb hz
 refine LoneTo.goes (n:=30) ?_
 s_op
 s_op
 s_c stepG_region_end
 s_c stepG_block
 s_cond false
 s_c stepG_seq
 s_reg
 s_op
 s_op
 s_op
 s_c stepG_region_end
 s_c stepG_ret'
 s_stop
 refine LoneTo.done ⟨.returned (.tuple #[.agg #[Z 0,Z 0,Z 0,Z 0,Z 0],.bool false]),_,rfl,⟨rfl,?_⟩,rfl,rfl,rfl,rfl,_,func81,?_⟩
 ·exact((DF.D6 hB (λk=>k=w.heap.size)).trans (sH (F:=λk=>k=w.heap.size) (b:=w.heap.size) (Aj rfl) (DF.refl (λk=>k=w.heap.size) f) (Z 0) (Z 0) (Z 0) (Z 0) (Z 0))).DG (Ar _) (λk e=>by omega)
 ·simp[results,Tryz.f81,Frame.at,go_sem,d0,d1,d2,d3,d4]
abbrev cv(P:Pk):Value:=.agg #[Z P.DJ,Z P.DR,Z P.DZ,Z P.D4,Z P.D5]
theorem Td{a b:Ac}(e:a.length<=1000)(f:b.length<=1000)(w:Aa):(Op.stringOp .add (str a) (str b)).run prog w=.ok (.string (str (a++b))) w:=by
 have e1:str a++str b=str (a++b):=by
  apply CJ;simp
 rw[<-e1];exact C6 w _ _ (by rw[Er,Er];omega)
theorem Nr(P:Pk)(w:Aa):D7 235 #[pv P] w (cv P) λe=>DY w e:=by
 go_enter func235,ntmps235;go_wp2;go_returns;exact⟨rfl,F9.alloc Ev _⟩
theorem ZN{g:Int}(e:World->Prop)
  (D:Hid (∀u,DY w u->D7 192 #[.pointer (some (Y s 0)),cv P,S9 7 0 0 0 0 0 g 2 false ⟨#[]⟩] u Ep λm=>e m)):
  D7 234 #[.pointer (some (Y s 0)),pv P,Z g] w Ep λm=>e m:=by
 have B:=Dx (λw=>Nr P w);have y:Hid (∀o,DY w (w.alloc o)):=λo=>F9
 go_enter func234,ntmps234;go_wp2_with (first|(go_at_call 235;refine cm (B _) λM f=>?_;have h:=Dx ((y _).trans (f.mono Ev));clear f)|(go_at_call 192;refine cm (D _ h) λO j=>?_))
 go_returns;exact⟨rfl,j⟩
abbrev pt(b:Nat):Value:=.pointer (some (Y b 0))
theorem eQ{st:Int}(e:World->Prop)(X:EB w b 5 (Z st))(m:0<=st/\st<=3)
  (T:Hid (st=3->∀g,DY w g->D7 234 #[pt s,pv P,Z 0] g Ep λh=>e h))
  (Q:Hid (st=2->P.Fs=true->∀g,DY w g->D7 137 #[pt s,pt b] g Ep λh=>e h))
  (O:Hid (st=1->P.Fs=true->∀g,DY w g->D7 237 #[pt s,pv P] g Ep λh=>e h))
  (M:Hid (st=0->P.Dz=1->∀g,DY w g->D7 236 #[pt s,pt b,pv P] g Ep λh=>e h))
  (j:Hid (((st=1\/st=2)/\P.Fs=false)\/(st=0/\¬P.Dz=1)->∀g,DY w g->e g)):
  D7 200 #[pt s,pt b,pv P] w Ep λh=>e h:=by
 have HB:Hid (∀o,DY w (w.alloc o)):=λo=>F9
 have hl:=Gv X;obtain⟨y,cl,li,ln,aa,u,pa,o,D,Ef⟩:=P;dsimp only at *;generalize str Ef=SB at *;have hc:st=0\/st=1\/st=2\/st=3:=U;clear m;rcases hc with rfl|rfl|rfl|rfl
 ·by_cases hk:y=1
  ·have e1:(y==1)=true:=by simpa using hk
   have HQ:=Dx (M rfl hk);clear hk;go_enter func200,ntmps200;go_wp2_with (first|(go_at_call 236;refine cm (HQ _ (by first|exact HB _|exact Ed (HB _) _|exact(HB _).drew|exact(HB _).drew.drew|exact Ed (Ed (HB _) _) _)) λB f=>?_))
   go_returns;exact⟨rfl,f⟩
  ·have e1:(y==1)=false:=by simpa using hk
   have HQ:=Dx (j (Am ⟨rfl,hk⟩));clear hk;go_enter func200,ntmps200;exact aaD
 ·cases D with
  |true=>
   have HQ:=Dx (O rfl rfl);go_enter func200,ntmps200;go_wp2_with (first|(go_at_call 237;refine cm (HQ _ (by first|exact HB _|exact Ed (HB _) _|exact(HB _).drew|exact(HB _).drew.drew|exact Ed (Ed (HB _) _) _)) λB f=>?_))
   go_returns;exact⟨rfl,f⟩
  |false=>
   have HQ:=Dx (j (Aj ⟨Aj rfl,rfl⟩));go_enter func200,ntmps200;exact aaD
 ·cases D with
  |true=>
   have HQ:=Dx (Q rfl rfl);go_enter func200,ntmps200;go_wp2_with (first|(go_at_call 137;refine cm (HQ _ (by first|exact HB _|exact Ed (HB _) _|exact(HB _).drew|exact(HB _).drew.drew|exact Ed (Ed (HB _) _) _)) λB f=>?_))
   go_returns;exact⟨rfl,f⟩
  |false=>
   have HQ:=Dx (j (Aj ⟨Am rfl,rfl⟩));go_enter func200,ntmps200;exact aaD
 ·have HQ:=Dx (T rfl);go_enter func200,ntmps200;go_wp2_with (first|(go_at_call 234;refine cm (HQ _ (by first|exact HB _|exact Ed (HB _) _|exact(HB _).drew|exact(HB _).drew.drew|exact Ed (Ed (HB _) _) _)) λB f=>?_))
  go_returns;exact⟨rfl,f⟩
theorem bP(e:World->Prop)
  (HQ:Hid (∀g,DY w g->D7 199 #[pt s,.pointer none,pv P] g Ep λf=>e f)):
  D7 139 #[pt s,.pointer none,pv P] w Ep λf=>e f:=by
 have HB:Hid (∀o,DY w (w.alloc o)):=λo=>F9
 exact afC
theorem Yl{f:Int}(e:World->Prop)(y:EB w b 3 (Z f))
  (m:Hid (f<P.D4->∀g,DY w g->D7 199 #[pt s,pt b,pv P] g Ep λh=>e h))
  (j:Hid (f=P.D4->∀g,DY w g->D7 200 #[pt s,pt b,pv P] g Ep λh=>e h))
  (u:Hid (P.D4<f->∀g,DY w g->e g)):
  D7 139 #[pt s,pt b,pv P] w Ep λh=>e h:=by
 have HB:Hid (∀o,DY w (w.alloc o)):=λo=>F9
 have hl:=Gv y;rcases Int.lt_trichotomy f P.D4 with hc|hc|hc
 ·have HQ:=Dx (m hc);have e1:decide (f<P.D4)=true:=by simpa using hc
  exact afC
 ·have HQ:=Dx (j hc);have e1:decide (f<P.D4)=false:=Fy;have e2:(f==P.D4)=true:=by simpa using hc
  clear hc;go_enter func139,ntmps139;go_wp2_with fail
  go_quiet (fail);go_wp2_with fail
  go_quiet (fail);go_wp2_with (first|(go_at_call 200;refine cm (HQ _ (by first|exact HB _|exact Ed (HB _) _|exact(HB _).drew|exact(HB _).drew.drew|exact Ed (Ed (HB _) _) _)) λw3 hw3=>?_))
  go_returns;exact⟨rfl,hw3⟩
 ·have HQ:=Dx (u hc);have e1:decide (f<P.D4)=false:=Fy;have e2:(f==P.D4)=false:=Fy;clear hc;go_enter func139,ntmps139;go_wp2_with fail
  go_quiet (fail);go_wp2_with fail
  go_quiet (fail);exact aaD
theorem XW(a b:Ac):str (a++b)=str a++str b:=by
 apply CJ;simp
theorem qp(w:Aa)(s b:Nat)(P:Pk)(Gn:Ac)(e:World->Prop)(j:EB w b 6 (.string (str Gn)))(z6:w.frozen? (Y b 6)=false)(M:Gn.length<=1000)(O:P.Ef.length<=1000)(Q:1<=P.off/\P.off<=9)(hn:¬P.Ez=P.off-1)
  (g:Hid (∀h,Below w.heap.size (w.setCell (Y b 6) (.string (str (Gn++P.Ef)))) h->e h)):
  D7 258 #[pt s,pt b,pv P] w (.bool true) λB=>e B:=by
 have f:Hid (∀o v,Below (zz w) (w.setCell (Y b 6) v) ((w.setCell (Y b 6) v).alloc o)):=λo v=>(AA _ _).alloc Ev _
 have hl:=Gv j;have⟨T,cl,X,ln,y,u,pa,o,pl,Ef⟩:=P;dsimp only[pv]at *;rw[XW Gn Ef]at g;have m:¬9223372036854775807<(str Gn).size+(str Ef).size:=by rw[Er,Er];omega
 generalize str Ef=SB at *;generalize str Gn=SA at *;have D:IntKind.i64.wrap (o-1)=o-1:=Iz;have e1:(pa==o-1)=false:=by simpa using hn
 clear hn;go_enter func258,ntmps258;go_wp2_with fail
 go_region
 all_goals
  go_wp2;go_returns;exact⟨rfl,g _ (by first|exact f _ _|exact(f _ _).drew)⟩
theorem qm(w:Aa)(s b:Nat)(P:Pk)(c0 c1 c2 c3 c4:Int)(y:EB w b 0 (Z c0))(M:EB w b 1 (Z c1))(O:EB w b 2 (Z c2))(Q:EB w b 3 (Z c3))(T:EB w b 4 (Z c4))(X:1<=P.off/\P.off<=9)(hn:P.Ez=P.off-1)
  (m:Hid (∀h,DY w h->D7 264 #[pt s,.agg #[Z c0,Z c1,Z c2,Z c3,Z c4]] h (.bool false) λg=>DY h g)):
  D7 258 #[pt s,pt b,pv P] w (.bool false) λg=>DY w g:=by
 have j:Hid (∀o,DY w (w.alloc o)):=λo=>F9
 have hl:=Gv y;have⟨kd,cl,li,ln,B,u,pa,o,pl,Ef⟩:=P;dsimp only[pv]at *;have D:IntKind.i64.wrap (o-1)=o-1:=Iz;have e1:(pa==o-1)=true:=by simpa using hn
 clear hn;go_enter func258,ntmps258;go_wp2_with (first|(go_at_call 264;refine cm (m _ (j _)) λw3 e=>?_;have f:=Dx ((j _).trans (e.mono Ev));clear e))
 go_returns;exact⟨rfl,f⟩
theorem qo(w:Aa)(s b:Nat)(P:Pk)(Gn:Ac)(c0 c1 c2 c3 c4 st:Int)(A g:World->Prop)(B:w.cell? (Y b 0)=some (Z c0))(h1:w.cell? (Y b 1)=some (Z c1))(h2:w.cell? (Y b 2)=some (Z c2))(h3:w.cell? (Y b 3)=some (Z c3))(h4:w.cell? (Y b 4)=some (Z c4))(ho:1<=P.off/\P.off<=9)(hn:P.Ez=P.off-1)(ha:Gn.length<=1000)(hb:P.Ef.length<=1000)
  (HJ:Hid (∀f,DY w f->D7 264 #[pt s,.agg #[Z c0,Z c1,Z c2,Z c3,Z c4]] f (.bool true) λe=>A e/\(∀x,w.heap.size<=x->x<f.heap.size->e.heap[x]?=f.heap[x]?)/\f.heap.size<=e.heap.size))
  (HA:Hid (∀e,A e->e.cell? (Y b 6)=some (.string (str Gn))/\e.frozen? (Y b 6)=false/\e.cell? (Y b 5)=some (Z st)/\e.frozen? (Y b 5)=false))
  (Q:Hid (∀e f,A e->Below e.heap.size ((e.setCell (Y b 6) (.string (str (Gn++P.Ef)))).setCell (Y b 5) (Z 1)) f->g f)):
  D7 258 #[pt s,pt b,pv P] w (.bool true) λe=>g e:=by
 have HB:Hid (∀o,DY w (w.alloc o)):=λo=>F9
 have hl:=Gv B;have⟨X,cl,li,ln,y,u,pa,o,pl,Ef⟩:=P;dsimp only[pv]at *;rw[XW Gn Ef]at Q;have ac:¬9223372036854775807<(str Gn).size+(str Ef).size:=by rw[Er,Er];omega
 generalize str Ef=SB at *;generalize str Gn=SA at *;have ew:IntKind.i64.wrap (o-1)=o-1:=Iz;have e1:(pa==o-1)=true:=by simpa using hn
 clear hn;have HX:Hid (∀j:World,(∀x,w.heap.size<=x->x<(w.alloc (.cells #[Z X,Z cl,Z li,Z ln,Z y,Z u,Z pa,Z o,.bool pl,.string SB] 41)).heap.size->j.heap[x]?=(w.alloc (.cells #[Z X,Z cl,Z li,Z ln,Z y,Z u,Z pa,Z o,.bool pl,.string SB] 41)).heap[x]?)->j.cell? (EN w 9)=some (.string SB)):=λj hx=>by
  have B:=hx w.heap.size (Ar _) Ev;rw[AF w _]at B;exact EI B 9
 go_enter func258,ntmps258;go_wp2_with (first|(go_at_call 264;refine cm (HJ _ (HB _)) ?_;rintro j ⟨h,m,O⟩;have M:=HA j h;have⟨d6,y6,d5,y5⟩:=M;have d9:=HX j m;have D:=Dx (λf=>Q j f h);have aa:=Gv d6;have ab:=Gv d9;have hnb:¬b=w.heap.size:=U;have T:¬w.heap.size=b:=U;clear h m O))
 go_region
 all_goals
  go_wp2;go_returns;exact⟨rfl,D _ (by first|exact(AA _ _)|exact(AA _ _).drew|exact Ed (AA _ _) _)⟩
end Go.Proofs.YtblomippkddgiaaGreatDoor
