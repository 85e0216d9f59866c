import Derived.Test.YtblomippkddgiabGreatDoorJ13
set_option maxRecDepth 100000
set_option maxHeartbeats 1000000
namespace Go.Proofs.YtblomippkddgiabGreatDoor.R
variable {M:Bk}{i k:Int}{a:List Sv}{l':Ln}{G b c:Wd}
structure Xt(a b:List Ln):Prop where
 len:b.length=a.length
 each:∀(k:Nat) (l':Ln),b[k]?=some l'->∃l,a[k]?=some l/\l'.seq=l.seq
structure R8(a b:List Cl):Prop where
 len:b.length=a.length
 each:∀(i:Nat) (c':Cl),b[i]?=some c'->∃c,a[i]?=some c/\c'.Ae=c.Ae/\c'.bound=c.bound/\Xt c.lines c'.lines
structure OX(a b:List Sv):Prop where
 len:b.length=a.length
 each:∀(u:Nat) (s':Sv),b[u]?=some s'->∃s,a[u]?=some s/\s'.kind=s.kind/\(s.alive=false->s'.alive=false/\s'.log=s.log)/\∃t,s'.log=s.log++t
structure Sm(G G':Wd):Prop where
 c:G'.c=G.c
 names:G'.names=G.names
 stands:G'.stands=G.stands
 sv:OX G.Ab G'.Ab
 cl:R8 G.Ad G'.Ad
theorem Xt.refl(a:List Ln):Xt a a:=⟨rfl,fun _ l h=>⟨l,h,rfl⟩⟩
theorem R8.refl(a:List Cl):R8 a a:=⟨rfl,fun _ c h=>⟨c,h,rfl,rfl,Xt.refl _⟩⟩
theorem OX.refl(a:List Sv):OX a a:=⟨rfl,fun _ s h=>⟨s,h,rfl,fun q=>⟨q,rfl⟩,[],by simp⟩⟩
theorem Sm.refl(G:Wd):Sm G G:=⟨rfl,rfl,rfl,OX.refl _,R8.refl _⟩
theorem Xt.trans{a b c:List Ln}(h:Xt a b)(k:Xt b c):Xt a c:=⟨k.len.trans h.len,fun i l hl=>by
 obtain⟨l1,h1,h2⟩:=k.each i l hl;obtain⟨l2,h3,h4⟩:=h.each i l1 h1;exact⟨l2,h3,h2.trans h4⟩⟩
theorem R8.trans{a b c:List Cl}(h:R8 a b)(k:R8 b c):R8 a c:=⟨k.len.trans h.len,fun i l hl=>by
 obtain⟨l1,h1,h2,h3,h4⟩:=k.each i l hl;obtain⟨l2,g1,g2,g3,g4⟩:=h.each i l1 h1;exact⟨l2,g1,h2.trans g2,h3.trans g3,g4.trans h4⟩⟩
theorem OX.trans{b c:List Sv}(h:OX a b)(k:OX b c):OX a c:=⟨k.len.trans h.len,fun i l hl=>by
 obtain⟨l1,h1,h2,h3,t1,h4⟩:=k.each i l hl;obtain⟨l2,g1,g2,g3,t2,g4⟩:=h.each i l1 h1;refine⟨l2,g1,h2.trans g2,fun q=>?_,t2++t1,by rw[h4,g4,List.append_assoc]⟩;obtain⟨p1,p2⟩:=g3 q;obtain⟨p3,p4⟩:=h3 p1;exact⟨p3,p4.trans p2⟩⟩
theorem Sm.trans{a:Wd}(h:Sm a b)(k:Sm b c):Sm a c:=⟨k.c.trans h.c,k.names.trans h.names,k.stands.trans h.stands,h.sv.trans k.sv,h.cl.trans k.cl⟩
theorem Sm.send(G:Wd)(to:Int)(p:Pk):Sm G (Bg G to p):=by
 unfold Bg;split
 ·exact⟨rfl,rfl,rfl,OX.refl _,R8.refl _⟩
 ·exact Sm.refl G
theorem Xt.set{a:List Ln}{k:Nat}(h:∀l,a[k]?=some l->l'.seq=l.seq):Xt a (a.set k l'):=by
 refine⟨by simp,fun j l hl=>?_⟩;rw[List.getElem?_set]at hl;split at hl
 ·rename_i e;subst e;split at hl
  ·rename_i hk;cases hl;exact⟨_,List.getElem?_eq_getElem hk,h _ (List.getElem?_eq_getElem hk)⟩
  ·cases hl
 ·exact⟨l,hl,rfl⟩
theorem Ys{c:Cl}{l:Ln}(hc:G.Ad[i.toNat]?=some c)(hl:c.lines[k.toNat]?=some l):BH G i k=l:=by
 unfold BH;rw[hc];simp[hl]
theorem Sm.line(h:l'.seq=(BH G i k).seq):Sm G (Am G i k l'):=by
 refine⟨rfl,rfl,rfl,OX.refl _,⟨by simp[Am],fun j c' hj=>?_⟩⟩;unfold Am at hj;simp only[List.getElem?_modify]at hj;cases hc:G.Ad[j]? with
 |none=>rw[hc]at hj;simp at hj
 |some c=>
  rw[hc]at hj;simp at hj;split at hj
  ·rename_i e;subst e;cases hj;exact⟨c,rfl,rfl,rfl,Xt.set (fun l hl=>by rw[h,Ys hc hl])⟩
  ·cases hj;exact⟨_,rfl,rfl,rfl,Xt.refl _⟩
theorem Sm.seen(G:Wd)(i:Nat)(r:Sn):Sm G (AB G i r):=⟨rfl,rfl,rfl,OX.refl _,R8.refl _⟩
theorem Sm.E3(G:Wd)(f:List Fl):Sm G {G with Ak:=f}:=⟨rfl,rfl,rfl,OX.refl _,R8.refl _⟩
theorem Sm.piece(G:Wd)(i k:Int)(b:Bool):Sm G (AA G i k b):=Sm.send _ _ _
theorem Sm.Ro(G:Wd)(i k:Int):Sm G (Fw G i k):=Sm.send _ _ _
theorem Sm.AU(G:Wd)(i k:Int):Sm G (AU G i k):=by
 unfold R.AU;simp only;split
 ·exact Sm.refl G
 ·split
  ·exact Sm.line rfl
  ·split
   ·exact Sm.line rfl
   ·split
    ·exact(Sm.line (G:=G) (i:=i) (k:=k) (l':={BH G i k with wait:=G.c.Ay,tries:=(BH G i k).tries-1}) rfl).trans (Sm.piece _ _ _ _)
    ·exact(Sm.line (G:=G) (i:=i) (k:=k) (l':={BH G i k with wait:=G.c.Ay,tries:=(BH G i k).tries-1}) rfl).trans (Sm.Ro _ _ _)
theorem Sm.fold{α:Type}(f:Wd->α->Wd)(hf:∀G a,Sm G (f G a)):∀(l:List α) (G:Wd),Sm G (l.foldl f G)
 |[],G=>Sm.refl G
 |a :: l,G=>(hf G a).trans (Sm.fold f hf l (f G a))
theorem Sm.DR(G:Wd)(i:Nat):Sm G (AL G i):=Sm.send _ _ _
theorem Sm.AJ(G:Wd)(i:Nat):Sm G (AJ G i):=by
 unfold R.AJ;simp only;split
 ·exact Sm.refl G
 ·split
  ·exact Sm.seen _ _ _
  ·split
   ·exact Sm.seen _ _ _
   ·exact(Sm.seen G i _).trans (Sm.DR _ _)
theorem Sm.tick(G:Wd):Sm G (IB G):=by
 unfold IB EG;refine Sm.trans (Sm.fold _ (fun G a=>?_) _ _) (Sm.fold _ (fun G a=>Sm.AJ G a) _ _);exact Sm.fold _ (fun G b=>Sm.AU G _ _) _ _
theorem Sm.rest(G:Wd)(i k:Int):Sm G (ET G i k):=Sm.line rfl
theorem Sm.got(G:Wd)(i:Int)(p:Pk):Sm G (I1 G i p):=Sm.send _ _ _
theorem Sm.result(G:Wd)(i:Int)(p:Pk):Sm G (Dy G i p):=by
 unfold Dy;simp only;split
 ·exact Sm.refl G
 ·split
  ·split
   ·exact Sm.line rfl
   ·exact((Sm.line (G:=G) (i:=i) (k:=p.line) (l':={BH G i p.line with came:=(BH G i p.line).came++p.body,pieces:=(BH G i p.line).pieces+1,Ao:=Ag (BH G i p.line).message}) rfl).trans (Sm.got _ _ _)).trans (Sm.rest _ _ _)
  ·exact Sm.got _ _ _
theorem Sm.heard(G:Wd)(i:Int)(p:Pk):Sm G (Ee G i p):=by
 unfold Ee;simp only;split
 ·exact Sm.refl G
 ·split
  ·split
   ·refine Sm.trans (Sm.line (G:=G) (i:=i) (k:=p.line) (l':={BH G i p.line with Ao:=(BH G i p.line).Ao+1}) rfl) ?_;split
    ·exact(Sm.piece _ _ _ _).trans (Sm.rest _ _ _)
    ·exact Sm.rest _ _ _
   ·exact Sm.refl G
  ·split
   ·exact Sm.rest _ _ _
   ·split
    ·exact Sm.result _ _ _
    ·split
     ·exact Sm.line rfl
     ·exact Sm.refl G
theorem Sm.Dx(G:Wd)(p:Pk)(a b c:Int):Sm G (C3 G p a b c):=Sm.send _ _ _
theorem Sm.tell(G:Wd)(i:Nat):Sm G (Em G i):=by
 unfold Em;exact(Sm.DR G i).trans (Sm.seen _ _ _)
theorem Sm.Si(G:Wd)(p:Pk):Sm G (IX G p):=by
 unfold IX;split
 ·exact Sm.Dx _ _ _ _ _
 ·exact Sm.refl G
theorem Sm.gather(G:Wd)(i:Nat)(p:Pk):Sm G (CL G i p):=by
 unfold CL;simp only;split
 ·split
  ·split
   ·exact Sm.refl G
   ·refine Sm.trans ?_ (Sm.Si _ _);exact⟨rfl,rfl,rfl,OX.refl _,R8.refl _⟩
  ·exact(Sm.seen G i _).trans (Sm.Si _ _)
 ·exact Sm.Si _ _
theorem Sm.known(G:Wd)(i:Nat)(p:Pk):Sm G (Dq G i p):=by
 unfold Dq;simp only;split
 ·split
  ·exact Sm.gather _ _ _
  ·exact Sm.refl G
 ·split
  ·exact Sm.Dx _ _ _ _ _
  ·split
   ·exact Sm.refl G
   ·split
    ·exact Sm.tell _ _
    ·split
     ·exact Sm.Dx _ _ _ _ _
     ·exact Sm.Dx _ _ _ _ _
theorem Sm.Aj(G:Wd)(p:Pk):Sm G (Dr G p):=by
 unfold Dr;split
 ·exact⟨rfl,rfl,rfl,OX.refl _,R8.refl _⟩
 ·exact Sm.refl G
theorem Sm.ask(G:Wd)(i:Nat)(p:Pk):Sm G (JI G i p):=by
 unfold JI;simp only;split
 ·split
  ·exact(Sm.seen G i _).trans (Sm.tell _ _)
  ·exact Sm.refl G
 ·split
  ·exact Sm.known _ _ _
  ·split
   ·exact Sm.refl G
   ·split
    ·exact Sm.Dx _ _ _ _ _
    ·split
     ·exact Sm.refl G
     ·split
      ·exact Sm.Dx _ _ _ _ _
      ·exact(Sm.seen G i _).trans (Sm.known _ _ _)
theorem Sm.asked(G:Wd)(p:Pk):Sm G (Er G p):=by
 unfold Er;split
 ·exact Sm.refl G
 ·exact(Sm.Aj G p).trans (Sm.ask _ _ _)
theorem Sm.Cr(G:Wd)(i:Int):Sm G (Bc G i).2:=by
 unfold Bc;split
 ·exact Sm.refl G
 ·split
  ·exact Sm.refl G
  ·simp only;refine Sm.trans (Sm.E3 G (G.Ak.eraseIdx i.toNat)) ?_;split
   ·exact Sm.refl _
   ·split
    ·exact Sm.refl _
    ·split
     ·exact Sm.asked _ _
     ·exact Sm.heard _ _ _
theorem Sm.drop(G:Wd)(i:Int):Sm G (Ej G i).2:=by
 unfold Ej;split
 ·exact Sm.refl G
 ·exact Sm.E3 G _
theorem Sm.copy(G:Wd)(i:Int):Sm G (DG G i).2:=by
 unfold DG;split
 ·exact Sm.refl G
 ·split
  ·exact Sm.refl G
  ·split
   ·exact Sm.refl G
   ·exact Sm.E3 G _
theorem Sm.Ji(G:Wd)(i a b:Int):Sm G (Dt G i a b).2:=by
 unfold Dt;split
 ·exact Sm.refl G
 ·split
  ·exact Sm.refl G
  ·split
   ·exact Sm.refl G
   ·split
    ·exact Sm.refl G
    ·exact Sm.E3 G _
theorem OX.done{n:Nat}{s:Sv}(hs:a[n]?=some s)(aa:s.alive=true)(e:En):OX a (a.set n {s with log:=s.log++[e]}):=by
 refine⟨by simp,fun u s' hu=>?_⟩;rw[List.getElem?_set]at hu;split at hu
 ·rename_i q;subst q;split at hu
  ·cases hu;exact⟨s,hs,rfl,(fun q=>by rw[aa]at q;cases q),[e],rfl⟩
  ·cases hu
 ·exact⟨s',hu,rfl,fun q=>⟨q,rfl⟩,[],by simp⟩
theorem Sm.done(h:Inv M G){i:Nat}(hi:i<9)(h2:(AY G i).state=2):Sm G (Gm G i):=by
 obtain⟨d,n,s,rb,hd⟩:=h.Tf hi h2;rw[hd.eq h2];refine Sm.trans ?_ (Sm.tell _ _);unfold Gn;exact⟨rfl,rfl,rfl,OX.done hd.sv hd.alive _,R8.refl _⟩
theorem Sm.Br:∀(js:List Jb) {G:Wd} (_:Inv M G) (_:∃a,G.jobs=a++js),Sm G (Br G js).2
 |[],G,_,_=>by
  unfold R.Br;exact⟨rfl,rfl,rfl,OX.refl _,R8.refl _⟩
 |j :: js,G,h,⟨a,ha⟩=>by
  unfold R.Br;split
  ·rename_i hw;unfold FC at hw;have aa:j∈G.jobs:=by rw[ha];simp
   have hb:=h.ws.jb j aa;refine Sm.trans (b:={G with jobs:=js}) ⟨rfl,rfl,rfl,OX.refl _,R8.refl _⟩ ?_;have hI:Inv M {G with jobs:=js}:=h.Ni (by
    have:=h.ws.jl;rw[ha]at this;simp at this;omega) (fun q hq=>⟨h.ws.jb q (by rw[ha];simp[hq]),h.jb q (by rw[ha];simp[hq])⟩)
   exact Sm.done hI (by omega) hw.1
  ·exact Sm.Br js h ⟨a++[j],by rw[ha];simp⟩
theorem Sm.serve(h:Inv M G):Sm G (BV G).2:=Sm.Br G.jobs h ⟨[],rfl⟩
def Long(G:Wd):Prop:=∀f∈G.Ak,13<=f.s.length
def Lo(G G':Wd):Prop:=Long G->Long G'
theorem Lo.same{G':Wd}(h:G'.Ak=G.Ak):Lo G G':=fun k f hf=>k f (by rw[<-h];exact hf)
theorem Lo.refl(G:Wd):Lo G G:=fun k=>k
theorem Lo.trans{a:Wd}(h:Lo a b)(k:Lo b c):Lo a c:=fun x=>k (h x)
theorem Lo.E3{f:List Fl}(h:∀x∈f,x∈G.Ak\/13<=x.s.length):Lo G {G with Ak:=f}:=fun k x hx=>(h x hx).elim (k x) id
theorem Lo.send(G:Wd)(to:Int)(p:Pk):Lo G (Bg G to p):=by
 unfold Bg;split
 ·refine Lo.E3 fun x hx=>?_
  rcases List.mem_append.mp hx with q|q
  ·exact Or.inl q
  ·rw[List.mem_singleton]at q;subst q;refine Or.inr ?_;show 13<=(Bm p).length;rw[E5];omega
 ·exact Lo.refl G
theorem Lo.line:Lo G (Am G i k l'):=Lo.same rfl
theorem Lo.seen(G:Wd)(i:Nat)(r:Sn):Lo G (AB G i r):=Lo.same rfl
theorem Lo.piece(G:Wd)(i k:Int)(b:Bool):Lo G (AA G i k b):=Lo.send _ _ _
theorem Lo.Ro(G:Wd)(i k:Int):Lo G (Fw G i k):=Lo.send _ _ _
theorem Lo.AU(G:Wd)(i k:Int):Lo G (AU G i k):=by
 unfold R.AU;simp only;split
 ·exact Lo.refl G
 ·split
  ·exact Lo.line
  ·split
   ·exact Lo.line
   ·split
    ·exact(Lo.line (G:=G) (i:=i) (k:=k) (l':={BH G i k with wait:=G.c.Ay,tries:=(BH G i k).tries-1})).trans (Lo.piece _ _ _ _)
    ·exact(Lo.line (G:=G) (i:=i) (k:=k) (l':={BH G i k with wait:=G.c.Ay,tries:=(BH G i k).tries-1})).trans (Lo.Ro _ _ _)
theorem Lo.fold{α:Type}(f:Wd->α->Wd)(hf:∀G a,Lo G (f G a)):∀(l:List α) (G:Wd),Lo G (l.foldl f G)
 |[],G=>Lo.refl G
 |a :: l,G=>(hf G a).trans (Lo.fold f hf l (f G a))
theorem Lo.DR(G:Wd)(i:Nat):Lo G (AL G i):=Lo.send _ _ _
theorem Lo.AJ(G:Wd)(i:Nat):Lo G (AJ G i):=by
 unfold R.AJ;simp only;split
 ·exact Lo.refl G
 ·split
  ·exact Lo.seen _ _ _
  ·split
   ·exact Lo.seen _ _ _
   ·exact(Lo.seen G i _).trans (Lo.DR _ _)
theorem Lo.tick(G:Wd):Lo G (IB G):=by
 unfold IB EG;refine Lo.trans (Lo.fold _ (fun G a=>?_) _ _) (Lo.fold _ (fun G a=>Lo.AJ G a) _ _);exact Lo.fold _ (fun G b=>Lo.AU G _ _) _ _
theorem Lo.rest(G:Wd)(i k:Int):Lo G (ET G i k):=Lo.line
theorem Lo.got(G:Wd)(i:Int)(p:Pk):Lo G (I1 G i p):=Lo.send _ _ _
theorem Lo.result(G:Wd)(i:Int)(p:Pk):Lo G (Dy G i p):=by
 unfold Dy;simp only;split
 ·exact Lo.refl G
 ·split
  ·split
   ·exact Lo.line
   ·exact((Lo.line (G:=G) (i:=i) (k:=p.line) (l':={BH G i p.line with came:=(BH G i p.line).came++p.body,pieces:=(BH G i p.line).pieces+1,Ao:=Ag (BH G i p.line).message})).trans (Lo.got _ _ _)).trans (Lo.rest _ _ _)
  ·exact Lo.got _ _ _
theorem Lo.heard(G:Wd)(i:Int)(p:Pk):Lo G (Ee G i p):=by
 unfold Ee;simp only;split
 ·exact Lo.refl G
 ·split
  ·split
   ·refine Lo.trans (Lo.line (G:=G) (i:=i) (k:=p.line) (l':={BH G i p.line with Ao:=(BH G i p.line).Ao+1})) ?_;split
    ·exact(Lo.piece _ _ _ _).trans (Lo.rest _ _ _)
    ·exact Lo.rest _ _ _
   ·exact Lo.refl G
  ·split
   ·exact Lo.rest _ _ _
   ·split
    ·exact Lo.result _ _ _
    ·split
     ·exact Lo.line
     ·exact Lo.refl G
theorem Lo.Dx(G:Wd)(p:Pk)(a b c:Int):Lo G (C3 G p a b c):=Lo.send _ _ _
theorem Lo.tell(G:Wd)(i:Nat):Lo G (Em G i):=by
 unfold Em;exact(Lo.DR G i).trans (Lo.seen _ _ _)
theorem Lo.Si(G:Wd)(p:Pk):Lo G (IX G p):=by
 unfold IX;split
 ·exact Lo.Dx _ _ _ _ _
 ·exact Lo.refl G
theorem Lo.gather(G:Wd)(i:Nat)(p:Pk):Lo G (CL G i p):=by
 unfold CL;simp only;split
 ·split
  ·split
   ·exact Lo.refl G
   ·refine Lo.trans ?_ (Lo.Si _ _);exact Lo.same rfl
  ·exact(Lo.seen G i _).trans (Lo.Si _ _)
 ·exact Lo.Si _ _
theorem Lo.known(G:Wd)(i:Nat)(p:Pk):Lo G (Dq G i p):=by
 unfold Dq;simp only;split
 ·split
  ·exact Lo.gather _ _ _
  ·exact Lo.refl G
 ·split
  ·exact Lo.Dx _ _ _ _ _
  ·split
   ·exact Lo.refl G
   ·split
    ·exact Lo.tell _ _
    ·split
     ·exact Lo.Dx _ _ _ _ _
     ·exact Lo.Dx _ _ _ _ _
theorem Lo.Aj(G:Wd)(p:Pk):Lo G (Dr G p):=by
 unfold Dr;split
 ·exact Lo.same rfl
 ·exact Lo.refl G
theorem Lo.ask(G:Wd)(i:Nat)(p:Pk):Lo G (JI G i p):=by
 unfold JI;simp only;split
 ·split
  ·exact(Lo.seen G i _).trans (Lo.tell _ _)
  ·exact Lo.refl G
 ·split
  ·exact Lo.known _ _ _
  ·split
   ·exact Lo.refl G
   ·split
    ·exact Lo.Dx _ _ _ _ _
    ·split
     ·exact Lo.refl G
     ·split
      ·exact Lo.Dx _ _ _ _ _
      ·exact(Lo.seen G i _).trans (Lo.known _ _ _)
theorem Lo.asked(G:Wd)(p:Pk):Lo G (Er G p):=by
 unfold Er;split
 ·exact Lo.refl G
 ·exact(Lo.Aj G p).trans (Lo.ask _ _ _)
theorem Lo.Cr(G:Wd)(i:Int):Lo G (Bc G i).2:=by
 unfold Bc;split
 ·exact Lo.refl G
 ·split
  ·exact Lo.refl G
  ·simp only;refine Lo.trans (Lo.E3 (G:=G) (f:=G.Ak.eraseIdx i.toNat) fun f hf=>Or.inl (List.mem_of_mem_eraseIdx hf)) ?_;split
   ·exact Lo.refl _
   ·split
    ·exact Lo.refl _
    ·split
     ·exact Lo.asked _ _
     ·exact Lo.heard _ _ _
theorem Lo.drop(G:Wd)(i:Int):Lo G (Ej G i).2:=by
 unfold Ej;split
 ·exact Lo.refl G
 ·exact Lo.E3 fun f hf=>Or.inl (List.mem_of_mem_eraseIdx hf)
theorem Lo.copy(G:Wd)(i:Int):Lo G (DG G i).2:=by
 unfold DG;split
 ·exact Lo.refl G
 ·split
  ·exact Lo.refl G
  ·split
   ·exact Lo.refl G
   ·rename_i f hf;refine Lo.E3 fun x hx=>?_
    rcases List.mem_append.mp hx with q|q
    ·exact Or.inl q
    ·rw[List.mem_singleton]at q;subst q;exact Or.inl (List.mem_of_getElem? hf)
theorem Lo.Ji(G:Wd)(i a b:Int):Lo G (Dt G i a b).2:=by
 unfold Dt;split
 ·exact Lo.refl G
 ·split
  ·exact Lo.refl G
  ·split
   ·exact Lo.refl G
   ·split
    ·exact Lo.refl G
    ·rename_i f hf _ _;intro k x hx;rcases List.mem_or_eq_of_mem_set hx with q|q
     ·exact k x q
     ·subst q;simpa using k f (List.mem_of_getElem? hf)
theorem Lo.done(G:Wd)(i:Nat):Lo G (Gm G i):=by
 unfold Gm;simp only;refine Lo.trans ?_ (Lo.tell _ _);exact Lo.same rfl
theorem Lo.Br:∀(js:List Jb) (G:Wd),Lo G (Br G js).2
 |[],G=>by
  unfold R.Br;exact Lo.same rfl
 |j :: js,G=>by
  unfold R.Br;split
  ·exact Lo.trans (Lo.same (G':={G with jobs:=js}) rfl) (Lo.done _ _)
  ·exact Lo.Br js G
theorem Lo.serve(G:Wd):Lo G (BV G).2:=Lo.Br G.jobs G
theorem Lo.Gk(G:Wd)(i:Int):Lo G (Bb G i).2:=by
 unfold Bb;split
 ·exact Lo.same rfl
 ·split
  ·exact Lo.refl G
  ·split
   ·exact Lo.refl G
   ·exact Lo.same rfl
end Go.Proofs.YtblomippkddgiabGreatDoor.R
namespace Go.Proofs.YtblomippkddgiabGreatDoor
open Go.RowKit
variable {l:List UInt8}{b:Nat}{w w':World}
theorem Ac{p:Prop}(h:p):Hid p:=h
theorem Aa{p:Prop}(h:Hid p):p:=h
abbrev str(l:List UInt8):ByteArray:=⟨l.toArray⟩
theorem Ax(l:List UInt8):(str l).size=l.length:=by simp[ByteArray.size]
theorem wrap_u16(n:Int):IntKind.u16.wrap n=n % 65536:=by
 simp[IntKind.wrap,IntKind.bits,IntKind.signed]
theorem IJ(a:BitVec 16):BitVec.ofInt 16 (a.toNat:Int)=a:=by simp
theorem Sl(a b:BitVec 16):bits .and .u16 (a.toNat:Int) (b.toNat:Int)=((a &&& b).toNat:Int):=by
 show IntKind.u16.wrap ((BitVec.ofInt 16 (a.toNat:Int) &&& BitVec.ofInt 16 (b.toNat:Int)).toNat:Int)=_;rw[IJ,IJ,wrap_u16];have:=(a &&& b).isLt;omega
theorem Mj(a b:BitVec 16):bits .xor .u16 (a.toNat:Int) (b.toNat:Int)=((a ^^^ b).toNat:Int):=by
 show IntKind.u16.wrap ((BitVec.ofInt 16 (a.toNat:Int) ^^^ BitVec.ofInt 16 (b.toNat:Int)).toNat:Int)=_;rw[IJ,IJ,wrap_u16];have:=(a ^^^ b).isLt;omega
theorem aea(a:BitVec 16):IntKind.u16.wrap ((a.toNat:Int)*2)=((a <<< 1).toNat:Int):=by
 rw[wrap_u16,BitVec.toNat_shiftLeft,Nat.shiftLeft_eq];omega
theorem msb_and(a:BitVec 16):(((a &&& 0x8000#16).toNat:Int)==0)=!a.msb:=by
 have h1:(a &&& 0x8000#16)=if a.msb then 0x8000#16 else 0#16:=by
  apply BitVec.eq_of_getLsbD_eq;intro i hi;have hc:∀i,i<16->(0x8000#16).getLsbD i=(i==15):=by decide
  rw[BitVec.getLsbD_and,hc i hi];by_cases aa:i=15
  ·subst aa;have:a.msb=a.getLsbD 15:=BitVec.msb_eq_getLsbD_last a;rw[this];cases a.getLsbD 15<;>decide
  ·have e:(i==15)=false:=by simpa using aa
   rw[e,Bool.and_false];split
   ·rw[hc i hi,e]
   ·simp
 rw[h1];cases a.msb<;>rfl
theorem TJ(x y z r:Int)(w:World)(h1:bits .and .u16 x 32768=y)(h2:(y==0)=false)(h3:IntKind.u16.wrap (x*2)=z)(h4:bits .xor .u16 z 32773=r):
  Calls Tryz.prog 247 #[.int .u16 x] w fun e w'=>e=.returned (.int .u16 r)/\w'=w:=by
 go_enter Tryz.func247,Tryz.ntmps247;go_wp2
 go_ret
 exact⟨rfl,rfl⟩
theorem QY(x y z:Int)(w:World)(h1:bits .and .u16 x 32768=y)(h2:(y==0)=true)(h3:IntKind.u16.wrap (x*2)=z):
  Calls Tryz.prog 247 #[.int .u16 x] w fun e w'=>e=.returned (.int .u16 z)/\w'=w:=by
 go_enter Tryz.func247,Tryz.ntmps247;go_wp2
 go_ret
 exact⟨rfl,rfl⟩
theorem M7(a:BitVec 16)(w:World):Calls Tryz.prog 247 #[.int .u16 (a.toNat:Int)] w fun e w'=>e=.returned (.int .u16 ((mv a).toNat:Int))/\w'=w:=by
 have h1:bits .and .u16 (a.toNat:Int) 32768=((a &&& 0x8000#16).toNat:Int):=Sl a 0x8000#16;have h2:bits .xor .u16 ((a <<< 1).toNat:Int) 32773=(((a <<< 1) ^^^ abh).toNat:Int):=Mj (a <<< 1) 0x8005#16;have h3:=msb_and a;have h4:=aea a;cases hm:a.msb with
 |true=>
  rw[hm]at h3;have e:mv a=(a <<< 1) ^^^ abh:=by simp[mv,hm]
  rw[e];exact TJ _ _ _ _ w h1 h3 h4 h2
 |false=>
  rw[hm]at h3;have e:mv a=(a <<< 1):=by simp[mv,hm]
  rw[e];exact QY _ _ _ w h1 h3 h4
theorem aad(a:BitVec 16)(c:Nat)(h:c<256):bits .xor .u16 (a.toNat:Int) ((c:Int)*256)=((a ^^^ BitVec.ofNat 16 (c*256)).toNat:Int):=by
 have e:((c:Int)*256)=((BitVec.ofNat 16 (c*256)).toNat:Int):=by
  rw[BitVec.toNat_ofNat];omega
 rw[e];exact Mj a _
theorem Ug(S:ByteArray)(g:Nat->Int)(F:Nat->Nat->Int)(w:World)(hs:S.size<=1000000)(g0:g 0=0)
  (aa:∀j (h:j<S.size),bits .xor .u16 (g j) ((S[j].toNat:Int)*256)=F j 0) (ab:∀j,j<S.size->F j 8=g (j+1))
  (HM:Hid (∀j k (w:World),Calls Tryz.prog 247 #[.int .u16 (F j k)] w fun e w'=>e=.returned (.int .u16 (F j (k+1)))/\w'=w)) (hg:0<=g S.size/\g S.size<65536):
  Calls Tryz.prog 212 #[.string S] w fun e w'=>e=.returned (.int .i64 (g S.size))/\w'=w:=by
 have ad:=Ac aa;have ae:=Ac ab;have HG:=Ac hg;clear aa ab hg;go_enter Tryz.func212,Tryz.ntmps212;go_wp2;go_loopw [3,7] (fun wv iv wr=>∃i:Nat,i<=S.size/\iv=.int .i64 i/\wv=.int .u16 (g i)/\wr=w) (fun _ iv _=>S.size-(intOf iv).toNat)
 case atStart=>exact⟨0,Nat.zero_le _,rfl,by rw[g0],rfl⟩
 case round=>
  obtain⟨i,hi,rfl,rfl,rfl⟩:=hrel;by_cases ac:i<S.size
  ·have h0:=(Aa ad) i ac;have hc:=S[i].toNat_lt;have h8:=Ac ((Aa ae) i ac);go_wp2;go_loopw [3,17] (fun wv kv ah=>∃k:Nat,k<=8/\kv=.int .i64 k/\wv=.int .u16 (F i k)/\ah=wr) (fun _ kv _=>8-(intOf kv).toNat)
   case atStart=>exact⟨0,Nat.zero_le _,rfl,rfl,rfl⟩
   case round=>
    obtain⟨k,hk,rfl,rfl,rfl⟩:=hrel;by_cases ai:k<8
    ·have aj:(k:Int)<8:=by omega
     go_wp2_with (go_at_call 247;refine((Aa HM) _ _ _).mono ?_;rintro e w2 ⟨rfl,rfl⟩)
     go_roundw
     case rel=>exact⟨k+1,by omega,by go_num,rfl,trivial⟩
     case measure=>simp[intOf];omega
    ·have ag:k=8:=by omega
     subst ag;rw[Aa h8];go_wp2;go_roundw
     case rel=>exact⟨i+1,by omega,by go_num,rfl,trivial⟩
     case measure=>simp[intOf];omega
  ·have af:i=S.size:=by omega
   subst af;obtain⟨n1,n2⟩:=Aa HG;go_wp2
   go_ret
   exact⟨rfl,rfl⟩
def Xp(l:List UInt8)(j:Nat):Int:=((crc (l.take j)).toNat:Int)
def Xn(l:List UInt8)(j k:Nat):Int:=match l[j]? with
 |some b=>((mvs k (crc (l.take j) ^^^ high b)).toNat:Int)
 |none=>((mvs k 0).toNat:Int)
theorem Xo(l:List UInt8)(j k:Nat)(w:World):Calls Tryz.prog 247 #[.int .u16 (Xn l j k)] w fun e w'=>e=.returned (.int .u16 (Xn l j (k+1)))/\w'=w:=by
 unfold Xn;split
 ·rw[QZ];exact M7 _ w
 ·rw[QZ];exact M7 _ w
theorem PZ(l:List UInt8)(j:Nat)(h:j<(str l).size):l[j]?=some ((str l)[j]):=by
 have hl:j<l.length:=by rw[Ax]at h;exact h
 rw[List.getElem?_eq_getElem hl];rfl
theorem Lu(l:List UInt8)(w:World)(hl:l.length<=1000000):Calls Tryz.prog 212 #[.string (str l)] w fun e w'=>e=.returned (.int .i64 ((crc l).toNat:Int))/\w'=w:=by
 have h:=Ug (str l) (Xp l) (Xn l) w (by rw[Ax];exact hl) rfl ?_ ?_ (Ac (Xo l)) ?_
 ·have e:Xp l (str l).size=((crc l).toNat:Int):=by
   unfold Xp;rw[Ax,List.take_length]
  rw[e]at h;exact h
 ·intro j hj;have hg:=PZ l j hj;unfold Xp Xn;rw[hg,aad _ _ (UInt8.toNat_lt _)];rfl
 ·intro j hj;have hg:=PZ l j hj;unfold Xn Xp;rw[hg,List.take_add_one,hg,Option.toList_some];show _=(((l.take j++[(str l)[j]]).foldl O3 0).toNat:Int);rw[List.foldl_append];rfl
 ·unfold Xp;have:=(crc (l.take (str l).size)).isLt;omega
abbrev Bq(n q:Nat):Value:=.agg #[.int .i64 n,.int .i64 q]
abbrev Az(n q:Nat):Ending:=.panicked [{v:=.iface 161 (Bq n q),recovered:=false}]
theorem lt_of_block{k:Nat}{o:Obj}(h:w.heap[k]?=some o):k<w.heap.size:=by
 rcases Nat.lt_or_ge k w.heap.size with hh|hh
 ·exact hh
 ·rw[Array.getElem?_eq_none hh]at h;cases h
theorem CP(l:List UInt8)(a b:Nat):(str l).extract a b=str ((l.drop a).take (b-a)):=by
 apply ByteArray.ext;simp[ByteArray.data_extract,List.extract_eq_take_drop]
def DT(l:List UInt8):List Value:=l.map fun c=>Value.int .u8 (c.toNat:Int)
theorem info5:(Tryz.prog.info? 5).map (fun i=>(i.zero,i.size,i.bytes))=some (some (.int .u8 0),1,1):=by kernel_rfl
theorem Jw(w:World)(l:List UInt8)(M:Array Value)(hM:M.size=l.length):
  (Builtin.copy_ #[281,9] 3 #[.slice (some ⟨w.heap.size,0,none⟩) l.length l.length,.string (str l)]).run Tryz.prog (w.alloc (.cells M 5))=.ok (goInt l.length) ((w.alloc (.cells M 5)).setRow w.heap.size (DT l).toArray):=by
 have h:=Lib.run_copy_row_string (P:=Tryz.prog) (w.alloc (.cells M 5)) 281 9 3 5 w.heap.size 0 l.length l.length (str l) M 5 Tryz.underlying281 (by kernel_rfl) (heap_alloc_new w _) (by rw[Ax];exact Nat.le_refl _) (by rw[Ax];omega);rw[Ax]at h;have e:M.toList.drop (0+l.length)=[]:=List.drop_of_length_le (by rw[Array.length_toList];omega);have e2:M.toList.take 0++Lib.byteCells (str l).data.toList++M.toList.drop (0+l.length)=DT l:=by
  rw[e,List.take_zero,List.nil_append,List.append_nil];rfl
 rw[e2]at h;exact h
theorem Jh(w:World)(M:Array Value)(Y:Array Value)(n:Nat):Below w.heap.size w (((w.alloc (.cells M 5)).setRow w.heap.size Y).freeze ⟨w.heap.size,0,none⟩ n):=by
 refine Lib.below_freeze (p:=⟨w.heap.size,0,none⟩) ?_ (Nat.le_refl _) _;exact((Below.refl w.heap.size w).alloc (Nat.le_refl _) _).trans ⟨rfl,rfl,rfl,by simp[World.setRow],fun k hk=>setRow_other _ _ _ _ (by omega)⟩
theorem Jx(w:World)(l:List UInt8)(M:Array Value)(h0:l≠[])(hl:l.length<=1000):
  (Builtin.unsafeString_ #[330,3] 9 #[.pointer (some ⟨w.heap.size,0,none⟩),.int .i64 l.length]).run Tryz.prog ((w.alloc (.cells M 5)).setRow w.heap.size (DT l).toArray)=.ok (.string (str l)) (((w.alloc (.cells M 5)).setRow w.heap.size (DT l).toArray).freeze ⟨w.heap.size,0,none⟩ l.length):=by
 have hg:=setRow_heap (w.alloc (.cells M 5)) w.heap.size M (DT l).toArray 5 (0,0) (heap_alloc_new w _);have aa:(DT l).toArray.size=l.length:=by simp[DT]
 refine Lib.run_unsafeString_row (P:=Tryz.prog) _ 330 3 9 5 Tryz.underlying330 (by kernel_rfl) w.heap.size l.length ?_ l h0 (Nat.le_refl _) (by omega) fun j x hx=>?_
 ·unfold World.shape?;rw[hg];simp[DT]
 ·refine Lib.cells_of_row hg l.length j _ ?_;rw[List.toList_toArray,List.take_of_length_le (by simp[DT])];unfold DT;rw[List.getElem?_map,hx];rfl
theorem Ks(l:List UInt8)(w:World)(hl:l.length<=1000):Calls Tryz.prog 200 #[.string (str l)] w fun e w'=>e=.returned (.string (str l))/\Below w.heap.size w w':=by
 have ac:=Ax l;by_cases h0:l=[]
 ·subst h0;go_enter Tryz.func200,Tryz.ntmps200;go_wp2
  go_ret
  exact⟨rfl,Below.refl _ _⟩
 ·obtain⟨i0,hi,ad,ae,af⟩:=info_parts info5;have ab:0<l.length:=List.length_pos_iff.2 h0;obtain⟨M,hM⟩:∃M,M=madeCells (Value.int .u8 0).cells (l.length*1):=⟨_,rfl⟩;have aa:M.size=l.length:=by rw[hM,size_madeCells];omega
  have ah:∀W:World,(Instr.makeSlice 281 (.int .i64 (l.length:Int)) (.int .i64 (l.length:Int))).run Tryz.prog W=.ok (.slice (some ⟨W.heap.size,0,none⟩) l.length l.length) (W.alloc (.cells M 5)):=fun W=>by
   have h:=run_make (P:=Tryz.prog) W 281 5 i0 (.int .u8 0) Tryz.underlying281 hi ad .i64 .i64 (l.length:Int) (l.length:Int) (by omega) (Int.le_refl _) (by rw[af];omega) (by omega);rw[ae,Int.toNat_natCast,<-hM]at h;exact h
  have ag:=Jw w l M aa;have aj:=Jx w l M h0 hl;have HB:=Ac (Jh w M (DT l).toArray l.length);have ai:((l.length:Int)==0)=false:=by simp;omega
  generalize hY:(DT l).toArray=Y at *;generalize hS:str l=S at *;clear hM hY h0 hS;generalize l.length=n at *;subst ac;go_enter Tryz.func200,Tryz.ntmps200;go_wp2
  go_ret
  exact⟨rfl,Aa HB⟩
theorem Ei(l:List UInt8)(w:World)(hl:l.length<=1000):Calls Tryz.prog 146 #[.string (str l)] w fun e w'=>e=.returned (.string (str l))/\Below w.heap.size w w':=by
 have H:=Ac (Ks l w hl);generalize hS:str l=S at *;clear hS;go_enter Tryz.func146,Tryz.ntmps146;go_wp2_with fail
 refine(Aa H).mono ?_;rintro e w1 ⟨rfl,hb⟩;go_wp2
 go_ret
 exact⟨rfl,hb⟩
def Rd(w:World)(b:Nat)(l:List UInt8):Prop:=w.heap[b]?=some (.cells #[.string (str l),.int .i64 7] 249 (0,0))
theorem Rd.left(h:Rd w b l):w.cell? ⟨b,0,none⟩=some (.string (str l)):=by
 unfold Rd at h;simp[World.cell?,h]
theorem Rd.wrong(h:Rd w b l):w.cell? ⟨b,1,none⟩=some (.int .i64 7):=by
 unfold Rd at h;simp[World.cell?,h]
theorem Rd.thaw(h:Rd w b l)(o:Nat):w.frozen? ⟨b,o,none⟩=false:=by
 unfold Rd at h;simp[World.frozen?,h]
theorem Rd.lt(h:Rd w b l):b<w.heap.size:=lt_of_block h
theorem Rd.set(h:Rd w b l)(l':List UInt8):Rd (w.setCell ⟨b,0,none⟩ (.string (str l'))) b l':=by
 unfold Rd at h ⊢;simp only[World.setCell,Array.getElem?_modify,h];simp
theorem Rd.below{B:Nat}(h:Rd w b l)(hb:Below B w w')(hB:b<B):Rd w' b l:=by
 unfold Rd at h ⊢;rw[hb.block b hB];exact h
theorem Cp(b:Nat)(l:List UInt8)(w:World)(h:Rd w b l):Calls Tryz.prog 213 #[.pointer (some ⟨b,0,none⟩)] w fun e w'=>e=Az 7 0/\w'=w:=by
 have h1:=h.wrong;clear h;go_enter Tryz.func213,Tryz.ntmps213;go_wp2;exact⟨rfl,rfl,rfl⟩
theorem FV(b:Nat)(l:List UInt8)(n:Nat)(w:World)(h:Rd w b l)(hn:n<=l.length)(hl:l.length<=9223372036854775807):
  Calls Tryz.prog 246 #[.pointer (some ⟨b,0,none⟩),.int .i64 n] w fun e w'=>e=.returned (.string (str (l.take n)))/\w'=w.setCell ⟨b,0,none⟩ (.string (str (l.drop n))):=by
 have h1:=h.left;have h2:=h.thaw 0;have aa:=Ax l;have e1:(str l).extract 0 n=str (l.take n):=by rw[CP];simp
 have e2:(str l).extract n (str l).size=str (l.drop n):=by
  rw[CP,Ax,List.take_of_length_le (by rw[List.length_drop];omega)]
 generalize hS:str l=S at *;generalize hA:str (l.take n)=A at *;generalize hB:str (l.drop n)=B at *;clear hS hA hB h;generalize l.length=m at *;subst aa;have ab:¬((S.size:Int)<(n:Int)):=by omega
 go_enter Tryz.func246,Tryz.ntmps246;go_wp2
 go_ret
 exact⟨rfl,rfl⟩
theorem Ki(b:Nat)(l:List UInt8)(n:Nat)(w:World)(h:Rd w b l)(hn:¬n<=l.length):
  Calls Tryz.prog 246 #[.pointer (some ⟨b,0,none⟩),.int .i64 n] w fun e w'=>e=Az 7 0/\w'=w:=by
 have h1:=h.left;have aa:=Ax l;have HN:=Ac (Cp b l w h);generalize hS:str l=S at *;clear hS h;have ab:((S.size:Int)<(n:Int)):=by omega
 clear hn aa;go_enter Tryz.func246,Tryz.ntmps246;go_wp2_with fail
 refine(Aa HN).mono ?_;rintro e w1 ⟨rfl,rfl⟩;go_wp2;exact⟨rfl,rfl,rfl⟩
structure D8(b:Nat)(w w':World):Prop where
 below:Below b w w'
 size:w.heap.size<=w'.heap.size
 block:∀k,k<w.heap.size->k≠b->w'.heap[k]?=w.heap[k]?
theorem D8.refl(b:Nat)(w:World):D8 b w w:=⟨Below.refl _ _,Nat.le_refl _,fun _ _ _=>rfl⟩
theorem D8.trans{u v:World}(h:D8 b u v)(k:D8 b v w):D8 b u w:=⟨h.below.trans k.below,Nat.le_trans h.size k.size,fun i hi hb=>(k.block i (Nat.lt_of_lt_of_le hi h.size) hb).trans (h.block i hi hb)⟩
theorem D8.set(b o:Nat)(w:World)(x:Value):D8 b w (w.setCell ⟨b,o,none⟩ x):=⟨(Below.refl _ _).setCell (by simp) _,by simp,fun _ _ hk=>Below.heap_setCell _ _ _ _ (by simpa using hk)⟩
theorem D8.of_below(h:Below w.heap.size w w')(hb:b<=w.heap.size):D8 b w w':=⟨h.mono hb,h.size,fun k hk _=>h.block k hk⟩
def adj(b:Nat)(l:List UInt8)(w:World)(e:Ending)(w':World):Prop:=D8 b w w'/\((l=[]/\e=Az 7 0)\/∃c r,l=c :: r/\e=.returned (.int .i64 (c.toNat:Int))/\Rd w' b r)
theorem H9(b:Nat)(l:List UInt8)(w:World)(h:Rd w b l)(hl:l.length<=9223372036854775807):Calls Tryz.prog 206 #[.pointer (some ⟨b,0,none⟩)] w (adj b l w):=by
 cases l with
 |nil=>
  have H:=Ac (Ki b [] 1 w h (by simp));clear h;go_enter Tryz.func206,Tryz.ntmps206;go_wp2_with fail
  refine(Aa H).mono ?_;rintro e w1 ⟨rfl,rfl⟩;go_wp2;exact⟨rfl,D8.refl _ _,Or.inl ⟨rfl,rfl⟩⟩
 |cons c r=>
  have H:=Ac (FV b (c :: r) 1 w h (by simp) hl);have HS:=Ac (h.set r);rw[show (c :: r).take 1=[c] from rfl,show (c :: r).drop 1=r from rfl]at H;have i0:(str [c])[0]'(by rw[Ax];simp)=c:=rfl;have hc:=c.toNat_lt;have hw:wrap64 (c.toNat:Int)=(c.toNat:Int):=by unfold wrap64;omega
  clear h;go_enter Tryz.func206,Tryz.ntmps206;go_wp2_with fail
  refine(Aa H).mono ?_;rintro e w1 ⟨rfl,rfl⟩;go_wp2
  go_ret
  exact⟨D8.set _ _ _ _,Or.inr ⟨c,r,rfl,rfl,Aa HS⟩⟩
end Go.Proofs.YtblomippkddgiabGreatDoor
