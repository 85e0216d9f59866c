import Derived.Test.YtblomippkddgiaaGreatDoorJ37
set_option maxRecDepth 100000
set_option maxHeartbeats 4000000
namespace Go.Proofs.YtblomippkddgiaaGreatDoor
open Go.Proofs.Tryz
open Go.RowKit
variable {F:D9}{k kd:Int}{B b ci i sn x:Nat}{o:Obj}{p:Pk}{r':R.Sn}{G:R.Wd}{v:RV}{W w:World}
abbrev Je(p:Pk):Array Value:=#[Z p.Dz,Z p.DJ,Z p.DR,Z p.DZ,Z p.D4,Z p.D5,Z p.Ez,Z p.off,.bool p.Fs,.string (str p.Ef)]
theorem XJ{r:R.Sn}(g:World->Prop){tb:Int}{ja:Af}{jn jc:Nat}(hi:i<9)(MU:w.cell? (Y x 11)=some (EJ sn 9 9))(hs:iZ w sn i r)(hz:∀o,w.frozen? (Y sn o)=false)(aN:w.frozen? (Y x 12)=false)(ah:sn≠x)(he:p.Ez=r.DT)(hp:0<=p.Ez/\p.Ez<=255)(ho:p.Ez=p.off-1)(hm:r.DC.length<=1000)(hb:p.Ef.length<=1000)(x4:w.cell? (Y x 4)=some (Z tb))(pV:w.cell? (Y x 12)=some (.slice ja jn jc))(hf:¬tb<=(jn:Int))
  (HJ:Hid (∀W b,Below w.heap.size (w.setCell (Y sn (i*10+4)) (Z 2)) W->(∀(o:Nat) (u:Ad),(IA ⟨p.DJ,p.DZ,p.DR,p.D4,p.D5⟩)[o]?=some u->W.cell? (Y b o)=some u)->∃a n X f,(Builtin.append_ #[227,227] 227 #[.slice ja jn jc,EJ b 1 1]).run prog W=.ok (.slice a n X) f/\(∀k,k=x\/k=sn\/k=w.heap.size->k<W.heap.size->f.heap[k]?=W.heap[k]?)/\∀W',Below f.heap.size (((f.setCell (Y x 12) (.slice a n X)).setCell (Y sn (i*10+2)) (.string (str (r.DC++p.Ef)))).setCell (Y sn (i*10+3)) (Z (p.Ez+1))) W'->(p.Fs=true->D7 256 #[Ey x,pv p,Z 2,Z p.Ez,Z p.off] W' Ep λy=>g y)/\(p.Fs=false->g W'))):
  D7 263 #[Ey x,Z i,pv p] w Ep λy=>g y:=by
 have q0:0<=(i:Int):=U;have q1:(i:Int)<9:=U;obtain⟨s0,s1,s2,s3,s4,s5,s6,s7,s8,s9⟩:=hs;obtain⟨hx,ak⟩:=KM MU s0;have z4:=hz (i*10+4);obtain⟨kd,ci,M,ln,O,ud,pt,off,pl,bd⟩:=p;rw[<-he]at s3;simp only at ho hp hb;have ba:=Td hm hb;have e1:IntKind.i64.wrap (off-1)=pt:=Iz;have e2:IntKind.i64.wrap (pt+1)=pt+1:=Iz;have n1:¬sn=x:=ah;have n2:¬x=sn:=λe=>ah e.symm
 have an:Hid (∀m,E3 w (w.setCell (Y sn (i*10+4)) (Z 2)) (.cells (Je ⟨kd,ci,M,ln,O,ud,pt,off,pl,bd⟩) 41) (((w.alloc (.cells (Je ⟨kd,ci,M,ln,O,ud,pt,off,pl,bd⟩) 41)).drewN m).setCell (Y sn (i*10+4)) (Z 2))):=λm=>jj ak
 have HF:Hid (∀W,E3 w (w.setCell (Y sn (i*10+4)) (Z 2)) (.cells (Je ⟨kd,ci,M,ln,O,ud,pt,off,pl,bd⟩) 41) W->∃a n X f,(Builtin.append_ #[227,227] 227 #[.slice ja jn jc,EJ W.heap.size 1 1]).run prog (W.drew.alloc (.cells #[Z ci,Z ln,Z M,Z O] 266))=.ok (.slice a n X) f/\f.cell? (Y x 12)=some (.slice ja jn jc)/\f.frozen? (Y x 12)=false/\f.cell? (Y sn (i*10+2))=some (.string (str r.DC))/\f.frozen? (Y sn (i*10+2))=false/\f.cell? (Y sn (i*10+3))=some (Z pt)/\f.frozen? (Y sn (i*10+3))=false/\f.heap[w.heap.size]?=some (.cells (Je ⟨kd,ci,M,ln,O,ud,pt,off,pl,bd⟩) 41 (0,0))/\Hid (∀W',Below f.heap.size (((f.setCell (Y x 12) (.slice a n X)).setCell (Y sn (i*10+2)) (.string (str (r.DC++bd)))).setCell (Y sn (i*10+3)) (Z (pt+1))) W'->(pl=true->D7 256 #[Ey x,pv ⟨kd,ci,M,ln,O,ud,pt,off,pl,bd⟩,Z 2,Z pt,Z off] W' Ep λy=>g y)/\(pl=false->g W'))):=λW Q=>by
  have ao:w.heap.size<W.heap.size:=Dv Q.2;have D:Below w.heap.size (w.setCell (Y sn (i*10+4)) (Z 2)) (W.drew.alloc (.cells #[Z ci,Z ln,Z M,Z O] 266)):=Q.1.drew.alloc Fy _;obtain⟨a,n,X,f,h1,h2,h3⟩:=HJ (W.drew.alloc (.cells #[Z ci,Z ln,Z M,Z O] 266)) W.heap.size D (λo u hu=>by
   have:(W.drew.alloc (.cells #[Z ci,Z ln,Z M,Z O] 266)).heap[W.heap.size]?=some (.cells (IA ⟨ci,ln,M,O,ud⟩).toArray 266 (0,0)):=AF W.drew _;exact ED this o u (by rw[CO];exact hu))
  have az:=h2 x (Aj rfl) (Ai hx (Br (by simp[World.setCell]) D.size));have aw:=h2 sn (Am (Aj rfl)) (Ai ak (Br (by simp[World.setCell]) D.size));have av:=h2 w.heap.size (Am (Am rfl)) Fy;have ar:f.heap[x]?=w.heap[x]?:=(az.trans (D.block x hx)).trans (AU _ _ _ _ (λe=>n2 e));have aa:f.heap[sn]?=(w.setCell (Y sn (i*10+4)) (Z 2)).heap[sn]?:=aw.trans (D.block sn ak);refine⟨a,n,X,f,h1,(AR ar).trans pV,(A8 ar).trans aN,?_,?_,?_,?_,?_,Dx h3⟩
  ·exact((AR aa).trans (AP (h:=by simp;try omega) ..)).trans s2
  ·exact(A8 aa).trans (by simpa using hz (i*10+2))
  ·exact((AR aa).trans (AP (h:=by simp;try omega) ..)).trans s3
  ·exact(A8 aa).trans (by simpa using hz (i*10+3))
  ·rw[av];exact(AL _ _ _ ao).trans Q.2
 clear he ho hp hm hb hz HJ ah;go_enter func263,ntmps263;go_wp2_with fail
 go_quiet (fail);go_wp2_with fail
 go_quiet (fail);go_wp2_with fail
 refine EE _ (an _) ?_;intro W Q;obtain⟨a,n,X,f,h1,aV,bp,y2,f2,y3,f3,aq,HE⟩:=HF W Q;have aS:W.cell? (Y x 12)=some (.slice ja jn jc):=(Q.1.cell (p:=Y x 12) hx).trans ((AP (h:=by simp;try omega) ..).trans pV);obtain⟨c1,c2,c3⟩:=TH Q.2 1 2 3;have c4:=EI Q.2 4;obtain⟨b0,b1,b2,b3,b4,b5,b6,b7,b8,b9⟩:=Yy aq;have bz:¬w.heap.size=x:=U;have bt:¬w.heap.size=sn:=U;have bf:¬x=w.heap.size:=U;have be:¬sn=w.heap.size:=U;have ao:w.heap.size<W.heap.size:=Dv Q.2;have br:x<W.heap.size:=U;have HH:=Dx h1;clear Q h1 HF an aq pV x4 MU s0 s1 s2 s3 s4 s5 s6 s7 s8 s9;generalize w.heap.size=bq at *;refine WK.begin (S:=λy=>y.cell? (Y bq 1)=some (Z ci)/\y.cell? (Y bq 2)=some (Z M)/\y.cell? (Y bq 3)=some (Z ln)/\y.cell? (Y bq 4)=some (Z O)) (T:=λy=>y.cell? (Y x 12)=some (.slice ja jn jc)) (k:=18) EL ⟨c1,c2,c3,c4⟩ aS ?_;refine WK.take (i:=0) (v:=?_) rfl EL EL EL rfl (λ_ _ _ h=>h) (Aj ⟨Ky,?_⟩) ?_;rotate_left
 ·exact MN
 try simp only[Act.put,Al,Av,Ax,Az,Aq]
 refine WK.take (i:=1) (v:=?_) rfl EL EL EL rfl (λ_ _ _ h=>h) (Aj ⟨Ky,?_⟩) ?_;rotate_left
 ·exact MN
 try simp only[Act.put,Al,Av,Ax,Az,Aq,Au]
 refine WK.take (i:=2) (v:=?_) rfl EL EL EL rfl (λ_ _ _ h=>h) (Aj ⟨Ky,?_⟩) ?_;rotate_left
 ·exact MN
 try simp only[Act.put,Al,Av,Ax,Az,Aq,Au]
 refine WK.take (i:=3) (v:=?_) rfl EL EL EL rfl (λ_ _ _ h=>h) (Aj ⟨Ky,?_⟩) ?_;rotate_left
 ·exact MN
 try simp only[Act.put,Al,Av,Ax,Az,Aq,Au]
 refine WK.take2 (i:=4) (v:=?_) rfl EL EL EL rfl (.more (j:=15) (.of EL) (.of EL)) (λ_ _ _ h=>h) (Aj ⟨Ky,?_⟩) ?_;rotate_left
 ·exact MN
 try simp only[Act.put,Al,Av,Ax,Az,Aq,Au]
 refine WK.take (i:=5) (v:=?_) rfl EL EL EL rfl (λ_ _ _ h=>h) (Aj ⟨Ky,?_⟩) ?_;rotate_left
 ·exact MN
 try simp only[Act.put,Al,Av,Ax,Az,Aq,Au]
 refine WK.take (i:=6) (v:=?_) rfl EL EL EL rfl (λ_ _ _ h=>h) (Aj ⟨Ky,?_⟩) ?_;rotate_left
 ·exact MN
 try simp only[Act.put,Al,Av,Ax,Az,Aq,Au]
 refine WK.take (i:=7) (v:=?_) rfl EL EL EL rfl (λ_ _ _ h=>h) (Aj ⟨Ky,?_⟩) ?_;rotate_left
 ·exact MN
 try simp only[Act.put,Al,Av,Ax,Az,Aq,Au]
 refine WK.take (i:=8) (v:=?_) rfl EL EL EL rfl (λ_ _ _ h=>h) (Aj ⟨Ky,?_⟩) ?_;rotate_left
 ·exact MN
 try simp only[Act.put,Al,Av,Ax,Az,Aq,Au]
 refine WK.take (i:=9) (v:=?_) rfl EL EL EL rfl (λ_ _ _ h=>h) (Aj ⟨Ky,?_⟩) ?_;rotate_left
 ·exact MN
 try simp only[Act.put,Al,Av,Ax,Az,Aq,Au]
 refine WK.take (i:=10) (v:=?_) rfl EL EL EL rfl (λ_ _ _ h=>h) (Aj ⟨Ky,?_⟩) ?_;rotate_left
 ·exact MN
 try simp only[Act.put,Al,Av,Ax,Az,Aq,Au]
 refine WK.take (i:=11) (v:=?_) rfl EL EL EL rfl (λ_ _ _ h=>h) (Aj ⟨Ky,?_⟩) ?_;rotate_left
 ·exact MN
 try simp only[Act.put,Al,Av,Ax,Az,Aq,Au]
 refine WK.take (i:=12) (v:=?_) rfl EL EL EL rfl (λ_ _ _ h=>h) (Aj ⟨Ky,?_⟩) ?_;rotate_left
 ·exact MN
 try simp only[Act.put,Al,Av,Ax,Az,Aq,Au]
 refine WK.take (i:=13) (v:=?_) rfl EL EL EL rfl (λ_ _ _ h=>h) (Aj ⟨Ky,?_⟩) ?_;rotate_left
 ·exact MN
 try simp only[Act.put,Al,Av,Ax,Az,Aq,Au]
 refine WK.one (i:=14) EL rfl (λK hK=>?_);go_simp;refine hK.out _ _ (by go_keep) (by go_keep) ?_;clear hK K;try simp only[Act.put,Al,Av,Ax,Az,Aq,Au]
 refine WK.one (i:=15) EL rfl (λK hK=>?_);refine Jm rfl (.tmp 44) (.tmp 54) 227 rfl (.slice ja jn jc) (EJ W.heap.size 1 1) (.slice a n X) f rfl rfl HH ?_;refine hK.out _ _ ⟨b1,b2,b3,b4⟩ aV ?_;clear hK K;try simp only[Act.put,Al,Av,Ax,Az,Aq,Au]
 refine WK.take (i:=16) (v:=?_) rfl EL EL EL rfl (λ_ _ _ h=>h) (Aj ⟨Ky,?_⟩) ?_;rotate_left
 ·exact MN
 try simp only[Act.put,Al,Av,Ax,Az,Aq,Au]
 refine WK.take (i:=17) (v:=?_) rfl EL EL EL rfl (λ_ _ _ h=>h) (Aj ⟨Ky,?_⟩) ?_;rotate_left
 ·exact MN
 try simp only[Act.put,Al,Av,Ax,Az,Aq,Au]
 refine WK.store EL rfl (λK hK=>?_);go_simp;refine hK.out _ _ (by go_keep) ?_;clear hK K;try simp only[Act.put,Al,Av,Ax,Az,Aq,Au]
 refine WK.done EL ?_;go_wp2_with fail
 go_region_law (fail)
 all_goals
  cases pl with
  |true=>
   go_wp2_with fail
   refine cm ((HE _ (by first|exact AA _ _|exact(AA _ _).drew|exact(AA _ _).drew.drew)).1 (by trivial)) λw3 hp=>?_
   exact aO
  |false=>
   go_wp2_with fail
   go_returns;exact⟨rfl,(HE _ (by first|exact AA _ _|exact(AA _ _).drew|exact(AA _ _).drew.drew)).2 (by trivial)⟩
theorem Yb.shape{V:Ad}{js:List R.Jb}(h:Yb w F V js):∃a c,V=.slice a js.length c:=by grind [Yb]
theorem RM.qk(h:RM x v F G w)(j:G.Ej.length<=40)(u:p.Fs=true->EC ⟨2,p.DJ,p.DR,p.DZ,p.D4,p.D5,p.Ez,p.off,false,[]⟩){g:D9}{w0:Aa}(D:D8 g F w0 w):
  (p.Fs=true->D7 256 #[Ey x,pv p,Z 2,Z p.Ez,Z p.off] w Ep λy=>∃f e,RM x f e (R.Mi G p) y/\D8 g e w0 y)/\(p.Fs=false->∃f e,RM x f e (R.Mi G p) w/\D8 g e w0 w):=by
 refine⟨λm=>?_,λm=>?_⟩
 ·rw[show R.Mi G p=R.G8 G p 2 p.Ez p.off by unfold R.Mi;rw[Ay m]];refine cm (h.KN j p 2 p.Ez p.off (u m)) ?_;rintro y ⟨f,e,M,O⟩;exact⟨rfl,f,e,M,D.trans O⟩
 grind [R.Mi]
theorem size_set(w:Aa)(a:Addr)(u:Ad):(w.setCell a u).heap.size=w.heap.size:=by simp[World.setCell]
theorem vR{sn:List R.Sn}{r:R.Sn}(m:Ac)(q:Int)(h:w.heap[b]?=some (.cells (tab Rk sn).toArray 264 (0,0)))(e:sn[i]?=some r):((w.setCell (Y b (i*10+2)) (.string (str m))).setCell (Y b (i*10+3)) (Z q)).heap[b]?=some (.cells (tab Rk (sn.set i {r with DC:=m,DT:=q})).toArray 264 (0,0)):=by
 have hi:=GG e;have s1:=Fz (r1:={r with DC:=m}) h e (j:=2) (u:=.string (str m)) U rfl;have s2:=Fz (r:={r with DC:=m}) (r1:={r with DC:=m,DT:=q}) s1 (AO hi) (j:=3) (u:=Z q) U rfl;rw[A5]at s2;exact s2
theorem RM.gather(h:RM x v F G w)(y:G.Ej.length<=40){r:R.Sn}(hr:G.DN[i]?=some r)(hi:i<9)(am:G.EF.length<=100)(hm:r.DC.length<=1000)(p:Pk)(hp:0<=p.Ez/\p.Ez<=255)(ho:0<=p.off/\p.off<=255)(T:p.Ef.length<=1000)(D:p.Fs=true->EC ⟨2,p.DJ,p.DR,p.DZ,p.D4,p.D5,p.Ez,p.off,false,[]⟩):
  D7 263 #[Ey x,Z i,pv p] w Ep λw'=>∃v' F',RM x v' F' (R.Gy G i p) w'/\D8 F F' w w':=by
 have es:R.EZ G i=r:=by unfold R.EZ;rw[hr];rfl
 have al:=GG hr;obtain⟨MU,x4⟩:=VL h.bx 11 4;have hs:=Kg h.DN hr;have an:v.Sn≠x:=λe=>ES h.DN (e ▸ h.bx) Em rfl
 by_cases M:p.Ez=r.DT
 ·by_cases h2:p.Ez=p.off-1
  ·obtain⟨ja,jc,hJ⟩:=h.I4.EF.shape;have pV:EB w x 12 (.slice ja G.EF.length jc):=ED h.bx 12 _ (by rw[<-hJ];rfl);by_cases h3:G.c.FF<=(G.EF.length:Int)
   ·have e:R.Gy G i p=G:=by unfold R.Gy;simp only[es];rw[Ay M,Ay h2,Ay h3]
    rw[e];exact XI _ hi MU hs M h2 ho x4 pV h3 (Dx λW T=>⟨v,F,h.DG T,D8.D6 F T⟩)
   ·have e:R.Gy G i p=R.Mi {R.EA G i {r with DK:=2,DC:=r.DC++p.Ef,DT:=r.DT+1} with EF:=G.EF++[⟨p.DJ,p.DZ,p.DR,p.D4,p.D5⟩]} p:=by unfold R.Gy;simp only[es];rw[Ay M,Ay h2,Ao h3]
    rw[e];refine XJ _ hi MU hs (λo=>Eb h.DN) (Eb h.bx) an M hp h2 hm T x4 pV h3 (Dx λW b hB ak=>?_);obtain⟨g1,g2⟩:=h.JE (EV (Z 2)) (Fz (r1:={r with DK:=2}) h.DN hr (j:=4) (u:=Z 2) U rfl);have aa:Below (w.setCell (Y v.Sn (i*10+4)) (Z 2)).heap.size (w.setCell (Y v.Sn (i*10+4)) (Z 2)) W:=by rw[size_set];exact hB
    have X:=g1.DG aa;obtain⟨a,n,cp,O,c1,c2,c3⟩:=Y8 X.I4.EF am ak;rw[hJ]at c1;have ae:O.heap[x]?=W.heap[x]?:=c2.block x (Dv X.bx) (λq=>by
     obtain⟨_,ys,q⟩:=q;exact ES q X.bx Em rfl)
    refine⟨a,n,cp,O,c1,λk hk ac=>?_,λm f=>?_⟩
    ·rcases hk with rfl|rfl|rfl
     ·exact ae
     ·exact c2.block _ ac (λq=>by
       obtain⟨_,ys,q⟩:=q;exact ES q X.DN Em rfl)
     ·exact c2.block _ ac (λq=>Nat.lt_irrefl _ (h.lt _ q.1))
    ·have Q:=ae.trans X.bx;have kx:DF (λk=>k=x) O (O.setCell (Y x 12) (.slice a n cp)):=EV _;have c4:=c3.keep (F':=λk=>F k\/(W.heap.size<=k/\k<O.heap.size)) kx (λ{b ys} T _ e=>by
      subst e;exact ES T Q Em rfl) (λ_ q=>q)
     obtain⟨m1,m2⟩:=X.jN (w':=O.setCell (Y x 12) (.slice a n cp)) (J:=.slice a n cp) (F2:=λk=>F k\/(W.heap.size<=k/\k<O.heap.size)) (λk q=>q.imp (λq=>q) (λq=>q.1)) (λk q=>Aj q) (λk q=>by
      rw[size_set];rcases q with q|q
      ·exact Ai (X.lt k q) c2.size
      ·exact q.2) ((c2.mono λk _ q=>Am q).andThen kx (λk _ q=>Aj q)) (Ek (cs:=(Iv G.c v).toList) Q _) c4
     obtain⟨o1,o2⟩:=m1.JE ((EV (.string (str (r.DC++p.Ef)))).trans (EV (Z (p.Ez+1)))) (vR (r:={r with DK:=2}) (r.DC++p.Ef) (p.Ez+1) m1.DN (AO al));have o3:=o1.DG (w':=m) (by show Below _ _ _;rw[size_set,size_set,size_set];exact f);have o4:=(((g2.trans (D8.D6 F aa)).trans m2).trans o2).trans (D8.D6 _ (by show Below _ _ _;rw[size_set,size_set,size_set];exact f));rw[M]at o3;have o5:RM x {v with J:=.slice a n cp} (λk=>F k\/(W.heap.size<=k/\k<O.heap.size)) {R.EA G i {r with DK:=2,DC:=r.DC++p.Ef,DT:=r.DT+1} with EF:=G.EF++[⟨p.DJ,p.DZ,p.DR,p.D4,p.D5⟩]} m:=by
      unfold R.EA;simpa [List.set_set] using o3
     exact o5.qk y D o4
  ·have e:R.Gy G i p=R.Mi (R.EA G i {r with DC:=r.DC++p.Ef,DT:=r.DT+1}) p:=by unfold R.Gy;simp only[es];rw[Ay M,Ao h2]
   rw[e];have key:∀m,Below w.heap.size ((w.setCell (Y v.Sn (i*10+2)) (.string (str (r.DC++p.Ef)))).setCell (Y v.Sn (i*10+3)) (Z (p.Ez+1))) m->RM x v F (R.EA G i {r with DC:=r.DC++p.Ef,DT:=r.DT+1}) m/\D8 F F w m:=λm f=>by
    obtain⟨o1,o2⟩:=h.JE ((EV (.string (str (r.DC++p.Ef)))).trans (EV (Z (p.Ez+1)))) (vR (r.DC++p.Ef) (p.Ez+1) h.DN hr);have ab:Below ((w.setCell (Y v.Sn (i*10+2)) (.string (str (r.DC++p.Ef)))).setCell (Y v.Sn (i*10+3)) (Z (p.Ez+1))).heap.size ((w.setCell (Y v.Sn (i*10+2)) (.string (str (r.DC++p.Ef)))).setCell (Y v.Sn (i*10+3)) (Z (p.Ez+1))) m:=by rw[size_set,size_set];exact f
    have o3:=o1.DG ab;rw[M]at o3;exact⟨o3,o2.trans (D8.D6 F ab)⟩
   exact ZS _ hi MU hs (λo=>Eb h.DN) M hp h2 ho hm T (Dx λg m f=>((key m f).1.qk y D (key m f).2).1 g) (Dx λg m f=>((key m f).1.qk y D (key m f).2).2 g)
 ·have e:R.Gy G i p=R.Mi G p:=by unfold R.Gy;simp only[es];rw[Ao M]
  rw[e];exact ZT _ hi MU hs M (Dx λg W f=>((h.DG f).qk y D (D8.D6 F f)).1 g) (Dx λg W f=>((h.DG f).qk y D (D8.D6 F f)).2 g)
inductive Kn (r:R.Sn) (p:Pk):Nat->Int->Int->Int->Prop
 |old:r.DK=1->¬(p.Dz=1/\p.Ez<=r.DT)->Kn r p 0 0 0 0
 |gat:r.DK=1->p.Dz=1->p.Ez<=r.DT->Kn r p 1 0 0 0
 |void:r.DK=4->Kn r p 2 7 0 2
 |mute:r.DK≠1->r.DK≠4->p.Fs=false->Kn r p 0 0 0 0
 |tell:r.DK=3->p.Fs=true->Kn r p 3 0 0 0
 |busy:r.DK≠1->r.DK≠4->r.DK≠3->p.Fs=true->p.Dz=3->Kn r p 2 4 0 1
 |got:r.DK≠1->r.DK≠4->r.DK≠3->p.Fs=true->p.Dz≠3->Kn r p 2 2 p.Ez p.off
theorem ZZ{r:R.Sn}(e:World->Prop)(hi:i<9)(MU:EB w x 11 (EJ sn 9 9))(O:iZ w sn i r){t:Nat}{o:Int}(hk:Kn r p t kd k o)
  (h:Hid (t=0->∀W,DY w W->e W))
  (j:Hid (t=1->∀W,DY w W->D7 263 #[Ey x,Z i,pv p] W Ep λu=>e u))
  (g:Hid (t=2->∀W,DY w W->D7 256 #[Ey x,pv p,Z kd,Z k,Z o] W Ep λu=>e u))
  (m:Hid (t=3->∀W,DY w W->D7 222 #[Ey x,Z i] W Ep λu=>e u)):
  D7 255 #[Ey x,Z i,pv p] w Ep λu=>e u:=by
 have q0:0<=(i:Int):=U;have q1:(i:Int)<9:=U;obtain⟨s0,s1,s2,s3,s4,s5,s6,s7,s8,s9⟩:=O;obtain⟨hx,Q⟩:=KM MU s0;obtain⟨X,ci,lf,ln,sq,ud,pt,off,pl,bd⟩:=p;obtain⟨rq,ru,rm,rp,rs,rr,ra,rt,aa,ri⟩:=r;simp only at s3 s4;clear s0 s1 s2 s5 s6 s7 s8 s9;cases hk with
 |old h1 h2=>
  simp only at h1 h2;subst h1;have G:=h rfl;have HG:=Dx G;clear G h j g m;by_cases f:X=1
  ·have y:¬pt<=rp:=λq=>h2 ⟨f,q⟩
   subst f;exact abG
  ·exact abG
 |gat h1 h2 f=>
  simp only at h1 h2 f;subst h1 h2;have G:=j rfl;have HG:=Dx G;clear G h j g m;go_enter func255,ntmps255;go_wp2_with fail
  go_quiet (fail);go_wp2_with (first|(go_at_call 263;refine cm (HG _ (LG w (Ar _) _ _)) λw3 hp=>?_;have HPP:=Dx hp;clear hp))
  go_returns;exact⟨rfl,HPP⟩
 |void h1=>
  simp only at h1;subst h1;have G:=g rfl;have HG:=Dx G;clear G h j g m;exact adQ
 |mute h1 h2 f=>
  simp only at h1 h2 f;subst f;have D:=h1;have M:=h2;have G:=h rfl;have HG:=Dx G;clear G h j g m h1 h2;go_enter func255,ntmps255;go_wp2_with fail
  go_returns;exact⟨rfl,HG _ F9⟩
 |tell h1 h2=>
  simp only at h1 h2;subst h1 h2;have G:=m rfl;have HG:=Dx G;clear G h j g m;go_enter func255,ntmps255;go_wp2_with (first|(go_at_call 222;refine cm (HG _ F9) λw3 hp=>?_;have HPP:=Dx hp;clear hp))
  go_returns;exact⟨rfl,HPP⟩
 |busy h1 h2 f y h5=>
  simp only at h1 h2 f y h5;subst y h5;have D:=h1;have M:=h2;have T:=f;have G:=g rfl;have HG:=Dx G;clear G h j g m h1 h2 f;exact adQ
 |got h1 h2 f y h5=>
  simp only at h1 h2 f y h5;subst y;have D:=h1;have M:=h2;have T:=f;have k5:=h5;have G:=g rfl;have HG:=Dx G;clear G h j g m h1 h2 f h5;exact adQ
theorem Lf(h:EC p){o:Int}(hk:(1<=kd/\kd<=7)/\kd≠1/\kd≠5)(e:(1<=o/\o<=9)/\0<=k/\k<=o-1):EC ⟨kd,p.DJ,p.DR,p.DZ,p.D4,p.D5,k,o,false,[]⟩:=by grind [EC,Ju]
theorem RM.known(h:RM x v F G w)(g:G.Ej.length<=40)(T:R.MX G.c G.DX G.DN G.EF){r:R.Sn}(m:G.DN[i]?=some r)(aa:G.EF.length<=100)(h0:r.D4≠0)(M:EC p):
  D7 255 #[Ey x,Z i,pv p] w Ep λw'=>∃v' F',RM x v' F' (R.Hl G i p) w'/\D8 F F' w w':=by
 have u:=R.F7 m;have y:=T.sn i r m;have hi:i<9:=by rw[<-T.sl];exact(GG m)
 have hb:=Mm M;have⟨_,_,_,_,_,_,p7,p8,_⟩:=id M;have ac:=(y.some h0).2.2;have f:R.Hl G i p=if r.DK=1 then (if p.Dz=1/\p.Ez<=r.DT then R.Gy G i p else G) else if r.DK=4 then R.G8 G p 7 0 2 else if p.Fs=false then G else if r.DK=3 then R.JF G i else if p.Dz=3 then R.G8 G p 4 0 1 else R.G8 G p 2 p.Ez p.off:=by
  unfold R.Hl;simp only[u]
 have go:∀{t:Nat} {kd k o:Int},Kn r p t kd k o->(t=0->R.Hl G i p=G)->(t=1->R.Hl G i p=R.Gy G i p/\r.DK=1)->(t=2->R.Hl G i p=R.G8 G p kd k o/\EC ⟨kd,p.DJ,p.DR,p.DZ,p.D4,p.D5,k,o,false,[]⟩)->(t=3->R.Hl G i p=R.JF G i/\r.DK=3)->D7 255 #[Ey x,Z i,pv p] w Ep λw'=>∃v' F',RM x v' F' (R.Hl G i p) w'/\D8 F F' w w':=λhk e0 e1 e2 e3=>by
  refine ZZ _ hi (EI h.bx 11) (Kg h.DN m) hk (Dx λD W hW=>?_) (Dx λD W hW=>?_) (Dx λD W hW=>?_) (Dx λD W hW=>?_)
  ·rw[e0 D];exact⟨v,F,h.DG hW,D8.D6 F hW⟩
  ·have⟨e,O⟩:=e1 D;rw[e];have⟨g1,g2,g3⟩:=y.Lu O;refine cm ((h.DG hW).gather g m hi aa U p U U U (λ_=>Lf M U U)) ?_;exact wH
  ·have⟨e,O⟩:=e2 D;rw[e];refine cm ((h.DG hW).KN g p _ _ _ O) ?_;exact wH
  ·have⟨e,O⟩:=e3 D;rw[e];have⟨a1,a2,a3,a4⟩:=y.MY O;refine cm ((h.DG hW).tell g T.ll m hi ⟨a3,a4⟩ a2 (Jg T m O)) ?_;exact wH
 by_cases s1:r.DK=1
 ·by_cases Q:p.Dz=1/\p.Ez<=r.DT
  ·exact go (.gat s1 Q.1 Q.2) U (λ_=>⟨by rw[f,Ay s1,Ay Q],s1⟩) U U
  ·exact go (.old s1 Q) (λ_=>by rw[f,Ay s1,Ao Q]) U U U
 by_cases s4:r.DK=4
 ·exact go (.void s4) U U (λ_=>⟨by rw[f,Ao s1,Ay s4],Lf M U U⟩) U
 cases hpl:p.Fs with
 |false=>exact go (.mute s1 s4 hpl) (λ_=>by rw[f,Ao s1,Ao s4,Ay hpl]) U U U
 |true=>
  have j:¬p.Fs=false:=by rw[hpl];decide
  by_cases s3:r.DK=3
  ·exact go (.tell s3 hpl) U U U (λ_=>⟨by rw[f,Ao s1,Ao s4,Ao j,Ay s3],s3⟩)
  by_cases X:p.Dz=3
  ·exact go (.busy s1 s4 s3 hpl X) U U (λ_=>⟨by rw[f,Ao s1,Ao s4,Ao j,Ao s3,Ay X],Lf M U U⟩) U
  ·exact go (.got s1 s4 s3 hpl X) U U (λ_=>⟨by rw[f,Ao s1,Ao s4,Ao j,Ao s3,Ao X],Lf M U U⟩) U
def O8(sn:List R.Sn)(i:Nat):Nat:=((sn.take i).filter λr=>decide (0<r.D4)).length
theorem nO{sn:List R.Sn}{r:R.Sn}(h:sn[i]?=some r):O8 sn (i+1)=O8 sn i+(if 0<r.D4 then 1 else 0):=by grind [O8,List.take_add_one]
theorem zR(sn:List R.Sn)(i:Nat):O8 sn i<=i:=by grind [O8]
theorem ol{S:List R.Sn}(MU:EB w x 11 (EJ sn 9 9))(hc:∀i,i<9->∃q,EB w sn (i*10) (Z q)/\((0<q/\O8 S (i+1)=O8 S i+1)\/(¬0<q/\O8 S (i+1)=O8 S i))):
  D7 254 #[Ey x] w (Z (O8 S 9:Nat)) λT=>T=w:=by
 have X:=Gv MU;have⟨m,u⟩:=FU hc (zR S);clear hc;go_enter func254,ntmps254;go_wp2;go_loopw [3,4] (λQ iv wr=>∃i n:Nat,i<=9/\n=O8 S i/\Q=Z n/\iv=Z i/\wr=w) (λ_ iv _=>9-(intOf iv).toNat)
 case atStart=>exact⟨0,0,U,by simp[O8],rfl,rfl,rfl⟩
 case round=>
  obtain⟨i,n,hi,hn,rfl,rfl,j⟩:=hrel;subst j;by_cases h:i<9
  ·have p0:0<=(i:Int):=U;have p1:(i:Int)<9:=U;have⟨q,M,hd⟩:=m i h;have O:=Gv M;have g:=u i;rcases hd with ⟨y,f⟩|⟨y,f⟩
   ·have e:Hid (n+1=O8 S (i+1)):=by rw[hn];exact f.symm
    have D:n<=9:=U;clear f hn g;go_wp2;go_roundw
    case rel=>exact⟨i+1,n+1,U,e,Kc,Kc,BR⟩
    case measure=>exact Kt
   ·have e:Hid (n=O8 S (i+1)):=by rw[hn];exact f.symm
    clear f hn g;go_wp2;go_roundw
    case rel=>exact⟨i+1,n,U,e,rfl,Kc,BR⟩
    case measure=>exact Kt
  ·obtain rfl:i=9:=U;have e:=Dx hn;clear hn;go_wp2;go_returns;rw[<-Dw e];exact⟨rfl,rfl⟩
theorem RM.fU(h:RM x v F G w)(hl:G.DN.length=9):D7 254 #[Ey x] w (Z ((R.FE G:Nat):Int)) λg=>g=w:=by
 have e:R.FE G=O8 G.DN 9:=by grind [R.FE,O8]
 rw[e];refine ol (EI h.bx 11) (λi hi=>?_);obtain⟨r,f⟩:∃r,G.DN[i]?=some r:=⟨_,Ah U⟩;refine⟨r.D4,(Kg h.DN f).s0,?_⟩
 grind [nO]
theorem cG{a:Aa}(h:Below B a W)(p:Addr)(v:Ad):Below B (a.setCell p v) (W.setCell p v):=⟨h.os,h.tape,h.output,by simpa [World.setCell] using h.size,λk hk=>by
 simp only[World.setCell,Cv];rw[h.block k hk]⟩
theorem E3.set{V:Aa}(h:E3 w V o W)(e:b<w.heap.size)(v:Ad):E3 w (V.setCell (Y b i) v) o (W.setCell (Y b i) v):=by grind [E3,cG,Below.heap_setCell]
theorem E3.drew{V:Aa}(h:E3 w V o W):E3 w V o W.drew:=⟨h.1.drew,h.2⟩
theorem E3.drewN{V:Aa}(h:E3 w V o W)(n:Nat):E3 w V o (W.drewN n):=⟨Ed h.1 n,h.2⟩
theorem JJ{m:Nat}:E3 w w o ((w.alloc o).drewN m):=⟨LG w (Ar _) _ _,AF w o⟩
abbrev Ie(W:Aa)(sn i:Nat)(r:R.Sn):World:=(((((((((W.setCell (Y sn (i*10)) (Z r.D4)).setCell (Y sn (i*10+1)) (Z r.D5)).setCell (Y sn (i*10+2)) (.string (str r.DC))).setCell (Y sn (i*10+3)) (Z r.DT)).setCell (Y sn (i*10+4)) (Z r.DK)).setCell (Y sn (i*10+5)) (.string (str r.DU))).setCell (Y sn (i*10+6)) (Z r.at')).setCell (Y sn (i*10+7)) (.bool r.E1)).setCell (Y sn (i*10+8)) (Z r.El)).setCell (Y sn (i*10+9)) (Z r.DW)
theorem aG{sn:List R.Sn}{r:R.Sn}(h:W.heap[b]?=some (.cells (tab Rk sn).toArray 264 (0,0)))(e:sn[i]?=some r):(Ie W b i r').heap[b]?=some (.cells (tab Rk (sn.set i r')).toArray 264 (0,0)):=by
 have hi:=GG e;have s0:=Fz (r1:={r with D4:=r'.D4}) h e (j:=0) (u:=Z r'.D4) U rfl;have s1:=Fz (r1:={r with D4:=r'.D4,D5:=r'.D5}) s0 (AO hi) (j:=1) (u:=Z r'.D5) U rfl;rw[A5]at s1;have s2:=Fz (r1:={r with D4:=r'.D4,D5:=r'.D5,DC:=r'.DC}) s1 (AO hi) (j:=2) (u:=.string (str r'.DC)) U rfl;rw[A5]at s2;have s3:=Fz (r1:={r with D4:=r'.D4,D5:=r'.D5,DC:=r'.DC,DT:=r'.DT}) s2 (AO hi) (j:=3) (u:=Z r'.DT) U rfl;rw[A5]at s3;have s4:=Fz (r1:={r with D4:=r'.D4,D5:=r'.D5,DC:=r'.DC,DT:=r'.DT,DK:=r'.DK}) s3 (AO hi) (j:=4) (u:=Z r'.DK) U rfl;rw[A5]at s4;have s5:=Fz (r1:={r with D4:=r'.D4,D5:=r'.D5,DC:=r'.DC,DT:=r'.DT,DK:=r'.DK,DU:=r'.DU}) s4 (AO hi) (j:=5) (u:=.string (str r'.DU)) U rfl;rw[A5]at s5;have s6:=Fz (r1:={r with D4:=r'.D4,D5:=r'.D5,DC:=r'.DC,DT:=r'.DT,DK:=r'.DK,DU:=r'.DU,at':=r'.at'}) s5 (AO hi) (j:=6) (u:=Z r'.at') U rfl;rw[A5]at s6;have s7:=Fz (r1:={r with D4:=r'.D4,D5:=r'.D5,DC:=r'.DC,DT:=r'.DT,DK:=r'.DK,DU:=r'.DU,at':=r'.at',E1:=r'.E1}) s6 (AO hi) (j:=7) (u:=.bool r'.E1) U rfl;rw[A5]at s7;have s8:=Fz (r1:={r with D4:=r'.D4,D5:=r'.D5,DC:=r'.DC,DT:=r'.DT,DK:=r'.DK,DU:=r'.DU,at':=r'.at',E1:=r'.E1,El:=r'.El}) s7 (AO hi) (j:=8) (u:=Z r'.El) U rfl;rw[A5]at s8;have s9:=Fz (r1:=r') s8 (AO hi) (j:=9) (u:=Z r'.DW) U rfl;rw[A5]at s9;exact s9
theorem E3.Ie{V:Aa}(h:E3 w V o W)(e:b<w.heap.size)(r:R.Sn):E3 w (Ie V b i r) o (Ie W b i r):=(((((((((h.set e _).set e _).set e _).set e _).set e _).set e _).set e _).set e _).set e _).set e _
theorem Qw:DF (λk=>k=b) W (Ie W b i r'):=(((((((((EV _).trans (EV _)).trans (EV _)).trans (EV _)).trans (EV _)).trans (EV _)).trans (EV _)).trans (EV _)).trans (EV _)).trans (EV _)
theorem OC(W:Aa)(b i:Nat)(r:R.Sn):(Ie W b i r).heap.size=W.heap.size:=by simp[World.setCell]
theorem gZ{bx:Obj}(r:R.Sn)(hB:W.heap[B]?=some bx)(hn:¬B=sn):Below W.heap.size (Ie W sn i r) ((Ie W sn i r).alloc o).drew/\((Ie W sn i r).alloc o).drew.heap[B]?=some bx:=by
 have f:DF (λk=>k=sn) W (Ie W sn i r):=Qw;have e:=f.at hB hn;have g:=OC W sn i r;generalize Ie W sn i r=X at e g ⊢;exact⟨((AA _ _).alloc U _).drew,(AL X o B (Dv e)).trans e⟩
theorem RM.vO(h:RM x v F G w)(hi:i<G.DN.length)(r':R.Sn):RM x v F (R.EA G i r') (Ie w v.Sn i r')/\D8 F F w (Ie w v.Sn i r'):=
 h.JE (Qw) (aG h.DN (Ah hi))
def JY(w:Aa)(L sn ci:Nat)(DR:Int):Nat->World
 |0=>w.setCell ⟨L,ci,none⟩ (.int .i64 DR)
 |k+1=>Ie (JY w L sn ci DR k) sn (3*ci+k) R.Ic
abbrev Xh(w:Aa)(L sn ci:Nat)(DR:Int):World:=Ie (Ie (Ie (w.setCell (Y L ci) (Z DR)) sn (3*ci) R.Ic) sn (3*ci+1) R.Ic) sn (3*ci+2) R.Ic
theorem RM.forget(h:RM x v F G w){P:Pk}(j:R.MX G.c G.DX G.DN G.EF)(f:P.DJ.toNat=ci)(y:ci<3)(g:G.DX.getD ci 0<P.DR):RM x v F (R.Ib G P) (Xh w v.L v.Sn ci P.DR)/\D8 F F w (Xh w v.L v.Sn ci P.DR):=by
 have hl:=j.ll;have D:=j.sl;have e0:(w.setCell (Y v.L ci) (Z P.DR)).heap[v.L]?=some (.cells (GK (G.DX.set ci P.DR)).toArray 3 (0,0)):=by
  have:=Ek (off:=ci) h.DX (Z P.DR);rw[this];simp[GK,List.map_set]
 have⟨a1,a2⟩:=h.Zf (EV _) e0;have⟨m,u⟩:=a1.vO (i:=3*ci) (by show 3*ci<G.DN.length;omega) R.Ic;have⟨c1,c2⟩:=m.vO (i:=3*ci+1) (by simp[R.EA];omega) R.Ic;have⟨d1,d2⟩:=c1.vO (i:=3*ci+2) (by simp[R.EA];omega) R.Ic;have e:R.Ib G P=R.EA (R.EA (R.EA {G with DX:=G.DX.set ci P.DR} (3*ci) R.Ic) (3*ci+1) R.Ic) (3*ci+2) R.Ic:=by
  unfold R.Ib;rw[f,Ay g];rfl
 rw[e];exact⟨d1,((a2.trans u).trans c2).trans d2⟩
abbrev Oo(p:Pk):R.Sn:={R.Ic with D4:=p.D4,D5:=p.D5,DK:=1}
inductive Ak (r:R.Sn) (p:Pk) (al:Bool) (n tb:Int):Nat->Int->Prop
 |aa7:p.Dz=6->¬r.D4=p.D4->Ak r p al n tb 0 0
 |jT:p.Dz=6->r.D4=p.D4->¬r.DK=3->Ak r p al n tb 0 0
 |aeY:p.Dz=6->r.D4=p.D4->r.DK=3->¬p.off=R.DL r.DU->Ak r p al n tb 0 0
 |um:p.Dz=6->r.D4=p.D4->r.DK=3->p.off=R.DL r.DU->¬p.Ez=r.at'->Ak r p al n tb 0 0
 |ul:p.Dz=6->r.D4=p.D4->r.DK=3->p.off=R.DL r.DU->p.Ez=r.at'->¬r.at'<R.DL r.DU-1->Ak r p al n tb 0 0
 |got:p.Dz=6->r.D4=p.D4->r.DK=3->p.off=R.DL r.DU->p.Ez=r.at'->r.at'<R.DL r.DU-1->Ak r p al n tb 3 0
 |known:¬p.Dz=6->r.D4=p.D4->Ak r p al n tb 1 0
 |old:¬p.Dz=6->¬r.D4=p.D4->p.D4<r.D4->Ak r p al n tb 0 0
 |dead:¬p.Dz=6->¬r.D4=p.D4->¬p.D4<r.D4->al=false->Ak r p al n tb 2 0
 |three:p.Dz=3->¬r.D4=p.D4->¬p.D4<r.D4->al=true->Ak r p al n tb 0 0
 |Ez:¬p.Dz=6->¬r.D4=p.D4->¬p.D4<r.D4->al=true->¬p.Dz=3->¬p.Ez=0->Ak r p al n tb 0 0
 |full:¬p.Dz=6->¬r.D4=p.D4->¬p.D4<r.D4->al=true->¬p.Dz=3->p.Ez=0->r.D4=0->tb<=n->Ak r p al n tb 2 1
 |room:¬p.Dz=6->¬r.D4=p.D4->¬p.D4<r.D4->al=true->¬p.Dz=3->p.Ez=0->r.D4=0->¬tb<=n->Ak r p al n tb 4 0
 |over:¬p.Dz=6->¬r.D4=p.D4->¬p.D4<r.D4->al=true->¬p.Dz=3->p.Ez=0->¬r.D4=0->Ak r p al n tb 4 0
theorem XM(S:Ab):∃(f:Ab) (g:Int),∀w,D7 220 #[.string S,Z 0] w (.tuple #[.string f,Z g]) λh=>h=w:=by
 by_cases hl:(S.size:Int)<=8
 ·refine⟨S,((S.size:Int)+7) / 8,λw=>?_⟩;exact ko
 ·have e:8<=S.size:=U;refine⟨S.extract 0 8,wrap64 ((wrap64 ((S.size:Int)+7)).tdiv 8),λw=>?_⟩;exact ko
structure AkT(x sn i B:Nat)(tb:Int)(r:R.Sn)(p:Pk)(al:Bool)(n:Int)(t:Nat)(k:Int)(Post:World->Prop)(W:Aa):Prop where
 x4:W.cell? (Y x 4)=some (Z tb)
 MU:W.cell? (Y x 11)=some (EJ sn 9 9)
 s:iZ W sn i r
 z:∀o,W.frozen? (Y sn o)=false
 box:W.heap[B]?=some (.cells (Je p) 41 (0,0))
 ne:sn≠x
 sl:x<B/\sn<B
 lh:∀W',Below W.heap.size W W'->Calls prog 253 #[Ey x,Z p.D5] W' λe w'=>e=.returned (.bool al)/\w'=W'
 lm:∀W',Below W.heap.size W W'->Calls prog 254 #[Ey x] W' λe w'=>e=.returned (Z n)/\w'=W'
 kZ:∃(pb:Ab) (pn:Int),(r.DK=3->pn=R.DL r.DU)/\∀W',Calls prog 220 #[.string (str r.DU),Z 0] W' λe w'=>e=.returned (.tuple #[.string pb,Z pn])/\w'=W'
 d0:t=0->∀W',Below W.heap.size W W'->Post W'
 d1:t=1->∀W',Below W.heap.size W W'->Calls prog 255 #[Ey x,Z i,pv p] W' λe w'=>e=.returned Ep/\Post w'
 d2:t=2->∀W',Below W.heap.size W W'->Calls prog 256 #[Ey x,pv p,Z 7,Z k,Z 2] W' λe w'=>e=.returned Ep/\Post w'
 d3:t=3->∀W',Below W.heap.size (W.setCell (Y sn (i*10+6)) (Z (r.at'+1))) W'->Calls prog 222 #[Ey x,Z i] W' λe w'=>e=.returned Ep/\Post w'
 d4:t=4->∀W',Below W.heap.size (Ie W sn i (Oo p)) W'->Calls prog 255 #[Ey x,Z i,pv p] W' λe w'=>e=.returned Ep/\Post w'
theorem uG{L:Nat}{DR:Int}(e:p.DJ=(ci:Int))(hc:ci<3)(Tf:EB w x 10 (EJ L 3 3))(c0:EB w L ci (Z DR))(h:p.DR<DR):
  D7 225 #[Ey x,pv p] w Ep λf=>DY w f:=by
 have⟨kd,cl,m,ln,M,O,pt,off,u,bd⟩:=p;simp only at e h;subst e;have y:0<=(ci:Int):=U;have D:(ci:Int)<3:=U;have⟨j,g⟩:=KM Tf c0;go_enter func225,ntmps225;go_wp2_with fail
 go_quiet (fail);go_wp2_with fail
 go_returns;exact⟨rfl,LG w (Ar _) _ _⟩
end Go.Proofs.YtblomippkddgiaaGreatDoor
