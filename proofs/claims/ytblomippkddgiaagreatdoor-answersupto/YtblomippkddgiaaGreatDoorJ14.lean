import Derived.Test.YtblomippkddgiaaGreatDoorJ13
set_option maxRecDepth 100000
set_option maxHeartbeats 2000000
namespace Go.Proofs.YtblomippkddgiaaGreatDoor
open Go.Proofs.Tryz
open Go.RowKit
variable {cur:Array Value}{E F F':D9}{zs:List (R.Sv×Value)}{fl:List R.Fl}{l:List R.It}{js:List R.Jb}{xs:List Value}{B b n size x:Nat}{z:Nat×Nat}{G:R.Wd}{e t:TypeId}{J K:Value}{w w':World}
abbrev ptr(b:Nat):Value:=.pointer (some (Y b 0))
structure MV where
 wk:Value
 dn:Value
 sb:Nat
 bk:Value
def Om(z:R.Sv×MV):List Value:=[Z z.1.Dz,z.2.wk,z.2.dn]
theorem LZ(z:R.Sv×MV):(Om z).length=3:=rfl
def IQ(z:R.En×Value×Value):List Value:=[Z z.1.DJ,Z z.1.DR,Z z.1.DZ,Z z.1.D4,Z z.1.Eo,z.2.1,z.2.2]
theorem Pz(z:R.En×Value×Value):(IQ z).length=7:=rfl
def strs(l:List ByteArray):List Value:=l.map λs=>Value.string s
inductive Fp (w:Aa) (F:D9) (l:List R.En) (b:Nat) (K:Ad):Int->Value->Prop
 |counter (hF:F b) (hb:w.heap[b]?=some (.cells #[.int .u16 (R.Fh l 0)] 330 (0,0))) (hK:K=.slice none 0 0):Fp w F l b K 0 (.iface 328 (ptr b))
 |MZ (hF:F b) (hb:w.heap[b]?=some (.cells #[K] 333 (0,0))) (hK:w.ownsRow 0 9 1 K (R.Fe l).length (strs (R.Fe l))) (hKF:∀j,K.ownBlock=some j->F j):Fp w F l b K 1 (.iface 331 (ptr b))
 |P9 (d0 d1 d2:Ad) (hF:F b) (hb:w.heap[b]?=some (.cells #[d0,d1,d2] 337 (0,0))) (hK:K=.slice none 0 0) (h0:OZ w F d0 (R.I6 l 0 [])) (h1:OZ w F d1 (R.I6 l 1 [])) (h2:OZ w F d2 (R.I6 l 2 [])):Fp w F l b K 2 (.iface 334 (ptr b))
structure Yg(w:Aa)(F:D9)(z:R.Sv×MV):Prop where
 wk:if z.1.Fj=true then Fp w F z.1.log z.2.sb z.2.bk z.1.Dz z.2.wk else z.2.wk=.nilIface
 log:∃es:List (R.En×Value×Value),es.map (·.1)=z.1.log/\w.ownsRow 0 98 7 z.2.dn es.length (tab IQ es)/\∀y∈es,Gg w F y.2.1 y.1.arg/\Gg w F y.2.2 y.1.DU
 own:∀j,z.2.dn.ownBlock=some j->F j
structure PR where
 DJ:Int
 DR:Int
 DZ:Int
 D4:Int
 D5:Int
 DK:Int
 Gn:List UInt8
 answer:List UInt8
 at':Int
 El:Int
 DW:Int
def PR.cells(y:PR):List Value:=[Z y.DJ,Z y.DR,Z y.DZ,Z y.D4,Z y.D5,Z y.DK,.string (str y.Gn),.string (str y.answer),Z y.at',Z y.El,Z y.DW]
structure PT(i:Nat)(DR:Int)(r:R.Sn)(y:PR):Prop where
 DJ:y.DJ=((i / 3:Nat):Int)
 DR:y.DR=DR
 DZ:y.DZ=((i % 3:Nat):Int)
 D4:y.D4=r.D4
 D5:y.D5=r.D5
 DK:y.DK=r.DK-1
 Gn:r.DK=1\/r.DK=2->y.Gn=r.DC
 MY:r.DK=3->y.answer=r.DU/\y.at'=r.at'
 El:y.El=if r.E1=true then r.El else 0
 DW:r.E1=true->y.DW=r.DW
def Xn(j:R.Jb):Value:=.agg #[Z j.DJ,Z j.DR,Z j.DZ,Z j.D4,Z j.D5]
structure SP where
 K:Value
 zs:List (R.Sv×MV)
 ql:Nat->Nat
 jc:Nat
def Gh(t:SP)(DN:List R.Sn)(i:Nat):Value:=if ((DN[i]?).getD R.Ic).D4=0 then .pointer none else ptr (t.ql i)
def IW(n nm:Nat)(t:SP)(c:R.Cf)(DX:List Int)(DN:List R.Sn):List Value:=
 [Z c.DI,Z c.DV,Z c.Ew,Z c.DW,Z c.FF,.map (some nm),t.K,Z (DX.getD 0 0),Z (DX.getD 1 0),Z (DX.getD 2 0),
  Gh t DN 0,Gh t DN 1,Gh t DN 2,Gh t DN 3,Gh t DN 4,Gh t DN 5,Gh t DN 6,Gh t DN 7,Gh t DN 8,.chan (some t.jc),ptr n]
structure G9(s n nm:Nat)(t:SP)(F:D9)(c:R.Cf)(sv:List R.Sv)(DX:List Int)(DN:List R.Sn)(EF:List R.Jb)(w:Aa):Prop where
 bs:w.heap[s]?=some (.cells (IW n nm t c DX DN).toArray 167 (0,0))
 zs:t.zs.map (·.1)=sv
 Gw:w.ownsRow 0 213 3 t.K t.zs.length (tab Om t.zs)
 each:∀z∈t.zs,Yg w F z
 dns:∀(i j:Nat) (z y:R.Sv×MV),t.zs[i]?=some z->t.zs[j]?=some y->i≠j->∀k,z.2.dn.ownBlock=some k->y.2.dn.ownBlock≠some k
 ye:∀(i j:Nat) (z y:R.Sv×MV),t.zs[i]?=some z->t.zs[j]?=some y->i≠j->z.1.Fj=true->y.1.Fj=true->z.2.sb≠y.2.sb/\∀k,z.2.bk.ownBlock=some k->y.2.bk.ownBlock≠some k
 ln:∀(i:Nat) (r:R.Sn),DN[i]?=some r->r.D4≠0->∃y:PR,w.heap[t.ql i]?=some (.cells y.cells.toArray 147 (0,0))/\PT i (DX.getD (i / 3) 0) r y/\F (t.ql i)
 inj:∀(i j:Nat) (r r':R.Sn),DN[i]?=some r->DN[j]?=some r'->r.D4≠0->r'.D4≠0->i≠j->t.ql i≠t.ql j
 EF:∃a b:Nat,w.heap[t.jc]?=some (.chan c.FF.toNat (EF.map Xn).toArray false a b false)
 Fw:F s/\F t.jc/\∀j,t.K.ownBlock=some j->F j
def Rl(t:Ag):Bool:=t==167 || t==213 || t==98 || t==106 || t==147 || t==330 || t==333 || t==337 || t==9
structure Ip(w:Aa)(F E:D9):Prop where
 cells:∀b cur t z,F b->Rl t=true->w.heap[b]?=some (.cells cur t z)->¬E b
 chan:∀b cap buf cl a r tm,F b->w.heap[b]?=some (.chan cap buf cl a r tm)->¬E b
theorem Ip.apart(h:∀k,F k->¬E k):Ip w F E:=by grind [Ip]
theorem Ip.iw(h:∀b,E b->(∃cur t z,w.heap[b]?=some (.cells cur t z)/\Rl t=false)\/∃f cl,w.heap[b]?=some (.map f cl)):Ip w F E:=by grind [Ip]
theorem Ip.one(h:w.heap[b]?=some (.cells cur t z))(f:Rl t=false):Ip w F (λk=>k=b):=by grind [Ip.iw]
def Wp(t:Ag):Bool:=t==98 || t==106 || t==330 || t==333 || t==337 || t==9
def Pp(w:Aa)(F E:D9):Prop:=∀b cur t z,F b->Wp t=true->w.heap[b]?=some (.cells cur t z)->¬E b
theorem oV(h:Wp t=true):Rl t=true:=by grind [Wp,Rl]
theorem Ip.sv(h:Ip w F E):Pp w F E:=by grind [Ip,Pp,oV]
theorem Pp.iw(h:∀b,E b->(∃cur t z,w.heap[b]?=some (.cells cur t z)/\Wp t=false)\/(∃g cl,w.heap[b]?=some (.map g cl))\/∃cap f cl a r j,w.heap[b]?=some (.chan cap f cl a r j)):Pp w F E:=by grind [Pp]
theorem Pp.one(h:w.heap[b]?=some (.cells cur t z))(f:Wp t=false):Pp w F (λk=>k=b):=by grind [Pp.iw]
theorem Wv{v:Ad}(h:w.ownsRow B e size v n xs)(hk:DF E w w')(u:Pp w F E)(y:Wp e=true)(m:∀j,v.ownBlock=some j->F j):w'.ownsRow B e size v n xs:=by
 refine hk.row h (λj f=>?_);rcases h.2 with ⟨rfl,_⟩|⟨g,cap,cur,rfl,_,D,_⟩
 ·cases f
 ·cases f;exact u g cur e _ (m g rfl) y D
theorem oP{v:Ad}(h:w.ownsRow B e size v n xs)(hk:DF E w w')(u:Ip w F E)(y:Rl e=true)(m:∀j,v.ownBlock=some j->F j):w'.ownsRow B e size v n xs:=by
 refine hk.row h (λj f=>?_);rcases h.2 with ⟨rfl,_⟩|⟨g,cap,cur,rfl,_,D,_⟩
 ·cases f
 ·cases f;exact u.cells g cur e _ (m g rfl) y D
theorem Gg.KC{V:Ad}(h:Gg w F V l)(hk:DF E w w')(g:Pp w F E)(f:∀k,F k->F' k):Gg w' F' V l:=h.keep hk (λb cur j hc=>g b cur 106 (0,0) j rfl hc) f
theorem OZ.KC{V:Ad}(h:OZ w F V l)(hk:DF E w w')(g:Pp w F E)(f:∀k,F k->F' k):OZ w' F' V l:=h.keep hk (λb cur j hc=>g b cur 106 (0,0) j rfl hc) f
theorem Fp.keep{l:List R.En}{k:Int}{W:Ad}(h:Fp w F l b K k W)(hk:DF E w w')(g:Pp w F E)(f:∀k,F k->F' k):Fp w' F' l b K k W:=by
 cases h with
 |counter h1 h2 h3=>exact .counter (f _ h1) (hk.at h2 (g b _ _ _ h1 rfl h2)) h3
 |MZ h1 h2 h3 h4=>exact .MZ (f _ h1) (hk.at h2 (g b _ _ _ h1 rfl h2)) (Wv h3 hk g rfl h4) (λj m=>f _ (h4 j m))
 |P9 d0 d1 d2 h1 h2 h0 h3 h4 h5=>exact .P9 d0 d1 d2 (f _ h1) (hk.at h2 (g b _ _ _ h1 rfl h2)) h0 (h3.KC hk g f) (h4.KC hk g f) (h5.KC hk g f)
theorem Yg.keep{z:R.Sv×MV}(h:Yg w F z)(hk:DF E w w')(g:Pp w F E)(f:∀k,F k->F' k):Yg w' F' z:=by
 refine⟨?_,?_,λj T=>f _ (h.own j T)⟩
 ·have u:=h.wk;split
  ·rename_i e;rw[Ay e]at u;exact u.keep hk g f
  grind
 ·have⟨M,O,Q,m⟩:=h.log;exact⟨M,O,Wv Q hk g rfl h.own,λy D=>⟨(m y D).1.KC hk g f,(m y D).2.KC hk g f⟩⟩
theorem G9.keep{s nm:Nat}{t:SP}{c:R.Cf}{sv:List R.Sv}{DX:List Int}{DN:List R.Sn}{EF:List R.Jb}(h:G9 s n nm t F c sv DX DN EF w)(hk:DF E w w')(g:Ip w F E)(f:∀k,F k->F' k):G9 s n nm t F' c sv DX DN EF w':=by
 have⟨D,M,O⟩:=h.Fw;refine⟨hk.at h.bs (g.cells s _ _ _ D rfl h.bs),h.zs,oP h.Gw hk g rfl O,λz hz=>(h.each z hz).keep hk g.sv f,h.dns,h.ye,λi r hr u=>?_,h.inj,?_,f _ D,f _ M,λj m=>f _ (O j m)⟩
 ·have⟨y,Q,X,T⟩:=h.ln i r hr u;exact⟨y,hk.at Q (g.cells _ _ _ _ T rfl Q),X,f _ T⟩
 ·have⟨a,b,m⟩:=h.EF;exact⟨a,b,hk.at m (g.chan _ _ _ _ _ _ _ M m)⟩
def GK(l:List Int):List Value:=l.map λn=>Value.int .i64 n
def KG(l:List (List UInt8)):List Value:=l.map λs=>Value.string (str s)
def FN(f:R.Fl):List Value:=[Z f.to,.string (str f.s),.bool f.Ij]
theorem FY(f:R.Fl):(FN f).length=3:=rfl
structure Lg(w:Aa)(F:D9)(V:Ad)(l:List R.En):Prop where
 row:∃es:List (R.En×Value×Value),es.map (·.1)=l/\w.ownsRow 0 98 7 V es.length (tab IQ es)/\∀y∈es,Gg w F y.2.1 y.1.arg/\Gg w F y.2.2 y.1.DU
 own:∀j,V.ownBlock=some j->F j
structure Rs(w:Aa)(F:D9)(V:Ad)(l:R.Ln):Prop where
 it:Gg w F V l.DU
 no:l.DK≠2->l.DU=[]
def IA(j:R.Jb):List Value:=[Z j.DJ,Z j.DZ,Z j.DR,Z j.D4]
def Yb(w:Aa)(F:D9)(V:Ad)(js:List R.Jb):Prop:=(js=[]/\V=.slice none 0 0)\/∃g off cap cur,V=.slice (some (Y g (off*4))) js.length cap/\F g/\w.heap[g]?=some (.cells cur 266 (0,0))/\js.length<=cap/\(off+cap)*4<=cur.size/\cap<=maxLen/\∀(k:Nat) (j:R.Jb),js[k]?=some j->∀(o:Nat) (u:Ad),(IA j)[o]?=some u->cur[(off+k)*4+o]?=some u
structure QH(w:Aa)(F:D9)(zs:List (R.Sv×Value))(J:Ad)(js:List R.Jb):Prop where
 I4:∀z∈zs,Lg w F z.2 z.1.log
 apart:∀(i j:Nat) (z y:R.Sv×Value),zs[i]?=some z->zs[j]?=some y->i≠j->∀k,z.2.ownBlock=some k->y.2.ownBlock≠some k
 EF:Yb w F J js
theorem Lg.keep{V:Ad}{l:List R.En}(h:Lg w F V l)(hk:DF E w w')(u:∀{b:Nat} {ys:Array Value} {t:Ag},w.heap[b]?=some (.cells ys t (0,0))->(t=98\/t=106\/t=266)->F b->¬E b)(m:∀k,F k->F' k):Lg w' F' V l:=by
 have⟨T,X,M,O⟩:=h.row;refine⟨⟨T,X,hk.row M (λj f=>?_),λy Q=>⟨(O y Q).1.keep hk (λb cur D hc=>u hc (Am (Aj rfl)) D) m,(O y Q).2.keep hk (λb cur D hc=>u hc (Am (Aj rfl)) D) m⟩⟩,λj f=>m j (h.own j f)⟩;rcases M.2 with ⟨rfl,_⟩|⟨g,cap,cur,rfl,_,hg,_⟩
 ·cases f
 ·cases f;exact u hg (Aj rfl) (h.own g rfl)
theorem Yb.keep{V:Ad}{l:List R.Jb}(h:Yb w F V l)(hk:DF E w w')(D:∀{b:Nat} {M:Array Value},w.heap[b]?=some (.cells M 266 (0,0))->F b->¬E b)(y:∀k,F k->F' k):Yb w' F' V l:=by
 rcases h with h|⟨g,off,cap,cur,m,f,j,u⟩
 ·exact Aj h
 ·exact Am ⟨g,off,cap,cur,m,y g f,hk.at j (D j f),u⟩
theorem QH.sG(h:QH w F zs J js)(hk:DF E w w')(g:∀{b:Nat} {u:Array Value} {t:Ag},w.heap[b]?=some (.cells u t (0,0))->(t=98\/t=106\/t=266)->F b->¬E b)(f:∀k,F k->F' k):QH w' F' zs J js:=
 ⟨λz hz=>(h.I4 z hz).keep hk g f,h.apart,h.EF.keep hk (λj m=>g j (Am (Am rfl)) m) f⟩
theorem QH.keep(h:QH w F zs J js)(hk:DF E w w')(g:∀{b:Nat} {m:Array Value} {t:Ag},w.heap[b]?=some (.cells m t (0,0))->(t=98\/t=106\/t=266)->¬E b)(f:∀k,F k->F' k):QH w' F' zs J js:=h.sG hk (λj q _=>g j q) f
theorem Rs.keep{V:Ad}{l:R.Ln}(h:Rs w F V l)(hk:DF E w w')(f:∀b cur,F b->w.heap[b]?=some (.cells cur 106 (0,0))->¬E b)(g:∀k,F k->F' k):Rs w' F' V l:=⟨h.it.keep hk f g,h.no⟩
theorem Rs.nil(w:Aa)(F:D9){l:R.Ln}(h:l.DU=[]):Rs w F (.slice none 0 0) l:=by grind [Rs,Gg.nil]
def svc(z:R.Sv×Value):List Value:=[Z z.1.Dz,.bool z.1.Fj,z.2]
theorem MD(z:R.Sv×Value):(svc z).length=3:=rfl
def Ui(z:R.Ln×Value):List Value:=[Z z.1.D4,Z z.1.DK,z.2,Z z.1.D5,.string z.1.to,.string (str z.1.DC),Z z.1.Ea,.string (str z.1.EK),Z z.1.DT,Z z.1.El,Z z.1.DW]
theorem jO(z:R.Ln×Value):(Ui z).length=11:=rfl
structure CE where
 bv:Value
 lb:Nat
def bD(z:R.Cl×CE):List Value:=[Z z.1.DR,z.2.bv,EJ z.2.lb z.1.DV.length z.1.DV.length]
theorem P5(z:R.Cl×CE):(bD z).length=3:=rfl
def Rk(r:R.Sn):List Value:=[Z r.D4,Z r.D5,.string (str r.DC),Z r.DT,Z r.DK,.string (str r.DU),Z r.at',.bool r.E1,Z r.El,Z r.DW]
theorem XT(r:R.Sn):(Rk r).length=10:=rfl
structure RV where
 N:Value
 S:Value
 V:Value
 Fl:Value
 C:Value
 L:Nat
 Sn:Nat
 J:Value
 zs:List (R.Sv×Value)
 zc:List (R.Cl×CE)
abbrev Ey(b:Nat):Value:=.pointer (some (Y b 0))
abbrev Iv(c:R.Cf)(v:RV):Array Value:=#[Z c.DI,Z c.DV,Z c.Ew,Z c.DW,Z c.FF,v.N,v.S,v.V,v.Fl,v.C,EJ v.L 3 3,EJ v.Sn 9 9,v.J]
structure RM(x:Nat)(v:RV)(F:D9)(G:R.Wd)(w:Aa):Prop where
 bx:w.heap[x]?=some (.cells (Iv G.c v) 229 (0,0))
 Eu:w.ownsRow 0 9 1 v.N G.Eu.length (KG G.Eu)
 Ec:w.ownsRow 0 3 1 v.S G.Ec.length (GK G.Ec)
 zs:v.zs.map (·.1)=G.Dy
 Iw:w.ownsRow 0 271 3 v.V v.zs.length (tab svc v.zs)
 I4:QH w F v.zs v.J G.EF
 JC:w.ownsRow 0 304 3 v.Fl G.Ej.length (tab FN G.Ej)
 zc:v.zc.map (·.1)=G.DI
 cl:w.ownsRow 0 232 3 v.C v.zc.length (tab bD v.zc)
 Ee:∀(i:Nat) (z:R.Cl×CE),v.zc[i]?=some z->w.ownsRow 0 3 1 z.2.bv z.1.Ee.length (GK z.1.Ee)
 ln:∀(i:Nat) (z:R.Cl×CE),v.zc[i]?=some z->∃zl:List (R.Ln×Value),zl.map (·.1)=z.1.DV/\w.heap[z.2.lb]?=some (.cells (tab Ui zl).toArray 259 (0,0))/\∀y∈zl,Rs w F y.2 y.1
 DX:w.heap[v.L]?=some (.cells (GK G.DX).toArray 3 (0,0))
 DN:w.heap[v.Sn]?=some (.cells (tab Rk G.DN).toArray 264 (0,0))
 Fw:F x/\F v.L/\F v.Sn
 rows:∀j,(v.N.ownBlock=some j\/v.S.ownBlock=some j\/v.V.ownBlock=some j\/v.Fl.ownBlock=some j\/v.C.ownBlock=some j)->F j
 Gs:∀(i:Nat) (z:R.Cl×CE),v.zc[i]?=some z->F z.2.lb/\∀j,z.2.bv.ownBlock=some j->F j/\j≠v.L/\v.S.ownBlock≠some j
 sL:v.S.ownBlock≠some v.L
 inj:∀(i j:Nat) (z y:R.Cl×CE),v.zc[i]?=some z->v.zc[j]?=some y->i≠j->z.2.lb≠y.2.lb/\∀k,z.2.bv.ownBlock=some k->y.2.bv.ownBlock≠some k
 lt:∀k,F k->k<w.heap.size
theorem RM.FX{v:RV}(h:RM x v F G w)(hk:DF E w w')(f:∀k,F k->¬E k):RM x v F G w':=by
 have⟨u,D,M⟩:=h.Fw;refine⟨hk.at h.bx (f _ u),hk.row h.Eu (λj g=>f j (h.rows j (Aj g))),hk.row h.Ec (λj g=>f j (h.rows j (Am (Aj g)))),h.zs,hk.row h.Iw (λj g=>f j (h.rows j (Am (Am (Aj g))))),h.I4.sG hk (λ_ _ m=>f _ m) (λ_ q=>q),hk.row h.JC (λj g=>f j (h.rows j (Am (Am (Am (Aj g)))))),h.zc,hk.row h.cl (λj g=>f j (h.rows j (Am (Am (Am (Am g)))))),λi z hz=>hk.row (h.Ee i z hz) (λj g=>f j ((h.Gs i z hz).2 j g).1),λi z hz=>?_,hk.at h.DX (f _ D),hk.at h.DN (f _ M),h.Fw,h.rows,h.Gs,h.sL,h.inj,λk m=>Ai (h.lt k m) hk.size⟩;have⟨zl,O,Q,T⟩:=h.ln i z hz;exact⟨zl,O,hk.at Q (f _ (h.Gs i z hz).1),λy hy=>(T y hy).keep hk (λb cur X _=>f b X) (λ_ q=>q)⟩
theorem RM.DG{v:RV}(h:RM x v F G w)(f:DY w w'):RM x v F G w':=h.FX (DF.D6 f (λ_=>False)) (λ_ _ h=>h)
structure RW(x:Nat)(v:RV)(F:D9)(G:R.Wd)(w:Aa):Prop extends RM x v F G w where
 wf:R.Wf G
 GQ:R.MX G.c G.DX G.DN G.EF
theorem RW.mem{v:RV}(h:RW x v F G w):RM x v F G w:=h.toRM
theorem RM.whole{v:RV}(h:RM x v F G w)(f:R.Wf G)(hc:R.MX G.c G.DX G.DN G.EF):RW x v F G w:=⟨h,f,hc⟩
theorem RW.FX{v:RV}(h:RW x v F G w)(hk:DF E w w')(f:∀k,F k->¬E k):RW x v F G w':=⟨h.toRM.FX hk f,h.wf,h.GQ⟩
theorem RW.DG{v:RV}(h:RW x v F G w)(f:DY w w'):RW x v F G w':=⟨h.toRM.DG f,h.wf,h.GQ⟩
theorem J3(h:w.ownsRow B e size K n xs){j:Nat}(hj:K.ownBlock=some j):∃cur,w.heap[j]?=some (.cells cur e (0,0)):=by
 exact ab5
theorem Fg(h:w.ownsRow B e size K n xs){g:Array Value}(j:w.heap[b]?=some (.cells g t (0,0)))(f:e≠t):K.ownBlock≠some b:=by grind [J3]
theorem OP{B' m f:Nat}{M:Ad}{u:Ae}(h:w.ownsRow B e size K n xs)(y:w.ownsRow B' t f M m u)(g:e≠t):∀j,K.ownBlock=some j->M.ownBlock≠some j:=by grind [J3]
theorem RM.YV{v:RV}(h:RM x v F G w)(hk:DF (λk=>k=x\/v.Fl.ownBlock=some k) w w')(hx:w'.heap[x]?=some (.cells (Iv G.c {v with Fl:=K}) 229 (0,0)))(hr:w'.ownsRow 0 304 3 K fl.length (tab FN fl))(hK:∀j,K.ownBlock=some j->v.Fl.ownBlock=some j\/w.heap.size<=j):∃v' F',RM x v' F' {G with Ej:=fl} w'/\D8 F F' w w'/\v'.zc=v.zc:=by
 have⟨X,f2,f3⟩:=h.Fw;have T:∀k,(k=x\/v.Fl.ownBlock=some k)->F k:=λk hk=>by
  rcases hk with rfl|hk
  ·exact X
  ·exact h.rows k (Am (Am (Am (Aj hk))))
 have D:∀{b:Nat} {ys:Array Value} {t:Ag},w.heap[b]?=some (.cells ys t (0,0))->t≠229->t≠304->¬(b=x\/v.Fl.ownBlock=some b):=λg Q m e=>by
  rcases e with rfl|e
  ·exact ES g h.bx Q rfl
  ·exact Fg h.JC g (λq=>m q.symm) e
 have O:∀{n size:Nat} {e:Ag} {M:Ad} {xs:Ae},w.ownsRow 0 e size M n xs->e≠229->e≠304->∀j,M.ownBlock=some j->¬(j=x\/v.Fl.ownBlock=some j):=λhr Q m j u=>by
  grind [J3]
 refine⟨{v with Fl:=K},λk=>F k\/K.ownBlock=some k,⟨hx,hk.row h.Eu (O h.Eu Em Em),hk.row h.Ec (O h.Ec Em Em),h.zs,hk.row h.Iw (O h.Iw Em Em),h.I4.keep hk (λg q=>D g (by rcases q with rfl|rfl|rfl<;>decide) (by rcases q with rfl|rfl|rfl<;>decide)) (λ_ q=>Aj q),hr,h.zc,hk.row h.cl (O h.cl Em Em),λi z hz=>hk.row (h.Ee i z hz) (O (h.Ee i z hz) Em Em),λi z hz=>?_,hk.at h.DX (D h.DX Em Em),hk.at h.DN (D h.DN Em Em),⟨Aj X,Aj f2,Aj f3⟩,λj u=>?_,λi z hz=>⟨Aj (h.Gs i z hz).1,λj u=>⟨Aj ((h.Gs i z hz).2 j u).1,((h.Gs i z hz).2 j u).2⟩⟩,h.sL,h.inj,λk f=>?_⟩,⟨hk.mono (λk _ f=>T k f),λk f=>?_⟩,rfl⟩
 ·have⟨zl,Q,m,h3⟩:=h.ln i z hz;exact⟨zl,Q,hk.at m (D m Em Em),λy hy=>(h3 y hy).keep hk (λb cur _ g=>D g Em Em) (λ_ q=>Aj q)⟩
 ·rcases u with q|q|q|q|q
  ·exact Aj (h.rows j (Aj q))
  ·exact Aj (h.rows j (Am (Aj q)))
  ·exact Aj (h.rows j (Am (Am (Aj q))))
  ·exact Am q
  ·exact Aj (h.rows j (Am (Am (Am (Am q)))))
 ·rcases f with f|f
  ·exact Ai (h.lt k f) hk.size
  grind [J3]
 grind
theorem RM.Ms{v:RV}(h:RM x v F G w)(hk:DF (λk=>k=x\/v.Fl.ownBlock=some k) w w')(u:w'.heap[x]?=some (.cells (Iv G.c {v with Fl:=K}) 229 (0,0)))(m:w'.ownsRow 0 304 3 K fl.length (tab FN fl))(g:∀j,K.ownBlock=some j->v.Fl.ownBlock=some j\/w.heap.size<=j):∃f F',RM x f F' {G with Ej:=fl} w'/\D8 F F' w w':=by grind [RM.YV]
theorem RW.Ms{v:RV}(h:RW x v F G w)(f:R.Wf {G with Ej:=fl})(hk:DF (λk=>k=x\/v.Fl.ownBlock=some k) w w')(y:w'.heap[x]?=some (.cells (Iv G.c {v with Fl:=K}) 229 (0,0)))(u:w'.ownsRow 0 304 3 K fl.length (tab FN fl))(m:∀j,K.ownBlock=some j->v.Fl.ownBlock=some j\/w.heap.size<=j):∃g F',RW x g F' {G with Ej:=fl} w'/\D8 F F' w w':=by
 have⟨g,F',D,M⟩:=h.toRM.Ms hk y u m;exact⟨g,F',⟨D,f,h.GQ⟩,M⟩
end Go.Proofs.YtblomippkddgiaaGreatDoor
namespace Go.Proofs.YtblomippkddgiaaGreatDoor.V
open Go.Proofs.Tryz
open Go.RowKit
variable {L:List Kp}{B b n:Nat}{K lv:Value}{w w':World}
structure Bo(b:Nat)(L:List Kp)(lv K:Ad)(w:Aa):Prop where
 cell:w.heap[b]?=some (.cells #[lv,K] 69 (0,0))
 row:w.ownsRow 0 178 7 K L.length (QQ L)
 Oh:∀k∈L,k.n<=100000/\∀t∈k.lists,∃B,Marks B k.x w t.1 t.2
def OY(b:Nat)(L:List Kp)(K:Ad):D9:=λj=>j=b\/K.ownBlock=some j\/∃k∈L,∃t∈k.lists,t.1.ownBlock=some j
theorem Bo.keep{E:D9}(h:Bo b L lv K w)(hk:Go.Proofs.YtblomippkddgiaaGreatDoor.DF E w w')(f:∀j,OY b L K j->¬E j):Bo b L lv K w':=
 ⟨hk.at h.cell (f _ (Aj rfl)),hk.row h.row (λj g=>f j (Am (Aj g))),λk e=>⟨(h.Oh k e).1,λt m=>by
  have⟨B,u⟩:=(h.Oh k e).2 t m;exact⟨B,hk.row u (λj g=>f j (Am (Am ⟨k,e,t,m,g⟩)))⟩⟩⟩
theorem Bo.DG(h:Bo b L lv K w)(e:DY w w'):Bo b L lv K w':=h.keep (Go.Proofs.YtblomippkddgiaaGreatDoor.DF.D6 e (λ_=>False)) (λ_ _ q=>q)
theorem Bo.lt(h:Bo b L lv K w){j:Nat}(e:OY b L K j):j<w.heap.size:=by
 rcases e with rfl|e|⟨k,hk,t,g,e⟩
 ·exact Dv h.cell
 ·exact(h.row.lt j e).2
 ·have⟨B,f⟩:=(h.Oh k hk).2 t g;exact(f.lt j e).2
theorem Bo.kb(h:Bo b L lv K w):K.ownBlock≠some b:=Fg h.row h.cell Em
theorem Bo.apart(h:Bo b L lv K w){T:Ad}{xs:Ae}(e:w.ownsRow B 106 2 T n xs):T.ownBlock≠some b/\∀j,T.ownBlock=some j->K.ownBlock≠some j:=by grind [Bo,Fg,OP]
theorem yw{w0 wr u:Aa}{K' O g1 g2 g3:Ad}{x:It}{o:Obj}(h:Bo b L lv K w)(D:DY w0 w)(hT:qi w0 w O x B [(O,n),(g1,n+1),(g2,n+2),(g3,n+3)] wr)(hn:n<=100000)
  (hO:∀j,O.ownBlock=some j->j<w.heap.size/\j≠b/\K.ownBlock≠some j/\∀k∈L,∀t∈k.lists,t.1.ownBlock≠some j)
  (ao:u.ownsRow 0 178 7 K' (L.length+1) (QQ L++(Kp.mk O g1 g2 g3 n x).cells)) (hg:(wr.alloc o).grownBy u K.ownBlock) (az:K'.ownBlock=K.ownBlock\/K'.ownBlock=some (wr.heap.size+1)):
  u.heap[b]?=some (.cells #[lv,K] 69 (0,0))/\Bo b (L++[Kp.mk O g1 g2 g3 n x]) lv K' (u.setCell (Y b 1) K')/\D8 (λj=>OY b L K j\/O.ownBlock=some j) (OY b (L++[Kp.mk O g1 g2 g3 n x]) K') w (u.setCell (Y b 1) K'):=by
 have ae:=Dv h.cell;have aS:=hT.size;have aN:=hg.size;have aV:(wr.alloc o).heap.size=wr.heap.size+1:=Ev;have T:∀k,k<wr.heap.size->K.ownBlock≠some k->u.heap[k]?=wr.heap[k]?:=λk hk Q=>by
  rw[hg.block k U (λe=>Q e.symm)];exact AL _ _ _ hk
 have m:∀k,k<w.heap.size->O.ownBlock≠some k->K.ownBlock≠some k->u.heap[k]?=w.heap[k]?:=λk hk h1 h2=>(T k U h2).trans (hT.keep k hk h1)
 have aa:u.heap[b]?=some (.cells #[lv,K] 69 (0,0)):=by
  rw[m b ae (λe=>(hO b e).2.1 rfl) h.kb];exact h.cell
 have aq:∀k,k≠b->(u.setCell (Y b 1) K').heap[k]?=u.heap[k]?:=by grind [Below.heap_setCell]
 have ak:K'.ownBlock≠some b:=by grind [V.Bo.kb]
 have al:∀j,K.ownBlock=some j->j<w.heap.size:=λj hj=>(h.row.lt j hj).2
 have hold:∀k∈L,∀t∈k.lists,∃X,Marks X k.x w t.1 t.2/\t.1.ownBlock≠some b/\∀j,t.1.ownBlock=some j->K.ownBlock≠some j:=λk hk t ht=>by
  have⟨X,y⟩:=(h.Oh k hk).2 t ht;exact⟨X,y,h.apart y⟩
 refine⟨aa,⟨?_,?_,λk hk=>?_⟩,⟨?_,λj hj=>?_⟩⟩
 ·simp only[World.setCell,Cv,aa];simp
 ·grind [VR,Jl]
 ·rcases Bj.1 hk with hk|hk
  ·refine⟨(h.Oh k hk).1,λt ht=>?_⟩;have⟨X,y,Q,av⟩:=hold k hk t ht;refine⟨X,Jl y λg M=>?_⟩;have ah:=(y.lt g M).2
   grind
  ·simp only[Bg]at hk;subst hk;refine⟨hn,λt ht=>?_⟩;have⟨y,am⟩:=hT.marks t ht;have Q:t.1.ownBlock≠some b/\∀j,t.1.ownBlock=some j->K.ownBlock≠some j:=by grind
   refine⟨B,Jl y λg M=>?_⟩;have ah:=(y.lt g M).2
   grind
 ·have f:=hT.DG;have h5:Go.Proofs.YtblomippkddgiaaGreatDoor.DF (λj=>OY b L K j\/O.ownBlock=some j) w u:=by
   refine⟨?_,?_,?_,U,λk hk hn=>m k hk (λe=>hn (Am e)) (λe=>hn (Aj (Am (Aj e))))⟩
   ·exact(hg.os.trans f.os).trans D.os.symm
   ·exact(hg.tape.trans f.tape).trans D.tape.symm
   ·exact(hg.output.trans f.output).trans D.output.symm
  exact h5.setCell (p:=Y b 1) (Aj (Aj (Aj rfl))) K'
 grind [qi,V.Kp.lists,OY]
end Go.Proofs.YtblomippkddgiaaGreatDoor.V
namespace Go.Proofs.YtblomippkddgiaaGreatDoor
open Go.Proofs.Tryz
open Go.RowKit
theorem uy(f:Aa)(B:Nat)(hB:B<=f.heap.size)(k c li ln:Int)(g:0<=k/\k<=255)(j:0<=c/\c<=255)(m:0<=li/\li<=255)(u:0<=ln/\ln<=255):
  Own (f.alloc (.cells #[.int .u8 k,.int .u8 c,.int .u8 li,.int .u8 ln] 5)) B (EJ f.heap.size 4 4) [b8 k,b8 c,b8 li,b8 ln]:=by
 have h:=CW (base:=B) (e:=5) (size:=1) f #[.int .u8 k,.int .u8 c,.int .u8 li,.int .u8 ln] 4 hB JG rfl;have e:Ku [b8 k,b8 c,b8 li,b8 ln]=[.int .u8 k,.int .u8 c,.int .u8 li,.int .u8 ln]:=by
  unfold Ku
  grind [FP]
 unfold Own;rw[e];exact h
theorem T5(u pa o n m:Int)(e:0<=u/\u<=255)(f:0<=pa/\pa<=255)(g:0<=o/\o<=255)(h:0<=n/\n<=255)(j:0<=m/\m<=255):Ku [b8 u,b8 pa,b8 o,b8 n,b8 m]=[.int .u8 u,.int .u8 pa,.int .u8 o,.int .u8 n,.int .u8 m]:=by
 unfold Ku;simp only[Cq,CU,FP e.1 e.2,FP f.1 f.2,FP g.1 g.2,FP h.1 h.2,FP j.1 j.2]
theorem wrap_u8(n:Int):IntKind.u8.wrap n=n % 256:=by grind [IntKind.wrap,IntKind.bits,IntKind.signed]
def Wz(p:Pk)(w:Aa)(e:Ending)(w':Aa):Prop:=Below w.heap.size w w'/\((EC p/\e=.returned (.string (str (Gq p))))\/(¬EC p/\e=EQ 7 0))
theorem Ru(p:Pk)(w:Aa):ET 212 #[pv p] w (Wz p w):=by
 obtain⟨T,hpost⟩:∃T,T=Wz p w:=⟨_,rfl⟩;have bq:Hid (∀w',DY w w'->¬EC p->T (EQ 7 0) w'):=by
  rw[hpost];exact λw' hb hr=>⟨hb,Am ⟨hr,rfl⟩⟩
 have ao:Hid (∀w',DY w w'->EC p->T (.returned (.string (str (Gq p)))) w'):=by
  exact xd
 rw[<-hpost];clear hpost;obtain⟨bt,bj,dj⟩:=Ll (λw=>V8 p w) (λh:EC p=>Mm h) (λh:EC p=>h);have bz:Hid (Gq p=Ha p++EU (Kb (Ha p))):=rfl;have bi:Hid (Ha p=[b8 p.Dz,b8 p.DJ,b8 p.DR,b8 p.DZ]++EU p.D4++[b8 p.D5,b8 p.Ez,b8 p.off,b8 (N3 p.Fs),b8 (p.Ef.length:Int)]++p.Ef):=rfl;obtain⟨k,c,li,ln,sq,u,pa,o,pl,Ef⟩:=p;go_enter func212,ntmps212;go_wp2_with fail
 refine(bt _).mono ?_;rintro e w1 ⟨aa,⟨aV,rfl⟩|⟨cP,rfl⟩⟩
 ·have cQ:=aa.size;have aN:=(aa.block w.heap.size Ev).trans (AF w _);have ba:=Dx (((AA w.heap.size w).alloc (Ar _) (.cells #[Z k,Z c,Z li,Z ln,Z sq,Z u,Z pa,Z o,.bool pl,.string (str Ef)] 41)).trans (aa.mono Ev));have cE:=bj aV;simp at cQ cE;have ci:=Dx aV;obtain⟨b1,b2,b3,b4,b5,b6,b7,ct,_⟩:=aV;simp only at b1 b2 b3 b4 b5 b6 b7 ct;have q1:0<=k/\k<=255:=U;have q2:0<=c/\c<=255:=U;have q3:0<=li/\li<=255:=U;have q4:0<=ln/\ln<=255:=U;have q6:0<=u/\u<=255:=U;have q7:0<=pa/\pa<=255:=U;have q8:0<=o/\o<=255:=U;obtain⟨e0,e1,e2,e3,e4⟩:=bC aN 0 1 2 3 4;have cI:w.heap.size<w1.heap.size:=U;have bf:=Dx aN;clear aN aa;go_wp2_with fail
  refine(MH (w.heap.size+1) _ _ sq _ (uy w1 (w.heap.size+1) U k c li ln q1 q2 q3 q4) Fy Ev U).mono ?_;rintro e w2 ⟨O2,rfl,j,ak⟩;have cR:=ak.size;simp at cR;have ac:=(ak.block w.heap.size U).trans ((AL w1 _ _ cI).trans bf);obtain⟨c8,cc,ca,cu⟩:=Ei j;subst cu;have ae:=λk=>Ba j k
  have bp:=Dx ae;have bb:=Dx ((ba.alloc U (.cells #[.int .u8 k,.int .u8 c,.int .u8 li,.int .u8 ln] 5)).trans (ak.mono U));obtain⟨e5,e6,e7,e8,e9⟩:=bC ac 5 6 7 8 9;obtain⟨al,an⟩:=FU ac j;have d9:w.heap.size<w2.heap.size:=U;have bL:=Dx Vx;have dL:¬w2.heap.size=w.heap.size:=U;obtain⟨i0,hi,bW,bX,c7⟩:=A1 info5;have qs:0<=(Ef.length:Int)/\(Ef.length:Int)<=255:=U;have wu:IntKind.u8.wrap u=u:=by rw[wrap_u8];omega
  have d6:IntKind.u8.wrap pa=pa:=by rw[wrap_u8];omega
  have wo:IntKind.u8.wrap o=o:=by rw[wrap_u8];omega
  have wl:IntKind.u8.wrap (Ef.length:Int)=(Ef.length:Int):=by rw[wrap_u8];omega
  have qy:0<=N3 pl/\N3 pl<=255:=by unfold N3;split<;>omega
  generalize hYP:N3 pl=Yq at *;have HN:=VK w2 (Ku [b8 u,b8 pa,b8 o,b8 Yq,b8 (Ef.length:Int)]);rw[T5 u pa o Yq (Ef.length:Int) q6 q7 q8 qy qs]at HN;obtain⟨az,aw⟩:=FU HN (T5 u pa o Yq (Ef.length:Int) q6 q7 q8 qy qs);have bg:Hid (∀(o5:Obj) (wz:Aa),((w2.alloc o5).drew).grownBy wz (Value.slice c8 cc ca).ownBlock->Below (w.heap.size+1) w2 wz/\wz.heap[w.heap.size]?=w2.heap[w.heap.size]?):=by
   intro o5 wz hg;have h:=((AA (w.heap.size+1) w2).alloc U o5).drew.grown hg Fy (λk hk=>(ae k hk).1);exact⟨h,h.block _ U⟩
  clear HN ac j ak ae e0 e1 e2 e3 e4 bt bj bf ba;go_wp2;go_region_held3 (λw'=>w'.cell? (EN w 5)=some (Z u)/\w'.cell? (EN w 6)=some (Z pa)/\w'.cell? (EN w 7)=some (Z o)/\w'.cell? (EN w 8)=some (.bool pl)/\w'.cell? (EN w 9)=some (.string (str Ef))) (go_keep)
   (first
    |(go_at_call 245;refine cs (bL _ _) ?_)
    |(refine FM rfl (.tmp 23) (.tmp 40) 199 rfl (w.heap.size+1) 5 i0 (.int .u8 0) 1 1 underlying199 hi bW bX c7 rfl Em (.slice c8 cc ca) 6 (Ku ([b8 k,b8 c,b8 li,b8 ln]++EU sq)) rfl (by exact an.alloc _) (EN w2 0) 5 5 [.int .u8 u,.int .u8 pa,.int .u8 o,.int .u8 Yq,.int .u8 (Ef.length:Int)] rfl rfl (by first|exact az|(rw[wu,d6,wo,wl];exact az)) (by rw[<-Dw aw];exact QB _) JG U Fy ?_;intro v' wz ah ad cD;obtain⟨va,vn,vc,cS⟩:=Ei ah;subst cS;have cM:=bg _ _ ad;obtain⟨bT,bV⟩:=cM;have g:=bV.trans (Dw al);have f5:=EI g 5;have f6:=EI g 6;have f7:=EI g 7;have f8:=EI g 8;have f9:=EI g 9;have br:=Dx ah;have av:=Dx bT;clear ah ad cD bT bV g))
  have D:=Dw br;rw[<-Dw aw]at D;have m:=Own.push D;have X:=Dx m;have aq:=λk=>Ba m k
  have am:=Dx aq;have db:=av.size;have be:=Dx (bb.trans (av.mono (by omega:w.heap.size<=w.heap.size+1)));have g9:=f9;obtain⟨B,O⟩:∃B,B=[b8 k,b8 c,b8 li,b8 ln]++EU sq++[b8 u,b8 pa,b8 o,b8 Yq,b8 (Ef.length:Int)]:=⟨_,rfl⟩;have cC:B.length=11:=by rw[O];rfl
  rw[<-O]at X;have b9:=Dx O;have ea:=Er Ef;have co:Hid (Lib.strCells (str Ef)=Ku Ef):=rfl;clear D m br f5 f6 f7 f8 f9 e5 e6 e7 e8 e9 az aw bg an bp av al bb bL aq O;go_wp2_with (at_builtin;go_must (refine Lib.wpList_append_own_string _ rfl (.tmp 42) (.tmp 44) 199 9 rfl (w.heap.size+1) 5 i0 underlying199 underlying9 hi bW bX c7 (.slice va vn vc) B.length (Ku B) rfl (by exact Dw X) (str Ef) rfl JG U U ?_))
  intro O4 w4 y Q _;obtain⟨cT,cV,cU,cy⟩:=Ei y;subst cy;have ab:=(AA (w.heap.size+1) wz).grown Q U (λk hk=>(am k hk).1);have dT:=ab.size;have ce:=Dx (be.trans (ab.mono (by omega:w.heap.size<=w.heap.size+1)));rw[Dw co]at y;have f:Own w4 (w.heap.size+1) (.slice cT cV cU) (B++Ef):=Own.push (by rw[cC];exact y);have aS:B++Ef=Ha ⟨k,c,li,ln,sq,u,pa,o,pl,Ef⟩:=by rw[Dw b9,Dw bi]
  rw[aS]at f;have cN:(Ha ⟨k,c,li,ln,sq,u,pa,o,pl,Ef⟩).length<=1000:=by rw[<-aS,AJ];omega
  generalize hHH:Ha ⟨k,c,li,ln,sq,u,pa,o,pl,Ef⟩=H at *;have cL:=f.conv;have H6:=Dx (λw=>R0 H w U);have bU:((jr H).toNat:Int)=Kb H:=rfl;rw[bU]at H6;have H7:=Dx (MH (w.heap.size+1) _ H (Kb H) w4 f U cN (Nt H));generalize hC:Kb H=C at *;clear y f Q ab be X am g9 aS bU;generalize hSH:str H=SH at *;go_wp2_with fail
  refine cs (H6 _) ?_;go_wp2_with fail
  refine H7.mono ?_;rintro e w6 ⟨O6,rfl,M,bS⟩;obtain⟨eb,ed,ec,cz⟩:=Ei M;subst cz;have da:=M.conv;have cg:=Dx (ce.trans (bS.mono (by omega:w.heap.size<=w.heap.size+1)));clear M bS cL;have HY:=(Dw ao);rw[Dw bz]at HY;have cq:=Dx HY;clear HY ao bq bz bi;generalize hST:str (H++EU C)=ST at *;go_wp2;exact cq _ cg (Dw ci)
 ·go_wp2;exact⟨rfl,bq _ (F9.trans (aa.mono Ev)) cP⟩
end Go.Proofs.YtblomippkddgiaaGreatDoor
