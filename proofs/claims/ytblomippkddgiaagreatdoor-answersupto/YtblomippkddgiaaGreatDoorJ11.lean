import Derived.Test.YtblomippkddgiaaGreatDoorJ10
set_option maxRecDepth 100000
set_option maxHeartbeats 2000000
namespace Go.Proofs.YtblomippkddgiaaGreatDoor
open Go.Proofs.Tryz
open Go.RowKit
variable {E F F':D9}{l t:List UInt8}{xs:List Value}{B n o s size:Nat}{p:Pk}{e:TypeId}{O v:Value}{w w':World}
def ZM(l:Ac)(w:Aa)(e:Ending)(w':Aa):Prop:=Below w.heap.size w w'/\((Ih l=none/\e=EQ 7 0)\/∃p,Ih l=some p/\e=.returned (pv p))
theorem dK{r:Ac}(h:GZ l=some (p,r)):p.Ef.length<=255:=by
 unfold GZ at h;split at h
 ·split at h
  ·rename_i L t hc;cases h;simp only[Bv];have:=L.toNat_lt;omega
  ·cases h
 ·cases h
theorem uP(h:GZ l=none):Ih l=none:=by
 unfold Ih;rw[h]
theorem uQ{r:Ac}(h:GZ l=some (p,r))(f:¬EC p):Ih l=none:=by grind [Ih]
theorem uR{r:Ac}(h:GZ l=some (p,r))(f:Sp l r=none):Ih l=none:=by grind [Ih]
theorem uS{r:Ac}(h:GZ l=some (p,r))(f:Sp l r=some t)(g:t≠[]):Ih l=none:=by grind [Ih]
theorem uT{r:Ac}(h:GZ l=some (p,r))(f:EC p)(g:Sp l r=some []):Ih l=some p:=by grind [Ih]
theorem aau{r:Ac}(h:Sp l r=some t):t.length<=r.length:=by
 unfold Sp at h
 grind
abbrev rdW(w:Aa)(l:Ac):World:=(w.alloc (.cells zeroCells 41)).alloc (.cells #[.string (str l),Z 7] 127)
theorem adw(w:Aa)(l:Ac):Rd (rdW w l) (w.heap.size+1) l:=by
 unfold Rd;have:=AF (w.alloc (.cells zeroCells 41)) (.cells #[.string (str l),Z 7] 127);rw[show (w.alloc (.cells zeroCells 41)).heap.size=zz w+1 by simp]at this;exact this
theorem uI(w:Aa)(l:Ac):(rdW w l).heap[w.heap.size]?=some (.cells zeroCells 41 (0,0)):=by
 rw[AL _ _ _ Ev];exact AF w _
theorem nC(w:Aa)(l:Ac):DY w (rdW w l):=F9.alloc Ev _
theorem uM(l:Ac)(w:Aa)(hl:l.length<=9223372036854775807):ET 35 #[.string (str l)] w (ZM l w):=by
 have HF:=Dx (dJ (w.heap.size+1) l (rdW w l) (adw w l) hl);have b1:(rdW w l).heap.size=w.heap.size+2:=Ev;obtain⟨g,hpost⟩:∃g,g=ZM l w:=⟨_,rfl⟩;have D:Hid (∀w',DY w w'->Ih l=none->g (EQ 7 0) w'):=by
  exact xd
 have am:Hid (∀w' p,DY w w'->Ih l=some p->g (.returned (pv p)) w'):=by
  rw[hpost];exact λw' p hb hr=>⟨hb,Am ⟨p,hr,rfl⟩⟩
 obtain⟨HZ,M⟩:=FU (uI w l) (nC w l);rw[<-hpost];clear hpost;go_enter func35,ntmps35;go_wp2_with fail
 refine(Dw HF).mono ?_;rintro e w1 ⟨j,⟨hn,rfl⟩|⟨p,r,hp,rfl,X⟩⟩
 ·go_wp2;exact⟨rfl,(Dw D) _ ((Dw M).trans (j.DG.mono U)) (uP hn)⟩
 ·have b3:=j.size;have aa:=Dx ((Dw M).trans (j.DG.mono (by omega:w.heap.size<=w.heap.size+1)));obtain⟨an,ad,T,HP,ae⟩:=hd5 ((j.block _ U U).trans (Dw HZ)) (dK hp) (RJ hp) hp X;have aq:=X.lt;clear hp X j HF;have ah:=Dx (λw=>V8 p w);obtain⟨k,c,li,ln,sq,u,pa,o,pl,Ef⟩:=p;go_wp2_with fail
  refine((Dw ah) _).mono ?_;rintro e w3 ⟨f,⟨aw,rfl⟩|⟨aN,rfl⟩⟩
  ·have aS:=f.size;have Q:=Dx (((Dw aa).alloc U (.cells #[Z k,Z c,Z li,Z ln,Z sq,Z u,Z pa,Z o,.bool pl,.string (str Ef)] 41)).trans (f.mono Fy));have ao:=(f.block w1.heap.size Ev).trans (AF w1 _);have az:=(f.block w.heap.size Fy).trans ((AL w1 _ _ U).trans (Dw an));have ar:Rd w3 (w.heap.size+1) r:=by
    have h:=Dw ae;unfold Rd at h ⊢;rw[f.block _ Fy,AL _ _ _ aq];exact h
   have b2:r.length<=9223372036854775807:=by
    have:=CG List.length (Dw T);rw[AJ]at this;omega
   have y:=aas (w.heap.size+1) (Ha ⟨k,c,li,ln,sq,u,pa,o,pl,Ef⟩) r w3 ar (by have:=JZ ⟨k,c,li,ln,sq,u,pa,o,pl,Ef⟩;have h2:=Dw ad;simp only at this;omega) (by rw[<-Dw T];exact hl);rw[<-Dw T]at y;obtain⟨HS,ak⟩:=FU y aw;simp at aS;clear y ar f aw ah ae an HZ M;go_wp2_with fail
   refine(Dw HS).mono ?_;rintro e w4 ⟨m,⟨hs,rfl⟩|⟨t,hs,rfl,av⟩⟩
   ·go_wp2;exact⟨rfl,(Dw D) _ ((Dw Q).trans (m.DG.mono U)) (uR (Dw HP) hs)⟩
   ·have HE:=Dx (yT (w.heap.size+1) t w4 av (by have:=aau hs;omega));have ab:=Dx ((Dw Q).trans (m.DG.mono (by omega:w.heap.size<=w.heap.size+1)));have hk:=(m.block _ U U).trans ao;have hz:=(m.block _ U U).trans az;have al:=Dx hs;clear hs m av ao az HS Q;by_cases ht:t=[]
    ·subst ht;obtain⟨e0,e1,e2,e3,e4,e5,e6,e7,e8,e9⟩:=Yy hk;obtain⟨c0,c1,c2,c3,c4,c5,c6,c7,c8,c9⟩:=Yy hz;have cz:=Hf hz;clear hk hz;go_wp2_with fail
     refine(Dw HE).mono ?_;rintro e w5 ⟨rfl,rfl⟩;go_wp2;refine Bm (v:=pv ⟨k,c,li,ln,sq,u,pa,o,pl,Ef⟩) (by simp[results,results35,go_sem,c0,c1,c2,c3,c4,c5,c6,c7,c8,c9]) rfl ((Dw am) _ _ ?_ (uT (Dw HP) (Dw ak) (Dw al)));exact((((((((((Dw ab).setCell Ev _).setCell Ev _).setCell Ev _).setCell Ev _).setCell Ev _).setCell Ev _).setCell Ev _).setCell Ev _).setCell Ev _).setCell Ev _
    ·have ac:=HE;rw[Ao ht]at ac;clear HE hk hz;go_wp2_with fail
     refine(Dw ac).mono ?_;rintro e w5 ⟨rfl,rfl⟩;go_wp2;exact⟨rfl,(Dw D) _ (Dw ab) (uS (Dw HP) (Dw al) ht)⟩
  ·go_wp2;exact⟨rfl,(Dw D) _ (((Dw aa).alloc U _).trans (f.mono Fy)) (uQ (Dw HP) aN)⟩
theorem PU(n q:Nat)(w:Aa):(Instr.typeAssert (.iface 86 (Gk n q)) 20 86 true).run prog w=.ok (.tuple #[Gk n q,.bool true]) w:=EL
theorem Od(n q:Nat)(w:Aa):(Instr.field 86 (Gk n q) 0).run prog w=.ok (Z n) w:=EL
theorem PV{g:Aa}(h:Below B w g)(f:B<=s)(j x1 x2 x3 x4 m u x7 x8 x9:Ad):Below B w (km g s j x1 x2 x3 x4 m u x7 x8 x9):=
 (((((((((h.setCell (by exact f) _).setCell (by exact f) _).setCell (by exact f) _).setCell (by exact f) _).setCell (by exact f) _).setCell (by exact f) _).setCell (by exact f) _).setCell (by exact f) _).setCell (by exact f) _).setCell (by exact f) _
theorem lt_of_cell{k:Nat}(h:w.cell? (Y k o)=some v):k<w.heap.size:=by
 rcases CR k w.heap.size with f|f
 ·exact f
 ·simp[World.cell?,Array.getElem?_eq_none f]at h
theorem Io{xs:Array Value}{t:Ag}(h:w.heap[s]?=some (.cells xs t (0,0)))(x:Ad):(w.setCell (Y s o) x).heap[s]?=some (.cells (xs.setIfInBounds o x) t (0,0)):=by
 exact xw
theorem acY(h:w.heap[s]?=some (.cells zeroCells 41 (0,0)))(f x1 x2 x3 x4 g j x7 x8 x9:Ad):(km w s f x1 x2 x3 x4 g j x7 x8 x9).heap[s]?=some (.cells #[f,x1,x2,x3,x4,g,j,x7,x8,x9] 41 (0,0)):=by
 have m:=Io (o:=0) h f;have u:=Io (o:=1) m x1;have y:=Io (o:=2) u x2;have D:=Io (o:=3) y x3;have M:=Io (o:=4) D x4;have Q:=Io (o:=5) M g;have T:=Io (o:=6) Q j;have X:=Io (o:=7) T x7;have h8:=Io (o:=8) X x8;have h9:=Io (o:=9) h8 x9;refine h9.trans ?_;simp
theorem Px(n q:Nat)(w:Aa):
  D7 34 #[.iface 86 (Gk n q)] w (Gk n q) λw'=>DY w w':=by
 exact abA
theorem QX(a0 a1 B:Nat)(n q:Nat)(f:List PanicEntry)(w:Aa)(h:w.heap[a0]?=some (.cells zeroCells 41 (0,0)))(j:w.cell? (Y a1 0)=some (Z 0))(M:w.frozen? (Y a1 0)=false)(m:B<=a0)(u:B<=a1)(y:¬a0=a1):
  CallsD prog 33 #[.pointer (some (Y a0 0)),.pointer (some (Y a1 0))] (.panicking ({v:=.iface 86 (Gk n q),recovered:=false} :: f)) w λe u' w'=>
   e=.returned Ep/\u'=.panicking ({v:=.iface 86 (Gk n q),recovered:=true} :: f)/\w'.heap[a0]?=some (.cells zeroCells 41 (0,0))/\w'.cell? (Y a1 0)=some (Z n)/\Below B w w':=by
 refine callsD_of_wpS func33 rfl λc₀ cs hu=>?_
 apply wpS_seq;apply wpS_region;simp[wpOpsS,go_sem,recoverD,hu,ntmps33,Exit.thenS];rw[show (#[Value.pointer (some {block:=a0,off:=0}),Value.pointer (some {block:=a1,off:=0})]++((Array.replicate 8 undef).setIfInBounds 1 (Value.iface 86 (Gk n q))).setIfInBounds 0 (Value.iface 86 (Gk n q)))=#[.pointer (some {block:=a0,off:=0}),.pointer (some {block:=a1,off:=0}),.iface 86 (Gk n q),.iface 86 (Gk n q),undef,undef,undef,undef,undef,undef] from rfl];refine wpS_of_wp ?_;have aa:=Od n q;have l0:=Dv h;have l1:=Gv j;go_wp2_with fail
 refine cm (Px n q _) λD g=>?_
 have s1:=g.size;have hz:=(g.block _ l0).trans h;have g1:=(g.cell (p:=Y a1 0) l1).trans j;have y1:=(g.frozen (p:=Y a1 0) l1).trans M;obtain⟨m0,m1,e2⟩:a0<D.heap.size/\a1<D.heap.size/\¬a1=a0:=U;have c0:=EI hz 0;have c1:=EI hz 1;have c2:=EI hz 2;have c3:=EI hz 3;have c4:=EI hz 4;have c5:=EI hz 5;have c6:=EI hz 6;have c7:=EI hz 7;have c8:=EI hz 8;have c9:=EI hz 9;have cz:=Hf hz;have X:=Dx hz;clear h j M hz;go_wp2;have Q:=acY X (Z 0) (Z 0) (Z 0) (Z 0) (Z 0) (Z 0) (Z 0) (Z 0) (.bool false) (.string ⟨#[]⟩);have T:=PV (g.mono (by omega:B<=w.heap.size)) m (Z 0) (Z 0) (Z 0) (Z 0) (Z 0) (Z 0) (Z 0) (Z 0) (.bool false) (.string ⟨#[]⟩);show bodyPostS prog Tryz.f33 c₀ cs _ _ _ _ _;refine⟨rfl,_,rfl,_,results_none rfl _ _ _,rfl,rfl,?_,?_,T.setCell (by exact u) _⟩
 ·rw[AU _ _ _ _ (by simpa using y)];exact Q
 ·simp[go_sem,g1]
theorem Zt(f g:Addr)(w:Aa):
  CallsD prog 33 #[.pointer (some f),.pointer (some g)] .returning w λe h w'=>e=.returned Ep/\h=.returning/\w'=w:=by
 refine callsD_of_wpS func33 rfl λc₀ cs hu=>?_
 apply wpS_seq;apply wpS_region;simp[wpOpsS,go_sem,recoverD,hu,ntmps33,Exit.thenS];rw[show (#[Value.pointer (some f),Value.pointer (some g)]++((Array.replicate 8 undef).setIfInBounds 1 (Value.nilIface)).setIfInBounds 0 (Value.nilIface))=#[.pointer (some f),.pointer (some g),.nilIface,.nilIface,undef,undef,undef,undef,undef,undef] from rfl];exact adV
abbrev jV(w:Aa):World:=(w.alloc (.cells zeroCells 41)).alloc (.cells #[Z 0] 32)
def Us(l:Ac)(w:Aa)(e:Ending)(w':Aa):Prop:=Below w.heap.size w w'/\((Ih l=none/\e=.returned (.tuple #[NY,Z 7]))\/∃p,Ih l=some p/\e=.returned (.tuple #[pv p,Z 0]))
theorem Zy(hl:l.length<=9223372036854775807):ET 14 #[.string (str l)] w (Us l w):=by
 have aa:∀(fn:Fn) (first cap:Array Value) (w:Aa),(Instr.makeFunc fn first cap).run prog w=.ok (.func fn first cap) w:=λ_ _ _ _=>rfl
 have HH:=Dx (uM l (jV w) hl);have j:(jV w).heap[w.heap.size]?=some (.cells zeroCells 41 (0,0)):=by
  rw[AL _ _ _ Ev];exact AF w _
 have HZ:=Dx j;have ac:(jV w).heap.size=w.heap.size+2:=Ev;have X:=Dx (((AA w.heap.size w).alloc (Ar _) (.cells zeroCells 41)).alloc Ev (.cells #[Z 0] 32));clear j
 go_enter_defers func14,ntmps14
 go_wp2_with fail
 refine HH.mono ?_;rintro e m ⟨g,⟨hn,rfl⟩|⟨p,hp,rfl⟩⟩
 ·have hs:=g.size;have z0:=(g.block w.heap.size U).trans (Dw HZ);have c1:m.cell? ⟨w.heap.size+1,0,none⟩=some (Z 0):=(g.cell (p:=⟨w.heap.size+1,0,none⟩) Ev).trans Vb;have z1:m.frozen? ⟨w.heap.size+1,0,none⟩=false:=(g.frozen (p:=⟨w.heap.size+1,0,none⟩) Ev).trans Vb;have Q:=X.trans (g.mono U);have h:=Dx z0;clear z0;go_wp2;refine leaves_cons (f:=33) (args:=#[.pointer (some (EN w 0)),.pointer (some ⟨w.heap.size+1,0,none⟩)]) Ev Vb ?_;refine(QX w.heap.size (w.heap.size+1) w.heap.size 7 0 [] _ h c1 z1 (Ar _) U U).mono ?_;rintro e u' T ⟨rfl,rfl,f0,f1,fb⟩;obtain⟨c0,d1,c2,c3,c4,c5,c6,D,M,c9⟩:=Yy f0;simp[Leaves,settle,results,results14,go_sem,c0,d1,c2,c3,c4,c5,c6,D,M,c9,f1];exact⟨Q.trans fb,Aj ⟨hn,rfl⟩⟩
 ·have hs:=g.size;have hz:=(g.block w.heap.size U).trans (Dw HZ);have g1:m.cell? ⟨w.heap.size+1,0,none⟩=some (Z 0):=(g.cell (p:=⟨w.heap.size+1,0,none⟩) Ev).trans Vb;have z1:m.frozen? ⟨w.heap.size+1,0,none⟩=false:=(g.frozen (p:=⟨w.heap.size+1,0,none⟩) Ev).trans Vb;have y:=Dx (X.trans (g.mono (by omega:w.heap.size<=(jV w).heap.size)));obtain⟨c0,c1,c2,c3,c4,c5,c6,D,M,c9⟩:=Yy hz;have cz:=Hf hz;obtain⟨h,HP⟩:=FU hz hp;obtain⟨k,c,li,ln,sq,u,pa,o,pl,Ef⟩:=p;clear hz g hp HH;go_wp2;refine leaves_cons (f:=33) (args:=#[.pointer (some (EN w 0)),.pointer (some ⟨w.heap.size+1,0,none⟩)]) Ev Vb ?_;refine(Zt _ _ _).mono ?_;rintro e u' T ⟨rfl,rfl,rfl⟩;simp[Leaves,settle,results,results14,go_sem,c0,c1,c2,c3,c4,c5,c6,D,M,c9,g1];exact⟨(PV y (Ar _) _ _ _ _ _ _ _ _ _ _).setCell Ev _,Am ⟨_,HP,rfl⟩⟩
theorem Ei(h:w.ownsRow B e size v n xs):∃a k c,v=.slice a k c:=by
 rcases h.2 with ⟨j,_⟩|⟨g,cap,f,j,_⟩;all_goals grind
theorem ER(h:w.ownsRow B e size v n xs)(hb:DY w w'):w'.ownsRow B e size v n xs:=by
 exact aaC
theorem QB(l:Ac):∀u∈Ku l,u.oneCell'=true:=by
 intro u hu;unfold Ku at hu;obtain⟨c,_,rfl⟩:=Cy.1 hu;rfl
theorem iJ(a b:Ac):Ku (a++b)=Ku a++Ku b:=by
 unfold Ku;rw[C8]
def Own(w:Aa)(B:Nat)(O:Ad)(l:Ac):Prop:=w.ownsRow B 5 1 O l.length (Ku l)
theorem Own.push{a b:Ac}(h:w.ownsRow B 5 1 O (a.length+b.length) (Ku a++Ku b)):Own w B O (a++b):=by grind [Own,iJ]
theorem Own.conv{out:Ac}(h:Own w B O out):(convert 199 9 O).run prog w=.ok (.string (str out)) w:=by
 have hcl:=λg=>World.ownsRow.cells (g:=g) h
 exact afv
theorem VK(w:Aa)(cs:Ae):∀(j:Nat) (u:Ad),cs[j]?=some u->(w.alloc (.cells cs.toArray 5)).cell? (((EN w 0):Addr).add j)=some u:=by grind [Addr.add_lit,World.cell?_alloc_new]
theorem MH(B:Nat)(O:Ad)(out:Ac)(n:Int)(w:Aa)(how:Own w B O out)(hB:B<=w.heap.size)(aa:out.length<=1000)(hn:0<=n/\n<=65535):
  ET 186 #[O,Z n] w λe w'=>∃T,e=.returned T/\Own w' B T (out++EU n)/\Below B w w':=by
 have j:=λk=>Ba how k
 have⟨oa,ok,oc,hO⟩:=Ei how;subst hO;have h:=Dx (how.alloc (.cells (Ku (EU n)).toArray 5));have Q:=Dx (VK w (Ku (EU n)));have e1:(Ku (EU n)).toArray=#[.int .u8 (n / 256),.int .u8 (n % 256)]:=by
  unfold Ku EU;simp only[Cq,CU,FP (show 0<=n / 256 by omega) (show n / 256<=255 by omega),FP (show 0<=n % 256 by omega) (show n % 256<=255 by omega)]
 rw[e1]at Q h;clear how;have⟨i0,hi,y,D,M⟩:=A1 info5;have q1:IntKind.u16.wrap n=n:=by rw[wrap_u16];omega
 have q2:0<=n / 256/\n / 256<=255:=U;go_enter func186,ntmps186;go_wp2_with (at_builtin;refine AQ _ rfl (.tmp 8) (.tmp 14) 199 rfl B 5 i0 (.int .u8 0) 1 1 underlying199 hi y D M rfl Em _ out.length (Ku out) rfl (by exact h) (EN w 0) 2 2 (Ku (EU n)) rfl rfl (by exact Q) (by exact QB _) JG U Fy ?_)
 intro O1 w1 g f _ u;have⟨ab,ad,ac,m⟩:=Ei g;subst m;have HF:=Own.push g;have X:=Dx (((AA B w).alloc hB (.cells #[.int .u8 (n / 256),.int .u8 (n % 256)] 5)).grown f Fy (λk hk=>(j k hk).1));clear g f u j;go_wp2
 go_ret
 exact⟨_,rfl,HF,X⟩
theorem Vx(b:Bool)(w:Aa):D7 245 #[.bool b] w (.int .u8 (N3 b)) λw'=>w'=w:=by
 cases b
 ·go_enter func245,ntmps245;go_wp2
  go_ret
  exact⟨rfl,rfl⟩
 ·go_enter func245,ntmps245;go_wp2
  go_ret
  exact⟨rfl,rfl⟩
theorem FM{P:Program}{ops:Array Oper}{o:Oper}{a:Act}{K:Act->World->Prop}{Q:Exit->Act->World->Prop}{E:Prop}
  (hgd:o.guard=none) (sl x:Operand) (t:Ag) (ho:o.op=.call {callee:=.builtin .append,args:=#[sl,x],argTypes:=#[t,t]})
  (base:Nat) (e:Ag) (i:TypeInfo) (z:Ad) (size bytes:Nat) (ht:P.underlying t=some (.slice e)) (hi:P.info? e=some i) (hz:i.zero=some z)
  (hsize:i.size=size) (hby:i.bytes=bytes) (hzs:z.cells.size=size) (hsz:0<size)
  (v:Ad) (n:Nat) (xs:Ae) (hs:a.eval sl=v) (hown:w.ownsRow base e size v n xs)
  (ad:Addr) (m c:Nat) (news:Ae) (hx:a.eval x=.slice (some ad) m c) (hl:news.length=m*size) (hnews:∀j u,news[j]?=some u->w.cell? (ad.add j)=some u) (h1:∀u∈news,u.oneCell'=true)
  (h63:n+m<=maxLen) (hbytes:(n+m)*bytes<=140737488355328) (hbase:base<=w.heap.size)
  (h:∀v' w',w'.ownsRow base e size v' (n+m) (xs++news)->w.grownBy w' v.ownBlock->(v'.ownBlock=v.ownBlock\/v'.ownBlock=some w.heap.size)->K (a.put o.dst v') w'):
  if Region.wanted o (yielded ops a.tmps)=true then Oper.wp P o a w K Q else E:=by
 exact afu
def Gg(w:Aa)(F:D9)(V:Ad)(l:List R.It):Prop:=(l=[]/\V=.slice none 0 0)\/∃b off cap cur,l≠[]/\V=.slice (some (Y b off)) l.length cap/\l.length<=cap/\F b/\w.heap[b]?=some (.cells cur 106 (0,0))/\∀j x,l[j]?=some x->cur[off+j*2]?=some (Z x.1)/\cur[off+j*2+1]?=some (.string x.2)
theorem Gg.Gz{V:Ad}{l:List R.It}(h:Gg w F V l):Go.Proofs.YtblomippkddgiaaGreatDoor.V.Ff w V l:=by grind [Gg,Go.Proofs.YtblomippkddgiaaGreatDoor.V.Ff,World.cell?]
theorem Gg.nil(w:Aa)(F:D9):Gg w F (.slice none 0 0) []:=Aj ⟨rfl,rfl⟩
theorem Gg.keep{V:Ad}{l:List R.It}(h:Gg w F V l)(hk:DF E w w')(g:∀b f,F b->w.heap[b]?=some (.cells f 106 (0,0))->¬E b)(j:∀k,F k->F' k):Gg w' F' V l:=by grind [Gg,DF]
def OZ(w:Aa)(F:D9)(V:Ad)(l:List R.It):Prop:=(l=[]/\∃a,V=.slice a 0 0)\/Gg w F V l
theorem OZ.keep{V:Ad}{l:List R.It}(h:OZ w F V l)(hk:DF E w w')(g:∀b f,F b->w.heap[b]?=some (.cells f 106 (0,0))->¬E b)(j:∀k,F k->F' k):OZ w' F' V l:=by
 rcases h with h|h
 ·exact Aj h
 ·exact Am (h.keep hk g j)
end Go.Proofs.YtblomippkddgiaaGreatDoor
namespace Go.Proofs.YtblomippkddgiaaGreatDoor.V
open Go.Proofs.Tryz
open Go.RowKit
variable {hi lo:Int}{v:List It}{l:List UInt8}{c n:Nat}{O Ov:Value}{w w0:World}
theorem gf{f:Int}(hn:n<65536)(h:f=Ht lo hi n)(u:¬f<lo/\¬hi<f)(hv:v.length<=100000)
  (H:D7 114 #[.pointer (some (EN w0 0))] w (Z n) λm=>RS w0 m l O v/\Wk w0.heap.size O O w m):
  D7 285 #[.pointer (some (EN w0 0)),Z lo,Z hi] w (Z f) λm=>∃B,RS w0 m l B (v++[(f,⟨#[]⟩)])/\Wk w0.heap.size O B w m:=by
 have M:=Dx H;clear H;have⟨X,h4⟩:=u;have⟨i0,hi0,hz0,hz1,hz2⟩:=A1 LQ;have g:(lo<0/\hi<(n:Int)/\f=(n:Int)-65536)\/(lo<0/\¬hi<(n:Int)/\f=(n:Int))\/(¬lo<0/\f=(n:Int)):=by
  unfold Ht at h;split at h<;>omega
 clear h;rcases g with ⟨D,Q,rfl⟩|⟨D,Q,rfl⟩|⟨D,rfl⟩;all_goals
  go_enter func285,ntmps285;go_wp2_with fail
  refine cm M ?_;rintro w1 ⟨e,j⟩;have⟨oa,on,oc,y⟩:=Ei e.own;subst y;have hO:=e.rd.Gz;have how:=e.own;have T:=e.rd.lt;have⟨HRS,HWK⟩:=FU e j;clear e j
 ·go_wp2_with (at_builtin;refine AQ _ rfl (.tmp 37) (.tmp 40) 44 rfl (w0.heap.size+1) 106 i0 _ 2 24 underlying44 hi0 hz0 hz1 hz2 rfl Em _ v.length (flat v) rfl (by exact how.alloc _) (EN w1 0) 1 1 [Z ((n:Int)-65536),.string ⟨#[]⟩] rfl rfl (by exact Jd w1 ((n:Int)-65536,⟨#[]⟩)) (by exact KF ((n:Int)-65536,⟨#[]⟩)) JG U Fy ?_)
  intro O1 w2 hown hgrow _ hat;have⟨ta,tn,tc,hts⟩:=Ei hown;subst hts;have⟨hrd,hrs2,hwk2⟩:=Tc (x:=((n:Int)-65536,⟨#[]⟩)) HRS hown hgrow (by simpa using hat);have k1:=hrd.Gz;have k2:=hrd.thaw 2;have⟨HR2,HK2⟩:=FU hrs2 (HWK.trans hwk2);clear hown hgrow hat hrd hrs2 hwk2 how hO;go_wp2
  go_ret
  exact⟨rfl,_,HR2,HK2⟩
 ·exact afl
 ·exact afl
theorem UF(H:ET 114 #[.pointer (some (EN w0 0))] w λe f=>e=EQ 6 0/\DY w0 f):
  ET 286 #[.pointer (some (EN w0 0))] w λe f=>e=EQ 6 0/\DY w0 f:=by
 have g:=Dx H;clear H;go_enter func286,ntmps286;go_wp2_with fail
 refine cm g λj h=>?_
 go_wp2;exact⟨rfl,rfl,h⟩
theorem gI(hn:¬n<=14)
  (H:D7 114 #[.pointer (some (EN w0 0))] w (Z n) λf=>RS w0 f l O v/\Wk w0.heap.size O O w f):
  ET 286 #[.pointer (some (EN w0 0))] w λe f=>e=EQ 6 0/\DY w0 f:=by
 have HH:=Dx H;have g:(14:Int)<n:=U;clear H hn;go_enter func286,ntmps286;exact xh
theorem Z8(hn:n<=14)(B:¬n<=l.length)
  (H:D7 114 #[.pointer (some (EN w0 0))] w (Z n) λg=>RS w0 g l O v/\Wk w0.heap.size O O w g):
  ET 286 #[.pointer (some (EN w0 0))] w λe g=>e=EQ 6 0/\DY w0 g:=by
 have m:=Dx H;have y:¬(14:Int)<n:=U;clear H;go_enter func286,ntmps286;go_wp2_with fail
 refine cm m ?_;rintro D ⟨f,_⟩;have j:=f.DG;have u:=Dx (Qy w0.heap.size l O n D f.rd B);clear f;go_wp2_with fail
 refine cm u λM h=>?_
 go_wp2;exact⟨rfl,rfl,j.trans (h.mono j.size)⟩
theorem gH(hn:n<=14)(hs:n<=l.length)(hl:l.length<=500)(hv:v.length<=100000)(he:n % 2=0)
  (H:D7 114 #[.pointer (some (EN w0 0))] w (Z n) λQ=>RS w0 Q l O v/\Wk w0.heap.size O O w Q):
  D7 286 #[.pointer (some (EN w0 0))] w Ep λQ=>∃O',RS w0 Q (l.drop n) O' (v++[(0,str (l.take n))])/\Wk w0.heap.size O O' w Q:=by
 have HH:=Dx H;have al:¬(14:Int)<n:=U;have y:=Dx (λw=>M2 n w hn);rw[show (n % 2==1)=false by simp[he]]at y;have T:(l.take n).length<=1000:=by rw[Bv];omega
 have HC:=Dx (λw=>Kr (l.take n) w T);have⟨i0,X,ac,ad,ae⟩:=A1 LQ;clear H;go_enter func286,ntmps286;go_wp2_with fail
 refine(Dw HH).mono ?_;rintro e w1 ⟨rfl,u,M⟩;have HT:=Dx (ME w0.heap.size l O n w1 u.rd hs U);have⟨h,j⟩:=u.Sq (l.drop n);have⟨g,B⟩:=FU h (M.trans j);clear u M h j HH;generalize hSS:str (l.take n)=S at *;go_wp2_with fail
 refine(Dw HT).mono ?_;rintro e w2 ⟨rfl,rfl⟩;generalize w1.setCell {block:=w0.heap.size,off:=0} (.string (str (l.drop n)))=W2 at *;go_wp2_with fail
 refine((Dw HC) _).mono ?_;rintro e w3 ⟨rfl,m⟩;have f:=(Dw g).go m;have D:=Dx ((Dw B).trans (Wk.of_below m));clear m g B HT HC;go_wp2_with fail
 refine((Dw y) _).mono ?_;rintro e w4 ⟨rfl,rfl⟩;have⟨oa,on,oc,aa⟩:=Ei f.own;subst aa;have hO:=f.rd.Gz;have how:=f.own;have an:=f.rd.lt;have g:=Dx f;clear f;go_wp2_with (at_builtin;refine AQ _ rfl (.tmp 37) (.tmp 40) 44 rfl (w0.heap.size+1) 106 i0 _ 2 24 underlying44 X ac ad ae rfl Em _ v.length (flat v) rfl (by exact how.alloc _) (EN w4 0) 1 1 [Z 0,.string S] rfl rfl (by exact Jd w4 (0,S)) (by exact KF (0,S)) JG U Fy ?_)
 intro O1 w5 hown hgrow _ hat;have⟨ta,tn,tc,ab⟩:=Ei hown;subst ab;have⟨hrd,hrs2,hwk2⟩:=Tc (x:=(0,S)) (Dw g) hown hgrow (by simpa using hat);have k1:=hrd.Gz;have k2:=hrd.thaw 2;have⟨HR2,HK2⟩:=FU hrs2 ((Dw D).trans hwk2);exact ab6
theorem ot(hn:n<=14)(hs:n=l.length)(hl:l.length<=500)(he:n % 2=1)
  (H:D7 114 #[.pointer (some (EN w0 0))] w (Z n) λX=>RS w0 X l O v/\Wk w0.heap.size O O w X):
  ET 286 #[.pointer (some (EN w0 0))] w λe X=>e=EQ 6 0/\DY w0 X:=by
 have HH:=Dx H;have ak:¬(14:Int)<n:=U;have m:=Dx (λw=>M2 n w hn);rw[show (n % 2==1)=true by simp[he]]at m;have M:(l.take n).length<=1000:=by rw[Bv];omega
 have⟨HC,y,aa⟩:=Ll (λw=>Kr (l.take n) w M) hs hl;clear H hs hl he M;go_enter func286,ntmps286;go_wp2_with fail
 refine(Dw HH).mono ?_;rintro e w1 ⟨rfl,j,ad⟩;have HT:=Dx (ME w0.heap.size l O n w1 j.rd (by have:=Dw y;omega) (by have:=Dw aa;omega));have⟨h,T⟩:=j.Sq (l.drop n);have u:=Dx h;clear j ad h T HH;generalize hSS:str (l.take n)=S at *;go_wp2_with fail
 refine(Dw HT).mono ?_;rintro e w2 ⟨rfl,rfl⟩;generalize w1.setCell {block:=w0.heap.size,off:=0} (.string (str (l.drop n)))=W2 at *;go_wp2_with fail
 refine((Dw HC) _).mono ?_;rintro e w3 ⟨rfl,B⟩;have g:=(Dw u).go B;clear B u HT HC;go_wp2_with fail
 refine((Dw m) _).mono ?_;rintro e w4 ⟨rfl,rfl⟩;have Q:l.drop n=[]:=List.drop_of_length_le (by have:=Dw y;omega);have f:=g.rd;rw[Q]at f;have ab:=Dx (WR w0.heap.size O w4 f);have D:=g.DG;clear g f Q;go_wp2_with fail
 refine(Dw ab).mono ?_;rintro e w5 ⟨rfl,ac⟩;go_wp2;exact⟨rfl,rfl,D.trans (ac.mono D.size)⟩
theorem ow{r:Ac}{c:UInt8}(hn:n<=14)(hs:n<=l.length)(hd:l.drop n=c :: r)(hc:c≠0)(hl:l.length<=500)(he:n % 2=1)
  (H:D7 114 #[.pointer (some (EN w0 0))] w (Z n) λX=>RS w0 X l O v/\Wk w0.heap.size O O w X):
  ET 286 #[.pointer (some (EN w0 0))] w λe X=>e=EQ 6 0/\DY w0 X:=by
 have HH:=Dx H;have aq:¬(14:Int)<n:=U;have ar:((c.toNat:Int) != 0)=true:=by
  rw[bne_iff_ne];intro h;exact hc (UInt8.toNat_inj.1 (by simpa using h))
 have y:=Dx (λw=>M2 n w hn);rw[show (n % 2==1)=true by simp[he]]at y;have M:(l.take n).length<=1000:=by rw[Bv];omega
 have⟨HC,ab,u,HD⟩:=bE (λw=>Kr (l.take n) w M) hs hl hd;clear H hs hl he M hd hc;go_enter func286,ntmps286;go_wp2_with fail
 refine(Dw HH).mono ?_;rintro e w1 ⟨rfl,m,ah⟩;have HT:=Dx (ME w0.heap.size l O n w1 m.rd (Dw ab) (by have:=Dw u;omega));have⟨f,T⟩:=m.Sq (l.drop n);rw[Dw HD]at HT f;have B:=Dx f;clear m ah f T HH;generalize hSS:str (l.take n)=S at *;go_wp2_with fail
 refine(Dw HT).mono ?_;rintro e w2 ⟨rfl,rfl⟩;generalize w1.setCell {block:=w0.heap.size,off:=0} (.string (str (c :: r)))=W2 at *;go_wp2_with fail
 refine((Dw HC) _).mono ?_;rintro e w3 ⟨rfl,D⟩;have g:=(Dw B).go D;clear D B HT HC;go_wp2_with fail
 refine((Dw y) _).mono ?_;rintro e w4 ⟨rfl,rfl⟩;have Q:(c :: r).length<=500:=by
  rw[<-Dw HD,A9];have:=Dw u;omega
 have ad:=Dx (PW w0.heap.size c r O w4 g.rd (by simp only[A4]at Q;omega));have⟨j,_⟩:=g.Sq r;have ae:=j.DG;have aa:=Dx (JR w0.heap.size r O _ j.rd);clear g j Q;go_wp2_with fail
 refine(Dw ad).mono ?_;rintro e w5 ⟨rfl,rfl⟩;generalize w4.setCell {block:=w0.heap.size,off:=0} (.string (str r))=W5 at *;go_wp2_with fail
 refine(Dw aa).mono ?_;rintro e w6 ⟨rfl,rfl⟩;go_wp2;exact⟨rfl,rfl,ae⟩
theorem ou{r:Ac}(hn:n<=14)(hs:n<=l.length)(hd:l.drop n=0 :: r)(hl:l.length<=500)(hv:v.length<=100000)(he:n % 2=1)
  (H:D7 114 #[.pointer (some (EN w0 0))] w (Z n) λw'=>RS w0 w' l O v/\Wk w0.heap.size O O w w'):
  D7 286 #[.pointer (some (EN w0 0))] w Ep λw'=>∃O',RS w0 w' r O' (v++[(0,str (l.take n))])/\Wk w0.heap.size O O' w w':=by
 have HH:=Dx H;have aN:¬(14:Int)<n:=U;have Q:=Dx (λw=>M2 n w hn);rw[show (n % 2==1)=true by simp[he]]at Q;have ac:(l.take n).length<=1000:=by rw[Bv];omega
 have HC:=Dx (λw=>Kr (l.take n) w ac);have⟨i0,am,aq,ar,av⟩:=A1 LQ;have⟨ak,M,HD⟩:=Ll hs hl hd;clear H hs hl he ac hd;go_enter func286,ntmps286;go_wp2_with fail
 refine(Dw HH).mono ?_;rintro e w1 ⟨rfl,D,ae⟩;have HT:=Dx (ME w0.heap.size l O n w1 D.rd (Dw ak) (by have:=Dw M;omega));have⟨g,j⟩:=D.Sq (l.drop n);rw[Dw HD]at HT g j;have⟨X,ab⟩:=FU g (ae.trans j);clear D ae g j HH;generalize hSS:str (l.take n)=S at *;go_wp2_with fail
 refine(Dw HT).mono ?_;rintro e w2 ⟨rfl,rfl⟩;generalize w1.setCell {block:=w0.heap.size,off:=0} (.string (str (0 :: r)))=W2 at *;go_wp2_with fail
 refine((Dw HC) _).mono ?_;rintro e w3 ⟨rfl,B⟩;have h:=(Dw X).go B;have m:=Dx ((Dw ab).trans (Wk.of_below B));clear B X HT HC ab;go_wp2_with fail
 refine((Dw Q) _).mono ?_;rintro e w4 ⟨rfl,rfl⟩;have ad:(0 :: r).length<=500:=by
  rw[<-Dw HD,A9];have:=Dw M;omega
 have aa:=Dx (PW w0.heap.size 0 r O w4 h.rd (by simp only[A4]at ad;omega));rw[show (((0:UInt8).toNat:Nat):Int)=0 from rfl]at aa;have⟨u,y⟩:=h.Sq r;clear ad;have⟨T,ah⟩:=FU u ((Dw m).trans y);clear h u y m;go_wp2_with fail
 refine(Dw aa).mono ?_;rintro e w5 ⟨rfl,rfl⟩;generalize w4.setCell {block:=w0.heap.size,off:=0} (.string (str r))=W5 at *;have f:=Dw T;have⟨oa,on,oc,an⟩:=Ei f.own;subst an;have hO:=f.rd.Gz;have how:=f.own;have aS:=f.rd.lt;clear f;go_wp2_with (at_builtin;refine AQ _ rfl (.tmp 37) (.tmp 40) 44 rfl (w0.heap.size+1) 106 i0 _ 2 24 underlying44 am aq ar av rfl Em _ v.length (flat v) rfl (by exact how.alloc _) (EN W5 0) 1 1 [Z 0,.string S] rfl rfl (by exact Jd W5 (0,S)) (by exact KF (0,S)) JG U Fy ?_)
 intro O1 w6 hown hgrow _ hat;have⟨ta,tn,tc,ao⟩:=Ei hown;subst ao;have⟨hrd,hrs2,hwk2⟩:=Tc (x:=(0,S)) (Dw T) hown hgrow (by simpa using hat);have k1:=hrd.Gz;have k2:=hrd.thaw 2;have⟨HR2,HK2⟩:=FU hrs2 ((Dw ah).trans hwk2);exact ab6
abbrev OJ:=List UInt8×List It
def Fx(lo hi:Int)(x:OJ):Option (Int×OJ):=match x.1 with
 |a :: c :: r=>if Ht lo hi (E5 a c)<lo\/hi<Ht lo hi (E5 a c) then none else some (Ht lo hi (E5 a c),(r,x.2++[(Ht lo hi (E5 a c),⟨#[]⟩)]))
 |_=>none
def Il(x:OJ):Option OJ:=match x.1 with
 |a :: c :: r=>if E5 a c<=14/\E5 a c<=r.length then
   (if E5 a c % 2=0 then some (r.drop (E5 a c),x.2++[(0,str (r.take (E5 a c)))])
    else match r.drop (E5 a c) with
    |p :: r'=>if p=0 then some (r',x.2++[(0,str (r.take (E5 a c)))]) else none
    |[]=>none)
   else none
 |_=>none
def Jw(w0:Aa):GX OJ where
 tid:=311
 Vj:=285
 rW:=286
 er:=6
 ptr:=(EN w0 0)
 w0:=w0
 St:=λw c x O=>∃Ov,RS w0 w x.1 Ov x.2/\O=O9 w0 Ov/\x.1.length<=490/\x.2.length<=c
 num:=Fx
 IE:=Il
theorem Xu(h:RS w0 w l O v)(hn:¬2<=l.length):ET 114 #[.pointer (some (EN w0 0))] w λe f=>e=EQ 6 0/\DY w0 f:=by
 refine cm (aQ h.rd hn) λf g=>?_
 exact⟨rfl,h.DG.trans g⟩
theorem nZ(h:RS w0 w l Ov v)(hl:l.length<=490)(M:v.length<=c)(hc:c<=40000):
  ET 285 #[.pointer (some (EN w0 0)),Z lo,Z hi] w
   (xY 6 ((Jw w0).No (Fx lo hi (l,v)=none)) (λi g=>∃m,Fx lo hi (l,v)=some (i,m)/\(Jw w0).Lv (O9 w0 Ov) (c+1) m w g)):=by
 have f:Fx lo hi (l,v)=none->∀e g,e=EQ 6 0/\DY w0 g->xY 6 ((Jw w0).No (Fx lo hi (l,v)=none)) (λi g=>∃m,Fx lo hi (l,v)=some (i,m)/\(Jw w0).Lv (O9 w0 Ov) (c+1) m w g) e g:=by
  rintro u e g ⟨rfl,j⟩;exact Aj ⟨rfl,u,j⟩
 match l,h,hl,f with
 |[],h,_,f=>exact(Qp (Xu h Ev)).mono (f rfl)
 |[a],h,_,f=>exact(Qp (Xu h Ev)).mono (f rfl)
 |a :: b :: r,h,hl,f=>
  simp only[A4]at hl;have H:=aT h U;by_cases j:Ht lo hi (E5 a b)<lo\/hi<Ht lo hi (E5 a b)
  ·exact(Z2 (Xv a b) j H).mono (f (by simp only[Fx];rw[Ay j]))
  ·refine cm (gf (Xv a b) rfl ⟨λh=>j (Aj h),λh=>j (Am h)⟩ U H) ?_;rintro g ⟨D,y,B⟩;refine Am ⟨_,rfl,(r,v++[(Ht lo hi (E5 a b),⟨#[]⟩)]),by simp only[Fx];rw[Ao j],c+1,O9 w0 D,Ar _,⟨D,y,rfl,by simp only;omega,?_⟩,B.kept⟩
   grind
theorem oz(h:RS w0 w l Ov v)(hl:l.length<=490)(hv:v.length<=c)(hc:c<=40000):
  ET 286 #[.pointer (some (EN w0 0))] w
   (SE 6 ((Jw w0).No (Il (l,v)=none)) (λm=>∃u,Il (l,v)=some u/\(Jw w0).Lv (O9 w0 Ov) (c+1) u w m)):=by
 have f:Il (l,v)=none->∀e m,e=EQ 6 0/\DY w0 m->SE 6 ((Jw w0).No (Il (l,v)=none)) (λm=>∃u,Il (l,v)=some u/\(Jw w0).Lv (O9 w0 Ov) (c+1) u w m) e m:=by
  rintro Q e m ⟨rfl,hb⟩;exact Aj ⟨rfl,Q,hb⟩
 have Oh:∀y S,Il (l,v)=some (y,v++[(0,S)])->y.length<=490->∀e m,(e=.returned Ep/\∃D,RS w0 m y D (v++[(0,S)])/\Wk w0.heap.size Ov D w m)->SE 6 ((Jw w0).No (Il (l,v)=none)) (λm=>∃u,Il (l,v)=some u/\(Jw w0).Lv (O9 w0 Ov) (c+1) u w m) e m:=by
  rintro y S hr X e m ⟨rfl,D,aa,ab⟩;refine Am ⟨rfl,_,hr,c+1,O9 w0 D,Ar _,⟨D,aa,rfl,X,?_⟩,ab.kept⟩
  grind
 match l,h,hl,f,Oh with
 |[],h,_,f,_=>exact(UF (Xu h Ev)).mono (f rfl)
 |[a],h,_,f,_=>exact(UF (Xu h Ev)).mono (f rfl)
 |a :: b :: r,h,hl,f,Oh=>
  simp only[A4]at hl;have H:=aT h U;have j:Il (a :: b :: r,v)=if E5 a b<=14/\E5 a b<=r.length then
    (if E5 a b % 2=0 then some (r.drop (E5 a b),v++[(0,str (r.take (E5 a b)))])
     else match r.drop (E5 a b) with
     |p :: y=>if p=0 then some (y,v++[(0,str (r.take (E5 a b)))]) else none
     |[]=>none)
    else none:=rfl
  generalize E5 a b=n at H j;by_cases g:n<=14
  ·by_cases B:n<=r.length
   ·rw[Ay ⟨g,B⟩]at j;by_cases M:n % 2=0
    ·rw[Ay M]at j;exact(gH g B U U M H).mono (Oh _ _ j (by rw[A9];omega))
    ·rw[Ao M]at j;cases hd:r.drop n with
     |nil=>
      rw[hd]at j;have:r.length=n:=by grind [List.length_drop]
      exact(ot g this.symm U U H).mono (f j)
     |cons p y=>
      rw[hd]at j;simp only at j;by_cases T:p=0
      ·subst T;rw[Ay rfl]at j;refine(ou g B hd U U U H).mono (Oh _ _ j ?_)
       grind [List.length_drop]
      ·rw[Ao T]at j;exact(ow g B hd T U U H).mono (f j)
   ·exact(Z8 g B H).mono (f (by rw[j,Ao (λh=>B h.2)]))
  ·exact(gI g H).mono (f (by rw[j,Ao (λh=>g h.1)]))
theorem Uy(w0:Aa):PS (Jw w0) where
 DG:=by
  rintro w c x O ⟨Ov,h,_⟩;exact h.DG
 fresh:=by
  rintro w c x O ⟨Ov,h,rfl,_⟩ k (rfl|hk)
  ·exact⟨Ar _,h.rd.lt⟩
  ·have:=h.row hk;exact⟨by simp only[Jw];omega,this.2⟩
 go:=by
  rintro w c x O g ⟨Ov,h,r⟩ f;exact⟨Ov,h.go f,r⟩
 range:=by
  rintro lo hi ⟨l,v⟩ n j h;simp only[Jw,Fx]at h;split at h
  ·split at h
   ·cases h
   ·rename_i f;cases h;omega
  ·cases h
 Zi:=⟨λ_=>by kernel_rfl,λ_ _=>rfl⟩
 adj:=⟨λ_=>by kernel_rfl,λ_ _=>rfl⟩
 number:=by
  rintro w c ⟨l,v⟩ O lo hi ⟨Ov,h,rfl,hl,e⟩ hc _;exact nZ h hl e hc
 text:=by
  rintro w c ⟨l,v⟩ O ⟨Ov,h,rfl,hl,e⟩ hc;exact oz h hl e hc
end Go.Proofs.YtblomippkddgiaaGreatDoor.V
