import Derived.Test.YtblomippkddgiaaGreatDoorJ22
set_option maxRecDepth 100000
set_option maxHeartbeats 1000000
namespace Go.Proofs.YtblomippkddgiaaGreatDoor
open Go.Proofs.Tryz
open Go.RowKit
variable {S:ByteArray}{F:D9}{k D5:Int}{l:List R.En}{name:List UInt8}{TF:List Value}{b c cap cn cs_ i j m n nm s u x:Nat}{a:Option Addr}{p:Pl}{G:R.Wd}{K K' W:Value}{w w':World}
theorem zo:(prog.info? 213).map (λi=>(i.zero,i.size,i.bytes))=some (some (.agg #[Z 0,.nilIface,.slice none 0 0]),3,48):=EL
def KT(Dz:Int):TypeId:=if Dz=0 then 328 else if Dz=1 then 331 else 334
theorem lV(w:Aa)(Dz:Int)(hk:0<=Dz/\Dz<=2):D7 228 #[Z Dz] w (.iface (KT Dz) (ptr w.heap.size)) λw'=>Fp w' (λk=>k=w.heap.size) [] w.heap.size (.slice none 0 0) Dz (.iface (KT Dz) (ptr w.heap.size))/\DY w w'/\w.heap.size<w'.heap.size:=by
 have hc:Dz=0\/Dz=1\/Dz=2:=U;rcases hc with rfl|rfl|rfl
 ·have H:Hid (∀W,W=w.alloc (.cells #[.int .u16 0] 330)->Fp W (λk=>k=w.heap.size) [] w.heap.size (.slice none 0 0) 0 (.iface (KT 0) (ptr w.heap.size))/\DY w W/\w.heap.size<W.heap.size):=λW e=>by
   subst e;exact⟨.counter rfl (AF w _) rfl,F9,Ev⟩
  exact wS
 ·have H:Hid (∀W,W=w.alloc (.cells #[.slice none 0 0] 333)->Fp W (λk=>k=w.heap.size) [] w.heap.size (.slice none 0 0) 1 (.iface (KT 1) (ptr w.heap.size))/\DY w W/\w.heap.size<W.heap.size):=λW e=>by
   subst e;refine⟨.MZ rfl (AF w _) ⟨rfl,Aj ⟨rfl,rfl⟩⟩ (λj f=>by cases f),F9,Ev⟩
  exact wS
 ·have H:Hid (∀W,W=w.alloc (.cells #[.slice none 0 0,.slice none 0 0,.slice none 0 0] 337)->Fp W (λk=>k=w.heap.size) [] w.heap.size (.slice none 0 0) 2 (.iface (KT 2) (ptr w.heap.size))/\DY w W/\w.heap.size<W.heap.size):=λW e=>by
   subst e;exact⟨.P9 _ _ _ rfl (AF w _) rfl (Aj ⟨rfl,none,rfl⟩) (Aj ⟨rfl,none,rfl⟩) (Aj ⟨rfl,none,rfl⟩),F9,Ev⟩
  exact wS
structure Tg(w:Aa)(s:Nat)(cs:Ae)(K:Ad)(m:Nat)(TF:Ae)(Dz:Int)(K':Ad)(w':Aa):Prop where
 cell:w'.heap[s]?=some (.cells (cs.set 6 K').toArray 167 (0,0))
 row:w'.ownsRow 0 213 3 K' (m+1) (TF++[Z Dz,.iface (KT Dz) (ptr w.heap.size),.slice none 0 0])
 wk:Fp w' (λk=>k=w.heap.size) [] w.heap.size (.slice none 0 0) Dz (.iface (KT Dz) (ptr w.heap.size))
 at':K'.ownBlock=K.ownBlock\/∃j,K'.ownBlock=some j/\w.heap.size<j
 E0:DF (λk=>k=s\/K.ownBlock=some k) w w'
theorem kN{W V y:Aa}{cs:Ae}{Dz:Int}{j0:Nat}(h:w.heap[s]?=some (.cells cs.toArray 167 (0,0)))(f:w.ownsRow 0 213 3 K m TF)(hb:DY w W)(ae:Fp W (λk=>k=w.heap.size) [] w.heap.size (.slice none 0 0) Dz (.iface (KT Dz) (ptr w.heap.size)))(am:w.heap.size<W.heap.size)(T:DY W V)
  (Q:V.grownBy y K.ownBlock) (M:y.ownsRow 0 213 3 K' (m+1) (TF++[Z Dz,.iface (KT Dz) (ptr w.heap.size),.slice none 0 0])) (ak:K'.ownBlock=K.ownBlock\/K'.ownBlock=some j0) (hj:W.heap.size<=j0):y.heap[s]?=some (.cells cs.toArray 167 (0,0))/\Tg w s cs K m TF Dz K' (y.setCell (Y s 6) K'):=by
 have ad:=K5 f h Em;have ac:=(AB.1 h).1;have ab:s<V.heap.size:=Ai U T.size;have O:y.heap[s]?=some (.cells cs.toArray 167 (0,0)):=by
  rw[Q.block s ab (λe=>ad e.symm),T.block s U,hb.block s ac];exact h
 have D:K'.ownBlock≠some s:=by grind
 have aa:DF (λk=>k=s\/K.ownBlock=some k) W V:=DF.D6 T _;have B:DF (λk=>k=s\/K.ownBlock=some k) W (y.setCell (Y s 6) K'):=(aa.grown Q (λk hk=>Aj (Am hk))).setCell (p:=Y s 6) (Aj (Aj rfl)) _;refine⟨O,⟨Ek (cs:=cs) (off:=6) O K',Jl M (λg Q=>AU _ _ _ _ (λe=>D (by rw[Q];exact CG some e))),?_,?_,(DF.D6 hb _).trans B⟩⟩
 ·refine ae.keep B (λb ah t z X ht al hE=>?_) (λ_ q=>q);subst X;rcases hE with e|e
  ·omega
  ·have:=(Ba f _ e).2;omega
 grind
theorem uu(w:Aa)(Dz:Int)(T:Ag)(b:Nat)(j:Nat)(u:Ad)(h:([Z Dz,.iface T (ptr b),.slice none 0 0]:Ae)[j]?=some u):(w.alloc (.cells #[Z Dz,.iface T (ptr b),.slice none 0 0] 213)).cell? (((EN w 0):Addr).add j)=some u:=by grind [Addr.add_lit,World.cell?_alloc_new]
theorem aey:∀args w,(callFunc 228 args).run prog w=.ok (.enter 228 args) w:=λ_ _=>rfl
theorem kM{cs:Ae}{Dz:Int}(hk:0<=Dz/\Dz<=2)(h:w.heap[s]?=some (.cells cs.toArray 167 (0,0)))(h6:cs[6]?=some (.slice a m c))(Q:w.ownsRow 0 213 3 (.slice a m c) m TF)(hm:m<=300):
  D7 183 #[ptr s,Z Dz] w (Z ((m:Int)+1)) λw'=>∃K',Tg w s cs (.slice a m c) m TF Dz K' w':=by
 have HF:=Dx (λw=>lV w Dz hk);have HP:Hid (∀{W V B:Aa} {K':Ad} {j0:Nat},DY w W->Fp W (λk=>k=w.heap.size) [] w.heap.size (.slice none 0 0) Dz (.iface (KT Dz) (ptr w.heap.size))->w.heap.size<W.heap.size->DY W V->V.grownBy B (Value.slice a m c).ownBlock->B.ownsRow 0 213 3 K' (m+1) (TF++[Z Dz,.iface (KT Dz) (ptr w.heap.size),.slice none 0 0])->(K'.ownBlock=(Value.slice a m c).ownBlock\/K'.ownBlock=some j0)->W.heap.size<=j0->B.heap[s]?=some (.cells cs.toArray 167 (0,0))/\Tg w s cs (.slice a m c) m TF Dz K' (B.setCell (Y s 6) K')):=λa1 a2 a3 a4 a5 a6 a7 a8=>kN h Q a1 a2 a3 a4 a5 a6 a7 a8
 have c6:=ED h 6 _ (by simpa using h6);have z6:w.frozen? (Y s 6)=false:=Eb h;have hl:=Dv h;have HZ:Hid (∀B:World,B.heap[s]?=some (.cells cs.toArray 167 (0,0))->EB B s 6 (.slice a m c)/\B.frozen? (Y s 6)=false):=λB hw=>⟨ED hw 6 _ (by simpa using h6),Eb hw⟩
 have ae:=Dx Q;have⟨i0,hi,an,ao,aq⟩:=A1 zo;obtain⟨y,f⟩:∃y:Value->World->Prop,y=λK' w'=>Tg w s cs (.slice a m c) m TF Dz K' w':=⟨_,rfl⟩
 have HQ:Hid (∀K' w',Tg w s cs (.slice a m c) m TF Dz K' w'->y K' w'):=λK' w' q=>by rw[f];exact q
 have HR:Hid (∀e w',e=Ending.returned (Z ((m:Int)+1))/\(∃K',y K' w')->e=Ending.returned (Z ((m:Int)+1))/\∃K',Tg w s cs (.slice a m c) m TF Dz K' w'):=λe w' ⟨q1,K',q2⟩=>⟨q1,K',by rw[f]at q2;exact q2⟩
 clear f;refine Calls.mono ?_ (Dw HR);generalize KT Dz=FT at *;clear h Q h6 hk;go_enter func183,ntmps183;go_wp2_with fail
 go_region_law (first
  |(refine FG rfl 228 #[.tmp 11] #[3] rfl aey #[Z Dz] rfl _ (HF _) ?_;rintro e w1 ⟨rfl,ab,D,al⟩;have az:s<w1.heap.size:=Ai hl D.size;have X:=Dx (Mg D);have ah:=Dx ab;have aS:w1.frozen? (Y s 6)=false:=(D.frozen (p:=Y s 6) hl).trans z6;have aw:EB w1 s 6 (.slice a m c):=(D.cell (p:=Y s 6) hl).trans c6;clear D ab;refine⟨_,rfl,?_⟩)
  |(refine FM rfl (.tmp 9) (.tmp 14) 160 rfl 0 213 i0 (.agg #[Z 0,.nilIface,.slice none 0 0]) 3 48 underlying160 hi an ao aq rfl Em (.slice a m c) m TF rfl (by exact(ER ae X).alloc _) (EN w1 0) 1 1 [Z Dz,.iface FT (ptr w.heap.size),.slice none 0 0] rfl rfl (by exact uu w1 Dz FT w.heap.size) Vd JG U U ?_;intro v' B g M aa;have⟨va,vc,am⟩:=Fa g;subst am;have ak:=HP X ah al F9 M g aa Ev;have⟨T,O⟩:=ak;have ad:=Dx (HQ _ _ O);have d1:=(HZ B T).1;have z1:=(HZ B T).2;have aN:=Dv T;clear g M aa T O))
 all_goals
  go_wp2;go_returns;exact⟨rfl,_,ad⟩
theorem tP{s:Ac}(h:R.Gf s=true)(i:Nat)(hi:i<(str s).size):97<=(((str s)[i]'hi).toNat:Int)/\(((str s)[i]'hi).toNat:Int)<=122:=by
 unfold R.Gf at h;simp only[Dk,Db,CL]at h;have e:=K8 s i hi
 grind
theorem LU(s:Ac)(h:R.Gf s=true)(w:Aa):D7 181 #[.string (str s)] w (.bool true) λw'=>w'=w:=by
 have e:=Dx (tP h);have hz:=Er s;have hl:1<=(str s).size/\(str s).size<=8:=by
  unfold R.Gf at h;simp only[Dk,Db]at h;omega
 generalize str s=S at *;clear h hz;obtain⟨n,hn⟩:∃n,S.size=n:=⟨_,rfl⟩;rw[hn]at hl;go_enter func181,ntmps181;go_wp2;go_loopw [14] (λiv wr=>∃i:Nat,i<=n/\iv=Z i/\wr=w) (λiv _=>n-(intOf iv).toNat)
 case atStart=>exact⟨0,AV _,rfl,rfl⟩
 case round=>
  obtain⟨i,hi,rfl,rfl⟩:=hrel;by_cases f:i<n
  ·have g:=e i U;have⟨y,B⟩:=g;go_wp2;exact⟨⟨i+1,U,Kc,BR⟩,by simp[intOf];omega⟩
  ·obtain rfl:i=n:=U;go_wp2;go_returns;exact⟨rfl,rfl⟩
theorem af8:∀args w,(callFunc 184 args).run prog w=.ok (.enter 184 args) w:=λ_ _=>rfl
theorem YM{Q:Nat}{Dz u:Int}(A C:World->Prop)(hnm:R.Gf name=true)(hk:0<=Dz/\Dz<=2)(c5:EB w s 5 (.map (some nm)))(c6:EB w s 6 (.slice a m c))(X:m<255)(O:Q<6)
  (f:(Instr.lookup 159 (.map (some nm)) (.string (str name)) true).run prog w=.ok (.tuple #[Z 0,.bool false]) w)
  (h:(Builtin.len_ #[159] 3 #[.map (some nm)]).run prog w=.ok (Z Q) w)
  (D:Hid (D7 183 #[ptr s,Z Dz] w (Z u) λw'=>A w'))
  (T:Hid (∀w',A w'->EB w' s 5 (.map (some nm))))
  (HPUT:Hid (∀w1 w2,A w1->DY w1 w2->∃w3,(Instr.mapUpdate 159 (.map (some nm)) (.string (str name)) (Z u)).run prog w2=.ok () w3/\C w3)):
  D7 106 #[ptr s,.string (str name),Z Dz] w (.tuple #[Z u,Z 0]) λw'=>C w':=by
 have B:=Dx (λw=>LU name hnm w);have g:name.length<=1000:=by
  exact aaL
 have H71:=Dx (λw=>Kr name w g);have y:Hid (∀w,D7 124 #[Z Dz] w (.bool true) λw'=>w'=w):=λw=>by
  exact adU
 have e1:((Q:Int)==6)=false:=Fy;have e2:((m:Int)==255)=false:=Fy;generalize str name=SN at *;clear hnm X O g;go_enter func106,ntmps106;go_wp2_with (first|(go_at_call 181;refine cs (B _) ?_)|(go_at_call 124;refine cs (y _) ?_))
 refine cm D λw1 M=>?_
 have d0:=T w1 M;have hl1:=Gv d0;have HA1:=Dx M;clear M f h c5 c6;exact afs
def Hz(G:R.Wd)(name:Ac)(Dz:Int):R.Wd:={G with Eu:=G.Eu++[name],Ec:=G.Ec++[(G.Dy.length:Int)+1],Dy:=G.Dy++[⟨Dz,true,[]⟩]}
theorem YN(h:R.Wf G){Dz:Int}(hn:¬name∈G.Eu)(f:G.Eu.length<6)(Lp:G.Dy.length<255)(hk:0<=Dz/\Dz<=2):R.Wf (Hz G name Dz):=by
 refine⟨h.cf,h.N5,λi c hc=>?_,h.JC,h.JX,by simp[Hz];omega,λs g=>?_,by simp[Hz];omega,by simp[Hz,h.st],?_,λu hu=>?_⟩
 ·have e:=h.cl i c hc;refine⟨e.DV,e.DR,λu hu=>?_,e.DZ⟩;have:=e.Ee u hu;simp[Hz];omega
 all_goals grind [R.Wf,Hz]
theorem ij(hn:¬name∈G.Eu):Fu G name=none:=by grind [Fu,R.Gi,List.findIdx?_eq_none_iff]
theorem UT(f:G.Ec.length=G.Eu.length){Dz:Int}(hn:¬name∈G.Eu)(x:Ac):(x=name->Fu (Hz G name Dz) x=some ((G.Dy.length:Int)+1))/\(¬x=name->Fu (Hz G name Dz) x=Fu G x):=by
 unfold Fu R.Gi Hz;simp only[List.findIdx?_append];constructor
 ·rintro rfl;rw[Dm.2 (λy g=>by simp;exact λe=>hn (e ▸ g))];simp[List.findIdx?_cons,f]
 ·intro h;cases hf:G.Eu.findIdx? (·==x) with
  |some k=>grind [List.findIdx?_eq_some_iff_getElem]
  |none=>grind
theorem Fp.Fw(h:Fp w F l b K k W):F b:=by
 cases h<;>assumption
theorem Fp.wide{F':D9}(h:Fp w F l b K k W)(e:∀k,F k->F' k):Fp w F' l b K k W:=h.keep (DF.refl (λ_=>False) w) (λ_ _ _ _ _ _ _ q=>q) e
def tV(Dz:Int)(b:Nat):R.Sv×MV:=(⟨Dz,true,[]⟩,⟨.iface (KT Dz) (ptr b),.slice none 0 0,b,.slice none 0 0⟩)
theorem OB{α:Type}{l:List α}{x y:α}(h:(l++[x])[i]?=some y):l[i]?=some y\/(i=l.length/\y=x):=by grind
theorem G9.begun{t:SP}{c:R.Cf}{sv:List R.Sv}{DX:List Int}{DN:List R.Sn}{EF:List R.Jb}{Dz:Int}(h:G9 s n nm t F c sv DX DN EF w)(ao:∀k,F k->k<w.heap.size)(hb:Tg w s (IW n nm t c DX DN) t.K t.zs.length (tab Om t.zs) Dz K' w'):G9 s n nm {t with K:=K',zs:=t.zs++[tV Dz w.heap.size]} (λk=>F k\/k=w.heap.size\/K'.ownBlock=some k) c (sv++[⟨Dz,true,[]⟩]) DX DN EF w':=by
 have⟨f1,f2,f3⟩:=h.Fw;have⟨b1,b2,b3,b4,hk⟩:=hb;have aa:Pp w F (λk=>k=s\/t.K.ownBlock=some k):=λb ah t' z' _ ht f hE=>by
  rcases hE with rfl|e
  ·rw[h.bs]at f;cases f;cases ht
  ·rcases id h.Gw.2 with ⟨q,_⟩|⟨g,cap,O,q,_,hg,_⟩
   ·rw[q]at e;cases e
   ·rw[q]at e;cases e;rw[hg]at f;cases f;cases ht
 have Fj:∀{i:Nat} {z:R.Sv×MV},t.zs[i]?=some z->z.1.Fj=true->z.2.sb<w.heap.size:=λhz ha=>by
  have:=(h.each _ (Ap hz)).wk
  grind [Fp.Fw]
 refine⟨b1,?_,?_,λz hz=>?_,λi j z y hz M D k X=>?_,λi j z y hz M D Q T=>?_,λi r hr ac=>?_,h.inj,?_,Aj f1,Aj f2,λj B=>Am (Am B)⟩
 ·simp only[C8,h.zs];rfl
 ·simp only[AJ,CP,Jn];exact b2
 ·rcases Bj.1 hz with q|q
  ·exact(h.each z q).keep hk aa (λ_ r=>Aj r)
  ·rw[Bg.1 q];refine⟨?_,⟨[],rfl,⟨rfl,Aj ⟨rfl,rfl⟩⟩,λy M=>by cases M⟩,λj B=>by cases B⟩
   grind [tV,Fp.wide]
 ·rcases OB hz with q|⟨q,rfl⟩
  ·rcases OB M with r|⟨r,rfl⟩
   ·exact h.dns i j z y q r D k X
   ·intro e;cases e
  ·cases X
 ·rcases OB hz with q|⟨q,rfl⟩
  ·rcases OB M with r|⟨r,rfl⟩
   ·exact h.ye i j z y q r D Q T
   ·have:=Fj q Q;refine⟨λe=>?_,λk _ e=>by cases e⟩;simp only[tV]at e;omega
  ·rcases OB M with r|⟨r,rfl⟩
   ·have:=Fj r T;refine⟨λe=>?_,λk e=>by cases e⟩;simp only[tV]at e;omega
   ·omega
 ·have⟨y,h1,h2,h3⟩:=h.ln i r hr ac;refine⟨y,hk.at h1 ?_,h2,Aj h3⟩;rintro (e|e)
  ·exact ES h1 h.bs Em e
  ·exact K5 h.Gw h1 Em e
 ·have⟨a,b,B⟩:=h.EF;refine⟨a,b,hk.at B ?_⟩;rintro (e|e)
  ·rw[e,h.bs]at B;cases B
  ·rcases id h.Gw.2 with ⟨q,_⟩|⟨g,cap,O,q,_,hg,_⟩
   ·rw[q]at e;cases e
   ·rw[q]at e;cases e;rw[hg]at B;cases B
theorem LW.begun(h:LW p F G w){Dz:Int}(hk:0<=Dz/\Dz<=2)(Lp:G.Dy.length<255):
  D7 183 #[ptr p.s,Z Dz] w (Z ((G.Dy.length:Int)+1)) λw'=>∃t D,LW {p with t:=t} D {G with Dy:=G.Dy++[⟨Dz,true,[]⟩]} w'/\D8 F D w w':=by
 have hzl:p.t.zs.length=G.Dy.length:=by rw[<-h.Hd.zs,AX]
 have⟨a,c,g⟩:=Fa h.Hd.Gw;have M:=h.Hd.Gw;rw[g]at M;refine(kM hk h.Hd.bs (by rw[<-g];rfl) M U).mono ?_;rintro e w' ⟨rfl,K',f⟩;rw[<-g]at f;refine⟨by rw[hzl],{p.t with K:=K',zs:=p.t.zs++[tV Dz w.heap.size]},λk=>F k\/k=w.heap.size\/K'.ownBlock=some k,?_,?_⟩
 ·have Q:=h.Hd.begun h.lt f;have O:=(GD.one h.Hd.bs Em).or (GD.row h.Hd.Gw Em);refine h.OW Q f.E0 O (λ_ q=>Aj q) (λk y=>?_) ?_ h.GQ (λi c hc u=>?_)
  ·have B:=f.E0.size;rcases y with q|q|q
   ·exact Ai (h.lt k q) B
   ·have:=f.wk;subst q;cases this with
    |counter _ h2 _=>exact(AB.1 h2).1
    |MZ _ h2 _ _=>exact(AB.1 h2).1
    |P9 _ _ _ _ h2 _ _ _ _=>exact(AB.1 h2).1
   ·exact(Ba f.row k q).2
  ·refine h.wf.serve hk Lp h.wf.nm h.wf.st h.wf.nd (λu hu=>?_);have:=h.wf.Pn u hu;omega
  ·unfold GY;by_cases hu:u∈c.Ee
   ·rw[Ay hu,Ay hu];have:=(h.wf.cl i c hc).Ee u hu;unfold GU;simp only;rw[A6 U]
   ·rw[Ao hu,Ao hu]
 ·refine⟨f.E0.mono (λk _ q=>?_),λk q=>?_⟩
  ·rcases q with rfl|q
   ·exact h.Hd.Fw.1
   ·exact h.Hd.Fw.2.2 k q
  ·rcases q with q|q|q
   ·exact Aj q
   ·exact Am U
   ·rcases f.at' with e|⟨j,e,T⟩
    ·exact Aj (h.Hd.Fw.2.2 k (e ▸ q))
    ·rw[e]at q;cases q;exact Am U
theorem LW.Um(h:LW p F G w){N:List (List UInt8)}{S:List Int}(hk:DF (λk=>k=p.nm) w w')(hm:Mp w' 9 p.nm Si (Fu {G with Eu:=N,Ec:=S}) N.length)(aa:R.Wf {G with Eu:=N,Ec:=S}):LW p F {G with Eu:=N,Ec:=S} w'/\D8 F F w w':=by
 have⟨hx,hn,ad,T⟩:=h.Fw;have⟨es,q,X⟩:=h.Eu.block;have B:Ip w F (λk=>k=p.nm):=Ip.iw (λb M=>Am ⟨es,q,by subst M;exact X⟩);have D:=λ(i:Nat) (c:R.Cl) (hc:G.DI[i]?=some c)=>(GG hc)
 have at':∀{b:Nat} {ys:Array Value} {t:Ag} {f:Nat×Nat},w.heap[b]?=some (.cells ys t f)->w'.heap[b]?=some (.cells ys t f):=λM=>hk.at M (On M X)
 refine⟨⟨aa,h.GQ,at' h.bx,?_,?_,h.Hd.keep hk B (λ_ r=>r),hm,λi c hc=>at' (h.cl i c hc),λi c hc=>?_,λi c hc=>(h.Ee i c hc).keep hk (h.Gs i (D i c hc)).2.2.2,h.Fw,h.Gs,h.inj,λk hf=>Ai (h.lt k hf) hk.size⟩,hk.mono (λk _ e=>by rw[e];exact T),λ_ r=>Aj r⟩
 ·have⟨O,y,g⟩:=h.bcs;exact⟨O,at' y,g⟩
 ·have⟨K,y,g,Q⟩:=h.bn;exact⟨K,at' y,hk.row g (λj hj e=>MA g X (e ▸ hj)),Q⟩
 ·have⟨xs,y,g,Q⟩:=h.ln i c hc;exact⟨xs,at' y,g,Q.KC hk B.sv (λ_ r=>r)⟩
theorem LW.rQ(h:LW p F G w){name:Ac}{Dz:Int}(hnm:R.Gf name=true)(hk:0<=Dz/\Dz<=2)(hn:¬name∈G.Eu)(T:G.Eu.length<6)(Lp:G.Dy.length<255):
  D7 106 #[ptr p.s,.string (str name),Z Dz] w (.tuple #[Z ((G.Dy.length:Int)+1),Z 0]) λw'=>∃t f,LW {p with t:=t} f (Hz G name Dz) w'/\D8 F f w w':=by
 have⟨a,c,hK⟩:=Fa h.Hd.Gw;have aa:name.length<=8:=by
  exact aaL
 have hzl:p.t.zs.length=G.Dy.length:=by rw[<-h.Hd.zs,AX]
 have B:=ij hn;have e:=M6 h.Eu (s:=name) JG;rw[B]at e;have Q:=YN h.wf (name:=name) (Dz:=Dz) hn T Lp hk;refine YM (λw'=>∃t f,LW {p with t:=t} f {G with Dy:=G.Dy++[⟨Dz,true,[]⟩]} w'/\D8 F f w w') _ hnm hk (EI h.Hd.bs 5) (ED h.Hd.bs 6 _ (by rw[<-hK];rfl)) U T e (h.Eu.len underlying159 3) (h.begun hk Lp) ?_ ?_
 ·rintro w' ⟨t,f,D,_⟩;exact EI D.Hd.bs 5
 ·rintro w1 w2 ⟨t,f,D,hW⟩ X;have g:=D.DG X;have⟨w3,y,hm,O⟩:=j6 g.Eu (by simp only;omega) (s:=name) JG (v:=(G.Dy.length:Int)+1) U (Fu (Hz G name Dz)) (UT h.wf.st hn);refine⟨w3,y,t,f,?_⟩;have M:Fu {G with Dy:=G.Dy++[⟨Dz,true,[]⟩]} name=none:=B;rw[M]at hm;have q:=g.Um (N:=G.Eu++[name]) (S:=G.Ec++[(G.Dy.length:Int)+1]) (LC O) (by simpa [Hz] using hm) Q;exact⟨q.1,(hW.trans (D8.D6 f X)).trans q.2⟩
def Kv(D5:Int)(r:R.Sn):R.Sn:=if r.D5=D5/\r.DK<3 then {r with DK:=4} else r
theorem iM(D5:Int)(r:R.Sn):Kv D5 (Kv D5 r)=Kv D5 r:=by grind [Kv]
def RL(D5:Int)(l:List Nat)(s:List R.Sn):List R.Sn:=l.foldl (λs i=>s.modify i (Kv D5)) s
theorem QT(D5:Int):∀(l:List Nat) (s:List R.Sn) (i:Nat),(RL D5 l s)[i]?=if i∈l then (s[i]?).map (Kv D5) else s[i]?
 |[],s,i=>by simp[RL]
 |j :: l,s,i=>by
  show (RL D5 l (s.modify j (Kv D5)))[i]?=_;rw[QT D5 l _ i,Df];by_cases h:j=i
  ·subst h;cases s[j]? with
   |none=>simp
   |some r=>simp[iM]
  ·have f:¬i=j:=λe=>h e.symm
   cases s[i]? with
   |none=>simp
   |some r=>simp[h,f]
theorem Ul{α:Type}{l:List α}{r:α}{f:α->α}(h:l[i]?=some r):l.modify i f=l.set i (f r):=by
 apply BF;intro j
 grind
theorem vD{α:Type}{l:List α}{r:α}(h:l[i]?=some r):l.set i r=l:=by
 apply BF;intro j
 grind
theorem lU{DN:List R.Sn}(e:D5≠0)(hl:DN.length=9)(hz:∀(i:Nat) (r:R.Sn),DN[i]?=some r->r.D4=0->r=R.Ic):RL D5 (idx DN) DN=DN.map (Kv D5):=by
 apply BF;intro i
 grind [QT,idx,Vk,Kv,R.Ic]
theorem yI(h:R.Wf G){s:R.Sv}(f:G.Dy[u]?=some s)(DN:List R.Sn):R.Wf (Hu G (G.Dy.set u {s with Fj:=false}) G.DX DN G.EF):=by
 refine⟨h.cf,h.N5,λi c hc=>⟨(h.cl i c hc).DV,(h.cl i c hc).DR,λx e=>?_,(h.cl i c hc).DZ⟩,h.JC,h.JX,by simpa using h.sv,λy g=>?_,h.nm,h.st,h.nd,λx e=>?_⟩
 ·have:=(h.cl i c hc).Ee x e;simpa using this
 all_goals grind [R.Wf]
theorem lI{S:List R.Sv}{s:R.Sv}(e:S[u]?=some s)(k:Nat):((S.set u {s with Fj:=false})[k]?).map (·.Dz)=(S[k]?).map (·.Dz):=by grind
theorem dy{s:R.Sv}(e:G.Dy[u]?=some s)(DN:List R.Sn)(c:R.Cl)(x:Int):GY (Hu G (G.Dy.set u {s with Fj:=false}) G.DX DN G.EF) c x=GY G c x:=by
 unfold GY GU;show (if x∈c.Ee then some ((((G.Dy.set u {s with Fj:=false})[(x-1).toNat]?).map (·.Dz)).getD 0) else none)=_;rw[lI e]
theorem yS{s:R.Sv}(f:G.Dy[u]?=some s):R.GR G ((u:Int)+1)=Hu G (G.Dy.set u {s with Fj:=false}) G.DX (G.DN.map (Kv ((u:Int)+1))) G.EF:=by
 have e:((u:Int)+1-1).toNat=u:=U;unfold R.GR Hu;rw[e,Ul f];rfl
theorem LW.ends(h:LW p F G w){s:R.Sv}(hs:G.Dy[u]?=some s):
  D7 182 #[ptr p.s,Z ((u:Int)+1)] w Ep λw'=>∃t,LW {p with t:=t} F (R.GR G ((u:Int)+1)) w'/\D8 F F w w':=by
 have⟨z,hz,b4⟩:=Rv h.Hd.zs hs;have⟨g,cap,be,hK,hg,av,_,k1,_,ah,al,aS,aV⟩:=h.Hd.PG hz;have hd:=h.Hd.dead hz hK hg ah al aS aV;try dsimp only[EB,Kk,DY]at *
 rw[b4]at hd;have X:DF (λk=>k=g) w (w.setCell (Y g (u*3+1)) .nilIface):=Eg _;have hL:=h.OW hd X (GD.one hg Em) (λ_ q=>q) (λk hk=>Ai (h.lt k hk) X.size) (yI h.wf hs G.DN) h.GQ (λi c _ x=>dy hs G.DN c x);have hW:D8 F F w (w.setCell (Y g (u*3+1)) .nilIface):=⟨X.mono (λk _ e=>by rw[e];exact av),λ_ q=>Aj q⟩;have b1:=GG hz;have hzl:p.t.zs.length=G.Dy.length:=by rw[<-h.Hd.zs,AX]
 have Lp:=h.wf.sv;have ak:=jH G.DN;try dsimp only[EB,Kk,DY]at *
 rw[yS hs,<-lU (D5:=(u:Int)+1) U h.GQ.sl (λi r hr h0=>(h.GQ.sn i r hr).zero h0)];generalize hG1:G.Dy.set u {s with Fj:=false}=S1 at hL;generalize ht1:({p.t with zs:=p.t.zs.set u (VN z)}:SP)=t1 at hL;have bp:t1.ql=p.t.ql:=by rw[<-ht1]
 refine(rI w p.s g u p.t.zs.length cap (idx G.DN).length (λk=>t1.ql ((idx G.DN).getD k 0)) z.2.wk (λO k wr=>LW {p with t:=t1} F (Hu G S1 G.DX (RL ((u:Int)+1) ((idx G.DN).take k) G.DN) G.EF) wr/\D8 F F w wr/\wr.ownsRow w.heap.size 143 1 O (idx G.DN).length ((idx G.DN).map λi=>ptr (t1.ql i))/\∀j,O.ownBlock=some j->¬F j) ak U b1 (ED h.Hd.bs 6 _ (by rw[<-hK];rfl)) k1 (Eb hg) ?_ ?_ ?_).mono ?_
 ·refine hL.Hd.rem.mono ?_;rintro e w1 ⟨O,rfl,f,hb⟩;have e1:=UB t1 G.DN;try dsimp only[EB,Kk,DY]at *
  rw[show M9 (qf ({p with t:=t1}:Pl).t (Hu G S1 G.DX G.DN G.EF).DN) 9=_ from e1,AX]at f;have an:(w.setCell (Y g (u*3+1)) .nilIface).heap.size=w.heap.size:=Ev;try dsimp only[EB,Kk,DY]at *
  rw[an]at f;refine⟨O,rfl,hL.DG hb,hW.trans (D8.D6 F hb),f,λj hj hF=>?_⟩;have h1:=((Ba f) j hj).1;have h2:=h.lt j hF;omega
 ·rintro O k wr ⟨_,_,f,_⟩;exact Fa f
 ·rintro O k wr hk ⟨hw,b3,f,ae⟩;have M:=Ah hk;have az:(idx G.DN).getD k 0=(idx G.DN)[k]:=by rw[Bu,M];rfl
  try dsimp only[EB,Kk,DY]at *
  rw[az];generalize hi:(idx G.DN)[k]=i at M;have T:=Ap M;have bj:=(Dn.1 T).2;have hi9:i<9:=by simpa using (Dn.1 T).1
  have hr:G.DN[i]?=some (R.EZ G i):=by
   exact acb
  generalize hrr:R.EZ G i=r at hr;have D:r.D4≠0:=by grind [Vk]
  have am:i ∉ (idx G.DN).take k:=λhm=>by
   grind [List.mem_iff_getElem?,List.getElem?_inj,VU]
  have ab:(RL ((u:Int)+1) ((idx G.DN).take k) G.DN)[i]?=some r:=by rw[QT,Ao am];exact hr
  have aa:RL ((u:Int)+1) ((idx G.DN).take (k+1)) G.DN=(RL ((u:Int)+1) ((idx G.DN).take k) G.DN).set i (Kv ((u:Int)+1) r):=by
   try dsimp only[EB,Kk,DY]at *
   rw[<-Ul ab];exact PE (λs i=>List.modify s i (Kv ((u:Int)+1))) G.DN (idx G.DN) k i M
  try dsimp only[EB,Kk,DY]at *
  rw[aa];have⟨y,hq,_⟩:=hw.q ab D;have⟨_,_,_,_,c4,c5,_,_,_,_,_⟩:=X8 hq.blk;have Q:=hw.GQ.sn i _ ab;have bq:=(Q.some D).2.2;have hrel:=hq.rel;have e4:=hrel.D5;have e5:=hrel.DK;rcases id f.2 with ⟨_,h0⟩|⟨g',ad,b5,rfl,_,bi,_,_,b9,ba⟩
  ·omega
  ·refine⟨g',ad,rfl,?_,y.D5,y.DK,c4,c5,λhx=>?_,λhx=>?_⟩
   ·have:((idx G.DN).map λi=>ptr (t1.ql i))[k]?=some (ptr (t1.ql i)):=by rw[BP,M];rfl
    grind [World.cell?]
   ·refine cm (xP wr _ y hq.blk) ?_;rintro w' ⟨aw,aN⟩;have ao:(Kv ((u:Int)+1) r).DK=4:=by grind [Kv]
    have B:(Kv ((u:Int)+1) r).D4=r.D4/\(Kv ((u:Int)+1) r).D5=r.D5/\(Kv ((u:Int)+1) r).E1=r.E1:=by grind [Kv]
    have ac:r.E1=false:=by
     cases e:r.E1 with
     |false=>rfl
     |true=>
      have:=(Q.E1 e).1;omega
    try dsimp only[EB,Kk,DY]at *
    have⟨q1,_,q2⟩:=hw.Oy (r':=Kv ((u:Int)+1) r) (y':=xO y) hq (by rw[B.1];exact D) aN aw ⟨hrel.DJ,hrel.DR,hrel.DZ,by rw[B.1];exact hrel.D4,by rw[B.2.1];exact hrel.D5,by rw[ao];rfl,λq=>by omega,λq=>by omega,by rw[B.2.2,ac];rfl,λq=>by rw[B.2.2,ac]at q;cases q⟩ ⟨λq=>absurd (by rw[<-B.1];exact q) D,by rw[B.1];exact Q.D4,λ_=>by rw[B.2.1,ao];exact⟨(Q.some D).1,(Q.some D).2.1,U⟩,λq=>by omega,λq=>by omega,λq=>by omega,λq=>by rw[B.2.2,ac]at q;cases q⟩;refine⟨rfl,q1,b3.trans q2,q2.E0.row f (λj hj=>ae j hj),ae⟩
   grind [Kv,vD]
 grind
theorem yH(l:List Int)(u:Int):dd (l++[u])=if u∈dd l then dd l else dd l++[u]:=by grind [dd]
theorem aF{P:List Int->Prop}(e:P [])(f:∀l a,P l->P (l++[a]))(l:List Int):P l:=by
 have h:∀r:List Int,P r.reverse:=λr=>by
  induction r with
  |nil=>exact e
  |cons a r ih=>rw[List.reverse_cons];exact f _ _ ih
 simpa using h l.reverse
theorem rf(l:List Int):∀u,u∈dd l↔u∈l:=by
 refine aF (P:=λl=>∀u,u∈dd l↔u∈l) ?_ ?_ l;all_goals grind [dd]
theorem rh{l:List Int}:(dd l).Nodup:=by
 refine aF (P:=λl=>(dd l).Nodup) ?_ ?_ l;all_goals grind [dd]
theorem aeG:∀(N:Nat) (l:List Int),l.Nodup->(∀u∈l,1<=u/\u<=(N:Int))->l.length<=N
 |0,[],_,_=>Ar _
 |0,u :: l,_,h=>by have:=h u Ev;omega
 |N+1,l,hd,h=>by
  have g:=aeG N (l.erase ((N:Int)+1)) (hd.erase _) (λu hu=>by
   have f:=List.mem_of_mem_erase hu;have y:u≠(N:Int)+1:=λe=>by subst e;exact hd.not_mem_erase hu
   have:=h u f;omega)
  have:=List.length_erase_le (a:=(N:Int)+1) (l:=l);by_cases f:((N:Int)+1)∈l
  ·rw[List.length_erase_of_mem f]at g;omega
  ·rw[List.erase_of_not_mem f]at g;omega
theorem acU{l:List Int}{N:Nat}(h:∀u∈l,1<=u/\u<=(N:Int)):(dd l).length<=N:=aeG N (dd l) (rh) (λu hu=>h u ((rf l u).1 hu))
theorem lQ{g k:Nat}{Dz:Int}(c5:w.cell? (Y s 5)=some (.map (some nm)))(c6:w.cell? (Y s 6)=some (EJ g m c))(hk:k<m)(y:m<=255)(h:w.cell? (Y g (k*3))=some (Z Dz))
  (f:(Instr.lookup 159 (.map (some nm)) (.string S) true).run prog w=.ok (.tuple #[Z ((k:Int)+1),.bool true]) w):
  D7 107 #[ptr s,.string S] w (.tuple #[Z ((k:Int)+1),Z Dz,Z 0]) λw'=>DY w w':=by
 have e:=Dx (Nc w.drew s g k m c c6 hk y);clear c6;go_enter func107,ntmps107;go_wp2;go_region_held3 (λw'=>w'.cell? (Y g (k*3))=some (Z Dz)) (go_keep) ((go_at_call 132;refine cs e ?_))
 go_wp2;go_returns;exact⟨rfl,(AA _ _).drew⟩
theorem yY(c5:EB w s 5 (.map (some nm)))
  (e:(Instr.lookup 159 (.map (some nm)) (.string S) true).run prog w=.ok (.tuple #[Z 0,.bool false]) w):
  D7 107 #[ptr s,.string S] w (.tuple #[Z 0,Z 0,Z 10]) λw'=>w'=w:=by
 go_enter func107,ntmps107;go_wp2;go_returns;exact⟨rfl,rfl⟩
theorem Y2{cb bm:Nat}{Dz:Int}(C:World->Prop)(O:w.heap[x]?=some (.cells #[ptr n,ptr s,EJ cs_ cn cap] 84 (0,0)))(hi:i<cn)(f:EB w cs_ i (ptr cb))(e:EB w cb 2 (.map (some bm)))
  (B:Hid (D7 107 #[ptr s,.string S] w (.tuple #[Z D5,Z Dz,Z 0]) λw'=>DY w w'))
  (g:Hid (∀y,DY w y->∃D,(Instr.mapUpdate 131 (.map (some bm)) (Z D5) (Z Dz)).run prog y=.ok () D/\C D)):
  D7 62 #[ptr x,Z i,.string S] w (.tuple #[Z D5,Z Dz,Z 0]) λw'=>C w':=by
 have T:0<=(i:Int):=U;have X:(i:Int)<cn:=U;obtain⟨c1,c2⟩:=VL O 1 2;obtain⟨l1,l2,l3⟩:=Va c1 f e;clear O;go_enter func62,ntmps62;go_wp2_with (first|(go_at_call 38;go_in))
 refine cm B λy h=>?_
 have d2:=(h.cell (p:=Y x 2) l1).trans c2;have d3:=(h.cell (p:=Y cs_ i) l2).trans f;have d4:=(h.cell (p:=Y cb 2) l3).trans e;obtain⟨D,M,hC⟩:=g y h;have Q:=Dx hC;clear h hC c1 c2 f e;go_wp2_with (first|(go_at_call 108;go_in))
 go_returns;exact⟨rfl,Q⟩
theorem YK{Dz er:Int}(C:World->Prop)(f:w.heap[x]?=some (.cells #[ptr n,ptr s,EJ cs_ cn cap] 84 (0,0)))(e:Hid (D7 106 #[ptr s,.string S,Z Dz] w (.tuple #[Z D5,Z er]) λw'=>C w')):
  D7 60 #[ptr x,.string S,Z Dz] w (.tuple #[Z D5,Z er]) λw'=>C w':=by
 have c1:=EI f 1;clear f;go_enter func60,ntmps60;go_wp2_with fail
 refine cm e λg hC=>?_
 go_wp2;go_returns;exact⟨rfl,hC⟩
theorem VW{i:Int}{er:Int}(g:w.heap[x]?=some (.cells #[ptr n,ptr s,EJ cs_ cn cap] 84 (0,0)))(h:((i<0\/(cn:Int)<=i)/\er=13)\/(0<=i/\i<(cn:Int)/\er=10/\D7 107 #[ptr s,.string S] w (.tuple #[Z 0,Z 0,Z 10]) λw'=>w'=w)):
  D7 62 #[ptr x,Z i,.string S] w (.tuple #[Z 0,Z 0,Z er]) λw'=>w'=w:=by
 obtain⟨c1,c2⟩:=VL g 1 2;clear g;rcases h with ⟨y,rfl⟩|⟨y,D,rfl,f⟩
 ·by_cases B:i<0
  ·have e0:decide (0<=i)=false:=Fy;exact abP
  ·have e1:decide (i<(cn:Int))=false:=Fy;have M:(0:Int)<=i:=U;exact abP
 ·have H:=Dx f;clear f;go_enter func62,ntmps62;go_wp2_with (first|(go_at_call 38;go_in))
  refine cm H λO e=>?_
  rw[e];go_wp2;go_returns;exact⟨rfl,rfl⟩
def Jq(G:R.Wd)(i:Nat)(D5:Int):R.Wd:={G with DI:=G.DI.modify i λc=>{c with Ee:=c.Ee++[D5]}}
theorem Sg:(Jq G i D5).DI[j]?=(G.DI[j]?).map λc=>if i=j then {c with Ee:=c.Ee++[D5]} else c:=by grind [Jq]
theorem Lw{e:R.Cl}(h:(Jq G i D5).DI[j]?=some e):∃c0,G.DI[j]?=some c0/\e=(if i=j then {c0 with Ee:=c0.Ee++[D5]} else c0):=by grind [Sg]
theorem Y3(h:R.Wf G)(hu:1<=D5/\D5<=(G.Dy.length:Int)):R.Wf (Jq G i D5):=by
 refine⟨h.cf,by simpa [Jq] using h.N5,λj c hc=>?_,h.JC,h.JX,h.sv,h.R7,h.nm,h.st,h.nd,h.Pn⟩;obtain⟨c0,f,rfl⟩:=Lw hc;have q:=h.cl j c0 f;split
 ·refine⟨q.DV,q.DR,λu e=>?_,q.DZ⟩;rcases Bj.1 e with e|e
  ·exact q.Ee u e
  ·simp only[Bg]at e;subst e;exact hu
 ·exact⟨q.DV,q.DR,q.Ee,q.DZ⟩
theorem LW.bind{w1 T:Aa}(h:LW p F G w){c:R.Cl}(hc:G.DI[i]?=some c)(hu:1<=D5/\D5<=(G.Dy.length:Int))(Q:DY w w1)(ht:DF (λk=>k=p.bm i) w1 T)(hm:Mp T 3 (p.bm i) Vl (GY G {c with Ee:=c.Ee++[D5]}) (dd (c.Ee++[D5])).length):
  LW p F (Jq G i D5) T/\D8 F F w T:=by
 have hi:=GG hc;have⟨es,q,hq⟩:=(h.Ee i c hc).block;have g:=(DF.D6 Q _).trans ht;have ab:Ip w F (λk=>k=p.bm i):=Ip.iw (λb Q=>Am ⟨es,q,by subst Q;exact hq⟩);have y:(Jq G i D5).DI.length=G.DI.length:=by simp[Jq]
 have at':∀{b:Nat} {ys:Array Value} {t:Ag} {f:Nat×Nat},w.heap[b]?=some (.cells ys t f)->T.heap[b]?=some (.cells ys t f):=λQ=>g.at Q (On Q hq)
 have ad:∀{K:Ad} {e:Ag} {size n B:Nat} {xs:Ae},w.ownsRow B e size K n xs->T.ownsRow B e size K n xs:=λhr=>g.row hr (λj O e=>MA hr hq (e ▸ O))
 refine⟨⟨Y3 h.wf hu,h.GQ,?_,?_,?_,?_,?_,λj c' O=>?_,λj c' O=>?_,λj c' O=>?_,h.Fw,?_,?_,λk hf=>Ai (h.lt k hf) g.size⟩,⟨g.mono (λk _ e=>by rw[e];exact(h.Gs i hi).2.2.1),λ_ q=>Aj q⟩⟩
 ·rw[y];exact at' h.bx
 ·rw[y];have⟨aa,X,h2⟩:=h.bcs;exact⟨aa,at' X,h2⟩
 ·have⟨K,X,h2,h3⟩:=h.bn;exact⟨K,at' X,ad h2,h3⟩
 ·exact h.Hd.keep g ab (λ_ r=>r)
 ·exact h.Eu.keep g (λe=>(h.Gs i hi).2.2.2 e.symm)
 ·obtain⟨c0,D,rfl⟩:=Lw O;have:=at' (h.cl j c0 D);split<;>exact this
 ·obtain⟨c0,D,rfl⟩:=Lw O;have⟨xs,X,h2,h3⟩:=h.ln j c0 D
  grind [Iq.KC,Ip.sv]
 ·obtain⟨c0,D,rfl⟩:=Lw O;by_cases M:i=j
  ·subst M;obtain rfl:=Option.some.inj (hc.symm.trans D);simp only[CQ];exact hm
  ·simp only[M,if_false];exact(h.Ee j c0 D).keep g (λe=>(h.inj i j hi (GG D) M).2.1 e.symm)
 ·rw[y];exact h.Gs
 ·rw[y];exact h.inj
theorem vU(h:R.Wf G)(e:Fu G name=some D5):1<=D5/\D5<=(G.Dy.length:Int):=by
 unfold Fu R.Gi at e;cases hf:G.Eu.findIdx? (·==name) with
 |none=>rw[hf]at e;cases e
 |some k=>
  rw[hf]at e;simp only[Ce,Option.some.injEq]at e;have hk:=(Cp.1 hf).1;have f:=h.st;subst e;refine h.Pn _ ?_
  grind
theorem LW.import(h:LW p F G w){c:R.Cl}(hc:G.DI[i]?=some c)(hl:name.length<=1000000000000000)(hs:Fu G name=some D5):
  D7 62 #[ptr p.x,Z i,.string (str name)] w (.tuple #[Z D5,Z (GU G D5),Z 0]) λw'=>LW p F (Jq G i D5) w'/\D8 F F w w':=by
 have hi:=GG hc;have hu:=vU h.wf hs;have ah:=h.wf.sv;obtain⟨k,hk⟩:∃k:Nat,D5=(k:Int)+1:=⟨(D5-1).toNat,U⟩;have O:k<G.Dy.length:=U;have f:=M6 h.Eu (s:=name) JG;rw[hs]at f;simp only[Bw,Option.isSome_some]at f;have B:=Ah O;have M:GU G D5=(G.Dy[k]'O).Dz:=by
  unfold GU;rw[show (D5-1).toNat=k by omega,B];rfl
 have⟨z,hz,X⟩:=Rv h.Hd.zs B;have hzl:p.t.zs.length=G.Dy.length:=by rw[<-h.Hd.zs,AX]
 have⟨g,cap,ae,hK,_,_,y,_⟩:=h.Hd.PG hz;have aa:z.1.Dz=GU G D5:=by rw[X,M]
 rw[aa]at y;rw[hk]at f ⊢;have D:=lQ (EI h.Hd.bs 5) (ED h.Hd.bs 6 _ (by rw[<-hK];rfl)) U U y f;rw[hk]at D;refine Y2 (λw'=>LW p F (Jq G i ((k:Int)+1)) w'/\D8 F F w w') h.bx hi (h.lG hi) (P4 h hc).a2 D ?_;intro w1 hb;have ab:=acU (N:=255) (λu T=>by have:=(h.wf.cl i c hc).Ee u T;omega);have Q:-9223372036854775808<=GU G ((k:Int)+1)/\GU G ((k:Int)+1)<=9223372036854775807:=by
  rw[hk]at M;have:=h.wf.R7 _ (Ap B);omega
 have⟨w2,ac,hm,ak⟩:=zN ((h.Ee i c hc).keep (DF.D6 hb (λ_=>False)) (λe=>e)) U (u:=(k:Int)+1) (v:=GU G ((k:Int)+1)) U Q (GY G {c with Ee:=c.Ee++[(k:Int)+1]}) (λx=>⟨λe=>by subst e;simp[GY],λe=>by
  unfold GY;simp[e]⟩)
 grind [LW.bind,LC,yH,GY,rf]
theorem LW.imports(h:LW p F G w)(i:Int)(name:Ac)(hl:name.length<=1000000000000000):
  D7 62 #[ptr p.x,Z i,.string (str name)] w (.tuple #[Z (R.FV G i name).1.1,Z (R.FV G i name).1.2.1,Z (R.FV G i name).1.2.2]) λw'=>LW p F (R.FV G i name).2 w'/\D8 F F w w':=by
 unfold R.FV;by_cases hi:i<0\/(G.DI.length:Int)<=i
 ·rw[Ay hi];refine(VW h.bx (Aj ⟨hi,rfl⟩)).mono ?_;rintro e w' ⟨rfl,rfl⟩;exact⟨rfl,h,D8.refl F w'⟩
 ·rw[Ao hi];cases he:R.Gi G name with
  |none=>
   have g:Fu G name=none:=by unfold Fu;rw[he];rfl
   have f:=M6 h.Eu (s:=name) JG;rw[g]at f;refine(VW h.bx (Am ⟨U,U,rfl,yY (EI h.Hd.bs 5) f⟩)).mono ?_;rintro e w' ⟨rfl,rfl⟩;exact⟨rfl,h,D8.refl F w'⟩
  |some k=>
   have g:Fu G name=some (G.Ec.getD k 0):=by unfold Fu;rw[he];rfl
   obtain⟨j,rfl⟩:∃j:Nat,i=(j:Int):=⟨i.toNat,U⟩;have y:j<G.DI.length:=U;exact h.import (Ah y) hl g
end Go.Proofs.YtblomippkddgiaaGreatDoor
