import Derived.Test.YtblomippkddgiaaGreatDoorJ21
set_option maxRecDepth 100000
set_option maxHeartbeats 2000000
namespace Go.Proofs.YtblomippkddgiaaGreatDoor
open Go.Proofs.Tryz
open Go.RowKit
variable {buf cur:Array Value}{cl tm:Bool}{E F:D9}{ln:Int}{v:List R.It}{EF:List R.Jb}{l:List UInt8}{xs:List Value}{B G a b b' cap cb i k n nl nm s size u x:Nat}{z:Nat×Nat}{p:Pl}{c:R.Cf}{r':R.Sn}{t:SP}{e:TypeId}{W w w':World}
theorem lF:D7 74 #[.slice none 0 0] w (.slice none 0 0) λw'=>w'=w:=by
 have f:∀w,(binOp .eql 44 (.slice none 0 0) (.slice none 0 0)).run prog w=.ok (.bool true) w:=λw=>by kernel_rfl
 go_enter func74,ntmps74;go_wp2;go_returns;exact⟨rfl,rfl⟩
theorem YU{off:Nat}:∀(v:List V.It),(∀j x,v[j]?=some x->w.cell? (Y b (off+j*2))=some (Z x.1)/\w.cell? (Y b (off+j*2+1))=some (.string x.2))->∀j u,(V.flat v)[j]?=some u->w.cell? (((Y b off):Addr).add j)=some u:=λv h j u m=>by
 have hl:=GG m;rw[V.I5]at hl;have y:v[j / 2]?=some v[j / 2]:=Ah U;have⟨f,g⟩:=V.flat_get v (j / 2) _ y;have⟨c0,c1⟩:=h (j / 2) _ y;rw[Bc];rcases Nat.mod_two_eq_zero_or_one j with q|q
 ·have e:j / 2*2=j:=U;rw[e]at f c0;rw[m]at f;cases f;exact c0
 ·have e:j / 2*2+1=j:=U;rw[e]at g;rw[m]at g;cases g;rw[Nat.add_assoc,e]at c1;exact c1
theorem TK(w:Aa)(b off cap:Nat)(v:List V.It)(hn:v.length<=1000)(h:∀j x,v[j]?=some x->w.cell? (Y b (off+j*2))=some (Z x.1)/\w.cell? (Y b (off+j*2+1))=some (.string x.2))(hb:b<w.heap.size):
  ET 74 #[.slice (some (Y b off)) v.length cap] w λe w'=>(∃O,e=.returned O/\V.Row w' w.heap.size O v/\¬O=.slice none 0 0)/\DY w w':=by
 have hq:∀w,(binOp .eql 44 (.slice (some (Y b off)) v.length cap) (.slice none 0 0)).run prog w=.ok (.bool false) w:=λw=>by rfl
 have⟨i0,hi,T,X,aa⟩:=A1 V.LQ;have hB:DY w (w.alloc (.cells #[] 106)):=F9;have D:Hid (∀j u,(V.flat v)[j]?=some u->(w.alloc (.cells #[] 106)).cell? (((Y b off):Addr).add j)=some u):=YU (w:=w.alloc (.cells #[] 106)) v (λj x hx=>by
  have⟨h1,h2⟩:=h j x hx;exact⟨(hB.cell (p:=Y b _) hb).trans h1,(hB.cell (p:=Y b _) hb).trans h2⟩)
 have y:Hid ((w.alloc (.cells #[] 106)).ownsRow w.heap.size 106 2 (EJ w.heap.size 0 0) 0 []):=⟨rfl,Am ⟨w.heap.size,0,#[],rfl,Ar _,AF w _,Ar _,AV _,rfl,rfl⟩⟩;have M:=V.I5 v;have HB:=Dx hB;clear h;go_enter func74,ntmps74;go_wp2_with (at_builtin;go_must (refine AQ _ rfl (.tmp 5) (.tmp 6) 44 rfl w.heap.size 106 i0 (.agg #[Z 0,.string ⟨#[]⟩]) 2 24 underlying44 hi T X aa rfl Em (EJ w.heap.size 0 0) 0 [] rfl y (Y b off) v.length cap (V.flat v) rfl M D (V.Oe v) JG U Ev ?_))
 intro v' wz g f m _;have⟨va,vn,vc,Q⟩:=Ei g;subst Q;have hz:=HB.grown f Ev (λk hk=>by cases hk;exact Ar _);have⟨HO,HN⟩:=FU g m;clear g f m;go_wp2
 go_ret
 refine⟨⟨_,rfl,?_,λe=>?_⟩,hz⟩
 ·exact Dw HO
 ·exact HN e
theorem Yx{X:Ad}(h:Gg w F X v)(hn:v.length<=1000):ET 74 #[X] w λe w'=>(∃O,e=.returned O/\V.Row w' w.heap.size O v/\(O=.slice none 0 0↔v=[]))/\DY w w':=by
 rcases h with ⟨rfl,rfl⟩|⟨b,off,cap,cur,f,rfl,_,_,g,j⟩
 ·refine cs (lF) ?_
  grind [V.My,Below.refl]
 grind [TK,World.cell?]
def abe(r:Int×Int×List R.It×Int)(O:Ad):Ending:=.returned (.tuple #[.agg #[Z r.1,Z r.2.1,O],Z r.2.2.2])
theorem aI(F:D9){lb:Nat}{x:J7}(hv:v.length<=1000)(Q:Gg w F x.rv v)(hk:k<nl)(b3:w.cell? (Y cb 3)=some (EJ lb nl nl))(ha:acK w lb k x):
  ET 39 #[ptr cb,Z k] w λe w'=>(∃O,e=.returned (.tuple #[.agg #[Z x.DK,Z x.D4,O],Z 0])/\V.Row w' w.heap.size O v)/\DY w w':=by
 obtain⟨ra,rn,rc,T⟩:=Lc Q;have ah:Hid (∀w',DY w w'->ET 74 #[.slice ra rn rc] w' λe ab=>(∃a n c,e=.returned (.slice a n c)/\V.Row ab w'.heap.size (.slice a n c) v)/\DY w' ab):=λw' hb=>by
  have an:Gg w' F (.slice ra rn rc) v:=by
   rw[<-T];exact Q.keep (DF.D6 hb (λ_=>False)) (λ_ _ _ _ h=>h) (λ_ q=>q)
  refine(Yx an hv).mono ?_;rintro e ab ⟨⟨O,rfl,h1,_⟩,h2⟩;obtain⟨a,n,c,rfl⟩:=Ei h1;exact⟨⟨a,n,c,rfl,h1⟩,h2⟩
 obtain⟨st,X,rv,u,pc,m,ac,cm,wt,tr⟩:=x;obtain⟨a0,a1,a2,a3,a4,a5,a6,a7,a8,a9⟩:=ha;simp only at a0 a1 a2 a3 a4 a5 a6 a7 a8 a9 T Q;rw[T]at a2;generalize str m=SM at *;generalize str cm=SC at *;have q1:0<=(k:Int):=U;have q2:(k:Int)<nl:=U;obtain⟨aS,aV⟩:=KM b3 a0;simp only;obtain⟨D,hBX⟩:∃D,(w.alloc (.cells #[Z 0,Z 0,.slice none 0 0] 46)).alloc (.cells #[Z st,Z X,.slice ra rn rc,Z u,Z pc,.string SM,Z ac,.string SC,Z wt,Z tr] 139)=D:=⟨_,rfl⟩;have HB:Hid (DY w D):=by
  rw[<-hBX];exact F9.alloc Ev _
 have aa:D.heap[w.heap.size+1]?=some (.cells #[Z st,Z X,.slice ra rn rc,Z u,Z pc,.string SM,Z ac,.string SC,Z wt,Z tr] 139 (0,0)):=by
  rw[<-hBX,<-Cx w];exact AF _ _
 have al:D.heap[w.heap.size]?=some (.cells #[Z 0,Z 0,.slice none 0 0] 46 (0,0)):=by
  exact wQ
 obtain⟨c0,c1,c2⟩:=TH aa 0 1 2;have hs:D.heap.size=w.heap.size+2:=by rw[<-hBX];simp
 obtain⟨aq,ar,HC⟩:=Ll hBX al (ah D.drew HB.drew);have ak:Hid (∀(f:Aa) (a:Af) (n c:Nat),V.Row f D.drew.heap.size (.slice a n c) v->DY D.drew f->(f.cell? (EN w 0)=some (Z 0)/\f.cell? (EN w 1)=some (Z 0)/\f.cell? (EN w 2)=some (.slice none 0 0)/\(∀j,f.frozen? (EN w j)=false)/\w.heap.size<f.heap.size/\f.cell? ⟨w.heap.size+1,0,none⟩=some (Z st)/\f.cell? ⟨w.heap.size+1,1,none⟩=some (Z X)/\f.cell? ⟨w.heap.size+1,2,none⟩=some (.slice ra rn rc))/\V.Row (((f.setCell (EN w 0) (Z st)).setCell (EN w 1) (Z X)).setCell (EN w 2) (.slice a n c)) w.heap.size (.slice a n c) v/\DY w (((f.setCell (EN w 0) (Z st)).setCell (EN w 1) (Z X)).setCell (EN w 2) (.slice a n c))):=λf a n c g y=>by
  have aN:D.drew.heap.size=w.heap.size+2:=hs;have g3:f.heap[w.heap.size]?=some (.cells #[Z 0,Z 0,.slice none 0 0] 46 (0,0)):=(y.block _ U).trans (Dw ar);have g4:=(y.block (w.heap.size+1) U).trans (show D.drew.heap[w.heap.size+1]?=_ from aa);have M:DY w f:=HB.drew.trans (y.mono U);refine⟨⟨EI g3 0,EI g3 1,EI g3 2,λj=>Eb g3,Dv g3,EI g4 0,EI g4 1,EI g4 2⟩,?_,((M.setCell Ev _).setCell Ev _).setCell Ev _⟩;have av:DF (λk=>k=w.heap.size) f (((f.setCell (EN w 0) (Z st)).setCell (EN w 1) (Z X)).setCell (EN w 2) (.slice a n c)):=((Eg _).trans (Eg _)).trans (Eg _);refine V.GL (av.row g (λj hj e=>?_)) U;have:=((Ba g) j hj).1;omega
 clear hBX aa al ah Q T hs;go_enter func39,ntmps39;go_wp2_with (first|(go_at_call 73;go_in))
 rw[Dw aq];go_region_held3 (λw'=>w'.cell? ⟨w.heap.size+1,0,none⟩=some (Z st)/\w'.cell? ⟨w.heap.size+1,1,none⟩=some (Z X)/\w'.cell? ⟨w.heap.size+1,2,none⟩=some (.slice ra rn rc)) (go_keep) ((go_at_call 74;refine HC.mono ?_;rintro e f ⟨⟨oa,on,oc,rfl,g⟩,y⟩;have am:=ak f oa on oc g y;obtain⟨⟨d0,d1,d2,zz,m0,x0,x1,x2⟩,hr,M⟩:=am;have HR:=Dx hr;have ao:=Dx M;clear g y hr M))
 all_goals
  go_wp2;exact Bm (v:=.tuple #[.agg #[Z st,Z X,.slice oa on oc],Z 0]) (by simp[results,results39,go_sem,d0,d1,d2]) rfl ⟨⟨_,rfl,HR⟩,ao⟩
theorem UW{lb:Nat}(hk:ln<0\/(nl:Int)<=ln)(f:EB w cb 3 (EJ lb nl nl)):
  D7 39 #[ptr cb,Z ln] w (.tuple #[.agg #[Z 0,Z 0,.slice none 0 0],Z 14]) λw'=>DY w w':=by
 have HB:Hid (DY w (w.alloc (.cells #[Z 0,Z 0,.slice none 0 0] 46))):=F9;have hl:=Gv f;by_cases h:ln<0
 ·have g:¬0<=ln:=U;exact afP
 ·have g:0<=ln:=U;have j:¬ln<(nl:Int):=U;exact afP
theorem UU{cs:Nat}{cl:Int}(g:EB w x 2 (EJ cs n cap))(hc:cl<0\/(n:Int)<=cl):
  D7 16 #[ptr x,Z cl,Z ln] w (.tuple #[.agg #[Z 0,Z 0,.slice none 0 0],Z 13]) λw'=>DY w w':=by
 have HB:Hid (DY w (w.alloc (.cells #[Z 0,Z 0,.slice none 0 0] 46))):=F9;have hl:=Gv g;by_cases h:cl<0
 ·have f:¬0<=cl:=U;exact afQ
 ·have f:0<=cl:=U;have j:¬cl<(n:Int):=U;exact afQ
theorem R6{cs:Nat}{st m er:Int}(hx:EB w x 2 (EJ cs n cap))(hi:i<n)(X:EB w cs i (ptr cb))
  (y:Hid (∀w',DY w w'->ET 39 #[ptr cb,Z ln] w' λe Q=>(∃O,e=.returned (.tuple #[.agg #[Z st,Z m,O],Z er])/\V.Row Q w'.heap.size O v)/\DY w' Q)):
  ET 16 #[ptr x,Z i,Z ln] w λe w'=>(∃O,e=.returned (.tuple #[.agg #[Z st,Z m,O],Z er])/\V.Row w' w.heap.size O v)/\DY w w':=by
 have q1:0<=(i:Int):=U;have q2:(i:Int)<n:=U;obtain⟨ah,ak⟩:=KM hx X;have HB:Hid (DY w (w.alloc (.cells #[Z 0,Z 0,.slice none 0 0] 46))):=F9;have HC:=Dx (y _ HB);clear y;go_enter func16,ntmps16;go_wp2_with (first|(go_at_call 38;go_in))
 refine HC.mono ?_;rintro e h ⟨⟨O,rfl,f⟩,T⟩;obtain⟨D,on,M,hO⟩:=Ei f;subst hO;have hs:=T.size;simp at hs;have g:=(T.block _ Ev).trans (AF w _);obtain⟨d0,d1,d2⟩:=TH g 0 1 2;have z0:h.frozen? (EN w 0)=false:=Eb g;have z1:h.frozen? (EN w 1)=false:=Eb g;have z2:h.frozen? (EN w 2)=false:=Eb g;have HW:=Dx ((((HB.trans (T.mono Ev)).setCell (p:=EN w 0) Ev (Z st)).setCell (p:=EN w 1) Ev (Z m)).setCell (p:=EN w 2) Ev (.slice D on M));have HR:Hid (V.Row (((h.setCell (EN w 0) (Z st)).setCell (EN w 1) (Z m)).setCell (EN w 2) (.slice D on M)) w.heap.size (.slice D on M) v):=by
  have aa:DF (λk=>k=w.heap.size) h (((h.setCell (EN w 0) (Z st)).setCell (EN w 1) (Z m)).setCell (EN w 2) (.slice D on M)):=((Eg _).trans (Eg _)).trans (Eg _);refine V.GL (aa.row f (λj hj e=>?_)) Ev;have:=((Ba f) j hj).1;simp at this;omega
 clear T g f;have m0:w.heap.size<h.heap.size:=U;go_wp2;exact Bm (v:=.tuple #[.agg #[Z st,Z m,.slice D on M],Z er]) (by simp[results,results16,go_sem,d0,d1,d2]) rfl ⟨⟨_,rfl,HR⟩,HW⟩
theorem LW.status{G:R.Wd}(h:LW p F G w)(f:∀(i:Nat) (c:R.Cl) (k:Nat) (l:R.Ln),G.DI[i]?=some c->c.DV[k]?=some l->l.DU.length<=1000)(cl ln:Int):
  ET 16 #[ptr p.x,Z cl,Z ln] w λe w'=>(∃O,e=abe (R.KI G cl ln) O/\V.Row w' w.heap.size O (R.KI G cl ln).2.2.1)/\DY w w':=by
 unfold abe R.KI;by_cases m:cl<0\/(G.DI.length:Int)<=cl
 ·rw[Ay m];refine cm (UU (EI h.bx 2) m) λw' j=>?_
  grind [V.My]
 ·rw[Ao m];obtain⟨i,rfl⟩:∃i:Nat,cl=(i:Int):=⟨cl.toNat,U⟩;have hi:i<G.DI.length:=U;have hc:=Ah hi;have X:=(h.wf.cl i _ hc).DV;by_cases Q:ln<0\/G.c.DV<=ln
  ·rw[Ay Q];refine(R6 (EI h.bx 2) hi (h.lG hi) ?_);intro w' j;refine cm (UW U (P4 (h.DG j) hc).a3) λaa T=>?_
   grind [V.My]
  ·rw[Ao Q];obtain⟨k,rfl⟩:∃k:Nat,ln=(k:Int):=⟨ln.toNat,U⟩;have hk:k<G.DI[i].DV.length:=U;have hl:=Ah hk;rw[R.FH hc hl];refine R6 (EI h.bx 2) hi (h.lG hi) ?_;intro w' j;have M:=h.DG j;have⟨xs,x,hL,hR,hx,g,D,_,y⟩:=M.DZ hc hl;have:=aI F (f i _ k _ hc hl) y hk (P4 M hc).a3 D;rw[g.DK,g.D4]at this;exact this
def QJ(W:Aa)(G:Nat)(l:Ac):Prop:=G<W.heap.size/\∀j (c:UInt8),l[j]?=some c->W.cell? ⟨G,j,none⟩=some (.int .u8 (c.toNat:Int))/\W.frozen? ⟨G,j,none⟩=false
theorem QJ.set(h:QJ W G l)(i:Nat)(x:UInt8):QJ (W.setCell ⟨G,i,none⟩ (.int .u8 (x.toNat:Int))) G (l.set i x):=by
 refine⟨by simpa using h.1,λj c f=>?_⟩;by_cases y:j=i
 ·subst y;have hl:j<l.length:=by
   have:=(Bi.1 f).1;simpa using this
  rw[AO hl]at f;obtain rfl:=Option.some.inj f;have⟨g,m⟩:=h.2 j _ (Ah hl);exact⟨by simp[go_sem,g],by simpa [go_sem] using m⟩
 ·rw[List.getElem?_set_ne (by omega)]at f;have⟨g,m⟩:=h.2 j c f;exact⟨by simp[go_sem,g],by simpa [go_sem] using m⟩
theorem QJ.conv(h:QJ W G l)(cap:Nat):(convert 199 9 (EJ G l.length cap)).run prog W=.ok (.string (str l)) W:=by
 refine C5 (P:=prog) W 199 9 5 (Y G 0) cap l underlying199 EL underlying9 λj f=>?_
 rw[Bc,Cr];exact(h.2 j _ (Ah f)).1
theorem QJ.drew(h:QJ W G l):QJ W.drew G l:=h
theorem QJ.alloc(h:QJ W G l)(o:Obj):QJ (W.alloc o) G l:=by
 have f:=h.1;refine⟨Fy,λj c g=>?_⟩
 grind [QJ,World.cell?_alloc_lt,World.frozen?,Below.heap_alloc]
theorem yF(W:Aa)(l:Ac):∃(cap:Nat) (f:Aa),(convert 9 199 (.string (str l))).run prog W=.ok (EJ W.heap.size l.length cap) f/\QJ f W.heap.size l/\DY W f:=by
 have h:=Lib.run_convert_string_bytes (P:=prog) W 9 199 5 (str l) underlying9 underlying199 EL;rw[Er]at h;refine⟨_,_,h,⟨by rw[Lib.bytesWorld_size];omega,λj c g=>⟨?_,?_⟩⟩,?_⟩
 ·grind [Lib.bytesWorld_cell,Er]
 ·grind [Lib.bytesCells,World.frozen?,Lib.bytesWorld_at_new]
 ·refine⟨?_,?_,?_,by rw[Lib.bytesWorld_size];omega,λk hk=>Lib.bytesWorld_at_old W 5 (str l) k hk⟩
  ·simp[Lib.bytesWorld,World.freeze];rfl
  ·simp[Lib.bytesWorld,World.freeze]
  ·simp[Lib.bytesWorld,World.freeze];rfl
theorem fj{p:Pk}(f:EC p):D7 14 #[.string (str (Gq p))] w (.tuple #[pv p,Z 0]) λw'=>DY w w':=by
 have hl:=J4 p;have g:=Mm f;refine(Zy U).mono ?_;unfold Us
 grind [L8]
theorem mP(hn:Ih l=none)(hl:l.length<=1000):D7 14 #[.string (str l)] w (.tuple #[NY,Z 7]) λw'=>DY w w':=by
 refine(Zy U).mono ?_;unfold Us
 grind
theorem aeg(a d:UInt8):bits .xor .u8 (a.toNat:Int) (d.toNat:Int)=((a ^^^ d).toNat:Int):=by
 have g:=a.toNat_lt;have hd:=d.toNat_lt;have n1:(BitVec.ofInt 8 (a.toNat:Int)).toNat=a.toNat:=by grind
 have n2:(BitVec.ofInt 8 (d.toNat:Int)).toNat=d.toNat:=by grind
 show IntKind.u8.wrap ((BitVec.ofInt 8 (a.toNat:Int) ^^^ BitVec.ofInt 8 (d.toNat:Int)).toNat:Int)=_;rw[BitVec.toNat_xor,n1,n2,UInt8.toNat_xor];have f:a.toNat ^^^ d.toNat<2 ^ 8:=Nat.xor_lt_two_pow U U;rw[wrap_u8];omega
def TJ(t:Ag):Bool:=t==84 || t==89 || t==113 || t==122 || t==134 || t==139 || t==106
def GD(w:Aa)(E:D9):Prop:=∀b,E b->(∃cur t z,w.heap[b]?=some (.cells cur t z)/\TJ t=false)\/∃cap buf cl a r tm,w.heap[b]?=some (.chan cap buf cl a r tm)
theorem GD.cells(h:GD w E){t:Ag}(f:w.heap[b]?=some (.cells cur t z))(g:TJ t=true):¬E b:=by grind [GD]
theorem GD.map(h:GD w E){f:Array MapEntry}{cl:Nat}(g:w.heap[b]?=some (.map f cl)):¬E b:=by grind [GD]
theorem GD.one{t:Ag}(h:w.heap[b]?=some (.cells cur t z))(f:TJ t=false):GD w (λk=>k=b):=by grind [GD]
theorem GD.or{f:D9}(h:GD w E)(g:GD w f):GD w (λk=>E k\/f k):=by grind [GD]
theorem GD.row{v:Ad}(j:w.ownsRow B e size v n xs)(f:TJ e=false):GD w (λk=>v.ownBlock=some k):=λk hk=>by
 rcases j.2 with ⟨rfl,_⟩|⟨g,cap,cur,rfl,_,h,_⟩
 ·cases hk
 ·cases hk;exact Aj ⟨_,_,_,h,f⟩
abbrev Hu(G:R.Wd)(sv:List R.Sv)(DX:List Int)(DN:List R.Sn)(EF:List R.Jb):R.Wd:={G with Dy:=sv,DX:=DX,DN:=DN,EF:=EF}
theorem LW.OW{F':D9}{G:R.Wd}(h:LW p F G w){sv:List R.Sv}{DX:List Int}{DN:List R.Sn}(hs:G9 p.s p.n p.nm t F' G.c sv DX DN EF w')(hk:DF E w w')(m:GD w E)(M:∀k,F k->F' k)(aa:∀k,F' k->k<w'.heap.size)(ac:R.Wf (Hu G sv DX DN EF))(ad:R.MX G.c DX DN EF)(T:∀(i:Nat) (c:R.Cl),G.DI[i]?=some c->∀u,GY (Hu G sv DX DN EF) c u=GY G c u):LW {p with t:=t} F' (Hu G sv DX DN EF) w':=by
 have⟨hx,hn,X,ab⟩:=h.Fw;have y:∀{α:Type} {k:Ag} {b:Nat} {lit:α->Lit} {g:α->Option Int} {n:Nat},Mp w k b lit g n->Mp w' k b lit g n:=λhm=>by
  have⟨es,q,hq⟩:=hm.block;exact hm.keep hk (m.map hq)
 refine⟨ac,ad,hk.at h.bx (m.cells h.bx rfl),?_,?_,hs,y h.Eu,λi c hc=>hk.at (h.cl i c hc) (m.cells (h.cl i c hc) rfl),λi c hc=>?_,λi c hc=>(y (h.Ee i c hc)).congr (T i c hc),⟨M _ hx,M _ hn,M _ X,M _ ab⟩,λi hi=>?_,h.inj,aa⟩
 ·have⟨cur,f,D⟩:=h.bcs;exact⟨cur,hk.at f (m.cells f rfl),D⟩
 ·have⟨K,f,D,Q⟩:=h.bn;refine⟨K,hk.at f (m.cells f rfl),hk.row D (λj O=>?_),λj O=>M _ (Q j O)⟩;rcases D.2 with ⟨rfl,_⟩|⟨g,cap,cur,rfl,_,hg,_⟩
  ·cases O
  ·cases O;exact m.cells hg rfl
 ·have⟨xs,f,D,Q⟩:=h.ln i c hc;exact⟨xs,hk.at f (m.cells f rfl),D,λk l x hl hx=>(Q k l x hl hx).keep hk (λb cur _ hb=>m.cells hb rfl) M⟩
 ·have⟨a1,a2,a3,a4⟩:=h.Gs i hi
  grind
theorem G9.PG{sv:List R.Sv}{DX:List Int}{DN:List R.Sn}(h:G9 s n nm t F c sv DX DN EF w){z:R.Sv×MV}(hz:t.zs[u]?=some z):∃g cap cur,t.K=EJ g t.zs.length cap/\w.heap[g]?=some (.cells cur 213 (0,0))/\F g/\w.cell? (Y g (u*3))=some (Z z.1.Dz)/\w.cell? (Y g (u*3+1))=some z.2.wk/\w.cell? (Y g (u*3+2))=some z.2.dn/\t.zs.length<=cap/\cap<=maxLen/\cur.size=cap*3/\cur.toList.take (t.zs.length*3)=tab Om t.zs:=by
 have hu:=GG hz;rcases id h.Gw.2 with ⟨_,T⟩|⟨g,cap,cur,M,_,O,f,m,y,D⟩
 ·omega
 have q:∀j v,j<3->(Om z)[j]?=some v->w.cell? (Y g (u*3+j))=some v:=λj v Q X=>by
  have:=Jh LZ t.zs u j z hz Q
  grind [World.cell?]
 refine⟨g,cap,cur,M,O,h.Fw.2.2 g (by rw[M];rfl),?_,q 1 _ U rfl,q 2 _ U rfl,f,m,y,D⟩;exact q 0 _ U rfl
theorem Rv{sv:List R.Sv}(h:t.zs.map (·.1)=sv){s:R.Sv}(f:sv[u]?=some s):∃z,t.zs[u]?=some z/\z.1=s:=by grind
theorem map_set{α β:Type}(f:α->β)(l:List α)(i:Nat)(x:α):(l.set i x).map f=(l.map f).set i (f x):=by
 apply BF;intro j
 grind
theorem XQ{α:Type}{l:List α}{x y:α}(h:(l.set u x)[i]?=some y):(i=u/\y=x)\/(i≠u/\l[i]?=some y):=by grind
theorem Wq(l:Ae)(n i:Nat)(v:Ad):(l.set i v).take n=(l.take n).set i v:=by
 apply BF;intro j
 grind
def VN(z:R.Sv×MV):R.Sv×MV:=({z.1 with Fj:=false},{z.2 with wk:=.nilIface})
theorem G9.dead{sv:List R.Sv}{DX:List Int}{DN:List R.Sn}(h:G9 s n nm t F c sv DX DN EF w){g:Nat}{z:R.Sv×MV}(hz:t.zs[u]?=some z)(hK:t.K=EJ g t.zs.length cap)(X:w.heap[g]?=some (.cells cur 213 (0,0)))(T:t.zs.length<=cap)(ab:cap<=maxLen)(ah:cur.size=cap*3)(ak:cur.toList.take (t.zs.length*3)=tab Om t.zs):G9 s n nm {t with zs:=t.zs.set u (VN z)} F c (sv.set u {z.1 with Fj:=false}) DX DN EF (w.setCell (Y g (u*3+1)) .nilIface):=by
 have⟨f1,f2,f3⟩:=h.Fw;have hk:DF (λk=>k=g) w (w.setCell (Y g (u*3+1)) .nilIface):=Eg _;have O:Pp w F (λk=>k=g):=Pp.one X Em;refine⟨hk.at h.bs (ES h.bs X Em),?_,?_,λy hy=>?_,λi j a b m hb D k aa=>?_,λi j a b m hb D M Q=>?_,λi r hr ae=>?_,h.inj,?_,f1,f2,f3⟩
 ·simp only[map_set];rw[h.zs];rfl
 ·simp only;rw[BG];refine⟨by rw[F8 LZ,BG,BZ],Am ⟨g,cap,_,hK,AV _,Ek (cs:=cur.toList) (off:=u*3+1) X .nilIface,T,ab,by simpa using ah,?_⟩⟩;rw[Wq,ak];exact J6 LZ t.zs u 1 z (VN z) _ hz U rfl
 ·rcases BJ hy with q|q
  ·exact(h.each y q).keep hk O (λ_ r=>r)
  ·have h0:=(h.each z (Ap hz)).keep hk O (λ_ r=>r);rw[q];exact⟨by simp[VN],h0.log,h0.own⟩
 ·have f:∀{i:Nat} {a:R.Sv×MV},(t.zs.set u (VN z))[i]?=some a->∃a0,t.zs[i]?=some a0/\a.2.dn=a0.2.dn:=λm=>by
   rcases XQ m with ⟨rfl,rfl⟩|⟨_,q⟩
   ·exact⟨z,hz,rfl⟩
   ·exact⟨_,q,rfl⟩
  have⟨a0,p1,p2⟩:=f m;have⟨b0,p3,p4⟩:=f hb;rw[p2]at aa;rw[p4];exact h.dns i j a0 b0 p1 p3 D k aa
 ·have f:∀{i:Nat} {a:R.Sv×MV},(t.zs.set u (VN z))[i]?=some a->a.1.Fj=true->t.zs[i]?=some a:=λm hl=>by
   rcases XQ m with ⟨rfl,rfl⟩|⟨_,q⟩
   ·cases hl
   ·exact q
  exact h.ye i j a b (f m M) (f hb Q) D M Q
 ·have⟨y,h1,h2,h3⟩:=h.ln i r hr ae;exact⟨y,hk.at h1 (ES h1 X Em),h2,h3⟩
 ·have⟨a,b,hj⟩:=h.EF;refine⟨a,b,hk.at hj (λe=>?_)⟩;rw[e,X]at hj;cases hj
theorem Nc(w:Aa)(s g u m cap:Nat)(f:EB w s 6 (EJ g m cap))(hu:u<m)(h:m<=255):
  D7 132 #[ptr s,Z ((u:Int)+1)] w (.pointer (some (Y g (u*3)))) λw'=>w'=w:=by
 have e1:IntKind.i64.wrap ((u:Int)+1-1)=(u:Int):=Iz;have j:0<=(u:Int):=U;have y:(u:Int)<m:=U;go_enter func132,ntmps132;go_wp2
 go_ret
 exact⟨rfl,rfl⟩
def xO(y:PR):PR:={y with DK:=3,Gn:=[],answer:=[],at':=0,El:=0,DW:=0}
theorem xP(w:Aa)(b:Nat)(y:PR)(h:w.heap[b]?=some (.cells y.cells.toArray 147 (0,0))):
  D7 227 #[ptr b] w Ep λw'=>w'.heap[b]?=some (.cells (xO y).cells.toArray 147 (0,0))/\DF (λk=>k=b) w w':=by
 have⟨a0,a1,a2,a3,a4,a5,a6,a7,a8,a9,a10⟩:=X8 h;have z:∀j,w.frozen? (Y b j)=false:=λj=>Eb h
 have hl:=Dv h;have f:Hid (∀W,W=((((((((((w.setCell (Y b 0) (Z y.DJ)).setCell (Y b 1) (Z y.DR)).setCell (Y b 2) (Z y.DZ)).setCell (Y b 3) (Z y.D4)).setCell (Y b 4) (Z y.D5)).setCell (Y b 5) (Z 3)).setCell (Y b 6) (.string ⟨#[]⟩)).setCell (Y b 7) (.string ⟨#[]⟩)).setCell (Y b 8) (Z 0)).setCell (Y b 9) (Z 0)).setCell (Y b 10) (Z 0)->W.heap[b]?=some (.cells (xO y).cells.toArray 147 (0,0))/\DF (λk=>k=b) w W):=λW g=>by
  subst g;refine⟨?_,((((((((((Eg _).trans (Eg _)).trans (Eg _)).trans (Eg _)).trans (Eg _)).trans (Eg _)).trans (Eg _)).trans (Eg _)).trans (Eg _)).trans (Eg _)).trans (Eg _)⟩;have e0:=Ek (off:=0) h (Z y.DJ);have e1:=Ek (off:=1) e0 (Z y.DR);have e2:=Ek (off:=2) e1 (Z y.DZ);have e3:=Ek (off:=3) e2 (Z y.D4);have e4:=Ek (off:=4) e3 (Z y.D5);have e5:=Ek (off:=5) e4 (Z 3);have e6:=Ek (off:=6) e5 (.string ⟨#[]⟩);have e7:=Ek (off:=7) e6 (.string ⟨#[]⟩);exact abW
 clear h;go_enter func227,ntmps227;go_wp2;go_returns;exact⟨rfl,f _ rfl⟩
theorem rI(w:Aa)(s g u m cap n:Nat)(bs:Nat->Nat)(wk:Ad)(J:Value->Nat->World->Prop)(hn:n<=9)(hm:m<=255)(hu:u<m)(h6:EB w s 6 (EJ g m cap))(y:EB w g (u*3+1) wk)(hz:w.frozen? (Y g (u*3+1))=false)
  (M:Hid (ET 71 #[ptr s] (w.setCell (Y g (u*3+1)) .nilIface) λe w'=>∃O,e=.returned O/\J O 0 w'))
  (HS:Hid (∀O k wr,J O k wr->∃a c,O=.slice a n c))
  (HR:Hid (∀O k wr,k<n->J O k wr->∃g c,O=EJ g n c/\EB wr g k (ptr (bs k))/\∃x st,wr.cell? ⟨bs k,4,none⟩=some (Z x)/\wr.cell? ⟨bs k,5,none⟩=some (Z st)/\(x=(u:Int)+1/\¬st=2->D7 227 #[ptr (bs k)] wr Ep λw'=>J O (k+1) w')/\(¬(x=(u:Int)+1/\¬st=2)->J O (k+1) wr))):
  D7 182 #[ptr s,Z ((u:Int)+1)] w Ep λw'=>∃O,J O n w':=by
 have HV:=Dx (Nc w s g u m cap h6 hu hm);have aa:=Gv y;go_enter func182,ntmps182;go_wp2_with (first|(go_at_call 132;refine cs HV ?_))
 refine M.mono ?_;rintro e w1 ⟨O,rfl,hJ⟩;have⟨a,c,Q⟩:=HS O 0 w1 hJ;subst Q;have H0:=Dx hJ;clear hJ y hz h6;go_wp2;go_loopw [14] (λiv wr=>∃k:Nat,k<=n/\iv=Z k/\J (.slice a n c) k wr) (λiv _=>n-(intOf iv).toNat)
 case atStart=>exact⟨0,AV _,rfl,H0⟩
 case round=>
  obtain⟨k,hk,rfl,hJ⟩:=hrel;by_cases X:k<n
  ·have⟨g',c',Q,T,x,st,hx,ac,f,D⟩:=HR _ k wr X hJ;cases Q;have⟨HY,HN⟩:=FU f D;clear f D hJ;by_cases h:x=(u:Int)+1
   ·have e1:(x==(u:Int)+1)=true:=by simpa using h
    by_cases j:st=2
    ·have e2:(st != 2)=false:=by simpa using j
     have HI:=Dx (HN U);clear h j;exact aaK
    ·have e2:(st != 2)=true:=by simpa using j
     have HC:=Dx (HY ⟨h,j⟩);clear h j;go_wp2_with (first|(go_at_call 227;refine cm HC λw3 hw3=>?_))
     exact aaM
   ·have e1:(x==(u:Int)+1)=false:=by simpa using h
    have HI:=Dx (HN U);clear h;exact aaK
  exact ab7
theorem qw(w:Aa)(s m:Nat)(a:Af)(cap:Nat)(u:Int)(f:EB w s 6 (.slice a m cap))(hu:¬(1<=u/\u<=(m:Int))):D7 233 #[pt s,Z u] w (.bool false) λw'=>w'=w:=by
 have H:=Dx (Uj w s m a cap u f);rw[show decide (1<=u/\u<=(m:Int))=false by simpa using hu]at H;go_enter func233,ntmps233;go_wp2_with (first|(go_at_call 131;refine cs H ?_))
 go_returns;exact⟨rfl,rfl⟩
theorem kI(w:Aa)(s g u m cap:Nat)(T:Ag)(b:Nat)(h6:EB w s 6 (EJ g m cap))(hu:u<m)(hm:m<=255)(f:EB w g (u*3+1) (.iface T (ptr b))):D7 233 #[pt s,Z ((u:Int)+1)] w (.bool true) λw'=>w'=w:=by
 exact afx
theorem bN(w:Aa)(s g u m cap:Nat)(h6:EB w s 6 (EJ g m cap))(hu:u<m)(hm:m<=255)(f:EB w g (u*3+1) .nilIface):D7 233 #[pt s,Z ((u:Int)+1)] w (.bool false) λw'=>w'=w:=by
 exact afx
theorem aa2:∀args w,(callFunc 235 args).run prog w=.ok (.enter 235 args) w:=λ_ _=>rfl
theorem qV:∀args w,(callFunc 192 args).run prog w=.ok (.enter 192 args) w:=λ_ _=>rfl
theorem R8{f:World->Prop}(P:World->Prop)(j:P W)(h:∀g,P g->f g):f W:=h W j
def Two(w:Aa)(o o':Obj)(W:Aa):Prop:=Below w.heap.size w W/\W.heap[w.heap.size]?=some o/\W.heap[w.heap.size+1]?=some o'
theorem af4(w:Aa)(o f:Obj):Two w o f ((w.alloc o).alloc f):=by
 refine⟨F9.alloc Ev _,(AL _ _ _ Ev).trans (AF w _),?_⟩;have:=AF (w.alloc o) f;simpa using this
theorem Wn{P:Pk}{y h Q:Int}(O:World->Prop)(hk:(P.Dz=3/\y=4/\h=0/\Q=1)\/(¬P.Dz=3/\y=2/\h=P.Ez/\Q=P.off))
  (HS:Hid (∀wa,DY w wa->D7 192 #[.pointer (some (Y s 0)),cv P,S9 y 0 0 0 0 0 h Q false ⟨#[]⟩] wa Ep λw'=>O w')):
  D7 237 #[.pointer (some (Y s 0)),pv P] w Ep λw'=>O w':=by
 have HC:=Dx (λw=>Nr P w);obtain⟨kd,cl,li,ln,m,u,pa,o,pl,Ef⟩:=P;dsimp only[pv,cv]at *;generalize str Ef=SB at *;have HX:Hid (∀W,Two w (.cells #[Z kd,Z cl,Z li,Z ln,Z m,Z u,Z pa,Z o,.bool pl,.string SB] 41) (.cells #[Z y,Z 0,Z 0,Z 0,Z 0,Z 0,Z h,Z Q,.bool false,.string ⟨#[]⟩] 41) W->∀g,DY W.drew g->(g.cell? ⟨w.heap.size+1,0,none⟩=some (Z y)/\g.cell? ⟨w.heap.size+1,1,none⟩=some (Z 0)/\g.cell? ⟨w.heap.size+1,2,none⟩=some (Z 0)/\g.cell? ⟨w.heap.size+1,3,none⟩=some (Z 0)/\g.cell? ⟨w.heap.size+1,4,none⟩=some (Z 0))/\g.cell? ⟨w.heap.size+1,5,none⟩=some (Z 0)/\g.cell? ⟨w.heap.size+1,6,none⟩=some (Z h)/\g.cell? ⟨w.heap.size+1,7,none⟩=some (Z Q)/\g.cell? ⟨w.heap.size+1,8,none⟩=some (.bool false)/\g.cell? ⟨w.heap.size+1,9,none⟩=some (.string ⟨#[]⟩)/\DY w g):=λW f g hb=>by
  have hl:=(AB.1 f.2.2).1;have j:=(hb.block _ hl).trans f.2.2;exact⟨⟨EI j 0,EI j 1,EI j 2,EI j 3,EI j 4⟩,EI j 5,EI j 6,EI j 7,EI j 8,EI j 9,f.1.drew.trans (hb.mono f.1.size)⟩
 have HY:Hid (∀W,Two w (.cells #[Z kd,Z cl,Z li,Z ln,Z m,Z u,Z pa,Z o,.bool pl,.string SB] 41) (.cells #[Z y,Z 0,Z 0,Z 0,Z 0,Z 0,Z h,Z Q,.bool false,.string ⟨#[]⟩] 41) W->(Kk W w 0 (Z kd)/\Kk W w 1 (Z cl)/\Kk W w 2 (Z li)/\Kk W w 3 (Z ln)/\Kk W w 4 (Z m))/\Kk W w 5 (Z u)/\Kk W w 6 (Z pa)/\Kk W w 7 (Z o)/\Kk W w 8 (.bool pl)/\Kk W w 9 (.string SB)):=λW f=>⟨⟨EI f.2.1 0,EI f.2.1 1,EI f.2.1 2,EI f.2.1 3,EI f.2.1 4⟩,EI f.2.1 5,EI f.2.1 6,EI f.2.1 7,EI f.2.1 8,EI f.2.1 9⟩
 have HZ:=Dx (af4 w);rcases hk with ⟨j,rfl,rfl,rfl⟩|⟨j,rfl,rfl,rfl⟩
 ·have e1:(kd==3)=true:=by simpa using j
  clear j;go_enter func237,ntmps237;go_wp2_with fail
  refine R8 _ (HZ _ _) ?_;intro W f;obtain⟨⟨g0,g1,g2,g3,g4⟩,g5,g6,g7,g8,g9⟩:=HY W f;have ab:=(HX W f W.drew (AA _ _));obtain⟨⟨y0,y1,y2,y3,y4⟩,y5,y6,y7,y8,y9,_⟩:=ab;simp only[World.cell?_drew]at y0 y1 y2 y3 y4 y5 y6 y7 y8 y9;have X:=Dx (HX W f);clear f HX HY HZ;go_region_law (first
   |(refine FG rfl 235 #[.tmp 15] #[41] rfl aa2 #[.agg #[Z kd,Z cl,Z li,Z ln,Z m,Z u,Z pa,Z o,.bool pl,.string SB]] rfl _ (HC _) ?_;rintro e g ⟨rfl,D⟩;have ac:=X g D;obtain⟨⟨f0,f1,f2,f3,f4⟩,f5,f6,f7,f8,f9,M⟩:=ac;have T:=Dx (HS g M);clear D M;refine⟨_,rfl,?_⟩)
   |(refine FG rfl 192 #[.tmp 14,.tmp 16,.tmp 17] #[81,145,41] rfl qV #[.pointer (some (Y s 0)),.agg #[Z cl,Z li,Z ln,Z m,Z u],S9 4 0 0 0 0 0 0 1 false ⟨#[]⟩] rfl _ T ?_;rintro e w2 ⟨rfl,aa⟩;refine⟨_,rfl,?_⟩))
  all_goals
   go_wp2;go_returns;exact⟨rfl,aa⟩
 ·have e1:(kd==3)=false:=by simpa using j
  clear j;go_enter func237,ntmps237;go_wp2_with fail
  refine R8 _ (HZ _ _) ?_;intro W f;obtain⟨⟨g0,g1,g2,g3,g4⟩,g5,g6,g7,g8,g9⟩:=HY W f;have ab:=(HX W f W.drew (AA _ _));obtain⟨⟨y0,y1,y2,y3,y4⟩,y5,y6,y7,y8,y9,_⟩:=ab;simp only[World.cell?_drew]at y0 y1 y2 y3 y4 y5 y6 y7 y8 y9;have X:=Dx (HX W f);clear f HX HY HZ;go_region_law (first
   |(refine FG rfl 235 #[.tmp 15] #[41] rfl aa2 #[.agg #[Z kd,Z cl,Z li,Z ln,Z m,Z u,Z h,Z Q,.bool pl,.string SB]] rfl _ (HC _) ?_;rintro e g ⟨rfl,D⟩;have ac:=X g D;obtain⟨⟨f0,f1,f2,f3,f4⟩,f5,f6,f7,f8,f9,M⟩:=ac;have T:=Dx (HS g M);clear D M;refine⟨_,rfl,?_⟩)
   |(refine FG rfl 192 #[.tmp 14,.tmp 16,.tmp 17] #[81,145,41] rfl qV #[.pointer (some (Y s 0)),.agg #[Z cl,Z li,Z ln,Z m,Z u],S9 2 0 0 0 0 0 h Q false ⟨#[]⟩] rfl _ T ?_;rintro e w2 ⟨rfl,aa⟩;refine⟨_,rfl,?_⟩))
  all_goals
   go_wp2;go_returns;exact⟨rfl,aa⟩
theorem Qm{t:Ag}{r:Nat}(h:w.heap[b]?=some (.cells cur t z))(f:w.heap[b']?=some (.chan cap buf cl a r tm)):b≠b':=λe=>by
 rw[e,f]at h;cases h
theorem vl{v:Ad}(y:w.ownsRow B e size v n xs){r:Nat}(h:w.heap[b']?=some (.chan cap buf cl a r tm))(j:Nat)(f:v.ownBlock=some j):j≠b':=by
 rcases y.2 with ⟨rfl,_⟩|⟨g,cap,cur,rfl,_,m,_⟩
 ·cases f
 ·cases f;exact Qm m h
theorem ae3{α:Type}{l:List α}{x y:α}(h:(l.set u x)[i]?=some y):(i=u/\y=x)\/(i≠u/\l[i]?=some y):=by grind
def SP.put(t:SP)(i b:Nat):SP:={t with ql:=λj=>if j=i then b else t.ql j}
theorem mZ(t:SP)(DN:List R.Sn)(i b:Nat)(r':R.Sn)(hi:i<DN.length)(f:r'.D4≠0)(j:Nat):Gh (t.put i b) (DN.set i r') j=if j=i then ptr b else Gh t DN j:=by
 unfold Gh SP.put
 grind
theorem gP{DX:List Int}{DN:List R.Sn}(hl:DN.length=9)(hi:i<9)(f:r'.D4≠0):IW n nm (t.put i b) c DX (DN.set i r')=(IW n nm t c DX DN).set (10+i) (ptr b):=by
 have q:=mZ t DN i b r' U f;unfold IW;simp only[q];exact abw
theorem G9.S7{sv:List R.Sv}{DX:List Int}{DN:List R.Sn}(h:G9 s n nm t F c sv DX DN EF w)(ak:∀k,F k->k<w.heap.size){y:PR}(hl:DN.length=9)(hi:i<9)(ab:r'.D4≠0)(hb:w.heap.size<=b)(hk:DF (λk=>k=s) w w')(hs:w'.heap[s]?=some (.cells ((IW n nm t c DX DN).set (10+i) (ptr b)).toArray 167 (0,0)))(hy:w'.heap[b]?=some (.cells y.cells.toArray 147 (0,0)))(hrel:PT i (DX.getD (i / 3) 0) r' y):
  G9 s n nm (t.put i b) (λk=>F k\/k=b) c sv DX (DN.set i r') EF w':=by
 have⟨f1,f2,f3⟩:=h.Fw;have aa:Pp w F (λk=>k=s):=Pp.one h.bs Em;have⟨ja,jb,D⟩:=h.EF;have hq:∀(j:Nat) (x:R.Sn),(DN.set i r')[j]?=some x->(j=i/\x=r')\/(j≠i/\DN[j]?=some x):=λj x M=>by
  grind
 refine⟨by rw[gP hl hi ab];exact hs,h.zs,hk.row h.Gw (λj D e=>K5 h.Gw h.bs Em (by rw[<-e];exact D)),λz hz=>(h.each z hz).keep hk aa (λ_ q=>Aj q),h.dns,h.ye,λj x M f=>?_,λj j' x x' M T f g Q=>?_,⟨ja,jb,hk.at D (Qm h.bs D).symm⟩,Aj f1,Aj f2,λj D=>Aj (f3 j D)⟩
 ·rcases hq j x M with ⟨rfl,rfl⟩|⟨e,M⟩
  ·grind [SP.put]
  ·have⟨y',h1,h2,h3⟩:=h.ln j x M f;refine⟨y',?_,h2,Aj ?_⟩
   ·simp only[SP.put,Ao e];exact hk.at h1 (ES h1 h.bs Em)
   grind [SP.put]
 ·rcases hq j x M with ⟨e,_⟩|⟨e,X⟩
  ·rcases hq j' x' T with ⟨O,_⟩|⟨O,m⟩
   ·exact absurd (e.trans O.symm) Q
   ·have⟨y',_,_,h3⟩:=h.ln j' x' m g
    grind [SP.put]
  ·rcases hq j' x' T with ⟨O,_⟩|⟨O,m⟩
   ·have⟨y',_,_,h3⟩:=h.ln j x X f
    grind [SP.put]
   ·simp only[SP.put,Ao e,Ao O];exact h.inj j j' x x' X m f g Q
theorem G9.Qh{sv:List R.Sv}{DX:List Int}{DN:List R.Sn}{f:List R.Jb}(h:G9 s n nm t F c sv DX DN EF w)(hk:DF (λk=>k=t.jc) w w')(y:∃a b:Nat,w'.heap[t.jc]?=some (.chan c.FF.toNat (f.map Xn).toArray false a b false)):
  G9 s n nm t F c sv DX DN f w':=by
 have⟨ja,jb,g⟩:=h.EF;have m:Pp w F (λk=>k=t.jc):=Pp.iw (λb T=>Am (Am ⟨_,_,_,_,_,_,by subst T;exact g⟩));refine⟨hk.at h.bs (Qm h.bs g),h.zs,hk.row h.Gw (vl h.Gw g),λz hz=>(h.each z hz).keep hk m (λ_ q=>q),h.dns,h.ye,λj x X D=>?_,h.inj,y,h.Fw⟩;have⟨y',M,O,Q⟩:=h.ln j x X D;exact⟨y',hk.at M (Qm M g),O,Q⟩
def Nu(DN:List R.Sn)(k:Nat):List R.Sn:=((DN.set (3*k) R.Ic).set (3*k+1) R.Ic).set (3*k+2) R.Ic
theorem Nv(DN:List R.Sn)(k j:Nat)(x:R.Sn)(h:(Nu DN k)[j]?=some x):(j / 3=k/\x=R.Ic)\/(j / 3≠k/\DN[j]?=some x):=by grind [Nu]
theorem Vt(n nm:Nat)(t:SP)(c:R.Cf)(DX:List Int)(DN:List R.Sn)(k:Nat)(DR:Int)(f:DX.length=3)(hk:k<3):IW n nm t c (DX.set k DR) (Nu DN k)=((((IW n nm t c DX DN).set (7+k) (Z DR)).set (10+3*k) (.pointer none)).set (10+3*k+1) (.pointer none)).set (10+3*k+2) (.pointer none):=by
 have g:k=0\/k=1\/k=2:=U;have q:∀j,Gh t (Nu DN k) j=if j / 3=k then .pointer none else Gh t DN j:=λj=>by
  grind [Nu,Gh,R.Ic]
 obtain⟨a,b,d,rfl⟩:∃a b d,DX=[a,b,d]:=by
  match DX,f with
  |[a,b,d],_=>exact⟨a,b,d,rfl⟩
 unfold IW;simp only[q];rcases g with rfl|rfl|rfl<;>rfl
theorem G9.forget{sv:List R.Sv}{DX:List Int}{DN:List R.Sn}(h:G9 s n nm t F c sv DX DN EF w){DR:Int}(T:DX.length=3)(Q:k<3)(hk:DF (λk=>k=s) w w')(hs:w'.heap[s]?=some (.cells (((((IW n nm t c DX DN).set (7+k) (Z DR)).set (10+3*k) (.pointer none)).set (10+3*k+1) (.pointer none)).set (10+3*k+2) (.pointer none)).toArray 167 (0,0))):
  G9 s n nm t F c sv (DX.set k DR) (Nu DN k) EF w':=by
 have M:Pp w F (λk=>k=s):=Pp.one h.bs Em;have⟨ja,jb,D⟩:=h.EF;refine⟨by rw[Vt n nm t c DX DN k DR T Q];exact hs,h.zs,hk.row h.Gw (λj D e=>K5 h.Gw h.bs Em (by rw[<-e];exact D)),λz hz=>(h.each z hz).keep hk M (λ_ q=>q),h.dns,h.ye,λj x m f=>?_,λj X x x' m y f g O=>?_,⟨ja,jb,hk.at D (Qm h.bs D).symm⟩,h.Fw⟩
 ·rcases Nv DN k j x m with ⟨_,rfl⟩|⟨e,m⟩
  ·exact absurd rfl f
  ·have⟨y',h1,h2,h3⟩:=h.ln j x m f
   grind [G9,DF]
 ·rcases Nv DN k j x m with ⟨_,rfl⟩|⟨e,m⟩
  ·exact absurd rfl f
  ·rcases Nv DN k X x' y with ⟨_,rfl⟩|⟨e',y⟩
   ·exact absurd rfl g
   ·exact h.inj j X x x' m y f g O
end Go.Proofs.YtblomippkddgiaaGreatDoor
