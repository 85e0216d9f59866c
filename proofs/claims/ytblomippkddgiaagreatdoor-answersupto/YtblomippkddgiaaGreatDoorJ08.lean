import Derived.Test.YtblomippkddgiaaGreatDoorJ07
set_option maxRecDepth 100000
set_option maxHeartbeats 1000000
namespace Go.Proofs.YtblomippkddgiaaGreatDoor.V
open Go.Proofs.Tryz
open Go.RowKit
open Go.ChangeShapes Go.WideShapes Go.ChangeAt Go.RowKit
open Go.ChangeMaps (open_string shut_string)
variable {s:ByteArray}{hi lo:Int}{x:It}{l v:List It}{B G b j k m n:Nat}{P:Program}{a c:UInt8}{O T:Value}{w w' w0:World}
theorem vm{out:Ac}(h:w.ownsRow B 5 1 O out.length (Ku out)):(convert 199 9 O).run prog w=.ok (.string ⟨out.toArray⟩) w:=by
 have hcl:=λg=>h.cells (g:=g)
 exact afv
def Sw(e:GB)(v:List It):Nat×List UInt8:=match e with
 |none=>(4,[])
 |some (ks,r)=>if r=[] then (if 70<(Et ks v).length then (5,[]) else (0,Et ks v)) else (4,[])
def i7(Kw:Nat×List UInt8)(e:Ending):Prop:=if Kw.1=0 then e=.returned (.string ⟨Kw.2.toArray⟩) else e=EQ Kw.1 0
theorem Mf(n:Nat)(w:Aa):D7 127 #[Z n] w (.bool (decide (70<n))) λw'=>w'=w:=by
 have e:(decide (70<n))=(decide ((70:Int)<n)):=by
  rw[BH];simp;omega
 rw[e];go_enter func127,ntmps127;go_wp2
 go_ret
 exact⟨rfl,rfl⟩
abbrev pR(V:Ad):Obj:=.cells #[V,.slice none 0 0] 201
theorem iU(w:Aa)(u x1:Int)(g D:Af)(en h Q M:Nat)
  (y:ET 125 #[.agg #[.int .u8 u,Z x1,.slice g en h],.iface 203 (.pointer (some ⟨w.heap.size+1,0,none⟩))] ((w.alloc (Gb u x1 g en h)).alloc (pR (.slice D Q M))) λe w'=>e=EQ 4 0/\DY w w'):
  ET 77 #[.agg #[.int .u8 u,Z x1,.slice g en h],.slice D Q M] w λe w'=>e=EQ 4 0/\DY w w':=by
 have f:=Dx y;clear y;go_enter func77,ntmps77;go_wp2_with fail
 refine cm f λw1 X=>?_
 go_wp2;exact⟨rfl,rfl,X⟩
structure i6(w w':Aa)(n:Nat)(out:Ac)(a:Af)(cap:Nat)(O:Ad):Prop where
 left:w'.cell? ⟨w.heap.size+1,0,none⟩=some (.slice a n cap)
 aeV:w'.cell? ⟨w.heap.size+1,1,none⟩=some O
 own:w'.ownsRow (w.heap.size+2) 5 1 O out.length (Ku out)
 DG:Below w.heap.size w w'
theorem iT(w:Aa)(M x1:Int)(g va:Af)(en h vn vc:Nat)(n:Nat)(out:Ac)(hn:0<n)
  (Q:D7 125 #[.agg #[.int .u8 M,Z x1,.slice g en h],.iface 203 (.pointer (some ⟨w.heap.size+1,0,none⟩))] ((w.alloc (Gb M x1 g en h)).alloc (pR (.slice va vn vc))) Ep λw'=>∃a cap O,i6 w w' n out a cap O):
  ET 77 #[.agg #[.int .u8 M,Z x1,.slice g en h],.slice va vn vc] w λe w'=>e=EQ 4 0/\DY w w':=by
 have⟨f,HN⟩:=FU Q JP;clear Q;go_enter func77,ntmps77;go_wp2_with fail
 refine cm f ?_;rintro w1 ⟨a,cap,O,u⟩;have c0:=u.left;have X:=u.DG;have D:=X.size;clear u;go_wp2_with fail
 refine cm (HN _) λw2 y=>?_
 go_wp2;exact⟨rfl,rfl,X.trans (y.mono D)⟩
theorem pT(w:Aa)(M x1:Int)(u va:Af)(en y vn vc:Nat)(out:Ac)(hn:70<out.length)
  (X:D7 125 #[.agg #[.int .u8 M,Z x1,.slice u en y],.iface 203 (.pointer (some ⟨w.heap.size+1,0,none⟩))] ((w.alloc (Gb M x1 u en y)).alloc (pR (.slice va vn vc))) Ep λw'=>∃a cap O,i6 w w' 0 out a cap O):
  ET 77 #[.agg #[.int .u8 M,Z x1,.slice u en y],.slice va vn vc] w λe w'=>e=EQ 5 0/\DY w w':=by
 have⟨h,Q⟩:=FU X (λw=>Mf out.length w);rw[show decide (70<out.length)=true by simp[hn]]at Q;clear X hn;go_enter func77,ntmps77;go_wp2_with fail
 refine cm h ?_;rintro w1 ⟨a,cap,O,f⟩;have c0:=f.left;have c1:=f.aeV;have hb:=f.DG;obtain⟨oa,oc,rfl⟩:∃a c,O=.slice a out.length c:=by
  rcases f.own.2 with ⟨D,h0⟩|⟨g,cap,aa,D,_⟩
  ·exact⟨none,0,by rw[D,h0]⟩
  ·exact⟨_,_,D⟩
 clear f;go_wp2_with fail
 refine cs (Q _) ?_;go_wp2;exact⟨rfl,rfl,hb⟩
theorem xU(w:Aa)(D x1:Int)(h X:Af)(en u vn vc:Nat)(out:Ac)(hn:¬70<out.length)
  (Q:D7 125 #[.agg #[.int .u8 D,Z x1,.slice h en u],.iface 203 (.pointer (some ⟨w.heap.size+1,0,none⟩))] ((w.alloc (Gb D x1 h en u)).alloc (pR (.slice X vn vc))) Ep λw'=>∃a cap O,i6 w w' 0 out a cap O):
  D7 77 #[.agg #[.int .u8 D,Z x1,.slice h en u],.slice X vn vc] w (.string ⟨out.toArray⟩) λw'=>DY w w':=by
 have⟨f,M⟩:=FU Q (λw=>Mf out.length w);rw[show decide (70<out.length)=false by simp;omega]at M;clear Q hn;go_enter func77,ntmps77;go_wp2_with fail
 refine cm f ?_;rintro w1 ⟨a,cap,O,e⟩;have c0:=e.left;have c1:=e.aeV;have hb:=e.DG;have ad:=vm e.own;obtain⟨oa,oc,rfl⟩:∃a c,O=.slice a out.length c:=by
  rcases e.own.2 with ⟨y,h0⟩|⟨g,cap,aa,y,_⟩
  ·exact⟨none,0,by rw[y,h0]⟩
  ·exact⟨_,_,y⟩
 clear e;go_wp2_with fail
 refine cs (M _) ?_;go_wp2
 go_ret
 exact⟨rfl,hb⟩
theorem Ru(s:Ab)(S:Nat->Prop)(c0 c1 c2 V:Ad)(v:List It)(w:Aa)(hR:NP w S (nx s) (s.size+1) 0 c0 c1 c2)(hO:N4 s (s.size+1) 0)(hd:Pt.Lj (nx s) (s.size+1) 0<=4)(hI:Ff w V v)(hn:v.length<=9000000000000):
  ET 77 #[.agg #[c0,c1,c2],V] w λe w'=>i7 (Sw (Hg (nx s) (s.size+1) 0 v) v) e/\DY w w':=by
 obtain⟨⟨x0,rfl⟩,⟨x1,rfl⟩,⟨ea,en,ec,rfl⟩⟩:=GN hR;obtain⟨D,M,rfl⟩:∃a c,V=.slice a v.length c:=by
  have⟨a,c,h,_⟩:=hI;exact⟨a,c,h⟩
 have g:DY w (w.alloc (Gb x0 x1 ea en ec)):=(AA w.heap.size w).alloc (Ar _) _;have ab:=GM ⟨g.size,λk _ hl=>g.block k hl⟩ hR;have hz:(w.alloc (Gb x0 x1 ea en ec)).heap.size=w.heap.size+1:=Ev;have ad:WS (w.alloc (Gb x0 x1 ea en ec)) ((w.alloc (Gb x0 x1 ea en ec)).alloc (pR (.slice D v.length M))) (.slice D v.length M) v (.slice none 0 0) []:=by
  refine⟨?_,hI.DG g,F9,AZ _ _ _ _⟩;unfold Wr;exact abR
 have hM:10 ^ Pt.Lj (nx s) (s.size+1) 0<=10 ^ 4:=CS Em hd;have u:=VI (U8 (w.alloc (Gb x0 x1 ea en ec))) s (s.size+1) 0 S _ _ _ ab hO _ 0 (v,[]) _ ⟨_,_,ad,rfl,hn,Ar _⟩ U;have X:(Im (w.alloc (Gb x0 x1 ea en ec))).I=.iface 203 (.pointer (some ⟨w.heap.size+1,0,none⟩)):=by
  show Value.iface 203 (.pointer (some ⟨(w.alloc (Gb x0 x1 ea en ec)).heap.size,0,none⟩))=_;rw[hz]
 rw[X]at u;have ac:=lC (nx s) (s.size+1) 0 v [];rw[show Es (Im (w.alloc (Gb x0 x1 ea en ec))).num (Im (w.alloc (Gb x0 x1 ea en ec))).IE (nx s) (s.size+1) 0 (v,[])=Es QC Rq (nx s) (s.size+1) 0 (v,[]) from rfl,ac]at u;have hbb:∀w',Below (w.alloc (Gb x0 x1 ea en ec)).heap.size (w.alloc (Gb x0 x1 ea en ec)) w'->DY w w':=λw' h=>g.trans (h.mono U)
 cases he:Hg (nx s) (s.size+1) 0 v with
 |none=>
  rw[he]at u;refine(iU w x0 x1 ea D en ec v.length M (u.mono ?_)).mono ?_
  ·exact acs
  ·rintro e w' ⟨rfl,hb⟩;exact⟨rfl,hb⟩
 |some a=>
  have⟨ks,r⟩:=a;rw[he]at u;have HL:D7 125 #[.agg #[.int .u8 x0,Z x1,.slice ea en ec],.iface 203 (.pointer (some ⟨w.heap.size+1,0,none⟩))] ((w.alloc (Gb x0 x1 ea en ec)).alloc (pR (.slice D v.length M))) Ep λw'=>∃a cap O,i6 w w' r.length (Et ks v) a cap O:=by
   refine u.mono ?_;rintro e w' (⟨rfl,hx,_⟩|⟨rfl,x',hx,c',O',_,⟨L,Ov,f,_⟩,_⟩)
   ·cases hx
   ·cases hx;simp only[Cc]at f;have⟨la,lc,aa,_⟩:=f.Gz;subst aa;have h1:=f.wr.left;have h2:=f.wr.out;have h3:=f.own;rw[hz]at h1 h2 h3;exact⟨rfl,la,lc,Ov,h1,h2,h3,hbb w' f.DG⟩
  cases r with
  |cons y r=>
   refine cm (iT w x0 x1 ea D en ec v.length M _ _ Ev HL) λw' hb=>?_
   exact⟨rfl,hb⟩
  |nil=>
   by_cases Q:70<(Et ks v).length
   ·refine cm (pT w x0 x1 ea D en ec v.length M _ Q HL) λw' hb=>?_
    grind [i7,Sw]
   grind [xU,i7,Sw]
theorem Od(n q:Nat)(w:Aa):(Instr.field 86 (Gk n q) 0).run prog w=.ok (Z n) w:=EL
abbrev M0(r:Nat×Nat):Ending:=.returned (.tuple #[Z r.1,Z r.2])
theorem Qn(s:Ab)(w:Aa):ET 147 #[.string s] w λe w'=>e=M0 (Pt.O7 (nx s) s.size)/\DY w w':=by
 by_cases f:s.size<=40
 ·have h:=nM s w f
  grind [Pt.aaf,Ot]
 grind [Pt.O7,uU]
theorem own:ownKnob prog.godebug=none:=EL
structure Good(s:Ab):Prop where
 size:s.size<=40
 ok:N4 s (s.size+1) 0
 Lj:Pt.Lj (nx s) (s.size+1) 0<=4
theorem Nw(h:(Pt.O7 (nx s) s.size).1=0):Good s:=by
 unfold Pt.O7 at h;split at h
 ·cases h
 ·split at h
  ·rename_i f e;split at h
   ·cases h
   ·split at h
    ·cases h
    ·exact⟨U,⟨AV _,U,e⟩,U⟩
  ·cases h
theorem oJ(h:(Pt.O7 (nx s) s.size).1=0):ET 78 #[.string s] w λe w'=>(∃c0 c1 c2,e=.returned (.agg #[c0,c1,c2])/\NP w' (λk=>w.heap.size<=k) (nx s) (s.size+1) 0 c0 c1 c2)/\DY w w':=by
 obtain⟨D,⟨_,_,f⟩,hd⟩:=Nw h;obtain⟨_,u,_⟩:=Pt.agree (g:=nx s) (n:=s.size) (λp y=>Ot y) (s.size+1) 0 0 1 0 [] U U;have q:=u f;have M:¬(Pt.ty (nx s) (s.size+1) 0).2<s.size:=by grind [Pt.O7]
 exact uO s w D f U U
def Jk(s:Ab)(v:List It):Nat×List UInt8:=if (Pt.O7 (nx s) s.size).1=0 then Sw (Hg (nx s) (s.size+1) 0 v) v else ((Pt.O7 (nx s) s.size).1,[])
theorem jD{g:Nat->Nat}{f p:Nat}:(vI 0 (Hg g f p v)==(v.length:Int))=(match Hg g f p v with|none=>false|some (_,r)=>r.isEmpty):=by
 cases he:Hg g f p v with
 |none=>simp[vI]
 |some a=>
  obtain⟨e,r⟩:=a;obtain⟨h,u⟩:=Hs g f p v e r he;have hl:r.length=v.length-e.length:=by rw[h,A9]
  simp only[vI];cases r with
  |nil=>simp at hl ⊢;omega
  |cons y r=>simp at hl ⊢;omega
theorem Ue{e:List Bool}(h:IK e v)(hl:e.length=v.length):Vz e v:=⟨hl,h⟩
def flat:List It->List Value
 |[]=>[]
 |x :: v=>.int .i64 x.1 :: .string x.2 :: flat v
theorem I5:∀v:List It,(flat v).length=v.length*2
 |[]=>rfl
 |x :: v=>by simp only[flat,A4,I5 v];omega
theorem flat_get:∀(v:List It) (j:Nat) (x:It),v[j]?=some x->(flat v)[j*2]?=some (Z x.1)/\(flat v)[j*2+1]?=some (.string x.2)
 |[],j,x,h=>by simp at h
 |y :: v,0,x,h=>by
  simp at h;subst h;exact⟨rfl,rfl⟩
 |y :: v,j+1,x,h=>by
  have:=flat_get v j x (by simpa using h);rw[show (j+1)*2=j*2+1+1 by omega];simpa [flat] using this
theorem Oe:∀v:List It,∀u∈flat v,u.oneCell'=true
 |[],u,h=>by cases h
 |x :: v,u,h=>by
  simp only[flat,CX]at h;rcases h with rfl|rfl|h
  ·rfl
  ·rfl
  ·exact Oe v u h
theorem eD{f:Addr}{cap:Nat}(h:Ff w (.slice (some f) v.length cap) v):∀j u,(flat v)[j]?=some u->w.cell? (f.add j)=some u:=by
 have⟨a,g,D,_,h⟩:=h;cases D;rcases h with rfl|⟨b,off,M,hl,hx⟩
 ·intro j u y;simp[flat]at y
 ·cases M;intro j u y;have Q:j<v.length*2:=by grind [I5]
  obtain⟨x,e⟩:∃x,v[j / 2]?=some x:=⟨_,Ah U⟩;have⟨X,f1⟩:=flat_get v (j / 2) x e
  grind [Addr.add]
theorem LQ:(prog.info? 106).map (λi=>(i.zero,i.size,i.bytes))=some (some (.agg #[Z 0,.string ⟨#[]⟩]),2,24):=EL
theorem zp:(prog.info? 106).map (·.size)=some 2:=EL
theorem oA(w:Aa)(dT sT ty f:Ag)(g e y:Nat)(a:Addr)(h Q:Nat)(u:Array Value)(t:Ag)(cs:Ae)
  (hu:P.underlying dT=some (.slice f)) (hs:(P.info? f).map (·.size)=some 2)
  (hg:w.heap[g]?=some (.cells u t (0,0))) (hn:cs.length=Nat.min h e*2)
  (M:∀j v,cs[j]?=some v->w.cell? (a.add j)=some v) (D:cs.length<=u.size) (h1:∀v∈cs,v.oneCell'=true):
  (Builtin.copy_ #[dT,sT] ty #[EJ g e y,.slice (some a) h Q]).run P w =
   .ok (goInt (Nat.min h e)) (w.setRow g (cs++u.toList.drop cs.length).toArray):=by
 have hl:=run_loadCells_list (P:=P) w a cs M;have aa:=run_storeCells_at P g 0 t cs 0 u w hg (by simpa using D) h1;cases hq:P.info? f with
 |none=>simp[hq]at hs
 |some i=>
  have hi:i.size=2:=by simpa [hq] using hs
  have X:=hn.symm;simp[Builtin.copy_,run_underlying hu,Builtin.lenOf,Builtin.firstCells,sizeOf,typeInfo,hq,hi,X,hl,aa]
def Iu:It:=(-77,⟨#[98,101,121,111,110,100]⟩)
abbrev Tp(x:It):Value:=.agg #[Z x.1,.string x.2]
def I9(w:Aa)(G m k:Nat)(l:List It):Prop:=∃cur:Array Value,w.heap[G]?=some (.cells cur 106 (0,0))/\cur.size=m*2/\∀j x,k<=j->l[j]?=some x->cur[j*2]?=some (Z x.1)/\cur[j*2+1]?=some (.string x.2)
theorem I9.lt(h:I9 w G m k l):G<w.heap.size:=by grind [I9]
theorem I9.DG(h:I9 w G m k l)(f:DY w w'):I9 w' G m k l:=by
 have hl:=h.lt;have⟨e,g,r⟩:=h;exact⟨e,by rw[f.block G hl];exact g,r⟩
theorem I9.at(h:I9 w G m k l)(hk:k<=j)(e:l[j]?=some x):w.cell? (Y G (j*2))=some (Z x.1)/\w.cell? (Y G (j*2+1))=some (.string x.2):=by grind [I9,World.cell?]
theorem I9.has(h:I9 w G m k l)(g:j<m):∃a b,w.cell? (Y G (j*2))=some a/\w.cell? (Y G (j*2+1))=some b:=by
 have⟨e,f,u,_⟩:=h;refine⟨e[j*2]'U,e[j*2+1]'U,?_,?_⟩;all_goals grind [World.cell?]
theorem I9.thaw(h:I9 w G m k l)(o:Nat):w.frozen? (Y G o)=false:=by grind [I9,World.frozen?]
theorem I9.set(h:I9 w G m k l)(u:j<m)(x:It):
  I9 ((w.setCell (Y G (j*2)) (Z x.1)).setCell (Y G (j*2+1)) (.string x.2)) G m k (if j<l.length then l.set j x else l++[x])\/¬j<=l.length:=by
 by_cases hl:j<=l.length
 ·refine Aj ?_;have⟨e,g,f,r⟩:=h;refine⟨(e.setIfInBounds (j*2) (Z x.1)).setIfInBounds (j*2+1) (.string x.2),?_,by simp[f],λi y hi D=>?_⟩;all_goals grind [World.setCell]
 ·exact Am hl
theorem I9.snoc(h:I9 w G m k l)(e:l.length<m)(x:It):
  I9 ((w.setCell (Y G (l.length*2)) (Z x.1)).setCell (Y G (l.length*2+1)) (.string x.2)) G m k (l++[x]):=by
 rcases h.set e x with h|h;all_goals grind
theorem I9.from(h:I9 w G m k l)(a b:Ad):
  I9 ((w.setCell (Y G (k*2)) a).setCell (Y G (k*2+1)) b) G m (k+1) l:=by
 have⟨e,g,f,r⟩:=h;refine⟨(e.setIfInBounds (k*2) a).setIfInBounds (k*2+1) b,?_,by simp[f],λi y hi u=>?_⟩;all_goals grind [World.setCell]
theorem I9.Gz(h:I9 w G m 0 l){e:List It}(hl:l=v++e)(g:v.length<=m):Ff w (EJ G v.length m) v:=by
 refine⟨_,_,rfl,g,Am ⟨G,0,rfl,h.lt,λj x f=>?_⟩⟩;have:=h.at (j:=j) (x:=x) (AV _) (by rw[hl,A6 (GG f)];exact f);simpa using this
theorem Zc(w:Aa)(n:Nat)(v:List It)(e:v.length=n)(z:Array Value):
  I9 ((w.alloc (.cells (madeCells z ((n+6)*2)) 106)).setRow w.heap.size (flat v++(madeCells z ((n+6)*2)).toList.drop (flat v).length).toArray) w.heap.size (n+6) 0 v:=by
 refine⟨(flat v++(madeCells z ((n+6)*2)).toList.drop (flat v).length).toArray,?_,?_,λj x _ f=>?_⟩
 ·simp only[World.setRow,Cv,CQ];show Option.map _ ((w.heap.push _)[w.heap.size]?)=_;rw[Bz];rfl
 ·simp[size_madeCells,I5,e];omega
 grind [flat_get,List.getElem?_append_left]
theorem Tx(w:Aa):D7 206 #[] w (Tp Iu) λw'=>DY w w':=by
 go_enter func206,ntmps206;go_wp2;exact Bm (v:=Tp Iu) (by simp[results,results206,go_sem,Iu]) rfl ⟨rfl,F9⟩
theorem notNil(e:Addr)(n cap:Nat)(w:Aa):(binOp .eql 44 (.slice (some e) n cap) (.slice none 0 0)).run prog w=.ok (.bool false) w:=EL
theorem isNil(n cap:Nat)(w:Aa):(binOp .eql 44 (.slice none n cap) (.slice none 0 0)).run prog w=.ok (.bool true) w:=EL
theorem US(v:List It)(k:Nat)(x:It):v++List.replicate k x++[x]=v++List.replicate (k+1) x:=by grind [List.replicate_succ']
theorem sN(w:Aa)(ad:Addr)(cap:Nat)(v:List It)(h:Ff w (.slice (some ad) v.length cap) v)(hn:v.length<=9000000000000):
  D7 148 #[.slice (some ad) v.length cap] w (EJ w.heap.size v.length (v.length+6)) λw'=>I9 w' w.heap.size (v.length+6) 0 (v++List.replicate 6 Iu)/\DY w w':=by
 obtain⟨n,y⟩:∃n,n=v.length:=⟨_,rfl⟩;have⟨i0,hi,aN,aS,aV⟩:=A1 LQ;obtain⟨z,al⟩:∃z:Array Value,z=(Value.agg #[Z 0,.string ⟨#[]⟩]).cells:=⟨_,rfl⟩;have b6:∀u:World,(Instr.makeSlice 44 (Z ((n:Int)+6)) (Z ((n:Int)+6))).run prog u=.ok (EJ u.heap.size (n+6) (n+6)) (u.alloc (.cells (madeCells z ((n+6)*2)) 106)):=λu=>by
  have h:=run_make (P:=prog) u 44 106 i0 _ underlying44 hi aN .i64 .i64 ((n:Int)+6) ((n:Int)+6) U (BK _) (by rw[aV];omega) U;have e:((n:Int)+6).toNat=n+6:=U;rw[e,aS,<-al]at h;exact h
 have⟨HF,HB⟩:=FU (eD h) Tx;rw[<-y];have aw:=Dx y;have b9:n<=9000000000000:=U;have HL:=Dx (Zc w n v y.symm z);have az:(flat v).length=n*2:=by rw[I5,<-y]
 have HG:Hid ((w.alloc (.cells (madeCells z ((n+6)*2)) 106)).heap[w.heap.size]?=some (.cells (madeCells z ((n+6)*2)) 106 (0,0))):=by
  show (w.heap.push _)[w.heap.size]?=_;rw[Bz]
 have ar:Hid (∀j u,(flat v)[j]?=some u->(w.alloc (.cells (madeCells z ((n+6)*2)) 106)).cell? (ad.add j)=some u):=by
  intro j u hj;have h1:=HF j u hj;exact(AR (w:=w) (AL w _ _ (by
   rcases CR (ad.add j).block w.heap.size with hh|hh
   ·exact hh
   ·simp[World.cell?,Array.getElem?_eq_none hh]at h1))).trans h1
 have b1:=notNil ad n cap;have M:Nat.min n (n+6)=n:=Ct U;have ah:=oA (P:=prog) (w.alloc (.cells (madeCells z ((n+6)*2)) 106)) 44 44 3 106 w.heap.size (n+6) (n+6) ad n cap (madeCells z ((n+6)*2)) 106 (flat v) underlying44 zp HG (by rw[az,M]) ar (by rw[Dg];omega) (Oe v);rw[M]at ah;obtain⟨W1,aa⟩:∃W1,W1=(w.alloc (.cells (madeCells z ((n+6)*2)) 106)).setRow w.heap.size (flat v++(madeCells z ((n+6)*2)).toList.drop (flat v).length).toArray:=⟨_,rfl⟩;have aq:Hid (DY w W1):=by
  rw[aa];exact below_setRow F9 (Ar _) _
 rw[<-aa]at ah HL;clear al h y hn aa;go_enter func148,ntmps148;go_wp2;go_loopw [5] (λiv wr=>∃i:Nat,n<=i/\i<=n+6/\iv=Z i/\I9 wr w.heap.size (n+6) 0 (v++List.replicate (i-n) Iu)/\DY w wr) (λiv _=>n+6-(intOf iv).toNat)
 case atStart=>
  refine⟨n,Ar _,U,rfl,?_,aq⟩;rw[CZ,List.replicate_zero,Cb];exact Dw HL
 case round=>
  obtain⟨i,b7,b4,rfl,hL,hb⟩:=hrel;by_cases ak:i<n+6
  ·have Q:=Dx hL;have D:=Dx hb;clear hL hb;go_wp2_with fail
   refine cm (HB _) λw1 ab=>?_
   have f:=Q.DG ab;have⟨a0,a1,c0,c1⟩:=f.has ak;have z0:=f.thaw (i*2);have z1:=f.thaw (i*2+1);have ae:=D.trans (ab.mono D.size);have g:(v++List.replicate (i-n) Iu).length=i:=by rw[AJ,BN,<-Dw aw];omega
   have X:=f.snoc (by rw[g];exact ak) Iu;rw[g,US,show i-n+1=i+1-n by omega]at X;have⟨av,ao⟩:=FU X ae;clear f ae X ab g;go_wp2;go_roundw
   case rel=>exact⟨i+1,U,U,Kc,av,(ao.setCell Ev _).setCell Ev _⟩
   case measure=>exact Kt
  ·obtain rfl:i=n+6:=U;have⟨Q,D⟩:=FU hL hb;clear hL hb;go_wp2
   go_ret
   refine⟨rfl,?_,D⟩;have:=Dw Q;rw[show n+6-n=6 by omega]at this;exact this
theorem Qy(b:Nat)(l:Ac)(O:Ad)(n:Nat)(w:Aa)(h:Rd w b l O)(hn:¬n<=l.length):
  ET 190 #[.pointer (some (Y b 0)),Z n] w λe w'=>e=EQ 6 0/\DY w w':=by
 have y:=h.left;have f:=Er l;have g:=Dx (JR b l O w h);generalize hS:str l=S at *;clear hS h;have u:((S.size:Int)<(n:Int)):=U;clear hn f;go_enter func190,ntmps190;go_wp2_with fail
 refine cs g ?_;go_wp2;exact⟨rfl,rfl,AA _ _⟩
theorem WR(b:Nat)(O:Ad)(w:Aa)(h:Rd w b [] O):ET 113 #[.pointer (some (Y b 0))] w λe w'=>e=EQ 6 0/\DY w w':=by
 have H:=Dx (Qy b [] O 1 w h Ev);clear h;go_enter func113,ntmps113;go_wp2_with fail
 refine cm H λg f=>?_
 go_wp2;exact⟨rfl,rfl,f⟩
theorem PW(b:Nat)(c:UInt8)(r:Ac)(O:Ad)(w:Aa)(h:Rd w b (c :: r) O)(hl:r.length<=900):D7 113 #[.pointer (some (Y b 0))] w (Z (c.toNat:Int)) λw'=>w'=w.setCell (Y b 0) (.string (str r)):=by
 have H:=Dx (ME b (c :: r) O 1 w h Ev Fy);rw[show (c :: r).take 1=[c] from rfl,show (c :: r).drop 1=r from rfl]at H;have i0:(str [c])[0]'(by rw[Er];simp)=c:=rfl;have hc:=c.toNat_lt;have e:wrap64 (c.toNat:Int)=(c.toNat:Int):=NU;clear h;exact acv
theorem aQ{l:Ac}(h:Rd w b l O)(hn:¬2<=l.length):
  ET 114 #[.pointer (some (Y b 0))] w λe w'=>e=EQ 6 0/\Below b w w':=by
 match l,h,hn with
 |[],h,_=>
  have u:=h.lt;have H:=Dx (WR b O w h);clear h;go_enter func114,ntmps114;go_wp2_with fail
  refine cm H λQ f=>?_
  go_wp2;exact⟨rfl,rfl,f.mono U⟩
 |[a],h,_=>
  have u:=h.lt;have⟨H,y⟩:=FU (PW b a [] O w h Ev) (WR b O _ (h.set0 []));have D:=a.toNat_lt;have M:wrap64 ((a.toNat:Int)*256)=(a.toNat:Int)*256:=NU;clear h;go_enter func114,ntmps114;go_wp2_with fail
  refine cs H ?_;go_wp2_with fail
  refine cm y λX g=>?_
  go_wp2;exact⟨rfl,rfl,((AA b w).setCell Ev _).trans (g.mono Fy)⟩
 |a :: c :: r,_,hn=>exact absurd Ev hn
theorem Xy(a c:Nat)(f:a<256)(hc:c<256):bits .or .i64 ((a*256:Nat):Int) (c:Int)=((a*256+c:Nat):Int):=by
 have e:a*256 ||| c=a*256+c:=by
  have h:=Nat.two_pow_add_eq_or_of_lt (i:=8) (b:=c) U a
  grind
 exact afA
def E5(a c:UInt8):Nat:=a.toNat*256+c.toNat
theorem aR{r:Ac}(h:Rd w b (a :: c :: r) O)(hl:r.length<=500):
  D7 114 #[.pointer (some (Y b 0))] w (Z (E5 a c)) λw'=>w'=(w.setCell (Y b 0) (.string (str (c :: r)))).setCell (Y b 0) (.string (str r)):=by
 have H:=Dx (PW b a (c :: r) O w h Fy);have H2:=Dx (PW b c r O _ (h.set0 (c :: r)) U);have e:=a.toNat_lt;have hc:=c.toNat_lt;have g:wrap64 ((a.toNat:Int)*256)=(a.toNat:Int)*256:=NU;have f:bits .or .i64 ((a.toNat:Int)*256) (c.toNat:Int)=((E5 a c:Nat):Int):=by
  have:=Xy a.toNat c.toNat U U;exact acw
 clear h;exact abp
theorem sO(n cap:Nat)(w:Aa):D7 148 #[.slice none n cap] w (.slice none 0 0) λw'=>w'=w:=by
 have e:=isNil n cap;go_enter func148,ntmps148;go_wp2
 go_ret
 exact⟨rfl,rfl⟩
theorem pM(O:Ad)(n cap:Nat)(w:Aa):D7 150 #[O,.slice none n cap] w (.bool true) λw'=>w'=w:=by
 have e:=isNil n cap;go_enter func150,ntmps150;go_wp2
 go_ret
 exact⟨rfl,rfl⟩
structure RS(w0 w:Aa)(l:Ac)(O:Ad)(v:List It):Prop where
 rd:Rd w w0.heap.size l O
 DG:Below w0.heap.size w0 w
 own:w.ownsRow (w0.heap.size+1) 106 2 O v.length (flat v)
theorem RS.row{l:Ac}(h:RS w0 w l O v)(hk:O.ownBlock=some k):w0.heap.size<k/\k<w.heap.size:=by
 have:=h.own.lt k hk;omega
theorem RS.go{l:Ac}(h:RS w0 w l O v)(e:DY w w'):RS w0 w' l O v:=
 ⟨h.rd.DG e,h.DG.trans (e.mono h.DG.size),ER h.own e⟩
theorem RS.Sq{l:Ac}(h:RS w0 w l O v)(l':Ac):RS w0 (w.setCell (EN w0 0) (.string (str l'))) l' O v/\Wk w0.heap.size O O w (w.setCell (EN w0 0) (.string (str l'))):=
 ⟨⟨h.rd.set0 l',h.DG.setCell Ev _,Qq h.own U⟩,⟨Ev,λk _ e _=>AU _ _ _ _ (by simpa using e),Aj rfl⟩⟩
theorem RS.drewN{l:Ac}(h:RS w0 w l O v)(q:Nat):RS w0 (w.drewN q) l O v:=⟨h.rd,Ed h.DG q,h.own⟩
theorem Wk.drewN{e:Ad}(h:Wk b O e w w')(q:Nat):Wk b O e w (w'.drewN q):=⟨h.size,h.block,h.row⟩
theorem QS:∀(v:List It) (x:It),flat (v++[x])=flat v++[Z x.1,.string x.2]
 |[],x=>rfl
 |y :: v,x=>by simp only[BB,flat,QS v x]
theorem Tc{g:Aa}{l:Ac}{f:Ad}{o:Obj}(h:RS w0 w l O v)(y:g.ownsRow (w0.heap.size+1) 106 2 f (v.length+1) (flat v++[Z x.1,.string x.2]))(hg:(w.alloc o).grownBy g O.ownBlock)(D:f.ownBlock=O.ownBlock\/f.ownBlock=some (w.alloc o).heap.size):
  Rd g w0.heap.size l O/\RS w0 (g.setCell (EN w0 2) f) l f (v++[x])/\Wk w0.heap.size O f w (g.setCell (EN w0 2) f):=by
 have X:=h.rd.lt;have M:(w.alloc o).heap.size=w.heap.size+1:=Ev;have aa:=hg.size;have keep:∀k,k<w.heap.size->O.ownBlock≠some k->g.heap[k]?=w.heap[k]?:=by
  exact afj
 have hrow:∀k,O.ownBlock=some k->w0.heap.size<k:=λk hk=>(h.row hk).1
 have u:Rd g w0.heap.size l O:=by
  have:=h.rd;unfold Rd at this ⊢;all_goals grind
 refine⟨u,⟨u.set1 f,?_,?_⟩,⟨Fy,λk hk Q hr=>?_,?_⟩⟩
 ·exact afi
 all_goals grind [Qq,QS,Below.heap_setCell]
theorem Jd(w:Aa)(x:It):∀(j:Nat) (u:Ad),([Value.int .i64 x.1,.string x.2]:Ae)[j]?=some u->(w.alloc (.cells #[Z x.1,.string x.2] 106)).cell? (((EN w 0):Addr).add j)=some u:=by
 intro j u e;match j,e with
 |0,e=>simp at e;subst e;simp[Addr.add,go_sem]
 |1,e=>simp at e;subst e;simp[Addr.add,go_sem]
 |j+2,e=>simp at e
theorem KF(x:It):∀u∈([Value.int .i64 x.1,.string x.2]:Ae),u.oneCell'=true:=by
 intro u hu;simp at hu;rcases hu with rfl|rfl
 ·rfl
 ·rfl
theorem aT{r:Ac}(h:RS w0 w (a :: c :: r) O v)(hl:r.length<=500):
  D7 114 #[.pointer (some (EN w0 0))] w (Z (E5 a c)) λw'=>RS w0 w' r O v/\Wk w0.heap.size O O w w':=by
 refine cs (aR h.rd hl) ?_;have⟨e,g⟩:=h.Sq (c :: r);have⟨f,k2⟩:=e.Sq r;exact⟨rfl,f,g.trans k2⟩
theorem Xv(a c:UInt8):E5 a c<65536:=by
 have e:=a.toNat_lt;have hc:=c.toNat_lt;unfold E5;omega
def Ht(lo hi n:Int):Int:=if lo<0/\hi<n then n-65536 else n
theorem Z2{l:Ac}(hn:n<65536)(f:Ht lo hi n<lo\/hi<Ht lo hi n)
  (H:D7 114 #[.pointer (some (EN w0 0))] w (Z n) λw'=>RS w0 w' l O v/\Wk w0.heap.size O O w w'):
  ET 285 #[.pointer (some (EN w0 0)),Z lo,Z hi] w λe w'=>e=EQ 6 0/\DY w0 w':=by
 have HH:=Dx H;clear H;unfold Ht at f;by_cases g:lo<0
 ·by_cases u:hi<(n:Int)
  ·rw[Ay ⟨g,u⟩]at f;by_cases y:(n:Int)-65536<lo
   ·go_enter func285,ntmps285;exact xh
   ·have D:hi<(n:Int)-65536:=U;go_enter func285,ntmps285;exact xh
  ·rw[Ao (λh=>u h.2)]at f;have y:(n:Int)<lo:=U;omega
 ·rw[Ao (λh=>g h.1)]at f;by_cases y:(n:Int)<lo
  ·go_enter func285,ntmps285;exact xh
  ·have D:hi<(n:Int):=U;go_enter func285,ntmps285;exact xh
theorem Qp(H:ET 114 #[.pointer (some (EN w0 0))] w λe w'=>e=EQ 6 0/\DY w0 w'):
  ET 285 #[.pointer (some (EN w0 0)),Z lo,Z hi] w λe w'=>e=EQ 6 0/\DY w0 w':=by
 have f:=Dx H;clear H;go_enter func285,ntmps285;go_wp2_with fail
 refine cm f λh g=>?_
 go_wp2;exact⟨rfl,rfl,g⟩
def mk1(x:It)(j:Nat):Value:=if j % 2=0 then Z x.1 else .string x.2
def marks(x:It)(k:Nat):List Value:=flat (List.replicate k x)
theorem GI(x:It)(k:Nat):(marks x k).length=k*2:=by
 unfold marks;rw[I5,BN]
theorem KV(h:j<k*2):(marks x k)[j]?=some (mk1 x j):=by
 have u:(List.replicate k x)[j / 2]?=some x:=by
  rw[Be,Ay U]
 have⟨e,f⟩:=flat_get _ _ _ u;unfold marks mk1;by_cases g:j % 2=0
 ·rw[Ay g];rw[show j / 2*2=j by omega]at e;exact e
 ·rw[Ao g];rw[show j / 2*2+1=j by omega]at f;exact f
theorem mI(x:It)(n m:Nat):marks x n++marks x m=marks x (n+m):=by
 apply BF;intro j;by_cases e:j<n*2
 ·rw[A6 (by rw[GI];exact e),KV e,KV U]
 ·rw[Bq (by rw[GI];omega),GI];by_cases f:j<(n+m)*2
  ·rw[KV U,KV f];unfold mk1;rw[show (j-n*2) % 2=j % 2 by omega]
  ·rw[BM (by rw[GI];omega),BM (by rw[GI];omega)]
def Marks(B:Nat)(x:It)(w:Aa)(T:Ad)(k:Nat):Prop:=w.ownsRow B 106 2 T k (marks x k)
theorem NG{f:Array Value}:f.toList.take (k*2)=marks x k↔∀j,j<k*2->f[j]?=some (mk1 x j):=by
 constructor
 ·intro h j e;have:=CG (·[j]?) h;simp only[BI,Ay e]at this;rw[KV e]at this;simpa using this
 ·intro h;apply BF;intro j;by_cases e:j<k*2
  ·rw[BI,Ay e,KV e];simpa using h j e
  ·rw[BI,Ao e,BM (by rw[GI];omega)]
theorem VX:∀u∈marks x k,u.oneCell'=true:=Oe _
theorem Marks.DG(h:Marks B x w T k)(e:DY w w'):Marks B x w' T k:=ER h e
theorem more(x:It)(B:Nat)(w:Aa)(O:Ad)(n m c:Nat)(G:Addr)(hO:Marks B x w O n)(Q:∀j u,(marks x m)[j]?=some u->w.cell? (G.add j)=some u)(hn:n+m<=1000000)(hB:B<=w.heap.size):
  ∃v' w',(Builtin.append_ #[44,44] 44 #[O,.slice (some G) m c]).run prog w=.ok v' w'/\Marks B x w' v' (n+m)/\w.grownBy w' O.ownBlock/\(v'.ownBlock=O.ownBlock\/v'.ownBlock=some w.heap.size) /\
   ∀T k,Marks B x w T k->Marks B x w' T k:=by
 have⟨i0,hi,az,y,aN⟩:=A1 LQ;obtain⟨v',w',hr,ac,hg,_,b2⟩:=run_append_own_at (P:=prog) w B 44 44 106 i0 _ 2 24 underlying44 hi az y aN rfl Em O n (marks x n) hO G m c (marks x m) (GI x m) Q (VX) JG U hB;rw[mI]at ac;refine⟨v',w',hr,ac,hg,b2,λT k hT=>?_⟩;have⟨X,ad⟩:=id hT;rcases ad with ad|⟨D,M,e,rfl,ae,ab,hk,ah,aq,an⟩
 ·exact⟨X,Aj ad⟩
 ·have aw:=Dv ab;by_cases f:some D=O.ownBlock
  ·rcases hO.2 with ⟨rfl,_⟩|⟨g,cap,aS,rfl,b5,aa,ba,b6,ar,am⟩
   ·cases f
   ·have b3:D=g:=by simpa [Value.ownBlock] using f
    subst b3;rw[aa]at ab;have av:e=aS:=by simpa using ab.symm
    subst av;by_cases al:n+m<=cap
    ·have hl:=GI x m;have ak:=run_append_room (P:=prog) w 44 44 106 i0 underlying44 hi D n cap e aa G m c (marks x m) (by rw[hl,y]) Q (VX) al (by rw[y,hl,ar];omega);rw[ak]at hr;have hw:w.setRow D (e.toList.take (n*i0.size)++marks x m++e.toList.drop (n*i0.size+(marks x m).length)).toArray=w':=by injection hr
     rw[y,hl]at hw;subst hw;refine⟨X,Am ⟨D,M,_,rfl,ae,setRow_heap w D e _ 106 _ aa,hk,ah,?_,?_⟩⟩
     ·simp only[List.size_toArray,AJ,Bv,A9,BO,hl];omega
     ·have h:(e.toList.take (n*2)).length=n*2:=by
       rw[Bv,BO];omega
      rw[NG];intro j hj;rw[CO];have b1:=(NG (x:=x) (k:=k)).1 an j hj;by_cases h1:j<n*2
      ·have aV:=(NG (x:=x) (k:=n)).1 am j h1;rw[Bs,A6 U,BI,Ay h1];simpa using aV
      ·by_cases h2:j<n*2+m*2
       ·rw[A6 (by rw[AJ,h,hl];omega),Bq U,h,KV U];unfold mk1;rw[show (j-n*2) % 2=j % 2 by omega]
       ·rw[Bq (by rw[AJ,h,hl];omega),AJ,h,hl,Cn,show n*2+m*2+(j-(n*2+m*2))=j by omega];simpa using b1
    ·have holds:=hO.cells (g:=D) rfl;have ak:=run_append_grow (P:=prog) w 44 44 106 i0 _ underlying44 hi az (Y D 0) n cap (marks x n) (by rw[GI,y]) holds G m c (marks x m) (by rw[GI,y]) Q U U (growslice_fits U (by rw[aN];omega));rw[ak]at hr;have hw:=(Result.ok.inj hr).2;subst hw;refine⟨X,Am ⟨D,M,e,rfl,ae,?_,hk,ah,aq,an⟩⟩;rw[AL w.drew _ D aw];exact aa
  ·exact⟨X,Am ⟨D,M,e,rfl,ae,by rw[hg.block D aw f];exact ab,hk,ah,aq,an⟩⟩
theorem wpList_append_run{e:Array Oper}{rest:List Oper}{o:Oper}{a:Act}{Q:Exit->Act->World->Prop}(f:o.guard=none)(s x:Operand)(t:Ag)
  (D:o.op=.call {callee:=.builtin .append,args:=#[s,x],argTypes:=#[t,t]}) (v u g:Ad) (w':Aa) (X:a.eval s=v) (hx:a.eval x=u)
  (M:(Builtin.append_ #[t,t] o.type #[v,u]).run P w=.ok g w') (h:wpList P e Q rest (a.put o.dst g) w'):wpList P e Q (o :: rest) a w:=by
 refine wpList_plain f λK y=>?_
 unfold Oper.wp execOp;simp only[D,resolve,invoke,builtin,Sem.run_bind,Sem.run_pure,Result.andThen_ok,List.map_toArray,Cq,CU,X,hx,M];exact y _ _ h
theorem KW(h:w.ownsRow B 106 2 O v.length (flat v)):Ff w O v:=by
 rcases h.2 with ⟨rfl,f⟩|⟨g,cap,u,rfl,_,D,e,_⟩
 ·grind [Ff]
 ·refine⟨_,cap,rfl,e,Am ⟨g,0,rfl,Dv D,λj x M=>?_⟩⟩;have⟨f,y⟩:=flat_get v j x M;have c0:=h.cells (g:=g) rfl _ _ f;have c1:=h.cells (g:=g) rfl _ _ y
  grind [Addr.add_lit]
theorem UI(w:Aa)(X Yq:Ad)(v:List It)(y:Ff w X v)(D:Ff w Yq v)(hn:v.length<=1000000):
  D7 153 #[X,Yq] w (.bool true) λw'=>DY w w':=by
 obtain⟨n,e⟩:∃n,n=v.length:=⟨_,rfl⟩;obtain⟨xa,xc,rfl,_,_⟩:=id y;obtain⟨ya,yc,rfl,_,_⟩:=id D;have al:n<=1000000:=U;have⟨HX,HY,u⟩:=Ll y D e;rw[<-e]at HX HY ⊢;clear e hn y D;go_enter func153,ntmps153;go_wp2;go_loopw [5] (λiv wr=>∃i:Nat,i<=n/\iv=Z i/\DY w wr) (λiv _=>n-(intOf iv).toNat)
 case atStart=>exact⟨0,AV _,rfl,AA _ _⟩
 case round=>
  obtain⟨i,ak,rfl,f⟩:=hrel;by_cases M:i<n
  ·obtain⟨x,Q⟩:∃x,v[i]?=some x:=⟨_,Ah (by rw[<-Dw u];exact M)⟩;have⟨b,off,aa,hV,ah,d0,d1⟩:=(HX.DG f).at Q;have⟨b2,h,ab,g,ad,e0,e1⟩:=(HY.DG f).at Q;obtain rfl:xa=some (Y b off):=by injection hV
   obtain rfl:ya=some (Y b2 h):=by injection g
   have HBB:=Dx f;clear f Q hV g;exact abX
  ·have HBB:=Dx f;clear f;go_wp2
   go_ret
   exact⟨rfl,HBB⟩
theorem OV(h:Ff w T (List.replicate n x))(hn:n<=1000000):
  D7 103 #[T,Z n,Tp x] w (.bool true) λw'=>DY w w':=by
 obtain⟨xa,xc,rfl,_,_⟩:=id h;have y:=Dx h;rw[BN]at y ⊢;clear h;have⟨g,x1⟩:=x;go_enter func103,ntmps103;go_wp2;go_loopw [7] (λiv wr=>∃i:Nat,i<=n/\iv=Z i/\Below (w.heap.size+1) (w.alloc (.cells #[Z g,.string x1] 106)) wr) (λiv _=>n-(intOf iv).toNat)
 case atStart=>exact⟨0,AV _,rfl,AA _ _⟩
 case round=>
  obtain⟨i,aa,rfl,e⟩:=hrel;by_cases u:i<n
  ·have Q:(List.replicate n (g,x1))[i]?=some (g,x1):=by rw[Be,Ay u]
   have f:=((AA w.heap.size w).alloc (Ar _) _).trans (e.mono U);have⟨b,off,D,M,X,d0,d1⟩:=(y.DG f).at Q;obtain rfl:xa=some (Y b off):=by injection M
   have m0:Kk wr w 0 (Z g):=(e.cell (p:=EN w 0) Ev).trans Vb;have m1:Kk wr w 1 (.string x1):=(e.cell (p:=EN w 1) Ev).trans Vb;have HBB:=Dx e;clear e Q M f;exact abX
  ·have HBB:=Dx e;clear e;go_wp2
   go_ret
   exact⟨rfl,((AA w.heap.size w).alloc (Ar _) _).trans (HBB.mono U)⟩
end Go.Proofs.YtblomippkddgiaaGreatDoor.V
