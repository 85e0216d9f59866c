import Derived.Test.YtblomippkddgiaaGreatDoorJ08
set_option maxRecDepth 100000
set_option maxHeartbeats 1000000
namespace Go.Proofs.YtblomippkddgiaaGreatDoor.V
open Go.Proofs.Tryz
open Go.RowKit
variable {x:It}{B n:Nat}{O:Value}{w w' w0 wr:World}
theorem ac3:(prog.info? 178).map (λi=>(i.zero,i.size,i.bytes))=some (some (.agg #[.slice none 0 0,.slice none 0 0,.slice none 0 0,.slice none 0 0,Z 0,Z 0,.string ⟨#[]⟩]),7,128):=EL
def Xq:ByteArray:=⟨#[109,97,114,107]⟩
structure TkI(w0 w:Aa)(O:Ad)(n:Nat)(x:It)(i:Nat)(wr:Aa):Prop where
 size:wr.heap.size=w.heap.size+1
 box:wr.heap[w.heap.size]?=some (.cells #[Z x.1,.string x.2] 106 (0,0))
 keep:∀k,k<w.heap.size->O.ownBlock≠some k->wr.heap[k]?=w.heap[k]?
 DG:Below w0.heap.size w0 wr
 row:(O=.slice none 0 0/\n=0)\/∃G cap,O=EJ G n cap/\G<w.heap.size/\w0.heap.size<=G/\I9 wr G cap 0 (List.replicate i x)/\n<=cap/\cap<=maxLen
theorem TkI.step{i:Nat}(h:TkI w0 w O n x i wr)(hi:i<n):∃G cap,O=EJ G n cap/\I9 wr G cap 0 (List.replicate i x)/\i<cap/\G<w.heap.size /\
  TkI w0 w O n x (i+1) ((wr.setCell (Y G (i*2)) (Z x.1)).setCell (Y G (i*2+1)) (.string x.2)):=by
 rcases h.row with ⟨_,Q⟩|⟨G,cap,u,y,f,D,hc,M⟩
 ·omega
 ·have m:∀k,k≠G->((wr.setCell (Y G (i*2)) (Z x.1)).setCell (Y G (i*2+1)) (.string x.2)).heap[k]?=wr.heap[k]?:=λk hk=>by
   grind [Below.heap_setCell]
  have g:=D.snoc (by rw[BN];omega) x;rw[BN,show List.replicate i x++[x]=List.replicate (i+1) x by simp[List.replicate_succ']]at g;refine⟨G,cap,u,D,U,y,by simpa using h.size,?_,λk hk j=>?_,(h.DG.setCell (by simpa using f) _).setCell (by simpa using f) _,Am ⟨G,cap,u,y,f,g,hc,M⟩⟩
  ·rw[m _ U];exact h.box
  ·rw[m k (λe=>j (by rw[u,e];rfl))];exact h.keep k hk j
theorem N7{A:Nat}{a c:Ad}(h:w.heap[A]?=some (.cells #[a,c] 106 (0,0))):w.cell? (Y A 0)=some a/\w.cell? (Y A 1)=some c:=by grind [World.cell?]
structure qi(w0 w:Aa)(O:Ad)(x:It)(B:Nat)(Ts:List (Value×Nat))(wr:Aa):Prop where
 size:w.heap.size<wr.heap.size
 box:wr.heap[w.heap.size]?=some (.cells #[Z x.1,.string x.2] 106 (0,0))
 keep:∀k,k<w.heap.size->O.ownBlock≠some k->wr.heap[k]?=w.heap[k]?
 DG:Below w0.heap.size w0 wr
 marks:∀t∈Ts,Marks B x wr t.1 t.2/\(t.1.ownBlock=O.ownBlock\/∃j,t.1.ownBlock=some j/\w.heap.size<j)
theorem qi.drewN{e:List (Value×Nat)}(h:qi w0 w O x B e wr)(q:Nat):qi w0 w O x B e (wr.drewN q):=⟨h.size,h.box,h.keep,Ed h.DG q,h.marks⟩
theorem adI(h:TkI w0 w O n x n wr)(hB:∀j,O.ownBlock=some j->B<=j):qi w0 w O x B [(O,n)] wr:=by
 refine⟨by rw[h.size];omega,h.box,h.keep,h.DG,λt f=>?_⟩;simp only[Bg]at f;subst f;refine⟨?_,Aj rfl⟩;rcases h.row with ⟨rfl,rfl⟩|⟨G,cap,u,T,g,m,hc,D⟩
 ·exact AZ _ _ _ _
 ·subst u;have⟨e,y,M,Q⟩:=m;refine⟨GI x n,Am ⟨G,cap,e,rfl,hB G rfl,y,hc,D,M,?_⟩⟩;rw[NG];intro j X;have⟨r0,r1⟩:=Q (j / 2) x (AV _) (by rw[Be,Ay U]);unfold mk1
  grind
theorem X3{T:List (Value×Nat)}(h:qi w0 w O x B T wr)(aa:(O,n)∈T)(m:Nat)(hn:n+m<=1000000)(hB:B<=w.heap.size)(hO:∀j,O.ownBlock=some j->j<w.heap.size/\w0.heap.size<=j):
  ∃a c w',(Builtin.append_ #[44,44] 44 #[O,EJ wr.heap.size m m]).run prog (wr.alloc (.cells (marks x m).toArray 106))=.ok (.slice a (n+m) c) w'/\qi w0 w O x B (T++[(.slice a (n+m) c,n+m)]) w':=by
 have M:DY wr (wr.alloc (.cells (marks x m).toArray 106)):=F9;have aq:(wr.alloc (.cells (marks x m).toArray 106)).heap.size=wr.heap.size+1:=Ev;have ad:=h.size;have ao:=h.DG.size;have⟨v',w',hr,hM,X,ak,D⟩:=more x B (wr.alloc (.cells (marks x m).toArray 106)) O n m m (EN wr 0) ((h.marks _ aa).1.DG M) (λj u hj=>by
  rw[Bc,Cr,Bb wr _ _ j,CO];exact hj) hn U
 have al:=X.size;have f:∀k,k<wr.heap.size->O.ownBlock≠some k->w'.heap[k]?=wr.heap[k]?:=λk hk y=>by
  rw[X.block k U (λe=>y e.symm)];exact AL _ _ _ hk
 have⟨a,n',c,ac⟩:=Ei hM;subst ac;have ab:n'=n+m:=by
  rcases hM.2 with ⟨hv,h0⟩|⟨g,cap,ah,hv,_⟩
  ·cases hv;omega
  ·cases hv;rfl
 subst ab;refine⟨a,c,w',hr,U,?_,λk hk y=>?_,(h.DG.alloc U _).grown X U (λk hk=>(hO k hk).2),λt Q=>?_⟩
 ·rw[f _ ad (λe=>by have:=(hO _ e).1;omega)];exact h.box
 ·rw[f k U y];exact h.keep k hk y
 ·rcases Bj.1 Q with Q|Q
  ·exact⟨D _ _ ((h.marks t Q).1.DG M),(h.marks t Q).2⟩
  grind
structure Kp where
 l:Value
 g1:Value
 g2:Value
 g3:Value
 n:Nat
 x:It
def Kp.cells(k:Kp):List Value:=[k.l,k.g1,k.g2,k.g3,Z k.n,Z k.x.1,.string k.x.2]
def Kp.lists(k:Kp):List (Value×Nat):=[(k.l,k.n),(k.g1,k.n+1),(k.g2,k.n+2),(k.g3,k.n+3)]
def QQ:List Kp->List Value
 |[]=>[]
 |k :: L=>k.cells++QQ L
theorem VR:∀(L:List Kp) (k:Kp),QQ (L++[k])=QQ L++k.cells
 |[],k=>by simp[QQ]
 |y :: L,k=>by simp only[BB,QQ,VR L k,Bs]
structure Bk(w0:Aa)(b:Nat)(L:List Kp)(K:Ad)(w:Aa):Prop where
 cell:w.heap[b]?=some (.cells #[K] 67 (0,0))
 row:w.ownsRow w0.heap.size 178 7 K L.length (QQ L)
 b0:w0.heap.size<=b
 kb:K.ownBlock≠some b
 DG:Below w0.heap.size w0 w
 Oh:∀k∈L,k.n<=100000/\∀t∈k.lists,(∃B,Marks B k.x w t.1 t.2)/\t.1.ownBlock≠some b/\∀j,t.1.ownBlock=some j->K.ownBlock≠some j
theorem Bk.go{b:Nat}{L:List Kp}{K:Ad}(h:Bk w0 b L K w)(e:DY w w'):Bk w0 b L K w':=
 ⟨by rw[e.block b (Dv h.cell)];exact h.cell,ER h.row e,h.b0,h.kb,h.DG.trans (e.mono h.DG.size),λk hk=>⟨(h.Oh k hk).1,λt g=>by
  have⟨⟨B,f⟩,r⟩:=(h.Oh k hk).2 t g;exact⟨⟨B,f.DG e⟩,r⟩⟩⟩
theorem Jl{size:Nat}{e:Ag}{v:Ad}{xs:Ae}(h:w.ownsRow B e size v n xs)(hk:∀g,v.ownBlock=some g->w'.heap[g]?=w.heap[g]?):w'.ownsRow B e size v n xs:=by
 exact abq
end Go.Proofs.YtblomippkddgiaaGreatDoor.V
namespace Go.Proofs.YtblomippkddgiaaGreatDoor
open Go.Proofs.Tryz
open Go.RowKit
variable {n:Int}{l:List UInt8}{B b k:Nat}{o:Obj}{a c w w':World}
def mT:BitVec 16:=0x8005#16
def mv(w:BitVec 16):BitVec 16:=if w.msb then (w <<< 1) ^^^ mT else w <<< 1
def Yo(w:BitVec 16)(m:Bool):BitVec 16:=if (w.msb ^^ m) then (w <<< 1) ^^^ mT else w <<< 1
def high(b:UInt8):BitVec 16:=BitVec.ofNat 16 (b.toNat*256)
def xZ:Nat->BitVec 16->BitVec 16
 |0,w=>w
 |n+1,w=>xZ n (mv w)
def WQ(w:BitVec 16)(b:UInt8):BitVec 16:=xZ 8 (w ^^^ high b)
def P8(w:BitVec 16)(l:Ac):BitVec 16:=l.foldl WQ w
def jr(l:Ac):BitVec 16:=P8 0 l
theorem KZ{a b c:BitVec 16}(h:a ^^^ c=b ^^^ c):a=b:=by
 have e:=CG (· ^^^ c) h
 grind [BitVec.xor_assoc,BitVec.xor_self]
theorem Sy{a b c:BitVec 16}(h:c ^^^ a=c ^^^ b):a=b:=by grind [BitVec.xor_comm,KZ]
theorem aao(a:BitVec 16):(a <<< 1).getLsbD 0=false:=Ev
theorem aan{a b:BitVec 16}(f:a.msb=b.msb)(h:a <<< 1=b <<< 1):a=b:=by
 apply BitVec.eq_of_getLsbD_eq;intro i hi;by_cases e:i=15
 ·grind
 ·have:=CG (·.getLsbD (i+1)) h
  grind
theorem adl{a b:BitVec 16}(h:mv a=mv b):a=b:=by
 unfold mv at h;have e:mT.getLsbD 0=true:=Em
 grind [aao,aan,KZ]
theorem jR:∀(n:Nat) {a b:BitVec 16},xZ n a=xZ n b->a=b:=by
 intro n;induction n with
 |zero=>intro a b h;exact h
 |succ n ih=>intro a b h;exact adl (ih h)
theorem rZ{a b:UInt8}(h:high a=high b):a=b:=by
 have:=CG BitVec.toNat h;unfold high at this;rw[Dq,Dq]at this;have e:=a.toNat_lt;have f:=b.toNat_lt;apply UInt8.toNat_inj.1;omega
theorem YA:∀(l:Ac) {a b:BitVec 16},P8 a l=P8 b l->a=b:=by
 intro l;induction l with
 |nil=>intro a b h;exact h
 |cons x l ih=>
  intro a b h;have e:=ih h;exact KZ (jR 8 e)
theorem qZ(p q:Ac)(a b:UInt8)(h:a≠b):jr (p++a :: q)≠jr (p++b :: q):=by
 intro e;unfold jr P8 at e;rw[CV,CV,C9,C9]at e;have f:=YA q e;exact h (rZ (Sy (jR 8 f)))
theorem adk(R x:BitVec 16):mv (R ^^^ x)=Yo R x.msb ^^^ (x <<< 1):=by grind [mv,Yo]
def jh(b:UInt8)(k:Nat):Bool:=(high b).getMsbD k
def Ty(R:BitVec 16)(b:UInt8):Nat->BitVec 16
 |0=>R
 |k+1=>Yo (Ty R b k) (jh b k)
theorem Zl(n:Nat)(w:BitVec 16):xZ (n+1) w=mv (xZ n w):=by
 induction n generalizing w with
 |zero=>rfl
 |succ n ih=>exact ih (mv w)
theorem tO(R:BitVec 16)(b:UInt8):∀k,xZ k (R ^^^ high b)=Ty R b k ^^^ (high b <<< k):=by
 intro k;induction k with
 |zero=>simp[xZ,Ty]
 |succ k ih=>grind [Zl,adk,jh,BitVec.getMsbD_shiftLeft,Ty,BitVec.shiftLeft_add]
theorem Yp(R:BitVec 16)(b:UInt8):WQ R b=Ty R b 8:=by
 unfold WQ;rw[tO];have:high b <<< 8=0#16:=by
  apply BitVec.eq_of_toNat_eq;unfold high
  grind [Nat.shiftLeft_eq]
 rw[this,BitVec.xor_zero]
def Ql(l:Ac)(i:Nat):Bool:=match l[i / 8]? with
 |some b=>jh b (i % 8)
 |none=>false
def reg(m:Nat->Bool):Nat->BitVec 16
 |0=>0
 |i+1=>Yo (reg m i) (m i)
theorem zQ(l:Ac):∀j,j<=l.length->reg (Ql l) (8*j)=jr (l.take j):=by
 intro j;induction j with
 |zero=>intro _;rfl
 |succ j ih=>
  intro g;obtain⟨b,f⟩:∃b,l[j]?=some b:=⟨_,Ah U⟩;have e:∀k,k<=8->reg (Ql l) (8*j+k)=Ty (reg (Ql l) (8*j)) b k:=by
   intro k;induction k with
   |zero=>intro _;rfl
   |succ k ihk=>grind [reg,Ql,Ty]
  grind [Yp,jr,P8,List.take_add_one]
theorem zP(l:Ac):reg (Ql l) (8*l.length)=jr l:=by grind [zQ]
def JL(m:Nat->Bool)(i k:Nat):Bool:=m k ^^ (reg m i).getMsbD (k-i)
theorem dm(m:Nat->Bool)(k:Nat):JL m 0 k=m k:=by
 unfold JL reg;simp
def Og(d:Nat):Bool:=d==0 || d==1 || d==14 || d==16
theorem uB(d:Nat):mT.getMsbD d=(d==0 || d==13 || d==15):=by
 by_cases h:d<16
 ·have:∀d,d<16->mT.getMsbD d=(d==0 || d==13 || d==15):=Em;exact this d h
 grind
theorem TG(m:Nat->Bool){i:Nat}(hk:i<k):JL m (i+1) k=(JL m i k ^^ (JL m i i&&Og (k-i))):=by
 have f:JL m i i=(m i ^^ (reg m i).msb):=by
  unfold JL;rw[CZ];rfl
 rw[f];unfold JL;have e:(reg m (i+1)).getMsbD (k-(i+1))=((reg m i).getMsbD (k-i) ^^ ((m i ^^ (reg m i).msb)&&Og (k-i))):=by grind [Yo,reg,Og,uB,BitVec.getMsbD_xor]
 rw[e,<-Bool.xor_assoc]
theorem Dx{p:Prop}(h:p):Hid p:=h
theorem Dw{p:Prop}(h:Hid p):p:=h
abbrev str(l:Ac):ByteArray:=⟨l.toArray⟩
theorem Er(l:Ac):(str l).size=l.length:=by simp[ByteArray.size]
theorem wrap_u16(n:Int):IntKind.u16.wrap n=n % 65536:=by grind [IntKind.wrap,IntKind.bits,IntKind.signed]
theorem VZ(a:BitVec 16):BitVec.ofInt 16 (a.toNat:Int)=a:=Ev
theorem cJ(a b:BitVec 16):bits .and .u16 (a.toNat:Int) (b.toNat:Int)=((a &&& b).toNat:Int):=by
 show IntKind.u16.wrap ((BitVec.ofInt 16 (a.toNat:Int) &&& BitVec.ofInt 16 (b.toNat:Int)).toNat:Int)=_
 grind [VZ,wrap_u16]
theorem Tz(a b:BitVec 16):bits .xor .u16 (a.toNat:Int) (b.toNat:Int)=((a ^^^ b).toNat:Int):=by
 show IntKind.u16.wrap ((BitVec.ofInt 16 (a.toNat:Int) ^^^ BitVec.ofInt 16 (b.toNat:Int)).toNat:Int)=_
 grind [VZ,wrap_u16]
theorem ae4(a:BitVec 16):IntKind.u16.wrap ((a.toNat:Int)*2)=((a <<< 1).toNat:Int):=by grind [wrap_u16,Nat.shiftLeft_eq]
theorem msb_and(a:BitVec 16):(((a &&& 0x8000#16).toNat:Int)==0)=!a.msb:=by
 have e:(a &&& 0x8000#16)=if a.msb then 0x8000#16 else 0#16:=by
  apply BitVec.eq_of_getLsbD_eq;intro i hi;have hc:∀i,i<16->(0x8000#16).getLsbD i=(i==15):=Em
  grind
 rw[e];cases a.msb<;>rfl
theorem ff(x y z r:Int)(w:Aa)(e:bits .and .u16 x 32768=y)(f:(y==0)=false)(g:IntKind.u16.wrap (x*2)=z)(h:bits .xor .u16 z 32773=r):
  D7 191 #[.int .u16 x] w (.int .u16 r) λw'=>w'=w:=by
 go_enter func191,ntmps191;go_wp2
 go_ret
 exact⟨rfl,rfl⟩
theorem Zj(x y z:Int)(w:Aa)(e:bits .and .u16 x 32768=y)(f:(y==0)=true)(g:IntKind.u16.wrap (x*2)=z):
  D7 191 #[.int .u16 x] w (.int .u16 z) λw'=>w'=w:=by
 go_enter func191,ntmps191;go_wp2
 go_ret
 exact⟨rfl,rfl⟩
theorem fe(a:BitVec 16)(w:Aa):D7 191 #[.int .u16 (a.toNat:Int)] w (.int .u16 ((mv a).toNat:Int)) λw'=>w'=w:=by
 have g:=cJ a 0x8000#16;have j:=Tz (a <<< 1) 0x8005#16;have f:=msb_and a;have h:=ae4 a;cases hm:a.msb with
 |true=>
  rw[hm]at f;have e:mv a=(a <<< 1) ^^^ mT:=by simp[mv,hm]
  rw[e];exact ff _ _ _ _ w g f h j
 |false=>
  rw[hm]at f;have e:mv a=(a <<< 1):=by simp[mv,hm]
  rw[e];exact Zj _ _ _ w g f h
theorem xW(a:BitVec 16)(c:Nat)(h:c<256):bits .xor .u16 (a.toNat:Int) ((c:Int)*256)=((a ^^^ BitVec.ofNat 16 (c*256)).toNat:Int):=by
 have e:((c:Int)*256)=((BitVec.ofNat 16 (c*256)).toNat:Int):=by
  rw[Dq];omega
 rw[e];exact Tz a _
theorem gY(S:Ab)(g:Nat->Int)(F:Nat->Nat->Int)(w:Aa)(hs:S.size<=1000000)(g0:g 0=0)
  (u:∀j (h:j<S.size),bits .xor .u16 (g j) ((S[j].toNat:Int)*256)=F j 0) (y:∀j,j<S.size->F j 8=g (j+1))
  (HM:Hid (∀j k (w:Aa),D7 191 #[.int .u16 (F j k)] w (.int .u16 (F j (k+1))) λw'=>w'=w)) (hg:0<=g S.size/\g S.size<65536):
  D7 119 #[.string S] w (Z (g S.size)) λw'=>w'=w:=by
 have⟨f,m,X⟩:=Ll u y hg;go_enter func119,ntmps119;go_wp2;go_loopw [3,7] (λT iv wr=>∃i:Nat,i<=S.size/\iv=Z i/\T=.int .u16 (g i)/\wr=w) (λ_ iv _=>S.size-(intOf iv).toNat)
 case atStart=>exact⟨0,AV _,rfl,by rw[g0],rfl⟩
 case round=>
  obtain⟨i,hi,rfl,rfl,rfl⟩:=hrel;by_cases e:i<S.size
  ·have h0:=f i e;have hc:=S[i].toNat_lt;have h8:=Dx (m i e);go_wp2;go_loopw [3,17] (λT O Q=>∃k:Nat,k<=8/\O=Z k/\T=.int .u16 (F i k)/\Q=wr) (λ_ O _=>8-(intOf O).toNat)
   case atStart=>exact⟨0,AV _,rfl,rfl,rfl⟩
   case round=>
    obtain⟨k,hk,rfl,rfl,rfl⟩:=hrel;by_cases aa:k<8
    ·have ab:(k:Int)<8:=U;go_wp2_with (go_at_call 191;refine cs (HM _ _ _) ?_)
     go_roundw
     case rel=>exact⟨k+1,U,Kc,rfl,BR⟩
     case measure=>exact Kt
    ·have M:k=8:=U;subst M;rw[Dw h8];go_wp2;go_roundw
     case rel=>exact⟨i+1,U,Kc,rfl,BR⟩
     case measure=>exact Kt
  ·have D:i=S.size:=U;subst D;have⟨n1,n2⟩:=Dw X;go_wp2
   go_ret
   exact⟨rfl,rfl⟩
def xR(l:Ac)(j:Nat):Int:=((jr (l.take j)).toNat:Int)
def pN(l:Ac)(j k:Nat):Int:=match l[j]? with
 |some b=>((xZ k (jr (l.take j) ^^^ high b)).toNat:Int)
 |none=>((xZ k 0).toNat:Int)
theorem pO(l:Ac)(j k:Nat)(w:Aa):D7 191 #[.int .u16 (pN l j k)] w (.int .u16 (pN l j (k+1))) λw'=>w'=w:=by
 unfold pN;split;all_goals grind [Zl,fe]
theorem K8(l:Ac)(j:Nat)(h:j<(str l).size):l[j]?=some ((str l)[j]):=by
 have hl:j<l.length:=by rw[Er]at h;exact h
 rw[Ah hl];rfl
theorem R0(l:Ac)(w:Aa)(hl:l.length<=1000000):D7 119 #[.string (str l)] w (Z ((jr l).toNat:Int)) λw'=>w'=w:=by
 have h:=gY (str l) (xR l) (pN l) w (by rw[Er];exact hl) rfl ?_ ?_ (Dx (pO l)) ?_
 ·grind [xR,Er]
 ·intro j f;have e:=K8 l j f;unfold xR pN;rw[e,xW _ _ (UInt8.toNat_lt _)];rfl
 ·intro j f;have e:=K8 l j f;unfold pN xR;rw[e,Bh,e,Cm];show _=(((l.take j++[(str l)[j]]).foldl WQ 0).toNat:Int);rw[CV];rfl
 ·unfold xR;have:=(jr (l.take (str l).size)).isLt;omega
structure Pk where
 Dz:Int
 DJ:Int
 DR:Int
 DZ:Int
 D4:Int
 D5:Int
 Ez:Int
 off:Int
 Fs:Bool
 Ef:List UInt8
def Ju(p:Pk):Prop:=if p.Dz=1\/p.Dz=5 then (if p.Ez<p.off-1 then p.Ef.length=8 else p.Ef.length<=8) else p.Ef.length=0
instance (p:Pk):Decidable (Ju p):=by unfold Ju;infer_instance
def EC(p:Pk):Prop:=(1<=p.Dz/\p.Dz<=7)/\(0<=p.DJ/\p.DJ<=2)/\(1<=p.DR/\p.DR<=255)/\(0<=p.DZ/\p.DZ<=2)/\(1<=p.D4/\p.D4<=999)/\(1<=p.D5/\p.D5<=255)/\(1<=p.off/\p.off<=9)/\(0<=p.Ez/\p.Ez<=p.off-1)/\Ju p
instance (p:Pk):Decidable (EC p):=by unfold EC;infer_instance
theorem Mm{p:Pk}(h:EC p):p.Ef.length<=8:=by grind [EC,Ju]
def b8(n:Int):UInt8:=UInt8.ofNat n.toNat
theorem FP(e:0<=n)(f:n<=255):((b8 n).toNat:Int)=n:=by grind [b8,UInt8.toNat_ofNat_of_lt']
theorem bQ(c:UInt8):b8 (c.toNat:Int)=c:=by
 unfold b8;simp
theorem qH{a b:Int}(a0:0<=a)(a1:a<=255)(b0:0<=b)(e:b<=255)(h:b8 a=b8 b):a=b:=by grind [FP]
def EU(n:Int):List UInt8:=[b8 (n / 256),b8 (n % 256)]
def E5(a c:UInt8):Int:=(a.toNat:Int)*256+(c.toNat:Int)
theorem Uo(e:0<=n)(f:n<=65535):E5 (b8 (n / 256)) (b8 (n % 256))=n:=by grind [E5,FP]
theorem xJ(a c:UInt8):EU (E5 a c)=[a,c]:=by
 unfold EU E5;have e:=a.toNat_lt;have hc:=c.toNat_lt
 grind [bQ]
theorem aP{a b:Int}(a0:0<=a)(a1:a<=65535)(b0:0<=b)(e:b<=65535)(h:EU a=EU b):a=b:=by
 unfold EU at h;simp only[List.cons.injEq,and_true]at h;have f:=qH U U U U h.1
 grind [qH]
def N3(b:Bool):Int:=if b then 1 else 0
def nums(p:Pk):List Int:=[p.Dz,p.DJ,p.DR,p.DZ,p.D4 / 256,p.D4 % 256,p.D5,p.Ez,p.off,N3 p.Fs,(p.Ef.length:Int)]
def Ha(p:Pk):List UInt8:=(nums p).map b8++p.Ef
def Kb(l:Ac):Int:=((jr l).toNat:Int)
theorem Nt(l:Ac):0<=Kb l/\Kb l<=65535:=by
 unfold Kb;have:=(jr l).isLt;omega
def Gq(p:Pk):List UInt8:=Ha p++EU (Kb (Ha p))
theorem JZ(p:Pk):(Ha p).length=11+p.Ef.length:=by
 unfold Ha nums;simp;omega
theorem J4(p:Pk):(Gq p).length=13+p.Ef.length:=by grind [Gq,JZ,EU]
def GZ:List UInt8->Option (Pk×List UInt8)
 |k :: c :: li :: ln :: s1 :: s2 :: u :: pa :: o :: f :: L :: r=>
  if f.toNat<=1/\L.toNat<=r.length then some (⟨k.toNat,c.toNat,li.toNat,ln.toNat,E5 s1 s2,u.toNat,pa.toNat,o.toNat,(f.toNat:Int)==1,r.take L.toNat⟩,r.drop L.toNat) else none
 |_=>none
def Sp(l r:Ac):Option (List UInt8):=match r with
 |a :: b :: t=>if E5 a b=Kb (l.take (l.length-r.length)) then some t else none
 |_=>none
def Ih(l:Ac):Option Pk:=match GZ l with
 |none=>none
 |some (p,r)=>if EC p then (match Sp l r with|some []=>some p|_=>none) else none
theorem RJ{p:Pk}{r:Ac}(h:GZ l=some (p,r)):l=Ha p++r:=by
 unfold GZ at h;split at h
 ·rename_i k c O ln s1 s2 u pa o f L t;split at h
  ·rename_i hc;simp only[Option.some.injEq,Prod.mk.injEq]at h;obtain⟨rfl,rfl⟩:=h;unfold Ha nums;have D:=s1.toNat_lt;have M:=s2.toNat_lt;have y:b8 (N3 ((f.toNat:Int)==1))=f:=by
    have:f.toNat=0\/f.toNat=1:=U;rcases this with h|h
    ·have e:f=0:=UInt8.toNat_inj.1 h;subst e;rfl
    ·have e:f=1:=UInt8.toNat_inj.1 h;subst e;rfl
   have m:((List.take L.toNat t).length:Int)=(L.toNat:Int):=by
    rw[Bv];omega
   have g:E5 s1 s2 / 256=(s1.toNat:Int):=by unfold E5;omega
   have j:E5 s1 s2 % 256=(s2.toNat:Int):=by unfold E5;omega
   simp only[Cq,CU,m,y,g,j,bQ,BB,Cc,Da]
  ·cases h
 ·cases h
theorem YQ{p:Pk}(h:EC p):GZ (Gq p)=some (p,EU (Kb (Ha p))):=by
 have hb:=Mm h;obtain⟨u,y,D,M,O,Q,X,h8,_⟩:=h;unfold Gq;generalize hT:EU (Kb (Ha p))=T;have aa:T.length=2:=by rw[<-hT];rfl
 unfold Ha nums;simp only[Cq,CU,BB,Cc];unfold GZ;obtain⟨Dz,DJ,DR,DZ,D4,D5,Ez,off,Fs,Ef⟩:=p;simp only at hb u y D M O Q X h8 ⊢;have e1:=FP (n:=Dz) U U;have e2:=FP (n:=DJ) U U;have e3:=FP (n:=DR) U U;have e4:=FP (n:=DZ) U U;have e5:=Uo (n:=D4) U U;have e6:=FP (n:=D5) U U;have g:=FP (n:=Ez) U U;have j:=FP (n:=off) U U;have m:((b8 (N3 Fs)).toNat:Int)=N3 Fs:=FP (by unfold N3;split<;>omega) (by unfold N3;split<;>omega);have f:=FP (n:=(Ef.length:Int)) U U;have e:(b8 (Ef.length:Int)).toNat=Ef.length:=U;rw[Ay]
 ·rw[e1,e2,e3,e4,e5,e6,g,j,m,e,Ch (Ar _),Cw,CY (Ar _),List.drop_length,Cc];cases Fs<;>rfl
 grind [N3]
theorem Rm(m t:Ac):(m++t).take ((m++t).length-t.length)=m:=by grind [Nat.add_sub_cancel,List.take_left]
theorem Q5(l:Ac)(p:Pk):Ih l=some p↔EC p/\l=Gq p:=by
 constructor
 ·intro h;unfold Ih at h;cases hf:GZ l with
  |none=>rw[hf]at h;cases h
  |some x=>
   have⟨q,r⟩:=x;have hl:=RJ hf;rw[hf]at h;simp only at h;split at h
   ·rename_i g;split at h
    ·rename_i f;cases h;refine⟨g,?_⟩;unfold Sp at f;split at f
     ·rename_i a b t;split at f
      ·rename_i hn;cases f;have e:l.take (l.length - [a,b].length)=Ha p:=by rw[hl];exact Rm _ _
       rw[e]at hn;unfold Gq;rw[hl,<-hn,xJ]
      ·cases f
     ·cases f
    ·cases h
   ·cases h
 ·rintro ⟨g,rfl⟩;unfold Ih;rw[YQ g];simp only;rw[Ay g];have hc:=Nt (Ha p);have e:Sp (Gq p) (EU (Kb (Ha p)))=some []:=by
   have e2:(Gq p).take ((Gq p).length-(EU (Kb (Ha p))).length)=Ha p:=Rm _ _;have e3:=Uo hc.1 hc.2;show (if E5 (b8 (Kb (Ha p) / 256)) (b8 (Kb (Ha p) % 256))=Kb ((Gq p).take ((Gq p).length-(EU (Kb (Ha p))).length)) then some [] else none)=some [];rw[e2,e3,Ay rfl]
  rw[e]
def XE(l:Ac):Pk:=⟨(l.getD 0 0).toNat,(l.getD 1 0).toNat,(l.getD 2 0).toNat,(l.getD 3 0).toNat,E5 (l.getD 4 0) (l.getD 5 0),(l.getD 6 0).toNat,(l.getD 7 0).toNat,(l.getD 8 0).toNat,((l.getD 9 0).toNat:Int)==1,(l.drop 11).take (l.length-13)⟩
def Ut(l:Ac):Option Pk:=if l.length<13 then none else if EC (XE l) then (if Gq (XE l)=l then some (XE l) else none) else none
theorem nK{p:Pk}(h:EC p):XE (Gq p)=p:=by
 have hb:=Mm h;have e:=J4 p;obtain⟨m,u,y,D,M,O,Q,X,_⟩:=h;unfold XE;rw[e];unfold Gq;generalize hT:EU (Kb (Ha p))=T;unfold Ha nums;obtain⟨Dz,DJ,DR,DZ,D4,D5,Ez,off,Fs,Ef⟩:=p;simp only at hb m u y D M O Q X ⊢;have e1:=FP (n:=Dz) U U;have e2:=FP (n:=DJ) U U;have e3:=FP (n:=DR) U U;have e4:=FP (n:=DZ) U U;have e5:=Uo (n:=D4) U U;have e6:=FP (n:=D5) U U;have f:=FP (n:=Ez) U U;have g:=FP (n:=off) U U;have j:((b8 (N3 Fs)).toNat:Int)=N3 Fs:=FP (by unfold N3;split<;>omega) (by unfold N3;split<;>omega);simp only[Cq,CU,BB,Cc,List.getD_cons_zero,List.getD_cons_succ,List.drop_succ_cons,De];rw[e1,e2,e3,e4,e5,e6,f,g,j,show 13+Ef.length-13=Ef.length by omega,Ch (Ar _),Cw];cases Fs<;>rfl
theorem mO(l:Ac)(p:Pk):Ut l=some p↔EC p/\l=Gq p:=by grind [Ut,J4,nK]
theorem Zx(l:Ac):Ut l=Ih l:=by grind [Ut,Ih,mO,Q5]
theorem L8{p:Pk}(h:EC p):Ih (Gq p)=some p:=(Q5 _ _).2 ⟨h,rfl⟩
theorem Q6(h:∀q,EC q->l≠Gq q):Ih l=none:=by grind [Ih,Q5]
theorem ag(p:Pk)(i:Nat)(c:UInt8)(hi:i<(Gq p).length)(hc:(Gq p)[i]?≠some c):Ih ((Gq p).set i c)=none:=by
 apply Q6;intro q _ e;have l1:=J4 p;have l2:=J4 q;have hl:=CG List.length e;rw[BG]at hl;have g:(Ha p).length=(Ha q).length:=by rw[JZ,JZ];omega
 have h:=Nt (Ha p);have j:=Nt (Ha q);unfold Gq at e hc;by_cases f:i<(Ha p).length
 ·rw[List.set_append_left _ _ f]at e;have⟨e1,e2⟩:=List.append_inj e (by rw[BG];exact g)
  grind [aP,List.take_append_drop,List.drop_eq_getElem_cons,List.set_eq_take_append_cons_drop,qZ,BitVec.eq_of_toNat_eq,Kb]
 grind [List.append_inj,EU,JZ]
abbrev Gk(n q:Nat):Value:=.agg #[Z n,Z q]
abbrev EQ(n q:Nat):Ending:=.panicked [{v:=.iface 86 (Gk n q),recovered:=false}]
theorem Dv(h:w.heap[k]?=some o):k<w.heap.size:=by grind
theorem Ho(l:Ac)(a b:Nat):(str l).extract a b=str ((l.drop a).take (b-a)):=by
 exact wO
def Ku(l:Ac):List Value:=l.map λc=>Value.int .u8 (c.toNat:Int)
theorem info5:(prog.info? 5).map (λi=>(i.zero,i.size,i.bytes))=some (some (.int .u8 0),1,1):=EL
theorem UG(w:Aa)(l:Ac)(M:Array Value)(e:M.size=l.length):
  (Builtin.copy_ #[199,9] 3 #[EJ w.heap.size l.length l.length,.string (str l)]).run prog (w.alloc (.cells M 5))=.ok (goInt l.length) ((w.alloc (.cells M 5)).setRow w.heap.size (Ku l).toArray):=by
 have h:=Lib.run_copy_row_string (P:=prog) (w.alloc (.cells M 5)) 199 9 3 5 (zz w) 0 l.length l.length (str l) M 5 underlying199 EL (AF w _) (by rw[Er];exact Ar _) (by rw[Er];omega);exact abQ
theorem Tv(w:Aa)(M:Array Value)(e:Array Value)(n:Nat):DY w (((w.alloc (.cells M 5)).setRow w.heap.size e).freeze (EN w 0) n):=by
 exact afU
theorem UH(w:Aa)(l:Ac)(M:Array Value)(e:l≠[])(hl:l.length<=1000):
  (Builtin.unsafeString_ #[338,3] 9 #[.pointer (some (EN w 0)),Z l.length]).run prog ((w.alloc (.cells M 5)).setRow w.heap.size (Ku l).toArray)=.ok (.string (str l)) (((w.alloc (.cells M 5)).setRow w.heap.size (Ku l).toArray).freeze (EN w 0) l.length):=by
 have f:=setRow_heap (w.alloc (.cells M 5)) (zz w) M (Ku l).toArray 5 (0,0) (AF w _);have g:(Ku l).toArray.size=l.length:=by simp[Ku]
 refine Lib.run_unsafeString_row (P:=prog) _ 338 3 9 5 underlying338 EL (zz w) l.length ?_ l e (Ar _) U λj x h=>?_
 ·grind [World.shape?]
 ·refine Lib.cells_of_row f l.length j _ ?_
  grind [Ku]
theorem QN(l:Ac)(w:Aa)(hl:l.length<=1000):D7 229 #[.string (str l)] w (.string (str l)) λw'=>DY w w':=by
 have hsz:=Er l;by_cases h0:l=[]
 ·exact acD
 ·have⟨i0,hi,hz0,hz1,hz2⟩:=A1 info5;have e:=Cg.2 h0;obtain⟨M,hM⟩:∃M,M=madeCells (Value.int .u8 0).cells (l.length*1):=⟨_,rfl⟩;have hMs:M.size=l.length:=by rw[hM,Dg];omega
  have f:∀W:World,(Instr.makeSlice 199 (Z (l.length:Int)) (Z (l.length:Int))).run prog W=.ok (EJ (zz W) l.length l.length) (W.alloc (.cells M 5)):=λW=>by
   exact afR
  exact afw
theorem Kr(l:Ac)(w:Aa)(hl:l.length<=1000):D7 184 #[.string (str l)] w (.string (str l)) λw'=>DY w w':=by
 have H:=Dx (QN l w hl);generalize hS:str l=S at *;exact acd
def Rd(w:Aa)(b:Nat)(l:Ac):Prop:=w.heap[b]?=some (.cells #[.string (str l),Z 7] 127 (0,0))
theorem Rd.left(h:Rd w b l):w.cell? (Y b 0)=some (.string (str l)):=by grind [Rd,World.cell?]
theorem Rd.WC(h:Rd w b l):w.cell? (Y b 1)=some (Z 7):=by grind [Rd,World.cell?]
theorem Rd.thaw(h:Rd w b l)(o:Nat):w.frozen? (Y b o)=false:=by grind [Rd,World.frozen?]
theorem Rd.lt(h:Rd w b l):b<w.heap.size:=Dv h
theorem Rd.set(h:Rd w b l)(l':Ac):Rd (w.setCell (Y b 0) (.string (str l'))) b l':=by grind [Rd,World.setCell]
theorem Rd.DG(h:Rd w b l)(e:Below B w w')(hB:b<B):Rd w' b l:=by
 unfold Rd at h ⊢;rw[e.block b hB];exact h
theorem JR(b:Nat)(l:Ac)(w:Aa)(h:Rd w b l):ET 120 #[.pointer (some (Y b 0))] w λe w'=>e=EQ 7 0/\w'=w:=by
 have f:=h.WC;go_enter func120,ntmps120;go_wp2;exact⟨rfl,rfl,rfl⟩
theorem ME(b:Nat)(l:Ac)(n:Nat)(w:Aa)(h:Rd w b l)(hn:n<=l.length)(hl:l.length<=9223372036854775807):
  D7 190 #[.pointer (some (Y b 0)),Z n] w (.string (str (l.take n))) λw'=>w'=w.setCell (Y b 0) (.string (str (l.drop n))):=by
 have e:=h.left;have f:=h.thaw 0;have hsz:=Er l;have e1:(str l).extract 0 n=str (l.take n):=by rw[Ho];simp
 have e2:(str l).extract n (str l).size=str (l.drop n):=by
  exact wI
 generalize hS:str l=S at *;generalize hA:str (l.take n)=A at *;generalize hB:str (l.drop n)=B at *;exact adR
theorem Qy(b:Nat)(l:Ac)(n:Nat)(w:Aa)(h:Rd w b l)(hn:¬n<=l.length):
  ET 190 #[.pointer (some (Y b 0)),Z n] w λe w'=>e=EQ 7 0/\w'=w:=by
 have m:=h.left;have f:=Er l;have g:=Dx (JR b l w h);generalize hS:str l=S at *;clear hS h;have j:((S.size:Int)<(n:Int)):=U;clear hn f;go_enter func190,ntmps190;go_wp2_with fail
 refine(Dw g).mono ?_;rintro e u ⟨rfl,rfl⟩;go_wp2;exact⟨rfl,rfl,rfl⟩
structure J8(b:Nat)(w w':Aa):Prop where
 DG:Below b w w'
 size:w.heap.size<=w'.heap.size
 block:∀k,k<w.heap.size->k≠b->w'.heap[k]?=w.heap[k]?
theorem J8.refl(b:Nat)(w:Aa):J8 b w w:=by grind [J8,Below.refl]
theorem J8.trans{u v:Aa}(h:J8 b u v)(k:J8 b v w):J8 b u w:=⟨h.DG.trans k.DG,Br h.size k.size,λi hi e=>(k.block i (Ai hi h.size) e).trans (h.block i hi e)⟩
theorem J8.set(b o:Nat)(w:Aa)(x:Ad):J8 b w (w.setCell (Y b o) x):=⟨(AA _ _).setCell Ev _,Ev,λ_ _ hk=>AU _ _ _ _ (by simpa using hk)⟩
theorem J8.of_below(h:DY w w')(e:b<=w.heap.size):J8 b w w':=⟨h.mono e,h.size,λk hk _=>h.block k hk⟩
def aep(b:Nat)(l:Ac)(w:Aa)(e:Ending)(w':Aa):Prop:=J8 b w w'/\((l=[]/\e=EQ 7 0)\/∃c r,l=c :: r/\e=.returned (Z (c.toNat:Int))/\Rd w' b r)
theorem N8(h:Rd w b l)(hl:l.length<=9223372036854775807):ET 113 #[.pointer (some (Y b 0))] w (aep b l w):=by
 cases l with
 |nil=>
  have H:=Dx (Qy b [] 1 w h Ev);clear h;go_enter func113,ntmps113;go_wp2_with fail
  refine(Dw H).mono ?_;rintro e g ⟨rfl,rfl⟩;go_wp2;exact⟨rfl,J8.refl _ _,Aj ⟨rfl,rfl⟩⟩
 |cons c r=>
  have⟨H,f⟩:=FU (ME b (c :: r) 1 w h Ev hl) (h.set r);rw[show (c :: r).take 1=[c] from rfl,show (c :: r).drop 1=r from rfl]at H;have i0:(str [c])[0]'(by rw[Er];simp)=c:=rfl;have hc:=c.toNat_lt;have j:wrap64 (c.toNat:Int)=(c.toNat:Int):=NU;clear h;go_enter func113,ntmps113;go_wp2_with fail
  refine(Dw H).mono ?_;rintro e g ⟨rfl,rfl⟩;go_wp2
  go_ret
  exact⟨J8.set _ _ _ _,Am ⟨c,r,rfl,rfl,Dw f⟩⟩
abbrev D9:=Nat->Prop
structure DF(F:D9)(w w':Aa):Prop where
 os:w'.os=w.os
 tape:w'.tape=w.tape
 output:w'.output=w.output
 size:w.heap.size<=w'.heap.size
 block:∀k,k<w.heap.size->¬F k->w'.heap[k]?=w.heap[k]?
theorem DF.refl(F:D9)(w:Aa):DF F w w:=by grind [DF]
theorem DF.mono{F G:D9}(h:DF F w w')(e:∀k,k<w.heap.size->F k->G k):DF G w w':=by grind [DF]
theorem DF.andThen{F G:D9}{b:Aa}(h:DF F a b)(k:DF G b c)(e:∀i,i<a.heap.size->G i->F i):DF F a c:=by grind [DF]
theorem DF.trans{F:D9}{b:Aa}(h:DF F a b)(k:DF F b c):DF F a c:=h.andThen k (λ_ _ h=>h)
theorem DF.D6(h:DY w w')(F:D9):DF F w w':=⟨h.os,h.tape,h.output,h.size,λk hk _=>h.block k hk⟩
theorem DF.DG{F:D9}(h:DF F w w')(hB:B<=w.heap.size)(e:∀k,F k->B<=k):Below B w w':=⟨h.os,h.tape,h.output,h.size,λk hk=>h.block k (Ai hk hB) (λf=>by have:=e k f;omega)⟩
theorem DF.drew{F:D9}(h:DF F a w):DF F a w.drew:=⟨h.os,h.tape,h.output,h.size,h.block⟩
theorem DF.alloc{F:D9}(h:DF F a w)(o:Obj):DF F a (w.alloc o):=
 h.trans ⟨rfl,rfl,rfl,Ev,λk hk _=>AL _ _ _ hk⟩
theorem DF.setCell{F:D9}(h:DF F a w){p:Addr}(e:F p.block\/a.heap.size<=p.block)(u:Ad):DF F a (w.setCell p u):=by grind [DF,World.setCell]
theorem DF.grown{F:D9}{row:Option Nat}(h:DF F a w)(f:w.grownBy w' row)(g:∀k,row=some k->F k\/a.heap.size<=k):DF F a w':=
 ⟨f.os.trans h.os,f.tape.trans h.tape,f.output.trans h.output,Br h.size f.size,λk hk hn=>by
  rw[f.block k (Ai hk h.size) (λe=>by
   rcases g k e.symm with q|q
   ·exact hn q
   ·omega)]
  exact h.block k hk hn⟩
theorem DF.at{F:D9}(h:DF F w w')(hk:w.heap[k]?=some o)(hn:¬F k):w'.heap[k]?=some o:=by grind [DF]
theorem DF.row{F:D9}(h:DF F w w'){n size:Nat}{e:Ag}{v:Ad}{xs:Ae}(f:w.ownsRow B e size v n xs)(hn:∀j,v.ownBlock=some j->¬F j):w'.ownsRow B e size v n xs:=by
 have⟨hl,f⟩:=f;refine⟨hl,?_⟩;rcases f with f|⟨g,cap,m,rfl,u,y,r⟩
 ·exact Aj f
 ·exact Am ⟨g,cap,m,rfl,u,h.at y (hn g rfl),r⟩
theorem DF.map{F:D9}(h:DF F w w'){H:Type}{P:Program}{k:Ag}{R:Value->Option (DataW H×List MemPlace)}{n:Nat}{D:DataW H}(j:w.ownsMap P k R b n D)(hn:¬F b):w'.ownsMap P k R b n D:=by
 have⟨f,e,g,r⟩:=j;exact⟨f,e,h.at g hn,r⟩
structure D8(F F':D9)(w w':Aa):Prop where
 E0:DF F w w'
 fresh:∀k,F' k->F k\/w.heap.size<=k
theorem D8.refl(F:D9)(w:Aa):D8 F F w w:=by grind [D8,DF.refl]
theorem D8.trans{F F' e:D9}{b:Aa}(h:D8 F F' a b)(k:D8 F' e b c):D8 F e a c:=
 ⟨h.E0.andThen k.E0 (λi hi f=>(h.fresh i f).resolve_right U),λi hi=>by
  rcases k.fresh i hi with q|q
  ·exact h.fresh i q
  ·exact Am (Br h.E0.size q)⟩
theorem D8.D6(F:D9)(h:DY w w'):D8 F F w w':=by grind [D8,DF.D6]
theorem D8.apart{F F' G:D9}(h:D8 F F' w w')(e:∀k,G k->k<w.heap.size)(f:∀k,F k->¬G k):∀k,F' k->¬G k:=by grind [D8]
theorem D8.acE{F F' G:D9}(h:D8 F F' w w'):D8 (λk=>F k\/G k) (λk=>F' k\/G k) w w':=by grind [D8,DF.mono]
end Go.Proofs.YtblomippkddgiaaGreatDoor
