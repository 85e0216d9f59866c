import Derived.Test.YtblomippkddgiabGreatDoorJ13
import Derived.Maps.OwnSet
set_option maxRecDepth 100000
set_option maxHeartbeats 1000000
namespace Go.Proofs.YtblomippkddgiabGreatDoor.R
variable {G:Wd}
def Long(G:Wd):Prop:=∀f∈G.Ak,13<=f.s.length
def Lo(G G':Wd):Prop:=Long G->Long G'
theorem Lo.same{G':Wd}(h:G'.Ak=G.Ak):Lo G G':=fun k f hf=>k f (by rw[<-h];exact hf)
theorem Lo.refl(G:Wd):Lo G G:=fun k=>k
theorem Lo.trans{a b c:Wd}(h:Lo a b)(k:Lo b c):Lo a c:=fun x=>k (h x)
theorem Lo.E3{f:List Fl}(h:∀x∈f,x∈G.Ak\/13<=x.s.length):Lo G {G with Ak:=f}:=fun k x hx=>(h x hx).elim (k x) id
theorem Lo.send(G:Wd)(to:Int)(p:Pk):Lo G (Bg G to p):=by
 unfold Bg;split
 ·refine Lo.E3 fun x hx=>?_
  rcases agb.mp hx with q|q
  ·exact afJ q
  ·rw[af3]at q;subst q;refine afM ?_;show 13<=(Bm p).length;rw[E5];omega
 ·exact Lo.refl G
theorem Lo.line{i k:Int}{l':Ln}:Lo G (Am G i k l'):=Lo.same rfl
theorem Lo.seen(G:Wd)(i:Nat)(r:Sn):Lo G (AB G i r):=Lo.same rfl
theorem Lo.piece(G:Wd)(i k:Int)(b:Bool):Lo G (AA G i k b):=Lo.send _ _ _
theorem Lo.Ro(G:Wd)(i k:Int):Lo G (Fw G i k):=Lo.send _ _ _
theorem Lo.AU(G:Wd)(i k:Int):Lo G (AU G i k):=by
 unfold R.AU;simp only;split
 ·exact Lo.refl G
 ·split
  ·exact Lo.line
  ·split
   ·exact Lo.line
   ·split
    ·exact(Lo.line (G:=G) (i:=i) (k:=k) (l':={BH G i k with wait:=G.c.Ay,tries:=(BH G i k).tries-1})).trans (Lo.piece _ _ _ _)
    ·exact(Lo.line (G:=G) (i:=i) (k:=k) (l':={BH G i k with wait:=G.c.Ay,tries:=(BH G i k).tries-1})).trans (Lo.Ro _ _ _)
theorem Lo.fold{α:Type}(f:Wd->α->Wd)(hf:∀G a,Lo G (f G a)):∀(l:List α) (G:Wd),Lo G (l.foldl f G)
 |[],G=>Lo.refl G
 |a :: l,G=>(hf G a).trans (Lo.fold f hf l (f G a))
theorem Lo.DR(G:Wd)(i:Nat):Lo G (AL G i):=Lo.send _ _ _
theorem Lo.AJ(G:Wd)(i:Nat):Lo G (AJ G i):=by
 unfold R.AJ;simp only;split
 ·exact Lo.refl G
 ·split
  ·exact Lo.seen _ _ _
  ·split
   ·exact Lo.seen _ _ _
   ·exact(Lo.seen G i _).trans (Lo.DR _ _)
theorem Lo.tick(G:Wd):Lo G (IB G):=by
 unfold IB EG;refine Lo.trans (Lo.fold _ (fun G a=>?_) _ _) (Lo.fold _ (fun G a=>Lo.AJ G a) _ _);exact Lo.fold _ (fun G b=>Lo.AU G _ _) _ _
theorem Lo.rest(G:Wd)(i k:Int):Lo G (ET G i k):=Lo.line
theorem Lo.got(G:Wd)(i:Int)(p:Pk):Lo G (I1 G i p):=Lo.send _ _ _
theorem Lo.result(G:Wd)(i:Int)(p:Pk):Lo G (Dy G i p):=by
 unfold Dy;simp only;split
 ·exact Lo.refl G
 ·split
  ·split
   ·exact Lo.line
   ·exact((Lo.line (G:=G) (i:=i) (k:=p.line) (l':={BH G i p.line with came:=(BH G i p.line).came++p.body,pieces:=(BH G i p.line).pieces+1,Ao:=Ag (BH G i p.line).message})).trans (Lo.got _ _ _)).trans (Lo.rest _ _ _)
  ·exact Lo.got _ _ _
theorem Lo.heard(G:Wd)(i:Int)(p:Pk):Lo G (Ee G i p):=by
 unfold Ee;simp only;split
 ·exact Lo.refl G
 ·split
  ·split
   ·refine Lo.trans (Lo.line (G:=G) (i:=i) (k:=p.line) (l':={BH G i p.line with Ao:=(BH G i p.line).Ao+1})) ?_;split
    ·exact(Lo.piece _ _ _ _).trans (Lo.rest _ _ _)
    ·exact Lo.rest _ _ _
   ·exact Lo.refl G
  ·split
   ·exact Lo.rest _ _ _
   ·split
    ·exact Lo.result _ _ _
    ·split
     ·exact Lo.line
     ·exact Lo.refl G
theorem Lo.Dx(G:Wd)(p:Pk)(a b c:Int):Lo G (C3 G p a b c):=Lo.send _ _ _
theorem Lo.tell(G:Wd)(i:Nat):Lo G (Em G i):=by
 unfold Em;exact(Lo.DR G i).trans (Lo.seen _ _ _)
theorem Lo.Si(G:Wd)(p:Pk):Lo G (IX G p):=by
 unfold IX;split
 ·exact Lo.Dx _ _ _ _ _
 ·exact Lo.refl G
theorem Lo.gather(G:Wd)(i:Nat)(p:Pk):Lo G (CL G i p):=by
 unfold CL;simp only;split
 ·split
  ·split
   ·exact Lo.refl G
   ·refine Lo.trans ?_ (Lo.Si _ _);exact Lo.same rfl
  ·exact(Lo.seen G i _).trans (Lo.Si _ _)
 ·exact Lo.Si _ _
theorem Lo.known(G:Wd)(i:Nat)(p:Pk):Lo G (Dq G i p):=by
 unfold Dq;simp only;split
 ·split
  ·exact Lo.gather _ _ _
  ·exact Lo.refl G
 ·split
  ·exact Lo.Dx _ _ _ _ _
  ·split
   ·exact Lo.refl G
   ·split
    ·exact Lo.tell _ _
    ·split
     ·exact Lo.Dx _ _ _ _ _
     ·exact Lo.Dx _ _ _ _ _
theorem Lo.Aj(G:Wd)(p:Pk):Lo G (Dr G p):=by
 unfold Dr;split
 ·exact Lo.same rfl
 ·exact Lo.refl G
theorem Lo.ask(G:Wd)(i:Nat)(p:Pk):Lo G (JI G i p):=by
 unfold JI;simp only;split
 ·split
  ·exact(Lo.seen G i _).trans (Lo.tell _ _)
  ·exact Lo.refl G
 ·split
  ·exact Lo.known _ _ _
  ·split
   ·exact Lo.refl G
   ·split
    ·exact Lo.Dx _ _ _ _ _
    ·split
     ·exact Lo.refl G
     ·split
      ·exact Lo.Dx _ _ _ _ _
      ·exact(Lo.seen G i _).trans (Lo.known _ _ _)
theorem Lo.asked(G:Wd)(p:Pk):Lo G (Er G p):=by
 unfold Er;split
 ·exact Lo.refl G
 ·exact(Lo.Aj G p).trans (Lo.ask _ _ _)
theorem Lo.Cr(G:Wd)(i:Int):Lo G (Bc G i).2:=by
 unfold Bc;split
 ·exact Lo.refl G
 ·split
  ·exact Lo.refl G
  ·simp only;refine Lo.trans (Lo.E3 (G:=G) (f:=G.Ak.eraseIdx i.toNat) fun f hf=>afJ (agS hf)) ?_;split
   ·exact Lo.refl _
   ·split
    ·exact Lo.refl _
    ·split
     ·exact Lo.asked _ _
     ·exact Lo.heard _ _ _
theorem Lo.drop(G:Wd)(i:Int):Lo G (Ej G i).2:=by
 unfold Ej;split
 ·exact Lo.refl G
 ·exact Lo.E3 fun f hf=>afJ (agS hf)
theorem Lo.copy(G:Wd)(i:Int):Lo G (DG G i).2:=by
 unfold DG;split
 ·exact Lo.refl G
 ·split
  ·exact Lo.refl G
  ·split
   ·exact Lo.refl G
   ·rename_i f hf;refine Lo.E3 fun x hx=>?_
    rcases agb.mp hx with q|q
    ·exact afJ q
    ·rw[af3]at q;subst q;exact afJ (afU hf)
theorem Lo.Ji(G:Wd)(i a b:Int):Lo G (Dt G i a b).2:=by
 unfold Dt;split
 ·exact Lo.refl G
 ·split
  ·exact Lo.refl G
  ·split
   ·exact Lo.refl G
   ·split
    ·exact Lo.refl G
    ·rename_i f hf _ _;intro k x hx;rcases agc hx with q|q
     ·exact k x q
     ·subst q;simpa using k f (afU hf)
theorem Lo.done(G:Wd)(i:Nat):Lo G (Gm G i):=by
 unfold Gm;simp only;refine Lo.trans ?_ (Lo.tell _ _);exact Lo.same rfl
theorem Lo.Br:∀(js:List Jb) (G:Wd),Lo G (Br G js).2
 |[],G=>by
  unfold R.Br;exact Lo.same rfl
 |j :: js,G=>by
  unfold R.Br;split
  ·exact Lo.trans (Lo.same (G':={G with jobs:=js}) rfl) (Lo.done _ _)
  ·exact Lo.Br js G
theorem Lo.serve(G:Wd):Lo G (BV G).2:=Lo.Br G.jobs G
theorem Lo.Gk(G:Wd)(i:Int):Lo G (Bb G i).2:=by
 unfold Bb;split
 ·exact Lo.same rfl
 ·split
  ·exact Lo.refl G
  ·split
   ·exact Lo.refl G
   ·exact Lo.same rfl
end Go.Proofs.YtblomippkddgiabGreatDoor.R
namespace Go.Proofs.YtblomippkddgiabGreatDoor
open Go.RowKit
variable {xs:Array Value}{l:List UInt8}{cs:List Value}{B b k n:Nat}{f fz:Nat×Nat}{o:Obj}{t:TypeId}{V v:Value}{a c w w':World}
theorem Ac{p:Prop}(h:p):Hid p:=h
theorem Aa{p:Prop}(h:Hid p):p:=h
abbrev str(l:List UInt8):ByteArray:=⟨l.toArray⟩
theorem Ax(l:List UInt8):(str l).size=l.length:=by simp[ByteArray.size]
theorem wrap_u16(n:Int):IntKind.u16.wrap n=n % 65536:=by
 simp[IntKind.wrap,IntKind.bits,IntKind.signed]
theorem IJ(a:BitVec 16):BitVec.ofInt 16 (a.toNat:Int)=a:=by simp
theorem Sl(a b:BitVec 16):bits .and .u16 (a.toNat:Int) (b.toNat:Int)=((a &&& b).toNat:Int):=by
 show IntKind.u16.wrap ((BitVec.ofInt 16 (a.toNat:Int) &&& BitVec.ofInt 16 (b.toNat:Int)).toNat:Int)=_;rw[IJ,IJ,wrap_u16];have:=(a &&& b).isLt;omega
theorem Mj(a b:BitVec 16):bits .xor .u16 (a.toNat:Int) (b.toNat:Int)=((a ^^^ b).toNat:Int):=by
 show IntKind.u16.wrap ((BitVec.ofInt 16 (a.toNat:Int) ^^^ BitVec.ofInt 16 (b.toNat:Int)).toNat:Int)=_;rw[IJ,IJ,wrap_u16];have:=(a ^^^ b).isLt;omega
theorem aea(a:BitVec 16):IntKind.u16.wrap ((a.toNat:Int)*2)=((a <<< 1).toNat:Int):=by
 rw[wrap_u16,BitVec.toNat_shiftLeft,Nat.shiftLeft_eq];omega
theorem msb_and(a:BitVec 16):(((a &&& 0x8000#16).toNat:Int)==0)=!a.msb:=by
 have h1:(a &&& 0x8000#16)=if a.msb then 0x8000#16 else 0#16:=by
  apply BitVec.eq_of_getLsbD_eq;intro i hi;have hc:∀i,i<16->(0x8000#16).getLsbD i=(i==15):=by decide
  rw[BitVec.getLsbD_and,hc i hi];by_cases aa:i=15
  ·subst aa;have:a.msb=a.getLsbD 15:=BitVec.msb_eq_getLsbD_last a;rw[this];cases a.getLsbD 15<;>decide
  ·have e:(i==15)=false:=by simpa using aa
   rw[e,Bool.and_false];split
   ·rw[hc i hi,e]
   ·simp
 rw[h1];cases a.msb<;>rfl
theorem TJ(x y z r:Int)(w:World)(h1:bits .and .u16 x 32768=y)(h2:(y==0)=false)(h3:IntKind.u16.wrap (x*2)=z)(h4:bits .xor .u16 z 32773=r):
  Calls Tryz.prog 247 #[.int .u16 x] w fun e w'=>e=.returned (.int .u16 r)/\w'=w:=by
 go_enter Tryz.func247,Tryz.ntmps247;go_wp2
 go_ret
 exact⟨rfl,rfl⟩
theorem QY(x y z:Int)(w:World)(h1:bits .and .u16 x 32768=y)(h2:(y==0)=true)(h3:IntKind.u16.wrap (x*2)=z):
  Calls Tryz.prog 247 #[.int .u16 x] w fun e w'=>e=.returned (.int .u16 z)/\w'=w:=by
 go_enter Tryz.func247,Tryz.ntmps247;go_wp2
 go_ret
 exact⟨rfl,rfl⟩
theorem M7(a:BitVec 16)(w:World):Calls Tryz.prog 247 #[.int .u16 (a.toNat:Int)] w fun e w'=>e=.returned (.int .u16 ((mv a).toNat:Int))/\w'=w:=by
 have h1:bits .and .u16 (a.toNat:Int) 32768=((a &&& 0x8000#16).toNat:Int):=Sl a 0x8000#16;have h2:bits .xor .u16 ((a <<< 1).toNat:Int) 32773=(((a <<< 1) ^^^ abh).toNat:Int):=Mj (a <<< 1) 0x8005#16;have h3:=msb_and a;have h4:=aea a;cases hm:a.msb with
 |true=>
  rw[hm]at h3;have e:mv a=(a <<< 1) ^^^ abh:=by simp[mv,hm]
  rw[e];exact TJ _ _ _ _ w h1 h3 h4 h2
 |false=>
  rw[hm]at h3;have e:mv a=(a <<< 1):=by simp[mv,hm]
  rw[e];exact QY _ _ _ w h1 h3 h4
theorem aad(a:BitVec 16)(c:Nat)(h:c<256):bits .xor .u16 (a.toNat:Int) ((c:Int)*256)=((a ^^^ BitVec.ofNat 16 (c*256)).toNat:Int):=by
 have e:((c:Int)*256)=((BitVec.ofNat 16 (c*256)).toNat:Int):=by
  rw[BitVec.toNat_ofNat];omega
 rw[e];exact Mj a _
theorem Ug(S:ByteArray)(g:Nat->Int)(F:Nat->Nat->Int)(w:World)(hs:S.size<=1000000)(g0:g 0=0)
  (aa:∀j (h:j<S.size),bits .xor .u16 (g j) ((S[j].toNat:Int)*256)=F j 0) (ab:∀j,j<S.size->F j 8=g (j+1))
  (HM:Hid (∀j k (w:World),Calls Tryz.prog 247 #[.int .u16 (F j k)] w fun e w'=>e=.returned (.int .u16 (F j (k+1)))/\w'=w)) (hg:0<=g S.size/\g S.size<65536):
  Calls Tryz.prog 212 #[.string S] w fun e w'=>e=.returned (.int .i64 (g S.size))/\w'=w:=by
 have ad:=Ac aa;have ae:=Ac ab;have HG:=Ac hg;clear aa ab hg;go_enter Tryz.func212,Tryz.ntmps212;go_wp2;go_loopw [3,7] (fun wv iv wr=>∃i:Nat,i<=S.size/\iv=.int .i64 i/\wv=.int .u16 (g i)/\wr=w) (fun _ iv _=>S.size-(intOf iv).toNat)
 case atStart=>exact⟨0,af8 _,rfl,by rw[g0],rfl⟩
 case round=>
  obtain⟨i,hi,rfl,rfl,rfl⟩:=hrel;by_cases ac:i<S.size
  ·have h0:=(Aa ad) i ac;have hc:=S[i].toNat_lt;have h8:=Ac ((Aa ae) i ac);go_wp2;go_loopw [3,17] (fun wv kv ah=>∃k:Nat,k<=8/\kv=.int .i64 k/\wv=.int .u16 (F i k)/\ah=wr) (fun _ kv _=>8-(intOf kv).toNat)
   case atStart=>exact⟨0,af8 _,rfl,rfl,rfl⟩
   case round=>
    obtain⟨k,hk,rfl,rfl,rfl⟩:=hrel;by_cases ai:k<8
    ·have aj:(k:Int)<8:=by omega
     go_wp2_with (go_at_call 247;refine((Aa HM) _ _ _).mono ?_;rintro e w2 ⟨rfl,rfl⟩)
     go_roundw
     case rel=>exact⟨k+1,by omega,by go_num,rfl,trivial⟩
     case measure=>simp[intOf];omega
    ·have ag:k=8:=by omega
     subst ag;rw[Aa h8];go_wp2;go_roundw
     case rel=>exact⟨i+1,by omega,by go_num,rfl,trivial⟩
     case measure=>simp[intOf];omega
  ·have af:i=S.size:=by omega
   subst af;obtain⟨n1,n2⟩:=Aa HG;go_wp2
   go_ret
   exact⟨rfl,rfl⟩
def Xp(l:List UInt8)(j:Nat):Int:=((crc (l.take j)).toNat:Int)
def Xn(l:List UInt8)(j k:Nat):Int:=match l[j]? with
 |some b=>((mvs k (crc (l.take j) ^^^ high b)).toNat:Int)
 |none=>((mvs k 0).toNat:Int)
theorem Xo(l:List UInt8)(j k:Nat)(w:World):Calls Tryz.prog 247 #[.int .u16 (Xn l j k)] w fun e w'=>e=.returned (.int .u16 (Xn l j (k+1)))/\w'=w:=by
 unfold Xn;split
 ·rw[QZ];exact M7 _ w
 ·rw[QZ];exact M7 _ w
theorem PZ(l:List UInt8)(j:Nat)(h:j<(str l).size):l[j]?=some ((str l)[j]):=by
 have hl:j<l.length:=by rw[Ax]at h;exact h
 rw[afH hl];rfl
theorem Lu(l:List UInt8)(w:World)(hl:l.length<=1000000):Calls Tryz.prog 212 #[.string (str l)] w fun e w'=>e=.returned (.int .i64 ((crc l).toNat:Int))/\w'=w:=by
 have h:=Ug (str l) (Xp l) (Xn l) w (by rw[Ax];exact hl) rfl ?_ ?_ (Ac (Xo l)) ?_
 ·have e:Xp l (str l).size=((crc l).toNat:Int):=by
   unfold Xp;rw[Ax,agW]
  rw[e]at h;exact h
 ·intro j hj;have hg:=PZ l j hj;unfold Xp Xn;rw[hg,aad _ _ (UInt8.toNat_lt _)];rfl
 ·intro j hj;have hg:=PZ l j hj;unfold Xn Xp;rw[hg,agH,hg,Option.toList_some];show _=(((l.take j++[(str l)[j]]).foldl O3 0).toNat:Int);rw[agU];rfl
 ·unfold Xp;have:=(crc (l.take (str l).size)).isLt;omega
abbrev Bq(n q:Nat):Value:=.agg #[.int .i64 n,.int .i64 q]
abbrev Az(n q:Nat):Ending:=.panicked [{v:=.iface 161 (Bq n q),recovered:=false}]
theorem lt_of_block(h:w.heap[k]?=some o):k<w.heap.size:=by
 rcases agy k w.heap.size with hh|hh
 ·exact hh
 ·rw[ags hh]at h;cases h
theorem CP(l:List UInt8)(a b:Nat):(str l).extract a b=str ((l.drop a).take (b-a)):=by
 apply ByteArray.ext;simp[ByteArray.data_extract,List.extract_eq_take_drop]
def DT(l:List UInt8):List Value:=l.map fun c=>Value.int .u8 (c.toNat:Int)
theorem info5:(Tryz.prog.info? 5).map (fun i=>(i.zero,i.size,i.bytes))=some (some (.int .u8 0),1,1):=by kernel_rfl
theorem Jw(w:World)(l:List UInt8)(M:Array Value)(hM:M.size=l.length):
  (Builtin.copy_ #[281,9] 3 #[.slice (some ⟨w.heap.size,0,none⟩) l.length l.length,.string (str l)]).run Tryz.prog (w.alloc (.cells M 5))=.ok (goInt l.length) ((w.alloc (.cells M 5)).setRow w.heap.size (DT l).toArray):=by
 have h:=Lib.run_copy_row_string (P:=Tryz.prog) (w.alloc (.cells M 5)) 281 9 3 5 w.heap.size 0 l.length l.length (str l) M 5 Tryz.underlying281 (by kernel_rfl) (heap_alloc_new w _) (by rw[Ax];exact afI _) (by rw[Ax];omega);rw[Ax]at h;have e:M.toList.drop (0+l.length)=[]:=List.drop_of_length_le (by rw[agG];omega);have e2:M.toList.take 0++Lib.byteCells (str l).data.toList++M.toList.drop (0+l.length)=DT l:=by
  rw[e,List.take_zero,agO,agv];rfl
 rw[e2]at h;exact h
theorem Jh(w:World)(M:Array Value)(Y:Array Value)(n:Nat):Below w.heap.size w (((w.alloc (.cells M 5)).setRow w.heap.size Y).freeze ⟨w.heap.size,0,none⟩ n):=by
 refine Lib.below_freeze (p:=⟨w.heap.size,0,none⟩) ?_ (afI _) _;exact((Below.refl w.heap.size w).alloc (afI _) _).trans ⟨rfl,rfl,rfl,by simp[World.setRow],fun k hk=>setRow_other _ _ _ _ (by omega)⟩
theorem Jx(w:World)(l:List UInt8)(M:Array Value)(h0:l≠[])(hl:l.length<=1000):
  (Builtin.unsafeString_ #[330,3] 9 #[.pointer (some ⟨w.heap.size,0,none⟩),.int .i64 l.length]).run Tryz.prog ((w.alloc (.cells M 5)).setRow w.heap.size (DT l).toArray)=.ok (.string (str l)) (((w.alloc (.cells M 5)).setRow w.heap.size (DT l).toArray).freeze ⟨w.heap.size,0,none⟩ l.length):=by
 have hg:=setRow_heap (w.alloc (.cells M 5)) w.heap.size M (DT l).toArray 5 (0,0) (heap_alloc_new w _);have aa:(DT l).toArray.size=l.length:=by simp[DT]
 refine Lib.run_unsafeString_row (P:=Tryz.prog) _ 330 3 9 5 Tryz.underlying330 (by kernel_rfl) w.heap.size l.length ?_ l h0 (afI _) (by omega) fun j x hx=>?_
 ·unfold World.shape?;rw[hg];simp[DT]
 ·refine Lib.cells_of_row hg l.length j _ ?_;rw[List.toList_toArray,af6 (by simp[DT])];unfold DT;rw[afW,hx];rfl
theorem Ks(l:List UInt8)(w:World)(hl:l.length<=1000):Calls Tryz.prog 200 #[.string (str l)] w fun e w'=>e=.returned (.string (str l))/\Below w.heap.size w w':=by
 have ac:=Ax l;by_cases h0:l=[]
 ·subst h0;go_enter Tryz.func200,Tryz.ntmps200;go_wp2
  go_ret
  exact⟨rfl,Below.refl _ _⟩
 ·obtain⟨i0,hi,ad,ae,af⟩:=info_parts info5;have ab:0<l.length:=agN.2 h0;obtain⟨M,hM⟩:∃M,M=madeCells (Value.int .u8 0).cells (l.length*1):=⟨_,rfl⟩;have aa:M.size=l.length:=by rw[hM,size_madeCells];omega
  have ah:∀W:World,(Instr.makeSlice 281 (.int .i64 (l.length:Int)) (.int .i64 (l.length:Int))).run Tryz.prog W=.ok (.slice (some ⟨W.heap.size,0,none⟩) l.length l.length) (W.alloc (.cells M 5)):=fun W=>by
   have h:=run_make (P:=Tryz.prog) W 281 5 i0 (.int .u8 0) Tryz.underlying281 hi ad .i64 .i64 (l.length:Int) (l.length:Int) (by omega) (agt _) (by rw[af];omega) (by omega);rw[ae,afY,<-hM]at h;exact h
  have ag:=Jw w l M aa;have aj:=Jx w l M h0 hl;have HB:=Ac (Jh w M (DT l).toArray l.length);have ai:((l.length:Int)==0)=false:=by simp;omega
  generalize hY:(DT l).toArray=Y at *;generalize hS:str l=S at *;clear hM hY h0 hS;generalize l.length=n at *;subst ac;go_enter Tryz.func200,Tryz.ntmps200;go_wp2
  go_ret
  exact⟨rfl,Aa HB⟩
theorem Ei(l:List UInt8)(w:World)(hl:l.length<=1000):Calls Tryz.prog 146 #[.string (str l)] w fun e w'=>e=.returned (.string (str l))/\Below w.heap.size w w':=by
 have H:=Ac (Ks l w hl);generalize hS:str l=S at *;clear hS;go_enter Tryz.func146,Tryz.ntmps146;go_wp2_with fail
 refine(Aa H).mono ?_;rintro e w1 ⟨rfl,hb⟩;go_wp2
 go_ret
 exact⟨rfl,hb⟩
def Rd(w:World)(b:Nat)(l:List UInt8):Prop:=w.heap[b]?=some (.cells #[.string (str l),.int .i64 7] 249 (0,0))
theorem Rd.left(h:Rd w b l):w.cell? ⟨b,0,none⟩=some (.string (str l)):=by
 unfold Rd at h;simp[World.cell?,h]
theorem Rd.wrong(h:Rd w b l):w.cell? ⟨b,1,none⟩=some (.int .i64 7):=by
 unfold Rd at h;simp[World.cell?,h]
theorem Rd.thaw(h:Rd w b l)(o:Nat):w.frozen? ⟨b,o,none⟩=false:=by
 unfold Rd at h;simp[World.frozen?,h]
theorem Rd.lt(h:Rd w b l):b<w.heap.size:=lt_of_block h
theorem Rd.set(h:Rd w b l)(l':List UInt8):Rd (w.setCell ⟨b,0,none⟩ (.string (str l'))) b l':=by
 unfold Rd at h ⊢;simp only[World.setCell,agi,h];simp
theorem Rd.below(h:Rd w b l)(hb:Below B w w')(hB:b<B):Rd w' b l:=by
 unfold Rd at h ⊢;rw[hb.block b hB];exact h
theorem Cp(b:Nat)(l:List UInt8)(w:World)(h:Rd w b l):Calls Tryz.prog 213 #[.pointer (some ⟨b,0,none⟩)] w fun e w'=>e=Az 7 0/\w'=w:=by
 have h1:=h.wrong;clear h;go_enter Tryz.func213,Tryz.ntmps213;go_wp2;exact⟨rfl,rfl,rfl⟩
theorem FV(b:Nat)(l:List UInt8)(n:Nat)(w:World)(h:Rd w b l)(hn:n<=l.length)(hl:l.length<=9223372036854775807):
  Calls Tryz.prog 246 #[.pointer (some ⟨b,0,none⟩),.int .i64 n] w fun e w'=>e=.returned (.string (str (l.take n)))/\w'=w.setCell ⟨b,0,none⟩ (.string (str (l.drop n))):=by
 have h1:=h.left;have h2:=h.thaw 0;have aa:=Ax l;have e1:(str l).extract 0 n=str (l.take n):=by rw[CP];simp
 have e2:(str l).extract n (str l).size=str (l.drop n):=by
  rw[CP,Ax,af6 (by rw[agf];omega)]
 generalize hS:str l=S at *;generalize hA:str (l.take n)=A at *;generalize hB:str (l.drop n)=B at *;clear hS hA hB h;generalize l.length=m at *;subst aa;have ab:¬((S.size:Int)<(n:Int)):=by omega
 go_enter Tryz.func246,Tryz.ntmps246;go_wp2
 go_ret
 exact⟨rfl,rfl⟩
theorem Ki(b:Nat)(l:List UInt8)(n:Nat)(w:World)(h:Rd w b l)(hn:¬n<=l.length):
  Calls Tryz.prog 246 #[.pointer (some ⟨b,0,none⟩),.int .i64 n] w fun e w'=>e=Az 7 0/\w'=w:=by
 have h1:=h.left;have aa:=Ax l;have HN:=Ac (Cp b l w h);generalize hS:str l=S at *;clear hS h;have ab:((S.size:Int)<(n:Int)):=by omega
 clear hn aa;go_enter Tryz.func246,Tryz.ntmps246;go_wp2_with fail
 refine(Aa HN).mono ?_;rintro e w1 ⟨rfl,rfl⟩;go_wp2;exact⟨rfl,rfl,rfl⟩
structure D8(b:Nat)(w w':World):Prop where
 below:Below b w w'
 size:w.heap.size<=w'.heap.size
 block:∀k,k<w.heap.size->k≠b->w'.heap[k]?=w.heap[k]?
theorem D8.refl(b:Nat)(w:World):D8 b w w:=⟨Below.refl _ _,afI _,fun _ _ _=>rfl⟩
theorem D8.trans{u v:World}(h:D8 b u v)(k:D8 b v w):D8 b u w:=⟨h.below.trans k.below,agM h.size k.size,fun i hi hb=>(k.block i (afT hi h.size) hb).trans (h.block i hi hb)⟩
theorem D8.set(b o:Nat)(w:World)(x:Value):D8 b w (w.setCell ⟨b,o,none⟩ x):=⟨(Below.refl _ _).setCell (by simp) _,by simp,fun _ _ hk=>Below.heap_setCell _ _ _ _ (by simpa using hk)⟩
theorem D8.of_below(h:Below w.heap.size w w')(hb:b<=w.heap.size):D8 b w w':=⟨h.mono hb,h.size,fun k hk _=>h.block k hk⟩
def adj(b:Nat)(l:List UInt8)(w:World)(e:Ending)(w':World):Prop:=D8 b w w'/\((l=[]/\e=Az 7 0)\/∃c r,l=c :: r/\e=.returned (.int .i64 (c.toNat:Int))/\Rd w' b r)
theorem H9(b:Nat)(l:List UInt8)(w:World)(h:Rd w b l)(hl:l.length<=9223372036854775807):Calls Tryz.prog 206 #[.pointer (some ⟨b,0,none⟩)] w (adj b l w):=by
 cases l with
 |nil=>
  have H:=Ac (Ki b [] 1 w h (by simp));clear h;go_enter Tryz.func206,Tryz.ntmps206;go_wp2_with fail
  refine(Aa H).mono ?_;rintro e w1 ⟨rfl,rfl⟩;go_wp2;exact⟨rfl,D8.refl _ _,afJ ⟨rfl,rfl⟩⟩
 |cons c r=>
  have H:=Ac (FV b (c :: r) 1 w h (by simp) hl);have HS:=Ac (h.set r);rw[show (c :: r).take 1=[c] from rfl,show (c :: r).drop 1=r from rfl]at H;have i0:(str [c])[0]'(by rw[Ax];simp)=c:=rfl;have hc:=c.toNat_lt;have hw:wrap64 (c.toNat:Int)=(c.toNat:Int):=by unfold wrap64;omega
  clear h;go_enter Tryz.func206,Tryz.ntmps206;go_wp2_with fail
  refine(Aa H).mono ?_;rintro e w1 ⟨rfl,rfl⟩;go_wp2
  go_ret
  exact⟨D8.set _ _ _ _,afM ⟨c,r,rfl,rfl,Aa HS⟩⟩
abbrev Aq:=Nat->Prop
structure Af(F:Aq)(w w':World):Prop where
 os:w'.os=w.os
 tape:w'.tape=w.tape
 output:w'.output=w.output
 size:w.heap.size<=w'.heap.size
 block:∀k,k<w.heap.size->¬F k->w'.heap[k]?=w.heap[k]?
theorem Af.refl(F:Aq)(w:World):Af F w w:=⟨rfl,rfl,rfl,afI _,fun _ _ _=>rfl⟩
theorem Af.mono{F G:Aq}(h:Af F w w')(hG:∀k,k<w.heap.size->F k->G k):Af G w w':=⟨h.os,h.tape,h.output,h.size,fun k hk hn=>h.block k hk (fun hf=>hn (hG k hk hf))⟩
theorem Af.andThen{F G:Aq}{b:World}(h:Af F a b)(k:Af G b c)(hG:∀i,i<a.heap.size->G i->F i):Af F a c:=
 ⟨k.os.trans h.os,k.tape.trans h.tape,k.output.trans h.output,agM h.size k.size,fun i hi hn=>(k.block i (afT hi h.size) (fun hg=>hn (hG i hi hg))).trans (h.block i hi hn)⟩
theorem Af.trans{F:Aq}{b:World}(h:Af F a b)(k:Af F b c):Af F a c:=h.andThen k (fun _ _ h=>h)
theorem Af.Al(h:Below w.heap.size w w')(F:Aq):Af F w w':=⟨h.os,h.tape,h.output,h.size,fun k hk _=>h.block k hk⟩
theorem Af.below{F:Aq}(h:Af F w w')(hB:B<=w.heap.size)(hF:∀k,F k->B<=k):Below B w w':=⟨h.os,h.tape,h.output,h.size,fun k hk=>h.block k (afT hk hB) (fun hf=>by have:=hF k hf;omega)⟩
theorem Af.drew{F:Aq}(h:Af F a w):Af F a w.drew:=⟨h.os,h.tape,h.output,h.size,h.block⟩
theorem Af.alloc{F:Aq}(h:Af F a w)(o:Obj):Af F a (w.alloc o):=
 h.trans ⟨rfl,rfl,rfl,by simp,fun k hk _=>Below.heap_alloc _ _ _ hk⟩
theorem Af.setCell{F:Aq}(h:Af F a w){p:Addr}(hp:F p.block\/a.heap.size<=p.block)(u:Value):Af F a (w.setCell p u):=
 ⟨h.os,h.tape,h.output,by simpa [World.setCell] using h.size,fun k hk hn=>by
  rw[Below.heap_setCell _ _ _ _ (fun e=>by
   subst e;rcases hp with hp|hp
   ·exact hn hp
   ·omega)]
  exact h.block k hk hn⟩
theorem Af.grown{F:Aq}{row:Option Nat}(h:Af F a w)(hg:w.grownBy w' row)(hr:∀k,row=some k->F k\/a.heap.size<=k):Af F a w':=
 ⟨hg.os.trans h.os,hg.tape.trans h.tape,hg.output.trans h.output,agM h.size hg.size,fun k hk hn=>by
  rw[hg.block k (afT hk h.size) (fun e=>by
   rcases hr k e.symm with q|q
   ·exact hn q
   ·omega)]
  exact h.block k hk hn⟩
theorem Af.at{F:Aq}(h:Af F w w')(hk:w.heap[k]?=some o)(hn:¬F k):w'.heap[k]?=some o:=by
 rw[h.block k (afR.1 hk).1 hn];exact hk
theorem Af.row{F:Aq}(h:Af F w w'){size:Nat}{e:TypeId}{xs:List Value}(hr:w.ownsRow B e size v n xs)(hn:∀j,v.ownBlock=some j->¬F j):w'.ownsRow B e size v n xs:=by
 obtain⟨hl,hr⟩:=hr;refine⟨hl,?_⟩;rcases hr with hr|⟨g,cap,aa,rfl,hb,hg,r⟩
 ·exact afJ hr
 ·exact afM ⟨g,cap,aa,rfl,hb,h.at hg (hn g rfl),r⟩
theorem Af.map{F:Aq}(h:Af F w w'){H:Type}{P:Program}{k:TypeId}{R:Value->Option (DataW H×List MemPlace)}{D:DataW H}(hm:w.ownsMap P k R b n D)(hn:¬F b):w'.ownsMap P k R b n D:=by
 obtain⟨es,aa,hb,r⟩:=hm;exact⟨es,aa,h.at hb hn,r⟩
structure Ap(F F':Aq)(w w':World):Prop where
 keeps:Af F w w'
 fresh:∀k,F' k->F k\/w.heap.size<=k
theorem Ap.refl(F:Aq)(w:World):Ap F F w w:=⟨Af.refl F w,fun _ h=>afJ h⟩
theorem Ap.trans{F F' aa:Aq}{b:World}(h:Ap F F' a b)(k:Ap F' aa b c):Ap F aa a c:=
 ⟨h.keeps.andThen k.keeps (fun i hi hf=>(h.fresh i hf).resolve_right (by omega)),fun i hi=>by
  rcases k.fresh i hi with q|q
  ·exact h.fresh i q
  ·exact afM (agM h.keeps.size q)⟩
theorem Ap.Al(F:Aq)(h:Below w.heap.size w w'):Ap F F w w':=⟨Af.Al h F,fun _ h=>afJ h⟩
def tab{α:Type}(f:α->List Value)(xs:List α):List Value:=xs.flatMap f
theorem Dh{α:Type}{f:α->List Value}(hf:∀x,(f x).length=n):∀xs:List α,(tab f xs).length=n*xs.length
 |[]=>by simp[tab]
 |x :: xs=>by
  have h:=Dh hf xs;simp only[tab,agI,afS,hf,af1]at h ⊢;rw[h,Nat.mul_succ];omega
theorem E7{α:Type}{f:α->List Value}(hf:∀x,(f x).length=n):∀(xs:List α) (k j:Nat) (x:α),xs[k]?=some x->j<n->(tab f xs)[k*n+j]?=(f x)[j]?
 |[],k,j,x,h,_=>by simp at h
 |y :: xs,0,j,x,h,hj=>by
  simp at h;subst h;simp only[tab,agI,Nat.zero_mul,agn];rw[af4 (by rw[hf];exact hj)]
 |y :: xs,k+1,j,x,h,hj=>by
  have ih:=E7 hf xs k j x (by simpa using h) hj;simp only[tab,agI]at ih ⊢;rw[agh (by rw[hf,ag4];omega),hf,<-ih];congr 1;rw[ag4];omega
theorem IU{α:Type}{f:α->List Value}(hf:∀x,(f x).length=n):∀(xs:List α) (k j:Nat) (x x':α) (v:Value),xs[k]?=some x->j<n->f x'=(f x).set j v->(tab f xs).set (k*n+j) v=tab f (xs.set k x')
 |[],k,j,x,x',v,h,_,_=>by simp at h
 |y :: xs,0,j,x,x',v,h,hj,e=>by
  simp at h;subst h;simp only[tab,agI,Nat.zero_mul,agn,afP];rw[List.set_append_left _ _ (by rw[hf];exact hj),e]
 |y :: xs,k+1,j,x,x',v,h,hj,e=>by
  have ih:=IU hf xs k j x x' v (by simpa using h) hj e;simp only[tab,agI,afQ]at ih ⊢;rw[List.set_append_right _ _ (by rw[hf,ag4];omega),hf,<-ih];congr 2;rw[ag4];omega
theorem EV{α:Type}(f:α->List Value)(xs:List α)(x:α):tab f (xs++[x])=tab f xs++f x:=by simp[tab]
theorem Ai{off:Nat}(h:w.heap[b]?=some (.cells cs.toArray t fz))(v:Value):(w.setCell ⟨b,off,none⟩ v).heap[b]?=some (.cells (cs.set off v).toArray t fz):=by
 simp[World.setCell,agi,h]
theorem AP{off:Nat}(h:w.heap[b]?=some (.cells cs.toArray t fz))(hv:cs[off]?=some v):w.cell? ⟨b,off,none⟩=some v:=by
 simp[World.cell?,h,hv]
theorem open_list{off:Nat}{cs:Array Value}(h:w.heap[b]?=some (.cells cs t (0,0))):w.frozen? ⟨b,off,none⟩=false:=by
 simp[World.frozen?,h]
theorem AZ{a:Nat}{ys:Array Value}{u:TypeId}{g:Nat×Nat}(ha:w.heap[a]?=some (.cells xs t f))(hb:w.heap[b]?=some (.cells ys u g))(h:t≠u):a≠b:=by
 rintro rfl;rw[ha]at hb;cases hb;exact h rfl
theorem Fv{a:Nat}{es:Array MapEntry}{cl:Nat}(ha:w.heap[a]?=some (.cells xs t f))(hb:w.heap[b]?=some (.map es cl)):a≠b:=by
 rintro rfl;rw[ha]at hb;cases hb
def BF(w:World)(F:Aq)(V:Value)(l:List R.It):Prop:=(l=[]/\V=.slice none 0 0)\/∃b off cap cur,l≠[]/\V=.slice (some ⟨b,off,none⟩) l.length cap/\l.length<=cap/\F b/\w.heap[b]?=some (.cells cur 73 (0,0))/\∀j x,l[j]?=some x->cur[off+j*2]?=some (.int .i64 x.1)/\cur[off+j*2+1]?=some (.string x.2)
theorem BF.items{F:Aq}{l:List R.It}(h:BF w F V l):Go.Proofs.YtblomippkddgiabGreatDoor.V.Items w V l:=by
 rcases h with ⟨rfl,rfl⟩|⟨b,off,cap,aa,_,h1,h2,h3,h4,h5⟩
 ·exact⟨none,0,rfl,afI _,afJ rfl⟩
 ·refine⟨_,cap,h1,h2,afM ⟨b,off,rfl,(afR.1 h4).1,fun j x hx=>?_⟩⟩;obtain⟨r1,r2⟩:=h5 j x hx;exact⟨by simp[World.cell?,h4,r1],by simp[World.cell?,h4,r2]⟩
theorem BF.nil(w:World)(F:Aq):BF w F (.slice none 0 0) []:=afJ ⟨rfl,rfl⟩
theorem BF.keep{F E F':Aq}{l:List R.It}(h:BF w F V l)(hk:Af E w w')(hE:∀b aa,F b->w.heap[b]?=some (.cells aa 73 (0,0))->¬E b)(hF:∀k,F k->F' k):BF w' F' V l:=by
 rcases h with h|⟨b,off,cap,aa,h0,h1,h2,h3,h4,h5⟩
 ·exact afJ h
 ·exact afM ⟨b,off,cap,aa,h0,h1,h2,hF _ h3,hk.at h4 (hE b aa h3 h4),h5⟩
def IW(w:World)(F:Aq)(V:Value)(l:List R.It):Prop:=(l=[]/\∃a,V=.slice a 0 0)\/BF w F V l
theorem IW.keep{F E F':Aq}{l:List R.It}(h:IW w F V l)(hk:Af E w w')(hE:∀b aa,F b->w.heap[b]?=some (.cells aa 73 (0,0))->¬E b)(hF:∀k,F k->F' k):IW w' F' V l:=by
 rcases h with h|h
 ·exact afJ h
 ·exact afM (h.keep hk hE hF)
end Go.Proofs.YtblomippkddgiabGreatDoor
