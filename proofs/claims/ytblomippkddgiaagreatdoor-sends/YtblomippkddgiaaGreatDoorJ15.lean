import Derived.Test.YtblomippkddgiaaGreatDoorJ14
set_option maxRecDepth 100000
set_option maxHeartbeats 1000000
namespace Go.Proofs.YtblomippkddgiaaGreatDoor.V
open Go.RowKit
theorem Yn:(Tryz.prog.info? 178).map (fun i=>(i.zero,i.size,i.bytes))=some (some (.agg #[.slice none 0 0,.slice none 0 0,.slice none 0 0,.slice none 0 0,.int .i64 0,.int .i64 0,.string ⟨#[]⟩]),7,128):=by kernel_rfl
def Iy:ByteArray:=⟨#[109,97,114,107]⟩
structure Zc(w0 w:World)(O:Value)(n:Nat)(x:It)(i:Nat)(wr:World):Prop where
 size:wr.heap.size=w.heap.size+1
 box:wr.heap[w.heap.size]?=some (.cells #[.int .i64 x.1,.string x.2] 106 (0,0))
 keep:∀k,k<w.heap.size->O.ownBlock≠some k->wr.heap[k]?=w.heap[k]?
 below:Below w0.heap.size w0 wr
 row:(O=.slice none 0 0/\n=0)\/∃G cap,O=.slice (some ⟨G,0,none⟩) n cap/\G<w.heap.size/\w0.heap.size<=G/\CG wr G cap 0 (List.replicate i x)/\n<=cap/\cap<=maxLen
theorem Zc.step{w0 w:World}{O:Value}{n:Nat}{x:It}{i:Nat}{wr:World}(h:Zc w0 w O n x i wr)(hi:i<n):∃G cap,O=.slice (some ⟨G,0,none⟩) n cap/\CG wr G cap 0 (List.replicate i x)/\i<cap/\G<w.heap.size /\
  Zc w0 w O n x (i+1) ((wr.setCell ⟨G,i*2,none⟩ (.int .i64 x.1)).setCell ⟨G,i*2+1,none⟩ (.string x.2)):=by
 rcases h.row with ⟨_,h0⟩|⟨G,cap,hO,hG,hG0,hL,hc,hm⟩
 ·omega
 ·have hne:∀k,k≠G->((wr.setCell ⟨G,i*2,none⟩ (.int .i64 x.1)).setCell ⟨G,i*2+1,none⟩ (.string x.2)).heap[k]?=wr.heap[k]?:=fun k hk=>by
   rw[Below.heap_setCell _ _ _ _ (by simpa using hk),Below.heap_setCell _ _ _ _ (by simpa using hk)]
  have hL2:=hL.snoc (by rw[List.length_replicate];omega) x;rw[List.length_replicate,show List.replicate i x++[x]=List.replicate (i+1) x by simp[List.replicate_succ']]at hL2;refine⟨G,cap,hO,hL,by omega,hG,by simpa using h.size,?_,fun k hk hkO=>?_,(h.below.setCell (by simpa using hG0) _).setCell (by simpa using hG0) _,Or.inr ⟨G,cap,hO,hG,hG0,hL2,hc,hm⟩⟩
  ·rw[hne _ (by omega)];exact h.box
  ·rw[hne k (fun e=>hkO (by rw[hO,e];rfl))];exact h.keep k hk hkO
theorem Fy{w:World}{A:Nat}{a c:Value}(h:w.heap[A]?=some (.cells #[a,c] 106 (0,0))):w.cell? ⟨A,0,none⟩=some a/\w.cell? ⟨A,1,none⟩=some c:=by
 constructor<;>simp[World.cell?,h]
structure X0(w0 w:World)(O:Value)(x:It)(B:Nat)(Ts:List (Value×Nat))(wr:World):Prop where
 size:w.heap.size<wr.heap.size
 box:wr.heap[w.heap.size]?=some (.cells #[.int .i64 x.1,.string x.2] 106 (0,0))
 keep:∀k,k<w.heap.size->O.ownBlock≠some k->wr.heap[k]?=w.heap[k]?
 below:Below w0.heap.size w0 wr
 marks:∀t∈Ts,Marks B x wr t.1 t.2/\(t.1.ownBlock=O.ownBlock\/∃j,t.1.ownBlock=some j/\w.heap.size<j)
theorem YV{w0 w:World}{O:Value}{n:Nat}{x:It}{wr:World}{B:Nat}(h:Zc w0 w O n x n wr)(hB:∀j,O.ownBlock=some j->B<=j):X0 w0 w O x B [(O,n)] wr:=by
 refine⟨by rw[h.size];omega,h.box,h.keep,h.below,fun t ht=>?_⟩;simp only[List.mem_singleton]at ht;subst ht;refine⟨?_,Or.inl rfl⟩;rcases h.row with ⟨rfl,rfl⟩|⟨G,cap,hO,hG,hG0,hL,hc,hm⟩
 ·exact World.ownsRow_nil _ _ _ _
 ·subst hO;obtain⟨cur,hg,hs,hx⟩:=hL;refine⟨Br x n,Or.inr ⟨G,cap,cur,rfl,hB G rfl,hg,hc,hm,hs,?_⟩⟩;rw[Fi];intro j hj;obtain⟨r0,r1⟩:=hx (j / 2) x (Nat.zero_le _) (by rw[List.getElem?_replicate,if_pos (by omega)]);unfold Zd;by_cases he:j % 2=0
  ·rw[if_pos he];rw[show j / 2*2=j by omega]at r0;exact r0
  ·rw[if_neg he];rw[show j / 2*2+1=j by omega]at r1;exact r1
theorem Lt{w0 w:World}{O:Value}{x:It}{B:Nat}{Ts:List (Value×Nat)}{wr:World}(h:X0 w0 w O x B Ts wr){n:Nat}(hin:(O,n)∈Ts)(m:Nat)(hn:n+m<=1000000)(hB:B<=w.heap.size)(hO:∀j,O.ownBlock=some j->j<w.heap.size/\w0.heap.size<=j):
  ∃a c w',(Builtin.append_ #[44,44] 44 #[O,.slice (some ⟨wr.heap.size,0,none⟩) m m]).run Tryz.prog (wr.alloc (.cells (marks x m).toArray 106))=.ok (.slice a (n+m) c) w'/\X0 w0 w O x B (Ts++[(.slice a (n+m) c,n+m)]) w':=by
 have hb1:Below wr.heap.size wr (wr.alloc (.cells (marks x m).toArray 106)):=(Below.refl _ _).alloc (Nat.le_refl _) _;have hws:(wr.alloc (.cells (marks x m).toArray 106)).heap.size=wr.heap.size+1:=by simp
 have hsz:=h.size;have hs0:=h.below.size;obtain⟨v',w',hr,hM,hg,hat,hall⟩:=more x B (wr.alloc (.cells (marks x m).toArray 106)) O n m m ⟨wr.heap.size,0,none⟩ ((h.marks _ hin).1.below hb1) (fun j u hj=>by
  rw[Addr.add_lit,Nat.zero_add,World.cell?_alloc_new wr _ _ j,List.getElem?_toArray];exact hj) hn (by omega)
 have hgs:=hg.size;have keepW:∀k,k<wr.heap.size->O.ownBlock≠some k->w'.heap[k]?=wr.heap[k]?:=fun k hk hne=>by
  rw[hg.block k (by omega) (fun e=>hne e.symm)];exact Below.heap_alloc _ _ _ hk
 obtain⟨a,n',c,hsh⟩:=Am hM;subst hsh;have hn':n'=n+m:=by
  rcases hM.2 with ⟨hv,h0⟩|⟨g,cap,cur,hv,_⟩
  ·cases hv;omega
  ·cases hv;rfl
 subst hn';refine⟨a,c,w',hr,by omega,?_,fun k hk hne=>?_,(h.below.alloc (by omega) _).grown hg (by omega) (fun k hk=>(hO k hk).2),fun t ht=>?_⟩
 ·rw[keepW _ hsz (fun e=>by have:=(hO _ e).1;omega)];exact h.box
 ·rw[keepW k (by omega) hne];exact h.keep k hk hne
 ·rcases List.mem_append.1 ht with ht|ht
  ·exact⟨hall _ _ ((h.marks t ht).1.below hb1),(h.marks t ht).2⟩
  ·simp only[List.mem_singleton]at ht;subst ht;refine⟨hM,?_⟩;rcases hat with e|e
   ·exact Or.inl e
   ·exact Or.inr ⟨_,e,by omega⟩
structure Kp where
 l:Value
 g1:Value
 g2:Value
 g3:Value
 n:Nat
 x:It
def Kp.cells(k:Kp):List Value:=[k.l,k.g1,k.g2,k.g3,.int .i64 k.n,.int .i64 k.x.1,.string k.x.2]
def Kp.lists(k:Kp):List (Value×Nat):=[(k.l,k.n),(k.g1,k.n+1),(k.g2,k.n+2),(k.g3,k.n+3)]
def Im:List Kp->List Value
 |[]=>[]
 |k :: L=>k.cells++Im L
theorem J7:∀(L:List Kp) (k:Kp),Im (L++[k])=Im L++k.cells
 |[],k=>by simp[Im]
 |y :: L,k=>by simp only[List.cons_append,Im,J7 L k,List.append_assoc]
theorem Dv{w w':World}{B n size:Nat}{e:TypeId}{v:Value}{xs:List Value}(h:w.ownsRow B e size v n xs)(hk:∀g,v.ownBlock=some g->w'.heap[g]?=w.heap[g]?):w'.ownsRow B e size v n xs:=by
 obtain⟨hl,h⟩:=h;refine⟨hl,?_⟩;rcases h with h|⟨g,cap,cur,rfl,hb,hg,r⟩
 ·exact Or.inl h
 ·exact Or.inr ⟨g,cap,cur,rfl,hb,by rw[hk g rfl];exact hg,r⟩
end Go.Proofs.YtblomippkddgiaaGreatDoor.V
namespace Go.Proofs.YtblomippkddgiaaGreatDoor
open Go.RowKit
def Ot:BitVec 16:=0x8005#16
def mv(w:BitVec 16):BitVec 16:=if w.msb then (w <<< 1) ^^^ Ot else w <<< 1
def IR(w:BitVec 16)(m:Bool):BitVec 16:=if (w.msb ^^ m) then (w <<< 1) ^^^ Ot else w <<< 1
def high(b:UInt8):BitVec 16:=BitVec.ofNat 16 (b.toNat*256)
def XN:Nat->BitVec 16->BitVec 16
 |0,w=>w
 |n+1,w=>XN n (mv w)
def KF(w:BitVec 16)(b:UInt8):BitVec 16:=XN 8 (w ^^^ high b)
def PV(w:BitVec 16)(l:List UInt8):BitVec 16:=l.foldl KF w
def crc(l:List UInt8):BitVec 16:=PV 0 l
theorem Ys(R x:BitVec 16):mv (R ^^^ x)=IR R x.msb ^^^ (x <<< 1):=by
 unfold mv IR;rw[BitVec.msb_xor,BitVec.shiftLeft_xor_distrib];by_cases h:(R.msb ^^ x.msb)=true
 ·rw[if_pos h,if_pos h,BitVec.xor_assoc,BitVec.xor_assoc,BitVec.xor_comm Ot]
 ·rw[if_neg h,if_neg h]
def JY(b:UInt8)(k:Nat):Bool:=(high b).getMsbD k
def JZ(R:BitVec 16)(b:UInt8):Nat->BitVec 16
 |0=>R
 |k+1=>IR (JZ R b k) (JY b k)
theorem Jg(n:Nat)(w:BitVec 16):XN (n+1) w=mv (XN n w):=by
 induction n generalizing w with
 |zero=>rfl
 |succ n ih=>exact ih (mv w)
theorem Uv(R:BitVec 16)(b:UInt8):∀k,XN k (R ^^^ high b)=JZ R b k ^^^ (high b <<< k):=by
 intro k;induction k with
 |zero=>simp[XN,JZ]
 |succ k ih=>
  rw[Jg,ih,Ys];have e1:(high b <<< k).msb=JY b k:=by
   unfold JY;rw[BitVec.msb,BitVec.getMsbD_shiftLeft,Nat.zero_add]
  rw[e1,JZ,BitVec.shiftLeft_add]
theorem LF(R:BitVec 16)(b:UInt8):KF R b=JZ R b 8:=by
 unfold KF;rw[Uv];have:high b <<< 8=0#16:=by
  apply BitVec.eq_of_toNat_eq;unfold high;rw[BitVec.toNat_shiftLeft,BitVec.toNat_ofNat];have hb:=b.toNat_lt;rw[Nat.shiftLeft_eq];show _=0;omega
 rw[this,BitVec.xor_zero]
def Fv(l:List UInt8)(i:Nat):Bool:=match l[i / 8]? with
 |some b=>JY b (i % 8)
 |none=>false
def reg(m:Nat->Bool):Nat->BitVec 16
 |0=>0
 |i+1=>IR (reg m i) (m i)
theorem Xd(l:List UInt8):∀j,j<=l.length->reg (Fv l) (8*j)=crc (l.take j):=by
 intro j;induction j with
 |zero=>intro _;rfl
 |succ j ih=>
  intro hj;obtain⟨b,hb⟩:∃b,l[j]?=some b:=⟨_,List.getElem?_eq_getElem (by omega)⟩;have h8:∀k,k<=8->reg (Fv l) (8*j+k)=JZ (reg (Fv l) (8*j)) b k:=by
   intro k;induction k with
   |zero=>intro _;rfl
   |succ k ihk=>
    intro hk;show IR (reg (Fv l) (8*j+k)) (Fv l (8*j+k))=_;rw[ihk (by omega)];have e:Fv l (8*j+k)=JY b k:=by
     unfold Fv;rw[show (8*j+k) / 8=j by omega,show (8*j+k) % 8=k by omega,hb]
    rw[e];rfl
  rw[show 8*(j+1)=8*j+8 by omega,h8 8 (Nat.le_refl _),ih (by omega),<-LF];unfold crc PV;rw[List.take_add_one,hb,Option.toList_some,List.foldl_append];rfl
theorem Xc(l:List UInt8):reg (Fv l) (8*l.length)=crc l:=by
 rw[Xd l l.length (Nat.le_refl _),List.take_length]
def CJ(m:Nat->Bool)(i k:Nat):Bool:=m k ^^ (reg m i).getMsbD (k-i)
theorem NF(m:Nat->Bool)(k:Nat):CJ m 0 k=m k:=by
 unfold CJ reg;simp
def Fs(d:Nat):Bool:=d==0 || d==1 || d==14 || d==16
theorem UW(d:Nat):Ot.getMsbD d=(d==0 || d==13 || d==15):=by
 by_cases h:d<16
 ·have:∀d,d<16->Ot.getMsbD d=(d==0 || d==13 || d==15):=by decide
  exact this d h
 ·rw[BitVec.getMsbD_of_ge _ _ (by omega)]
  symm
  simp;omega
theorem IY(m:Nat->Bool)(i k:Nat)(hk:i<k):CJ m (i+1) k=(CJ m i k ^^ (CJ m i i&&Fs (k-i))):=by
 have hx:CJ m i i=(m i ^^ (reg m i).msb):=by
  unfold CJ;rw[Nat.sub_self];rfl
 rw[hx];unfold CJ;have hr:(reg m (i+1)).getMsbD (k-(i+1))=((reg m i).getMsbD (k-i) ^^ ((m i ^^ (reg m i).msb)&&Fs (k-i))):=by
  show (IR (reg m i) (m i)).getMsbD _=_;unfold IR;obtain⟨d,hd⟩:∃d,k=i+1+d:=⟨k-(i+1),by omega⟩;subst hd;rw[show i+1+d-(i+1)=d by omega,show i+1+d-i=d+1 by omega];have hf:Fs (d+1)=(d==0 || d==13 || d==15):=by
   unfold Fs;rw[Bool.eq_iff_iff];simp
  rw[hf,<-UW];by_cases h:((reg m i).msb ^^ m i)=true
  ·have h':(m i ^^ (reg m i).msb)=true:=by rw[Bool.xor_comm];exact h
   rw[if_pos h,h',BitVec.getMsbD_xor,BitVec.getMsbD_shiftLeft,Bool.true_and]
  ·have h':(m i ^^ (reg m i).msb)=false:=by rw[Bool.xor_comm];simpa using h
   rw[if_neg h,h',BitVec.getMsbD_shiftLeft,Bool.false_and,Bool.xor_false]
 rw[hr,<-Bool.xor_assoc]
theorem Ab{p:Prop}(h:p):Hid p:=h
theorem Aa{p:Prop}(h:Hid p):p:=h
abbrev str(l:List UInt8):ByteArray:=⟨l.toArray⟩
theorem Au(l:List UInt8):(str l).size=l.length:=by simp[ByteArray.size]
theorem wrap_u16(n:Int):IntKind.u16.wrap n=n % 65536:=by
 simp[IntKind.wrap,IntKind.bits,IntKind.signed]
theorem FR(a:BitVec 16):BitVec.ofInt 16 (a.toNat:Int)=a:=by simp
theorem Nw(a b:BitVec 16):bits .and .u16 (a.toNat:Int) (b.toNat:Int)=((a &&& b).toNat:Int):=by
 show IntKind.u16.wrap ((BitVec.ofInt 16 (a.toNat:Int) &&& BitVec.ofInt 16 (b.toNat:Int)).toNat:Int)=_;rw[FR,FR,wrap_u16];have:=(a &&& b).isLt;omega
theorem IP(a b:BitVec 16):bits .xor .u16 (a.toNat:Int) (b.toNat:Int)=((a ^^^ b).toNat:Int):=by
 show IntKind.u16.wrap ((BitVec.ofInt 16 (a.toNat:Int) ^^^ BitVec.ofInt 16 (b.toNat:Int)).toNat:Int)=_;rw[FR,FR,wrap_u16];have:=(a ^^^ b).isLt;omega
theorem ZL(a:BitVec 16):IntKind.u16.wrap ((a.toNat:Int)*2)=((a <<< 1).toNat:Int):=by
 rw[wrap_u16,BitVec.toNat_shiftLeft,Nat.shiftLeft_eq];omega
theorem msb_and(a:BitVec 16):(((a &&& 0x8000#16).toNat:Int)==0)=!a.msb:=by
 have h1:(a &&& 0x8000#16)=if a.msb then 0x8000#16 else 0#16:=by
  apply BitVec.eq_of_getLsbD_eq;intro i hi;have hc:∀i,i<16->(0x8000#16).getLsbD i=(i==15):=by decide
  rw[BitVec.getLsbD_and,hc i hi];by_cases h15:i=15
  ·subst h15;have:a.msb=a.getLsbD 15:=BitVec.msb_eq_getLsbD_last a;rw[this];cases a.getLsbD 15<;>decide
  ·have e:(i==15)=false:=by simpa using h15
   rw[e,Bool.and_false];split
   ·rw[hc i hi,e]
   ·simp
 rw[h1];cases a.msb<;>rfl
theorem Oi(x y z r:Int)(w:World)(h1:bits .and .u16 x 32768=y)(h2:(y==0)=false)(h3:IntKind.u16.wrap (x*2)=z)(h4:bits .xor .u16 z 32773=r):
  Calls Tryz.prog 191 #[.int .u16 x] w fun e w'=>e=.returned (.int .u16 r)/\w'=w:=by
 go_enter Tryz.func191,Tryz.ntmps191;go_wp2
 go_ret
 exact⟨rfl,rfl⟩
theorem Mi(x y z:Int)(w:World)(h1:bits .and .u16 x 32768=y)(h2:(y==0)=true)(h3:IntKind.u16.wrap (x*2)=z):
  Calls Tryz.prog 191 #[.int .u16 x] w fun e w'=>e=.returned (.int .u16 z)/\w'=w:=by
 go_enter Tryz.func191,Tryz.ntmps191;go_wp2
 go_ret
 exact⟨rfl,rfl⟩
theorem Jf(a:BitVec 16)(w:World):Calls Tryz.prog 191 #[.int .u16 (a.toNat:Int)] w fun e w'=>e=.returned (.int .u16 ((mv a).toNat:Int))/\w'=w:=by
 have h1:bits .and .u16 (a.toNat:Int) 32768=((a &&& 0x8000#16).toNat:Int):=Nw a 0x8000#16;have h2:bits .xor .u16 ((a <<< 1).toNat:Int) 32773=(((a <<< 1) ^^^ Ot).toNat:Int):=IP (a <<< 1) 0x8005#16;have h3:=msb_and a;have h4:=ZL a;cases hm:a.msb with
 |true=>
  rw[hm]at h3;have e:mv a=(a <<< 1) ^^^ Ot:=by simp[mv,hm]
  rw[e];exact Oi _ _ _ _ w h1 h3 h4 h2
 |false=>
  rw[hm]at h3;have e:mv a=(a <<< 1):=by simp[mv,hm]
  rw[e];exact Mi _ _ _ w h1 h3 h4
theorem VM(a:BitVec 16)(c:Nat)(h:c<256):bits .xor .u16 (a.toNat:Int) ((c:Int)*256)=((a ^^^ BitVec.ofNat 16 (c*256)).toNat:Int):=by
 have e:((c:Int)*256)=((BitVec.ofNat 16 (c*256)).toNat:Int):=by
  rw[BitVec.toNat_ofNat];omega
 rw[e];exact IP a _
theorem Pe(S:ByteArray)(g:Nat->Int)(F:Nat->Nat->Int)(w:World)(hs:S.size<=1000000)(g0:g 0=0)
  (hF0:∀j (h:j<S.size),bits .xor .u16 (g j) ((S[j].toNat:Int)*256)=F j 0) (hF8:∀j,j<S.size->F j 8=g (j+1))
  (HM:Hid (∀j k (w:World),Calls Tryz.prog 191 #[.int .u16 (F j k)] w fun e w'=>e=.returned (.int .u16 (F j (k+1)))/\w'=w)) (hg:0<=g S.size/\g S.size<65536):
  Calls Tryz.prog 119 #[.string S] w fun e w'=>e=.returned (.int .i64 (g S.size))/\w'=w:=by
 have HF0:=Ab hF0;have HF8:=Ab hF8;have HG:=Ab hg;clear hF0 hF8 hg;go_enter Tryz.func119,Tryz.ntmps119;go_wp2;go_loopw [3,7] (fun wv iv wr=>∃i:Nat,i<=S.size/\iv=.int .i64 i/\wv=.int .u16 (g i)/\wr=w) (fun _ iv _=>S.size-(intOf iv).toNat)
 case atStart=>exact⟨0,Nat.zero_le _,rfl,by rw[g0],rfl⟩
 case round=>
  obtain⟨i,hi,rfl,rfl,rfl⟩:=hrel;by_cases hlt:i<S.size
  ·have h0:=(Aa HF0) i hlt;have hc:=S[i].toNat_lt;have h8:=Ab ((Aa HF8) i hlt);go_wp2;go_loopw [3,17] (fun wv kv wr'=>∃k:Nat,k<=8/\kv=.int .i64 k/\wv=.int .u16 (F i k)/\wr'=wr) (fun _ kv _=>8-(intOf kv).toNat)
   case atStart=>exact⟨0,Nat.zero_le _,rfl,rfl,rfl⟩
   case round=>
    obtain⟨k,hk,rfl,rfl,rfl⟩:=hrel;by_cases hk8:k<8
    ·have hki:(k:Int)<8:=by omega
     go_wp2_with (go_at_call 191;refine((Aa HM) _ _ _).mono ?_;rintro e w2 ⟨rfl,rfl⟩)
     go_roundw
     case rel=>exact⟨k+1,by omega,by go_num,rfl,trivial⟩
     case measure=>simp[intOf];omega
    ·have hke:k=8:=by omega
     subst hke;rw[Aa h8];go_wp2;go_roundw
     case rel=>exact⟨i+1,by omega,by go_num,rfl,trivial⟩
     case measure=>simp[intOf];omega
  ·have hie:i=S.size:=by omega
   subst hie;obtain⟨n1,n2⟩:=Aa HG;go_wp2
   go_ret
   exact⟨rfl,rfl⟩
def S9(l:List UInt8)(j:Nat):Int:=((crc (l.take j)).toNat:Int)
def S7(l:List UInt8)(j k:Nat):Int:=match l[j]? with
 |some b=>((XN k (crc (l.take j) ^^^ high b)).toNat:Int)
 |none=>((XN k 0).toNat:Int)
theorem S8(l:List UInt8)(j k:Nat)(w:World):Calls Tryz.prog 191 #[.int .u16 (S7 l j k)] w fun e w'=>e=.returned (.int .u16 (S7 l j (k+1)))/\w'=w:=by
 unfold S7;split
 ·rw[Jg];exact Jf _ w
 ·rw[Jg];exact Jf _ w
theorem Ek(l:List UInt8)(j:Nat)(h:j<(str l).size):l[j]?=some ((str l)[j]):=by
 have hl:j<l.length:=by rw[Au]at h;exact h
 rw[List.getElem?_eq_getElem hl];rfl
theorem MR(l:List UInt8)(w:World)(hl:l.length<=1000000):Calls Tryz.prog 119 #[.string (str l)] w fun e w'=>e=.returned (.int .i64 ((crc l).toNat:Int))/\w'=w:=by
 have h:=Pe (str l) (S9 l) (S7 l) w (by rw[Au];exact hl) rfl ?_ ?_ (Ab (S8 l)) ?_
 ·have e:S9 l (str l).size=((crc l).toNat:Int):=by
   unfold S9;rw[Au,List.take_length]
  rw[e]at h;exact h
 ·intro j hj;have hg:=Ek l j hj;unfold S9 S7;rw[hg,VM _ _ (UInt8.toNat_lt _)];rfl
 ·intro j hj;have hg:=Ek l j hj;unfold S7 S9;rw[hg,List.take_add_one,hg,Option.toList_some];show _=(((l.take j++[(str l)[j]]).foldl KF 0).toNat:Int);rw[List.foldl_append];rfl
 ·unfold S9;have:=(crc (l.take (str l).size)).isLt;omega
structure Pk where
 kind:Int
 client:Int
 Ax:Int
 line:Int
 seq:Int
 uid:Int
 part:Int
 off:Int
 please:Bool
 body:List UInt8
def Er(p:Pk):Prop:=if p.kind=1\/p.kind=5 then (if p.part<p.off-1 then p.body.length=8 else p.body.length<=8) else p.body.length=0
instance (p:Pk):Decidable (Er p):=by unfold Er;infer_instance
def Bq(p:Pk):Prop:=(1<=p.kind/\p.kind<=7)/\(0<=p.client/\p.client<=2)/\(1<=p.Ax/\p.Ax<=255)/\(0<=p.line/\p.line<=2)/\(1<=p.seq/\p.seq<=999)/\(1<=p.uid/\p.uid<=255)/\(1<=p.off/\p.off<=9)/\(0<=p.part/\p.part<=p.off-1)/\Er p
instance (p:Pk):Decidable (Bq p):=by unfold Bq;infer_instance
theorem KE{p:Pk}(h:Bq p):p.body.length<=8:=by
 obtain⟨_,_,_,_,_,_,_,_,h⟩:=h;unfold Er at h;split at h
 ·split at h<;>omega
 ·omega
def b8(n:Int):UInt8:=UInt8.ofNat n.toNat
theorem CZ{n:Int}(h0:0<=n)(h1:n<=255):((b8 n).toNat:Int)=n:=by
 unfold b8;rw[UInt8.toNat_ofNat_of_lt' (by show n.toNat<256;omega)];omega
theorem X5(c:UInt8):b8 (c.toNat:Int)=c:=by
 unfold b8;simp
def AF(n:Int):List UInt8:=[b8 (n / 256),b8 (n % 256)]
def yes(b:Bool):Int:=if b then 1 else 0
def nums(p:Pk):List Int:=[p.kind,p.client,p.Ax,p.line,p.seq / 256,p.seq % 256,p.uid,p.part,p.off,yes p.please,(p.body.length:Int)]
def Et(p:Pk):List UInt8:=(nums p).map b8++p.body
def FE(l:List UInt8):Int:=((crc l).toNat:Int)
theorem KO(l:List UInt8):0<=FE l/\FE l<=65535:=by
 unfold FE;have:=(crc l).isLt;omega
def DG(p:Pk):List UInt8:=Et p++AF (FE (Et p))
theorem KW(p:Pk):(Et p).length=11+p.body.length:=by
 unfold Et nums;simp;omega
abbrev Cp(n q:Nat):Value:=.agg #[.int .i64 n,.int .i64 q]
abbrev A5(n q:Nat):Ending:=.panicked [{v:=.iface 86 (Cp n q),recovered:=false}]
theorem lt_of_block{w:World}{k:Nat}{o:Obj}(h:w.heap[k]?=some o):k<w.heap.size:=by
 rcases Nat.lt_or_ge k w.heap.size with hh|hh
 ·exact hh
 ·rw[Array.getElem?_eq_none hh]at h;cases h
theorem MX(l:List UInt8)(a b:Nat):(str l).extract a b=str ((l.drop a).take (b-a)):=by
 apply ByteArray.ext;simp[ByteArray.data_extract,List.extract_eq_take_drop]
def DF(l:List UInt8):List Value:=l.map fun c=>Value.int .u8 (c.toNat:Int)
theorem info5:(Tryz.prog.info? 5).map (fun i=>(i.zero,i.size,i.bytes))=some (some (.int .u8 0),1,1):=by kernel_rfl
theorem OV(w:World)(l:List UInt8)(M:Array Value)(hM:M.size=l.length):
  (Builtin.copy_ #[199,9] 3 #[.slice (some ⟨w.heap.size,0,none⟩) l.length l.length,.string (str l)]).run Tryz.prog (w.alloc (.cells M 5))=.ok (goInt l.length) ((w.alloc (.cells M 5)).setRow w.heap.size (DF l).toArray):=by
 have h:=Lib.run_copy_row_string (P:=Tryz.prog) (w.alloc (.cells M 5)) 199 9 3 5 w.heap.size 0 l.length l.length (str l) M 5 Tryz.underlying199 (by kernel_rfl) (heap_alloc_new w _) (by rw[Au];exact Nat.le_refl _) (by rw[Au];omega);rw[Au]at h;have e:M.toList.drop (0+l.length)=[]:=List.drop_of_length_le (by rw[Array.length_toList];omega);have e2:M.toList.take 0++Lib.byteCells (str l).data.toList++M.toList.drop (0+l.length)=DF l:=by
  rw[e,List.take_zero,List.nil_append,List.append_nil];rfl
 rw[e2]at h;exact h
theorem Nu(w:World)(M:Array Value)(Y:Array Value)(n:Nat):Below w.heap.size w (((w.alloc (.cells M 5)).setRow w.heap.size Y).freeze ⟨w.heap.size,0,none⟩ n):=by
 refine Lib.below_freeze (p:=⟨w.heap.size,0,none⟩) ?_ (Nat.le_refl _) _;exact((Below.refl w.heap.size w).alloc (Nat.le_refl _) _).trans ⟨rfl,rfl,rfl,by simp[World.setRow],fun k hk=>setRow_other _ _ _ _ (by omega)⟩
theorem OW(w:World)(l:List UInt8)(M:Array Value)(h0:l≠[])(hl:l.length<=1000):
  (Builtin.unsafeString_ #[338,3] 9 #[.pointer (some ⟨w.heap.size,0,none⟩),.int .i64 l.length]).run Tryz.prog ((w.alloc (.cells M 5)).setRow w.heap.size (DF l).toArray)=.ok (.string (str l)) (((w.alloc (.cells M 5)).setRow w.heap.size (DF l).toArray).freeze ⟨w.heap.size,0,none⟩ l.length):=by
 have hg:=setRow_heap (w.alloc (.cells M 5)) w.heap.size M (DF l).toArray 5 (0,0) (heap_alloc_new w _);have hsz:(DF l).toArray.size=l.length:=by simp[DF]
 refine Lib.run_unsafeString_row (P:=Tryz.prog) _ 338 3 9 5 Tryz.underlying338 (by kernel_rfl) w.heap.size l.length ?_ l h0 (Nat.le_refl _) (by omega) fun j x hx=>?_
 ·unfold World.shape?;rw[hg];simp[DF]
 ·refine Lib.cells_of_row hg l.length j _ ?_;rw[List.toList_toArray,List.take_of_length_le (by simp[DF])];unfold DF;rw[List.getElem?_map,hx];rfl
theorem QR(l:List UInt8)(w:World)(hl:l.length<=1000):Calls Tryz.prog 229 #[.string (str l)] w fun e w'=>e=.returned (.string (str l))/\Below w.heap.size w w':=by
 have hsz:=Au l;by_cases h0:l=[]
 ·subst h0;go_enter Tryz.func229,Tryz.ntmps229;go_wp2
  go_ret
  exact⟨rfl,Below.refl _ _⟩
 ·obtain⟨i0,hi,hz0,hz1,hz2⟩:=info_parts info5;have hpos:0<l.length:=List.length_pos_iff.2 h0;obtain⟨M,hM⟩:∃M,M=madeCells (Value.int .u8 0).cells (l.length*1):=⟨_,rfl⟩;have hMs:M.size=l.length:=by rw[hM,size_madeCells];omega
  have hmk:∀W:World,(Instr.makeSlice 199 (.int .i64 (l.length:Int)) (.int .i64 (l.length:Int))).run Tryz.prog W=.ok (.slice (some ⟨W.heap.size,0,none⟩) l.length l.length) (W.alloc (.cells M 5)):=fun W=>by
   have h:=run_make (P:=Tryz.prog) W 199 5 i0 (.int .u8 0) Tryz.underlying199 hi hz0 .i64 .i64 (l.length:Int) (l.length:Int) (by omega) (Int.le_refl _) (by rw[hz2];omega) (by omega);rw[hz1,Int.toNat_natCast,<-hM]at h;exact h
  have hcp:=OV w l M hMs;have hus:=OW w l M h0 hl;have HB:=Ab (Nu w M (DF l).toArray l.length);have hne:((l.length:Int)==0)=false:=by simp;omega
  generalize hY:(DF l).toArray=Y at *;generalize hS:str l=S at *;clear hM hY h0 hS;generalize l.length=n at *;subst hsz;go_enter Tryz.func229,Tryz.ntmps229;go_wp2
  go_ret
  exact⟨rfl,Aa HB⟩
theorem J3(l:List UInt8)(w:World)(hl:l.length<=1000):Calls Tryz.prog 184 #[.string (str l)] w fun e w'=>e=.returned (.string (str l))/\Below w.heap.size w w':=by
 have H:=Ab (QR l w hl);generalize hS:str l=S at *;clear hS;go_enter Tryz.func184,Tryz.ntmps184;go_wp2_with fail
 refine(Aa H).mono ?_;rintro e w1 ⟨rfl,hb⟩;go_wp2
 go_ret
 exact⟨rfl,hb⟩
end Go.Proofs.YtblomippkddgiaaGreatDoor
