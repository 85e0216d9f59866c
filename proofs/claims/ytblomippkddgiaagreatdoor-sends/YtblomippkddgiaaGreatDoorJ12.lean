import Derived.Test.YtblomippkddgiaaGreatDoorJ11
import Derived.Lib.BufferWrite
import Derived.Lib.UnsafeStr
import Derived.Laws.MakeOwn
namespace Go.Proofs.YtblomippkddgiaaGreatDoor.V
open Go.RowKit
structure Kept(O O':Nat->Prop)(w w':World):Prop where
 size:w.heap.size<=w'.heap.size
 block:∀k,k<w.heap.size->¬O k->w'.heap[k]?=w.heap[k]?
 row:∀k,O' k->O k\/w.heap.size<=k
theorem Kept.refl(O:Nat->Prop)(w:World):Kept O O w w:=⟨Nat.le_refl _,fun _ _ _=>rfl,fun _ h=>Or.inl h⟩
theorem Kept.trans{O O1 O2:Nat->Prop}{w w1 w2:World}(h:Kept O O1 w w1)(k:Kept O1 O2 w1 w2):Kept O O2 w w2:=by
 have hs:=h.size;refine⟨Nat.le_trans h.size k.size,fun i hi hr=>?_,fun i hi=>?_⟩
 ·rw[k.block i (by omega) (fun e=>?_),h.block i hi hr];rcases h.row i e with h1|h1
  ·exact hr h1
  ·omega
 ·rcases k.row i hi with h1|h1
  ·exact h.row i h1
  ·exact Or.inr (by omega)
theorem Kept.of_below{O:Nat->Prop}{w w':World}(h:Below w.heap.size w w'):Kept O O w w':=⟨h.size,fun k hk _=>h.block k hk,fun _ h=>Or.inl h⟩
theorem Kept.cell{O O':Nat->Prop}{w w':World}(h:Kept O O' w w'){k o:Nat}(hk:k<w.heap.size)(hr:¬O k):w'.cell? ⟨k,o,none⟩=w.cell? ⟨k,o,none⟩:=World.cell?_of_block (w:=w) (h.block k hk hr)
structure BB(σ:Type) where
 tid:Nat
 KU:Nat
 Wt:Nat
 er:Nat
 ptr:Addr
 w0:World
 St:World->Nat->σ->(Nat->Prop)->Prop
 num:Int->Int->σ->Option (Int×σ)
 txt:σ->Option σ
variable {σ:Type}
abbrev BB.I(C:BB σ):Value:=.iface C.tid (.pointer (some C.ptr))
def BB.Lv(C:BB σ)(O:Nat->Prop)(c:Nat)(x':σ)(w w':World):Prop:=∃c' O',c'<=c/\C.St w' c' x' O'/\Kept O O' w w'
def BB.No(C:BB σ)(P:Prop)(w':World):Prop:=P/\Below C.w0.heap.size C.w0 w'
structure Iv(C:BB σ):Prop where
 below:∀{w c x O},C.St w c x O->Below C.w0.heap.size C.w0 w
 fresh:∀{w c x O},C.St w c x O->∀k,O k->C.w0.heap.size<=k/\k<w.heap.size
 go:∀{w c x O w'},C.St w c x O->Below w.heap.size w w'->C.St w' c x O
 range:∀{lo hi x n x'},C.num lo hi x=some (n,x')->lo<=n/\n<=hi
 Oh:Nf C.tid C.KU C.ptr
 ZF:Zi C.tid C.Wt C.ptr
 number:∀{w c x O} (lo hi:Int),C.St w c x O->c<=40000->(lo=0/\hi<=65535\/lo=-32768/\hi=32767)->Calls Tryz.prog C.KU #[.pointer (some C.ptr),.int .i64 lo,.int .i64 hi] w
  (XG C.er (C.No (C.num lo hi x=none)) (fun i w'=>∃x',C.num lo hi x=some (i,x')/\C.Lv O (c+1) x' w w'))
 text:∀{w c x O},C.St w c x O->c<=40000->Calls Tryz.prog C.Wt #[.pointer (some C.ptr)] w
  (JM C.er (C.No (C.txt x=none)) (fun w'=>∃x',C.txt x=some x'/\C.Lv O (c+1) x' w w'))
def EE(C:BB σ)(r:Option σ)(O:Nat->Prop)(c:Nat)(w:World):Ending->World->Prop:=
 JM C.er (C.No (r=none)) (fun w'=>∃x',r=some x'/\C.Lv O c x' w w')
def Qs(C:BB σ)(T:Value)(E:σ->Option σ)(M:Nat):Prop:=∀w c x O,C.St w c x O->c+M<=40000->Calls Tryz.prog 125 #[T,C.I] w (EE C (E x) O (c+M) w)
theorem Qs.mono{C:BB σ}{T:Value}{E:σ->Option σ}{M M':Nat}(h:Qs C T E M)(hm:M<=M'):Qs C T E M':=by
 intro w c x O hs hc;refine(h w c x O hs (by omega)).mono ?_;rintro e w' (h|⟨rfl,x',hx,c',O',hc',h1⟩)
 ·exact Or.inl h
 ·exact Or.inr ⟨rfl,x',hx,c',O',by omega,h1⟩
def DV(E:Nat->σ->Option σ):List Nat->σ->Option σ
 |[],x=>some x
 |q :: qs,x=>(E q x).bind (DV E qs)
theorem Ik(E:Nat->σ->Option σ):∀(a b:List Nat) (x:σ),DV E (a++b) x=(DV E a x).bind (DV E b):=by
 intro a;induction a with
 |nil=>intro b x;rfl
 |cons q a ih=>
  intro b x;simp only[List.cons_append,DV];cases E q x with
  |none=>rfl
  |some y=>exact ih b y
theorem Sd{E:Nat->σ->Option σ}{qs:List Nat}{k q:Nat}(h:qs[k]?=some q)(x:σ):DV E (qs.take (k+1)) x=(DV E (qs.take k) x).bind (E q):=by
 rw[List.take_add_one,h,Ik];congr 1;funext y;simp only[Option.toList_some,DV];cases E q y<;>rfl
theorem Sc{E:Nat->σ->Option σ}{qs:List Nat}{x:σ}{k:Nat}(h:DV E (qs.take k) x=none):DV E qs x=none:=by
 rw[<-List.take_append_drop k qs,Ik,h];rfl
def AQ(num:Int->Int->σ->Option (Int×σ))(txt:σ->Option σ)(g:Nat->Nat):Nat->Nat->σ->Option σ
 |0,_,_=>none
 |f+1,p,x=>
  if g p=115 then txt x
  else if g p=97 then DV (AQ num txt g f) (List.replicate (g (p+1)-48) (p+2)) x
  else if g p=114 then DV (AQ num txt g f) (Pt.kids g f p) x
  else (num (CL (g p)) (BF g f p) x).bind fun r=>
   if g p=117 then AQ num txt g f (partOf (Pt.kids g f p) r.1) r.2
   else if g p=113 then DV (AQ num txt g f) (List.replicate r.1.toNat (p+2)) r.2
   else some r.2
structure Far(C:BB σ)(E:Nat->σ->Option σ)(qs:List Nat)(x:σ)(c M:Nat)(O:Nat->Prop)(w:World)(k:Nat)(w':World)(xk:σ)(c':Nat)(O':Nat->Prop):Prop where
 seq:DV E (qs.take k) x=some xk
 le:c'<=c+k*M
 st:C.St w' c' xk O'
 kept:Kept O O' w w'
def XW(C:BB σ)(E:Nat->σ->Option σ)(qs:List Nat)(x:σ)(c M:Nat)(O:Nat->Prop)(w:World)(k:Nat)(w':World):Prop:=∃xk c' O',Far C E qs x c M O w k w' xk c' O'
theorem L6{C:BB σ}{E:Nat->σ->Option σ}{qs:List Nat}{x:σ}{c M:Nat}{O:Nat->Prop}{w w' w1:World}{k q:Nat}{xk:σ}{c':Nat}{O':Nat->Prop}(h:Far C E qs x c M O w k w' xk c' O')(hq:qs[k]?=some q)(h1:Kept O' O' w' w1):
  ∀e w2,EE C (E q xk) O' (c'+M) w1 e w2->JM C.er (C.No (DV E qs x=none)) (XW C E qs x c M O w (k+1)) e w2:=by
 have hb:DV E (qs.take (k+1)) x=E q xk:=by rw[Sd hq,h.seq];rfl
 rintro e w2 (⟨rfl,hn,hw⟩|⟨rfl,x',hx,c2,O2,hc2,hs2,hk2⟩)
 ·exact Or.inl ⟨rfl,Sc (hb.trans hn),hw⟩
 ·refine Or.inr ⟨rfl,x',c2,O2,hb.trans hx,?_,hs2,h.kept.trans (h1.trans hk2)⟩;have:=h.le;rw[Nat.add_mul,Nat.one_mul];omega
theorem JF{C:BB σ}(hC:Iv C){y0 y1:Int}{ya:Option Addr}{yn yk:Nat}{E:Nat->σ->Option σ}{q M:Nat}(HK:Qs C (.agg #[.int .u8 y0,.int .i64 y1,.slice ya yn yk]) (E q) M)(n:Nat)(hn:n<=9){w:World}{c:Nat}{x:σ}{O:Nat->Prop}(hs:C.St w c x O)(hc:c+n*M<=40000):
  Calls Tryz.prog 193 #[.int .i64 n,.agg #[.int .u8 y0,.int .i64 y1,.slice ya yn yk],C.I] w (EE C (DV E (List.replicate n q) x) O (c+n*M) w):=by
 have hb0:=(Below.refl w.heap.size w).alloc (Nat.le_refl _) (.cells #[.int .u8 y0,.int .i64 y1,.slice ya yn yk] 153);have hfr:¬O w.heap.size:=fun h=>by have:=(hC.fresh hs _ h).2;omega
 obtain⟨t0,t1,t2,_⟩:=(EB.new w (.int .u8 y0) (.int .i64 y1) (.slice ya yn yk)).facts;refine(Pz C.tid C.er C.ptr w y0 y1 ya yn yk n (C.No (DV E (List.replicate n q) x=none)) (XW C E (List.replicate n q) x c M O (w.alloc (.cells #[.int .u8 y0,.int .i64 y1,.slice ya yn yk] 153))) hn ⟨x,c,O,rfl,by omega,hC.go hs hb0,Kept.refl _ _⟩ ?_).mono ?_
 ·rintro j w' hj ⟨xj,c',O',h⟩;have hlt:w.heap.size<(w.alloc (.cells #[.int .u8 y0,.int .i64 y1,.slice ya yn yk] 153)).heap.size:=by simp
  refine⟨(h.kept.cell hlt hfr).trans t0,(h.kept.cell hlt hfr).trans t1,(h.kept.cell hlt hfr).trans t2,?_⟩;refine(HK w' c' xj O' h.st ?_).mono (L6 h (q:=q) ?_ (Kept.refl _ _))
  ·have e1:(j+1)*M<=n*M:=Nat.mul_le_mul_right M hj;rw[Nat.add_mul,Nat.one_mul]at e1;have:=h.le;omega
  ·rw[List.getElem?_replicate,if_pos hj]
 ·rintro e w' (h|⟨rfl,x',c',O',h⟩)
  ·exact Or.inl h
  ·refine Or.inr ⟨rfl,x',?_,c',O',h.le,h.st,(Kept.of_below hb0).trans h.kept⟩;have:=h.seq;rw[List.take_of_length_le (by simp)]at this;exact this
theorem RI{w0:World}{S:Nat->Prop}{g:Nat->Nat}{f p:Nat}{c0 c1 c2:Value}(h:EU w0 S g (f+1) p c0 c1 c2):c0=.int .u8 (g p)/\c1=.int .i64 (A7 g p)/\∃va vc,c2=.slice va (Pt.kids g f p).length vc/\(∀j q,(Pt.kids g f p)[j]?=some q->∃gb y0 y1 ya yn yk,va=some ⟨gb,0,none⟩ /\
   (∀w,Below w0.heap.size w0 w->w.cell? ⟨gb,j*3,none⟩=some (.int .u8 y0)/\w.cell? ⟨gb,j*3+1,none⟩=some (.int .i64 y1)/\w.cell? ⟨gb,j*3+2,none⟩=some (.slice ya yn yk))/\EU w0 S g f q (.int .u8 y0) (.int .i64 y1) (.slice ya yn yk)):=by
 obtain⟨h0,h1,xs,ho,hi⟩:=h;obtain⟨va,vc,hc2⟩:∃a c,c2=.slice a (Pt.kids g f p).length c:=by
  rcases ho.1.2 with ⟨rfl,h0⟩|⟨gb,cap,cur,rfl,_⟩
  ·exact⟨none,0,by rw[h0]⟩
  ·exact⟨_,_,rfl⟩
 refine⟨h0,h1,va,vc,hc2,fun j q hq=>?_⟩;obtain⟨d0,d1,d2,a0,a1,a2,hr⟩:=hi j q hq;subst hc2;obtain⟨gb,rfl,hgb⟩:∃gb,va=some ⟨gb,0,none⟩/\gb<w0.heap.size:=by
  rcases ho.1.2 with ⟨hv,h0⟩|⟨gb,cap,cur,hv,_,hh,_⟩
  ·rw[List.eq_nil_of_length_eq_zero h0]at hq;cases hq
  ·cases hv;exact⟨gb,rfl,lt_of_block hh⟩
 have hcl:=ho.1.cells (g:=gb) rfl;have ad:∀o,(⟨gb,0,none⟩:Addr).add o=⟨gb,o,none⟩:=fun o=>by simp[Addr.add];omega
 obtain⟨⟨x0,rfl⟩,⟨x1,rfl⟩,⟨ea,en,ec,rfl⟩⟩:=Cg hr;refine⟨gb,x0,x1,ea,en,ec,rfl,fun w hb=>⟨?_,?_,?_⟩,hr⟩
 ·rw[hb.cell (p:=⟨gb,j*3,none⟩) hgb,<-ad,Nat.mul_comm];exact hcl _ _ a0
 ·rw[hb.cell (p:=⟨gb,j*3+1,none⟩) hgb,<-ad,Nat.mul_comm];exact hcl _ _ a1
 ·rw[hb.cell (p:=⟨gb,j*3+2,none⟩) hgb,<-ad,Nat.mul_comm];exact hcl _ _ a2
theorem le_top{l:List Nat}{a:Nat}(h:a∈l):a<=Pt.top l:=by
 induction l with
 |nil=>cases h
 |cons b l ih=>
  simp only[Pt.top];rcases List.mem_cons.1 h with rfl|h
  ·omega
  ·have:=ih h;omega
def GY(C:BB σ)(s:ByteArray)(f:Nat):Prop:=∀p S c0 c1 c2,EU C.w0 S (nx s) f p c0 c1 c2->GV s f p->Qs C (.agg #[c0,c1,c2]) (AQ C.num C.txt (nx s) f p) (10 ^ Pt.DK (nx s) f p)
variable {σ:Type}
theorem IA{C:BB σ}{r:Option (Int×σ)}{E:Option σ}(hE:E=r.bind fun r=>some r.2){O:Nat->Prop}{c M:Nat}{w w1:World}(h1:Kept O O w w1)(hM:1<=M):
  ∀e w',JM C.er (C.No (r=none)) (fun w'=>∃i x',r=some (i,x')/\C.Lv O (c+1) x' w1 w') e w'->EE C E O (c+M) w e w':=by
 rintro e w' (⟨rfl,hr,hb⟩|⟨rfl,i,x',hr,c',O',hc',hst,hk⟩)
 ·exact Or.inl ⟨rfl,by rw[hE,hr];rfl,hb⟩
 ·exact Or.inr ⟨rfl,x',by rw[hE,hr];rfl,c',O',by omega,hst,h1.trans hk⟩
theorem MK{C:BB σ}{E:Option σ}{O:Nat->Prop}{c c2:Nat}{w w1:World}(h1:Kept O O w w1)(hc:c<=c2):
  ∀e w',EE C E O c w1 e w'->EE C E O c2 w e w':=by
 rintro e w' (h|⟨rfl,x',hr,c',O',hc',hst,hk⟩)
 ·exact Or.inl h
 ·exact Or.inr ⟨rfl,x',hr,c',O',by omega,hst,h1.trans hk⟩
theorem Ko{C:BB σ}{E E':Option σ}{O O1:Nat->Prop}{c c2:Nat}{w w1:World}(h1:Kept O O1 w w1)(hE:E'=E)(hc:c<=c2):
  ∀e w',EE C E O1 c w1 e w'->EE C E' O c2 w e w':=by
 subst hE;rintro e w' (h|⟨rfl,x',hr,c',O',hc',hst,hk⟩)
 ·exact Or.inl h
 ·exact Or.inr ⟨rfl,x',hr,c',O',by omega,hst,h1.trans hk⟩
theorem NC{C:BB σ}(hC:Iv C){s:ByteArray}{f:Nat}(ih:GY C s f):GY C s (f+1):=by
 intro p S c0 c1 c2 hR hO;obtain⟨rfl,rfl,va,vc,rfl,hkid⟩:=RI hR;obtain⟨T,hT⟩:∃T,T=Pt.top ((Pt.kids (nx s) f p).map (Pt.DK (nx s) f)):=⟨_,rfl⟩;have hM:10 ^ Pt.DK (nx s) (f+1) p=10*10 ^ T:=by rw[Pt.DK,<-hT,Nat.pow_succ,Nat.mul_comm]
 have hpos:1<=10 ^ T:=Nat.one_le_pow _ _ (by decide);have KK:∀j q,(Pt.kids (nx s) f p)[j]?=some q->GV s f q->∃gb y0 y1 ya yn yk,va=some ⟨gb,0,none⟩ /\
   (∀w,Below C.w0.heap.size C.w0 w->w.cell? ⟨gb,j*3,none⟩=some (.int .u8 y0)/\w.cell? ⟨gb,j*3+1,none⟩=some (.int .i64 y1)/\w.cell? ⟨gb,j*3+2,none⟩=some (.slice ya yn yk))/\Qs C (.agg #[.int .u8 y0,.int .i64 y1,.slice ya yn yk]) (AQ C.num C.txt (nx s) f q) (10 ^ T):=by
  intro j q hq ho;obtain⟨gb,y0,y1,ya,yn,yk,hva,hcell,hr⟩:=hkid j q hq;refine⟨gb,y0,y1,ya,yn,yk,hva,hcell,(ih q S _ _ _ hr ho).mono ?_⟩;refine Nat.pow_le_pow_right (by decide) ?_;rw[hT];exact le_top (List.mem_map.2 ⟨q,List.mem_of_getElem? hq,rfl⟩)
 rw[hM];clear hM hkid hR ih;generalize 10 ^ T=M at *;clear hT T;intro w c x O hs hc;have hbw:=hC.below hs;have hbo:∀o,Below w.heap.size w (w.alloc o):=fun o=>(Below.refl w.heap.size w).alloc (Nat.le_refl _) o
 have hfr:¬O w.heap.size:=fun h=>by have:=(hC.fresh hs _ h).2;omega
 rcases Cw hO with (h|h|h|h)|⟨h,_,hd1,hd2⟩|⟨h,_,hd1,hd2,hok⟩|⟨h,_,hd1,hd2,hok⟩|hl
 ·have e:((nx s p:Nat):Int)=98:=by rw[h];rfl
  rw[e];refine(YY C.tid C.KU C.er C.ptr hC.Oh w _ _ _ _ _ _ (hC.number 0 1 (hC.go hs (hbo _)) (by omega) (Or.inl ⟨rfl,by decide⟩))).mono (IA ?_ (Kept.of_below (hbo _)) (by omega));simp[AQ,h,CL,BF]
 ·have e:((nx s p:Nat):Int)=99:=by rw[h];rfl
  rw[e];refine(YZ C.tid C.KU C.er C.ptr hC.Oh w _ _ _ _ _ _ (hC.number 0 65535 (hC.go hs (hbo _)) (by omega) (Or.inl ⟨rfl,by decide⟩))).mono (IA ?_ (Kept.of_below (hbo _)) (by omega));simp[AQ,h,CL,BF]
 ·have e:((nx s p:Nat):Int)=105:=by rw[h];rfl
  rw[e];refine(Y1 C.tid C.KU C.er C.ptr hC.Oh w _ _ _ _ _ _ (hC.number (-32768) 32767 (hC.go hs (hbo _)) (by omega) (Or.inr ⟨rfl,rfl⟩))).mono (IA ?_ (Kept.of_below (hbo _)) (by omega));simp[AQ,h,CL,BF]
 ·have e:((nx s p:Nat):Int)=115:=by rw[h];rfl
  rw[e];have hE:AQ C.num C.txt (nx s) (f+1) p x=C.txt x:=by simp[AQ,h]
  refine(Y4 C.tid C.Wt C.er C.ptr hC.ZF w _ _ _ _ _ _ (hC.text (hC.go hs (hbo _)) (by omega))).mono ?_;rw[hE];exact MK (Kept.of_below (hbo _)) (by omega)
 ·have e:((nx s p:Nat):Int)=101:=by rw[h];rfl
  have hx1:A7 (nx s) p=(nx s (p+1):Int)-48:=by simp[A7,h]
  rw[e,hx1];refine(Y0 C.tid C.KU C.er C.ptr hC.Oh w _ _ _ _ _ _ (by omega) (hC.number 0 _ (hC.go hs (hbo _)) (by omega) (Or.inl ⟨rfl,by omega⟩))).mono (IA ?_ (Kept.of_below (hbo _)) (by omega));simp[AQ,h,CL,BF]
 ·have e:((nx s p:Nat):Int)=97:=by rw[h];rfl
  obtain⟨n,hn⟩:∃n,n=nx s (p+1)-48:=⟨_,rfl⟩;have hx1:A7 (nx s) p=(n:Int):=by simp[A7,h];omega
  have hk:Pt.kids (nx s) f p=[p+2]:=by simp[Pt.kids,h]
  obtain⟨gb,y0,y1,ya,yn,yk,rfl,hcell,hkc⟩:=KK 0 (p+2) (by rw[hk];rfl) hok;have hE:AQ C.num C.txt (nx s) (f+1) p x=DV (AQ C.num C.txt (nx s) f) (List.replicate n (p+2)) x:=by simp[AQ,h,hn]
  rw[e,hx1,hE];have hbd:∀o,Below w.heap.size w (w.alloc o).drew:=fun o=>(hbo o).drew
  have hf:=fun o=>hcell (w.alloc o) (hbw.trans ((hbo o).mono hbw.size))
  have hnM:n*M<=9*M:=Nat.mul_le_mul_right M (by omega);refine(YX C.tid C.er C.ptr w n gb _ _ y0 y1 ya yn yk _ _ (by rw[hk];simp) (fun o=>(hf o).1) (fun o=>(hf o).2.1) (fun o=>(hf o).2.2) (JF hC hkc n (by omega) (hC.go hs (hbd _)) (by omega))).mono ?_;exact MK (Kept.of_below (hbd _)) (by omega)
 ·have e:((nx s p:Nat):Int)=113:=by rw[h];rfl
  obtain⟨m,hm⟩:∃m,m=nx s (p+1)-48:=⟨_,rfl⟩;have hx1:A7 (nx s) p=(m:Int):=by simp[A7,h];omega
  have hk:Pt.kids (nx s) f p=[p+2]:=by simp[Pt.kids,h]
  obtain⟨gb,y0,y1,ya,yn,yk,rfl,hcell,hkc⟩:=KK 0 (p+2) (by rw[hk];rfl) hok;have hE:AQ C.num C.txt (nx s) (f+1) p x=(C.num 0 m x).bind fun r=>DV (AQ C.num C.txt (nx s) f) (List.replicate r.1.toNat (p+2)) r.2:=by
   have:((nx s (p+1):Nat):Int)-48=(m:Int):=by omega
   simp[AQ,h,CL,BF,this]
  rw[e,hx1];obtain⟨t0,t1,t2,_⟩:=(EB.new w (.int .u8 113) (.int .i64 m) (.slice (some ⟨gb,0,none⟩) (Pt.kids (nx s) f p).length vc)).facts;refine Y2 C.tid C.KU C.er C.ptr hC.Oh w m gb _ _ y0 y1 ya yn yk (C.No (AQ C.num C.txt (nx s) (f+1) p x=none)) _ (fun i w'=>∃x',C.num 0 m x=some (i,x')/\C.Lv O (c+1) x' (w.alloc (BP 113 m (some ⟨gb,0,none⟩) (Pt.kids (nx s) f p).length vc)) w') (by rw[hk];simp) ((hC.number 0 m (hC.go hs (hbo _)) (by omega) (Or.inl ⟨rfl,by omega⟩)).mono ?_) ?_
  ·rintro e w' (⟨rfl,hr,hb⟩|h)
   ·exact Or.inl ⟨rfl,by rw[hE,hr];rfl,hb⟩
   ·exact Or.inr h
  ·rintro i w' ⟨x',hx,c',O',hc',hst,hkp⟩;obtain⟨hi0,hi1⟩:=hC.range hx;obtain⟨n,rfl⟩:∃n:Nat,i=n:=⟨i.toNat,by omega⟩;have hlt:w.heap.size<(w.alloc (BP 113 m (some ⟨gb,0,none⟩) (Pt.kids (nx s) f p).length vc)).heap.size:=by simp
   obtain⟨f0,f1,f2⟩:=hcell w' (hC.below hst);have hnM:n*M<=9*M:=Nat.mul_le_mul_right M (by omega);refine⟨(hkp.cell hlt hfr).trans t2,f0,f1,f2,(JF hC hkc n (by omega) hst (by omega)).mono ?_⟩;refine Ko ((Kept.of_below (hbo _)).trans hkp) ?_ (by omega);rw[hE,hx];simp
 ·rcases hl.here with h|h
  ·have e:((nx s p:Nat):Int)=114:=by rw[h];rfl
   have hE:AQ C.num C.txt (nx s) (f+1) p x=DV (AQ C.num C.txt (nx s) f) (Pt.kids (nx s) f p) x:=by simp[AQ,h]
   have h6:=CK (nx s) f p;rw[e,hE];refine(Y3 C.tid C.er C.ptr w _ va _ vc (C.No (DV (AQ C.num C.txt (nx s) f) (Pt.kids (nx s) f p) x=none)) (XW C (AQ C.num C.txt (nx s) f) (Pt.kids (nx s) f p) x c M O (w.alloc (BP 114 (A7 (nx s) p) va (Pt.kids (nx s) f p).length vc))) h6 ⟨x,c,O,rfl,by omega,hC.go hs (hbo _),Kept.refl _ _⟩ ?_).mono ?_
   ·rintro j w' hj ⟨xj,c',O',hF⟩;obtain⟨q,hq⟩:∃q,(Pt.kids (nx s) f p)[j]?=some q:=⟨_,List.getElem?_eq_getElem hj⟩;obtain⟨gb,y0,y1,ya,yn,yk,hva,hcell,hkc⟩:=KK j q hq (Du hl q (List.mem_of_getElem? hq)).2;obtain⟨f0,f1,f2⟩:=hcell w' (hC.below hF.st);have hb1:∀o,Below w'.heap.size w' (w'.alloc o):=fun o=>(Below.refl w'.heap.size w').alloc (Nat.le_refl _) o
    refine⟨gb,y0,y1,ya,yn,yk,hva,f0,f1,f2,(hkc _ c' xj O' (hC.go hF.st (hb1 _)) ?_).mono (L6 hF hq (Kept.of_below (hb1 _)))⟩;have e1:(j+1)*M<=6*M:=Nat.mul_le_mul_right M (by omega);rw[Nat.add_mul,Nat.one_mul]at e1;have:=hF.le;omega
   ·rintro e w' (h|⟨rfl,x',c',O',hF⟩)
    ·exact Or.inl h
    ·have hq:=hF.seq;rw[List.take_of_length_le (Nat.le_refl _)]at hq;refine Or.inr ⟨rfl,x',hq,c',O',?_,hF.st,(Kept.of_below (hbo _)).trans hF.kept⟩;have e1:(Pt.kids (nx s) f p).length*M<=6*M:=Nat.mul_le_mul_right M h6;have:=hF.le;omega
  ·have e:((nx s p:Nat):Int)=117:=by rw[h];rfl
   have h6:=CK (nx s) f p;have hE:AQ C.num C.txt (nx s) (f+1) p x=(C.num 0 (((Pt.kids (nx s) f p).length:Int)-1) x).bind fun r=>AQ C.num C.txt (nx s) f (partOf (Pt.kids (nx s) f p) r.1) r.2:=by simp[AQ,h,CL,BF]
   have hpl:∃q,(Pt.kids (nx s) f p)[0]?=some q:=by simp[Pt.kids,h]
   obtain⟨q0,hq0⟩:=hpl;obtain⟨gb,_,_,_,_,_,rfl,_,_⟩:=KK 0 q0 hq0 (Du hl q0 (List.mem_of_getElem? hq0)).2;rw[e];obtain⟨t0,t1,t2,_⟩:=(EB.new w (.int .u8 117) (.int .i64 (A7 (nx s) p)) (.slice (some ⟨gb,0,none⟩) (Pt.kids (nx s) f p).length vc)).facts;refine Y7 C.tid C.KU C.er C.ptr hC.Oh w _ gb _ vc (C.No (AQ C.num C.txt (nx s) (f+1) p x=none)) _ (fun j w'=>j<(Pt.kids (nx s) f p).length/\∃x',C.num 0 (((Pt.kids (nx s) f p).length:Int)-1) x=some ((j:Int),x')/\C.Lv O (c+1) x' (w.alloc (BP 117 (A7 (nx s) p) (some ⟨gb,0,none⟩) (Pt.kids (nx s) f p).length vc)) w') h6 ((hC.number 0 _ (hC.go hs (hbo _)) (by omega) (Or.inl ⟨rfl,by omega⟩)).mono ?_) ?_
   ·rintro e w' (⟨rfl,hr,hb⟩|⟨i,rfl,x',hx,hlv⟩)
    ·exact Or.inl ⟨rfl,by rw[hE,hr];rfl,hb⟩
    ·obtain⟨hi0,hi1⟩:=hC.range hx;obtain⟨n,rfl⟩:∃n:Nat,i=n:=⟨i.toNat,by omega⟩;exact Or.inr ⟨_,rfl,n,rfl,by omega,by omega,x',hx,hlv⟩
   ·rintro j w' ⟨hj,x',hx,c',O',hc',hst,hkp⟩;obtain⟨q,hq⟩:∃q,(Pt.kids (nx s) f p)[j]?=some q:=⟨_,List.getElem?_eq_getElem hj⟩;obtain⟨gb',y0,y1,ya,yn,yk,hva,hcell,hkc⟩:=KK j q hq (Du hl q (List.mem_of_getElem? hq)).2;cases hva;obtain⟨f0,f1,f2⟩:=hcell w' (hC.below hst);have hlt:w.heap.size<(w.alloc (BP 117 (A7 (nx s) p) (some ⟨gb,0,none⟩) (Pt.kids (nx s) f p).length vc)).heap.size:=by simp
    refine⟨y0,y1,ya,yn,yk,(hkp.cell hlt hfr).trans t2,f0,f1,f2,(hkc w' c' x' O' hst (by omega)).mono ?_⟩;refine Ko ((Kept.of_below (hbo _)).trans hkp) ?_ (by omega);rw[hE,hx];simp[partOf,hq]
theorem QO{C:BB σ}(hC:Iv C)(s:ByteArray):∀f,GY C s f:=by
 intro f;induction f with
 |zero=>intro p S c0 c1 c2 h;exact h.elim
 |succ f ih=>exact NC hC ih
end Go.Proofs.YtblomippkddgiaaGreatDoor.V
