import Derived.Test.YtblomippkddgiabGreatDoorJ21
import Derived.StringKeys
set_option maxRecDepth 100000
set_option maxHeartbeats 2000000
namespace Go.Proofs.YtblomippkddgiabGreatDoor
open Go.RowKit
theorem Gx{S:Nat->Prop}{g:Nat->Nat}{w w':World}{f p:Nat}{c0 c1 c2:Value}(h:V.Fe w S g f p c0 c1 c2)(hb:Below w.heap.size w w'):V.Fe w' S g f p c0 c1 c2:=V.Bw ⟨hb.size,fun k _ hl=>hb.block k hl⟩ h
def KS(T:ByteArray)(v:List V.It)(w:World)(e:Ending)(w':World):Prop:=
 (((V.CW T v).1=0/\e=.returned (.string (str (V.CW T v).2)))\/(¬(V.CW T v).1=0/\e=Az (V.CW T v).1 0))/\Below w.heap.size w w'
theorem NF(T:ByteArray)(hT:(V.Pt.IZ (V.nx T) T.size).1=0)(S:Nat->Prop)(c0 c1 c2 X:Value)(v:List V.It)(w:World)(hR:V.Fe w S (V.nx T) (T.size+1) 0 c0 c1 c2)(hI:V.Items w X v)(hn:v.length<=9000000000000):Calls Tryz.prog 177 #[.agg #[c0,c1,c2],X] w (KS T v w):=by
 have hG:=V.Py hT;refine(V.KU T S c0 c1 c2 X v w hR hG.ok hG.EC hI hn).mono ?_;rintro e aa ⟨h1,h2⟩;have e1:V.NG (V.CF (V.nx T) (T.size+1) 0 v) v=V.CW T v:=by unfold V.CW;rw[if_pos hT]
 rw[e1]at h1;unfold V.UE at h1;refine⟨?_,h2⟩;by_cases h0:(V.CW T v).1=0
 ·rw[if_pos h0]at h1;exact Or.inl ⟨h0,h1⟩
 ·rw[if_neg h0]at h1;exact Or.inr ⟨h0,h1⟩
theorem Yz(T:ByteArray)(v:List V.It):(V.CW T v).2.length<=70:=by
 unfold V.CW V.NG;split
 ·split
  ·simp
  ·split
   ·split
    ·simp
    ·rename_i h;simp only;omega
   ·simp
 ·simp
def U4(proc:Int)(T:ByteArray)(v:List V.It)(w:World)(e:Ending)(w':World):Prop:=
 (((V.CW T v).1=0/\e=.returned (.string (str (A5 proc++(V.CW T v).2))))\/(¬(V.CW T v).1=0/\e=Az (V.CW T v).1 0))/\Below w.heap.size w w'
theorem NJ(k p:Int)(hk:0<=k/\k<=2)(h:R.C6 k p=none)(X:Value)(w:World)(ht:Ec w):Calls Tryz.prog 147 #[.int .i64 k,.int .i64 p,X] w fun e w'=>e=Az 16 0/\Below w.heap.size w w':=by
 have HS:=Ac (Us k p hk h w ht);go_enter Tryz.func147,Tryz.ntmps147;go_wp2_with fail
 refine(Aa HS).mono ?_;rintro e w1 ⟨rfl,aa⟩;go_wp2;exact⟨rfl,rfl,aa⟩
theorem abB(proc:Int)(l:List UInt8)(hl:l.length<=1000)(w:World):(Op.stringOp .add (str (A5 proc)) (str l)).run Tryz.prog w=.ok (.string (str (A5 proc++l))) w:=by
 have e1:str (A5 proc)++str l=str (A5 proc++l):=by
  apply ByteArray.ext;simp
 rw[<-e1];exact run_string_add_sum w _ _ (by rw[Ax,Ax];simp[A5];omega)
abbrev Hr(x0 x1:Int)(a:Option Addr)(n c:Nat):Obj:=.cells #[.int .u8 x0,.int .i64 x1,.slice a n c] 262
theorem ID(k p:Int)(f t:ByteArray)(h:R.C6 k p=some (f,t))(X:Value)(v:List V.It)(w:World)(ht:Ec w)(hI:V.Items w X v)(hn:v.length<=9000000000000):Calls Tryz.prog 147 #[.int .i64 k,.int .i64 p,X] w (U4 p f v w):=by
 obtain⟨_,hf,_,hp,_⟩:=Gz h;have HS:=Ac (Hg k p f t h w ht);have HA:Hid (∀w',Calls Tryz.prog 202 #[.slice none 0 0,.int .i64 p] w' fun e aj=>∃O,e=.returned O/\Own aj w'.heap.size O (A5 p)/\Below w'.heap.size w' aj):=fun w'=>by
  refine(FZ w'.heap.size (.slice none 0 0) [] p w' (World.ownsRow_nil _ _ _ _) (Nat.le_refl _) (by simp) (by omega)).mono ?_;rintro e aj ⟨O,rfl,aa,hb⟩;exact⟨O,rfl,by simpa using aa,hb⟩
 have HW:Hid (∀w' c0 c1 c2 S,V.Fe w' S (V.nx f) (f.size+1) 0 c0 c1 c2->Below w.heap.size w w'->Calls Tryz.prog 177 #[.agg #[c0,c1,c2],X] w' (KS f v w')):=fun w' c0 c1 c2 S hR hb=>NF f hf S c0 c1 c2 X v w' hR (hI.below hb) hn
 have ap:=Yz f v;have ah:=Ac (abB p (V.CW f v).2 (by omega));unfold U4;unfold KS at HW;generalize V.CW f v=r at *;clear hI hn ht;go_enter Tryz.func147,Tryz.ntmps147;go_wp2_with fail
 refine(Aa HS).mono ?_;rintro e w1 ⟨⟨a0,a1,a2,b0,b1,b2,rfl,⟨S1,ai⟩,⟨S2,am⟩⟩,ac⟩;obtain⟨⟨x0,rfl⟩,⟨x1,rfl⟩,⟨ea,en,ec,rfl⟩⟩:=V.Bz ai;obtain⟨⟨y0,rfl⟩,⟨y1,rfl⟩,⟨fa,fn,fc,rfl⟩⟩:=V.Bz am;have af:Hid (Below w.heap.size w ((w1.alloc (Hr x0 x1 ea en ec)).alloc (Hr y0 y1 fa fn fc))):=(ac.alloc ac.size _).alloc (by have:=ac.size;simp;omega) _;have ak:Hid (Below w1.heap.size w1 ((w1.alloc (Hr x0 x1 ea en ec)).alloc (Hr y0 y1 fa fn fc))):=((Below.refl _ _).alloc (Nat.le_refl _) _).alloc (by simp) _;have al:=Ac (Gx ai (Aa ak));have HE:Hid (((w1.alloc (Hr x0 x1 ea en ec)).alloc (Hr y0 y1 fa fn fc)).heap[w1.heap.size]?=some (.cells #[.int .u8 x0,.int .i64 x1,.slice ea en ec] 262 (0,0))):=(Below.heap_alloc _ _ _ (by simp)).trans (heap_alloc_new w1 _);clear ai am ac HS;go_wp2_with fail
 refine((Aa HA) _).mono ?_;rintro e w2 ⟨O,rfl,aa,ad⟩;obtain⟨oa,on,oc,hO⟩:=Ar aa;subst hO;have aq:=aa.conv;have ab:=Ac ((Aa af).trans (ad.mono (Aa af).size));have an:=Ac (Gx (Aa al) ad);have hk:=(ad.block w1.heap.size (by simp;omega)).trans (Aa HE);have p0:w2.cell? ⟨w1.heap.size,0,none⟩=some (.int .u8 x0):=cell_of hk 0 _ rfl;have p1:w2.cell? ⟨w1.heap.size,1,none⟩=some (.int .i64 x1):=cell_of hk 1 _ rfl;have p2:w2.cell? ⟨w1.heap.size,2,none⟩=some (.slice ea en ec):=cell_of hk 2 _ rfl;have ar:=lt_of_block hk;have HC:=Ac ((Aa HW) w2 _ _ _ _ (Aa an) (Aa ab));clear aa ad hk HE al af ak;generalize str (A5 p)=S2' at *;go_wp2_with fail
 refine(Aa HC).mono ?_;rintro e w3 ⟨⟨h0,rfl⟩|⟨h0,rfl⟩,ae⟩
 ·have ag:=Ac ((Aa ab).trans (ae.mono (Aa ab).size));have ao:=(Aa ah) w3;clear ae;have H0:=Ac h0;clear h0;go_wp2;go_returns;exact⟨Or.inl ⟨Aa H0,rfl⟩,Aa ag⟩
 ·have ag:=Ac ((Aa ab).trans (ae.mono (Aa ab).size));have H0:=Ac h0;clear h0 ae;go_wp2;exact⟨rfl,Or.inr ⟨Aa H0,rfl⟩,Aa ag⟩
theorem KT(k p:Int)(f t:ByteArray)(h:R.C6 k p=some (f,t))(X:Value)(v:List V.It)(w:World)(ht:Ec w)(hI:V.Items w X v)(hn:v.length<=9000000000000):Calls Tryz.prog 165 #[.int .i64 k,.int .i64 p,X] w (KS t v w):=by
 obtain⟨_,_,ai,_,_⟩:=Gz h;have HS:=Ac (Hg k p f t h w ht);have HW:Hid (∀w' c0 c1 c2 S,V.Fe w' S (V.nx t) (t.size+1) 0 c0 c1 c2->Below w.heap.size w w'->Calls Tryz.prog 177 #[.agg #[c0,c1,c2],X] w' (KS t v w')):=fun w' c0 c1 c2 S hR hb=>NF t ai S c0 c1 c2 X v w' hR (hI.below hb) hn
 unfold KS at HW ⊢;generalize V.CW t v=r at *;clear hI hn ht;go_enter Tryz.func165,Tryz.ntmps165;go_wp2_with fail
 refine(Aa HS).mono ?_;rintro e w1 ⟨⟨a0,a1,a2,b0,b1,b2,rfl,⟨S1,ag⟩,⟨S2,ae⟩⟩,ab⟩;obtain⟨⟨x0,rfl⟩,⟨x1,rfl⟩,⟨ea,en,ec,rfl⟩⟩:=V.Bz ag;obtain⟨⟨y0,rfl⟩,⟨y1,rfl⟩,⟨fa,fn,fc,rfl⟩⟩:=V.Bz ae;have aa:Hid (Below w.heap.size w ((w1.alloc (Hr x0 x1 ea en ec)).alloc (Hr y0 y1 fa fn fc))):=(ab.alloc ab.size _).alloc (by have:=ab.size;simp;omega) _;have af:Hid (Below w1.heap.size w1 ((w1.alloc (Hr x0 x1 ea en ec)).alloc (Hr y0 y1 fa fn fc))):=((Below.refl _ _).alloc (Nat.le_refl _) _).alloc (by simp) _;have ah:=Ac (Gx ae (Aa af));have HC:=Ac ((Aa HW) _ _ _ _ _ (Aa ah) (Aa aa));clear ag ae ab HS af;go_wp2_with fail
 refine(Aa HC).mono ?_;rintro e w3 ⟨⟨h0,rfl⟩|⟨h0,rfl⟩,ac⟩
 ·have ad:=Ac ((Aa aa).trans (ac.mono (Aa aa).size));clear ac;have H0:=Ac h0;clear h0;go_wp2;go_returns;exact⟨Or.inl ⟨Aa H0,rfl⟩,Aa ad⟩
 ·have ad:=Ac ((Aa aa).trans (ac.mono (Aa aa).size));have H0:=Ac h0;clear h0 ac;go_wp2;exact⟨rfl,Or.inr ⟨Aa H0,rfl⟩,Aa ad⟩
theorem R3(T:ByteArray)(hT:(V.Pt.IZ (V.nx T) T.size).1=0)(S:Nat->Prop)(c0 c1 c2:Value)(l:List UInt8)(v:List V.It)(hu:V.D5 T l=(0,v))(w:World)(hR:V.Fe w S (V.nx T) (T.size+1) 0 c0 c1 c2):Calls Tryz.prog 181 #[.agg #[c0,c1,c2],.string (str l)] w fun e w'=>(∃O,e=.returned O/\V.Row w' w.heap.size O v)/\Below w.heap.size w w':=by
 have hG:=V.Py hT;refine(V.Xj T S c0 c1 c2 l w hR hG.ok hG.EC).mono ?_;rintro e w' ⟨h1,h2⟩;have e1:V.KP (V.Aw V.Dz V.Df (V.nx T) (T.size+1) 0 (l,[])) l=V.D5 T l:=by unfold V.D5;rw[if_pos hT]
 rw[e1,hu]at h1;exact⟨h1,h2⟩
theorem LF(k p:Int)(f t:ByteArray)(h:R.C6 k p=some (f,t))(l:List UInt8)(v:List V.It)(hu:V.D5 t l=(0,v))(w:World)(ht:Ec w):Calls Tryz.prog 219 #[.int .i64 k,.int .i64 p,.string (str l)] w fun e w'=>(∃O,e=.returned O/\V.Row w' w.heap.size O v)/\Below w.heap.size w w':=by
 obtain⟨_,_,am,_,_⟩:=Gz h;have HS:=Ac (Hg k p f t h w ht);have HW:Hid (∀w' c0 c1 c2 S,V.Fe w' S (V.nx t) (t.size+1) 0 c0 c1 c2->Calls Tryz.prog 181 #[.agg #[c0,c1,c2],.string (str l)] w' fun e ah=>(∃O,e=.returned O/\V.Row ah w'.heap.size O v)/\Below w'.heap.size w' ah):=fun w' c0 c1 c2 S hR=>R3 t am S c0 c1 c2 l v hu w' hR
 generalize str l=SL at *;clear ht hu;go_enter Tryz.func219,Tryz.ntmps219;go_wp2_with fail
 refine(Aa HS).mono ?_;rintro e w1 ⟨⟨a0,a1,a2,b0,b1,b2,rfl,⟨S1,af⟩,⟨S2,ad⟩⟩,ab⟩;obtain⟨⟨x0,rfl⟩,⟨x1,rfl⟩,⟨ea,en,ec,rfl⟩⟩:=V.Bz af;obtain⟨⟨y0,rfl⟩,⟨y1,rfl⟩,⟨fa,fn,fc,rfl⟩⟩:=V.Bz ad;have ac:Hid (Below w.heap.size w ((w1.alloc (Hr x0 x1 ea en ec)).alloc (Hr y0 y1 fa fn fc))):=(ab.alloc ab.size _).alloc (by have:=ab.size;simp;omega) _;have ae:Hid (Below w1.heap.size w1 ((w1.alloc (Hr x0 x1 ea en ec)).alloc (Hr y0 y1 fa fn fc))):=((Below.refl _ _).alloc (Nat.le_refl _) _).alloc (by simp) _;have aj:=Ac (Gx ad (Aa ae));have HC:=Ac ((Aa HW) _ _ _ _ _ (Aa aj));clear af ad ab HS ae;go_wp2_with fail
 refine(Aa HC).mono ?_;rintro e w3 ⟨⟨O,rfl,aa⟩,ag⟩;have ai:=Ac ((Aa ac).trans (ag.mono (Aa ac).size));obtain⟨oa,on,oc,al⟩:=Ar aa;subst al;have ak:=Ac (V.EU aa (Aa ac).size);clear ag aa;go_wp2
 go_ret
 exact⟨⟨_,rfl,Aa ak⟩,Aa ai⟩
theorem acT(b:Nat)(l:List UInt8)(n:Nat)(w:World)(h1:w.cell? ⟨b,0,none⟩=some (.string (str l)))(h2:w.frozen? ⟨b,0,none⟩=false)(hn:n<=l.length)(hl:l.length<=1000):
  Calls Tryz.prog 246 #[ptr b,.int .i64 n] w fun e w'=>e=.returned (.string (str (l.take n)))/\w'=w.setCell ⟨b,0,none⟩ (.string (str (l.drop n))):=by
 have aa:=Ax l;have e1:(str l).extract 0 n=str (l.take n):=by rw[CP];simp
 have e2:(str l).extract n (str l).size=str (l.drop n):=by
  rw[CP,Ax,List.take_of_length_le (by rw[List.length_drop];omega)]
 generalize hS:str l=S at *;generalize hA:str (l.take n)=A at *;generalize hB:str (l.drop n)=B at *;clear hS hA hB;generalize l.length=m at *;subst aa;have ab:¬((S.size:Int)<(n:Int)):=by omega
 go_enter Tryz.func246,Tryz.ntmps246;go_wp2
 go_ret
 exact⟨rfl,rfl⟩
theorem XN(b:Nat)(c:UInt8)(r:List UInt8)(w:World)(h1:w.cell? ⟨b,0,none⟩=some (.string (str (c :: r))))(h2:w.frozen? ⟨b,0,none⟩=false)(hl:r.length<=900):Calls Tryz.prog 206 #[ptr b] w fun e w'=>e=.returned (.int .i64 (c.toNat:Int))/\w'=w.setCell ⟨b,0,none⟩ (.string (str r)):=by
 have H:=Ac (acT b (c :: r) 1 w h1 h2 (by simp) (by simp;omega));rw[show (c :: r).take 1=[c] from rfl,show (c :: r).drop 1=r from rfl]at H;have i0:(str [c])[0]'(by rw[Ax];simp)=c:=rfl;have hc:=c.toNat_lt;have hw:wrap64 (c.toNat:Int)=(c.toNat:Int):=by unfold wrap64;omega
 clear h1 h2;go_enter Tryz.func206,Tryz.ntmps206;go_wp2_with fail
 refine(Aa H).mono ?_;rintro e w1 ⟨rfl,rfl⟩;go_wp2
 go_ret
 exact⟨rfl,rfl⟩
theorem aej(b:Nat)(a c:UInt8)(r:List UInt8)(w:World)(h1:w.cell? ⟨b,0,none⟩=some (.string (str (a :: c :: r))))(h2:w.frozen? ⟨b,0,none⟩=false)(hl:r.length<=500):
  Calls Tryz.prog 207 #[ptr b] w fun e w'=>e=.returned (.int .i64 (V.Cc a c))/\w'=(w.setCell ⟨b,0,none⟩ (.string (str (c :: r)))).setCell ⟨b,0,none⟩ (.string (str r)):=by
 have H:=Ac (XN b a (c :: r) w h1 h2 (by simp;omega));have aa:=lt_of_cell h1;have H2:=Ac (XN b c r (w.setCell ⟨b,0,none⟩ (.string (str (c :: r)))) (by simp[go_sem,h1]) (by simp[go_sem,h2]) (by omega));have ha:=a.toNat_lt;have hc:=c.toNat_lt;have hw:wrap64 ((a.toNat:Int)*256)=(a.toNat:Int)*256:=by unfold wrap64;omega
 have ho:bits .or .i64 ((a.toNat:Int)*256) (c.toNat:Int)=((V.Cc a c:Nat):Int):=by
  have:=V.PR a.toNat c.toNat (by omega) (by omega);rw[show ((a.toNat*256:Nat):Int)=(a.toNat:Int)*256 by omega]at this;exact this
 clear h1 h2;generalize str (c :: r)=S1 at *;generalize str r=S2 at *;go_enter Tryz.func207,Tryz.ntmps207;go_wp2_with fail
 refine(Aa H).mono ?_;rintro e w1 ⟨rfl,rfl⟩;go_wp2_with fail
 refine(Aa H2).mono ?_;rintro e w2 ⟨rfl,rfl⟩;go_wp2
 go_ret
 exact⟨rfl,rfl⟩
theorem NY(k p:Int)(f t:ByteArray)(h:R.C6 k p=some (f,t))(l:List UInt8)(hl:l.length<=500)(v:List V.It)(hu:V.D5 f l=(0,v))(w:World)(ht:Ec w):Calls Tryz.prog 162 #[.int .i64 k,.string (str (A5 p++l))] w fun e w'=>(∃O,e=.returned (.tuple #[.int .i64 p,O])/\V.Row w' w.heap.size O v)/\Below w.heap.size w w':=by
 obtain⟨_,hf,_,hp,_⟩:=Gz h;obtain⟨BX,ab⟩:∃BX,w.alloc (.cells #[.string (str (A5 p++l)),.int .i64 6] 247)=BX:=⟨_,rfl⟩;have an:Below w.heap.size w BX:=by
  rw[<-ab];exact(Below.refl _ _).alloc (Nat.le_refl _) _
 have ac:BX.heap[w.heap.size]?=some (.cells #[.string (str (A5 p++l)),.int .i64 6] 247 (0,0)):=by
  rw[<-ab];exact heap_alloc_new w _
 have ax:((V.Cc (b8 (p / 256)) (b8 (p % 256)):Nat):Int)=p:=by
  have h1:=Bj (n:=p / 256) (by omega) (by omega);have h2:=Bj (n:=p % 256) (by omega) (by omega);unfold V.Cc;omega
 have H2:=Ac (aej w.heap.size (b8 (p / 256)) (b8 (p % 256)) l BX (cell_of ac 0 _ rfl) (open_list ac) hl);rw[ax]at H2;obtain⟨W,hW⟩:∃W,W=(BX.setCell ⟨w.heap.size,0,none⟩ (.string (str (b8 (p % 256) :: l)))).setCell ⟨w.heap.size,0,none⟩ (.string (str l)):=⟨_,rfl⟩;rw[<-hW]at H2;have ah:Below w.heap.size w W:=by
  rw[hW];exact(an.setCell (by simp) _).setCell (by simp) _
 have am:W.heap[w.heap.size]?=some (.cells #[.string (str l),.int .i64 6] 247 (0,0)):=by
  rw[hW];have e1:=Ai (cs:=[.string (str (A5 p++l)),.int .i64 6]) (off:=0) ac (.string (str (b8 (p % 256) :: l)));exact Ai (cs:=[.string (str (b8 (p % 256) :: l)),.int .i64 6]) (off:=0) e1 (.string (str l))
 have HS:=Ac (Hg k p f t h W (ht.below ah));have HW:Hid (∀w' c0 c1 c2 S,V.Fe w' S (V.nx f) (f.size+1) 0 c0 c1 c2->Calls Tryz.prog 181 #[.agg #[c0,c1,c2],.string (str l)] w' fun e aq=>(∃O,e=.returned O/\V.Row aq w'.heap.size O v)/\Below w'.heap.size w' aq):=fun w' c0 c1 c2 S hR=>R3 f hf S c0 c1 c2 l v hu w' hR
 have au:=Ac ab;have aj:=Ac ah;have ak:=Ac am;clear hW ah am an ac ht hu ab;generalize str l=SL at *;generalize str (A5 p++l)=SM at *;go_enter Tryz.func162,Tryz.ntmps162;go_wp2_with fail
 rw[Aa au];refine(Aa H2).mono ?_;rintro e w0 ⟨rfl,ap⟩;rw[ap];clear ap;go_wp2_with fail
 refine(Aa HS).mono ?_;rintro e w1 ⟨⟨a0,a1,a2,b0,b1,b2,rfl,⟨S1,af⟩,⟨S2,al⟩⟩,ag⟩;obtain⟨⟨x0,rfl⟩,⟨x1,rfl⟩,⟨ea,en,ec,rfl⟩⟩:=V.Bz af;obtain⟨⟨y0,rfl⟩,⟨y1,rfl⟩,⟨fa,fn,fc,rfl⟩⟩:=V.Bz al;have ad:Below w.heap.size w w1:=(Aa aj).trans (ag.mono (Aa aj).size);have ae:Hid (Below w.heap.size w ((w1.alloc (Hr x0 x1 ea en ec)).alloc (Hr y0 y1 fa fn fc))):=(ad.alloc ad.size _).alloc (by have:=ad.size;simp;omega) _;have ai:Hid (Below w1.heap.size w1 ((w1.alloc (Hr x0 x1 ea en ec)).alloc (Hr y0 y1 fa fn fc))):=((Below.refl _ _).alloc (Nat.le_refl _) _).alloc (by simp) _;have av:=Ac (Gx af (Aa ai));have HC:=Ac ((Aa HW) _ _ _ _ _ (Aa av));have k1:=(ag.block w.heap.size (lt_of_block (Aa ak))).trans (Aa ak);have c0:w1.cell? ⟨w.heap.size,0,none⟩=some (.string SL):=cell_of k1 0 _ rfl;have az:=lt_of_block k1;clear af al ag HS ai ad k1;go_wp2_with fail
 refine(Aa HC).mono ?_;rintro e w3 ⟨⟨O,rfl,aa⟩,ao⟩;have ar:=Ac ((Aa ae).trans (ao.mono (Aa ae).size));obtain⟨oa,on,oc,ay⟩:=Ar aa;subst ay;have aw:=Ac (V.EU aa (Aa ae).size);clear ao aa;go_wp2
 go_ret2
 exact⟨⟨_,rfl,Aa aw⟩,Aa ar⟩
end Go.Proofs.YtblomippkddgiabGreatDoor
namespace Go.Proofs.YtblomippkddgiabGreatDoor.V
variable {s:ByteArray}{ks:List Bool}{r v:List It}{f p:Nat}{g:Nat→Nat}
def JQ(s:ByteArray)(v:List It):Option (List UInt8):=match CF (nx s) (s.size+1) 0 v with
 |some (ks,[])=>some (bytesOf ks v)
 |_=>none
theorem MJ(h:CF g (f+1) p v=some (ks,r))(ae:g p≠97)(aa:g p≠114)(ab:g p≠115)(ad:g p≠117)(ac:g p≠113):ks=[false]:=by
 unfold CF AO at h;rw[if_neg ae,if_neg aa]at h;cases v with
 |nil=>cases h
 |cons x v=>
  simp only at h;rw[if_neg ab]at h;split at h
  ·cases h
  ·rename_i k0 qs r0 hh;split at hh
   ·cases hh;simp only[BU,Ck]at h;cases h;rfl
   ·cases hh
theorem aaE(h:CF g (f+1) p v=some (ks,r))(aa:g p=115):ks=[true]/\∃x,v=x :: r/\x.2.size<=14:=by
 unfold CF AO at h;rw[if_neg (by omega),if_neg (by omega)]at h;cases v with
 |nil=>cases h
 |cons x v=>
  simp only at h;rw[if_pos aa]at h;split at h
  ·cases h
  ·rename_i k0 qs r0 hh;split at hh
   ·rename_i hx;cases hh;simp only[BU,Ck]at h;cases h;exact⟨rfl,x,rfl,hx.2⟩
   ·cases hh
theorem RF{E:Nat->List It->DZ}{q:Nat}(hE:∀v ks r,E q v=some (ks,r)->ks=[false]):∀(k:Nat) (v r:List It) (ks:List Bool),BU E (List.replicate k q) v=some (ks,r)->ks=List.replicate k false
 |0,v,r,ks,h=>by
  simp only[List.replicate_zero,BU]at h;cases h;rfl
 |k+1,v,r,ks,h=>by
  rw[List.replicate_succ,BU]at h;cases he:E q v with
  |none=>rw[he]at h;cases h
  |some x=>
   obtain⟨k1,r1⟩:=x;rw[he]at h;simp only at h;cases hs:BU E (List.replicate k q) r1 with
   |none=>rw[hs]at h;cases h
   |some y=>
    obtain⟨k2,r2⟩:=y;rw[hs]at h;simp only[Ck]at h;cases h;rw[hE v k1 r1 he,RF hE k r1 _ _ hs,List.replicate_succ];rfl
theorem Jk:∀(k:Nat) (v:List It),(bytesOf (List.replicate k false) v).length<=2*k
 |0,v=>by simp[bytesOf]
 |k+1,[]=>by simp[List.replicate_succ,bytesOf]
 |k+1,x :: v=>by
  have:=Jk k v;rw[List.replicate_succ,bytesOf,List.length_append];simp only[EE,A5];simp;omega
theorem Jp{out:List UInt8}(h:JQ s v=some out)(ae:nx s 0≠97)(ab:nx s 0≠114)(ac:nx s 0≠115)(ad:nx s 0≠117)(aa:nx s 0≠113):out.length<=70:=by
 unfold JQ at h;split at h
 ·rename_i ks he;cases h;rw[MJ he ae ab ac ad aa];have:=Jk 1 v;simp only[List.replicate_one]at this;omega
 ·cases h
theorem VN{out:List UInt8}(h:JQ s v=some out)(aa:nx s 0=115):out.length<=70:=by
 unfold JQ at h;split at h
 ·rename_i ks he;cases h;obtain⟨h1,x,h2,h3⟩:=aaE he aa;rw[h1,h2];have e0:x.2.data.toList.length=x.2.size:=Array.length_toList;have e1:(if x.2.size % 2=1 then [(0:UInt8)] else []).length<=1:=by split<;>simp
  have e2:(bytesOf [true] (x :: [])).length=(A5 x.2.size).length+(x.2.data.toList.length+(if x.2.size % 2=1 then [(0:UInt8)] else []).length):=by
   simp only[bytesOf,EE,if_true,List.append_nil,List.length_append]
  have e3:(A5 x.2.size).length=2:=rfl;omega
 ·cases h
def Cy:ByteArray:={data:=#[114,40,101,51,113,51,105,41]}
theorem VK:Pt.kids (nx Cy) 8 0=[2,4]:=by decide +kernel
theorem aaw:nx Cy 0=114/\nx Cy 2=101/\nx Cy 4=113/\nx Cy 6=105:=by decide +kernel
theorem aay:Ci (nx Cy) 7 4=3:=by decide +kernel
theorem Tg{out:List UInt8}(h:JQ Cy v=some out):out.length<=70:=by
 unfold JQ at h;obtain⟨a0,a2,a4,a6⟩:=aaw;split at h
 ·rename_i ks he;cases h;rw[show Cy.size+1=8+1 from rfl]at he;unfold CF AO at he;rw[if_neg (by omega),if_pos a0,VK]at he;simp only[BU]at he;cases h1:CF (nx Cy) 8 2 v with
  |none=>rw[h1]at he;cases he
  |some x1=>
   obtain⟨k1,r1⟩:=x1;rw[h1]at he;simp only at he;have e1:=MJ (f:=7) h1 (by omega) (by omega) (by omega) (by omega) (by omega);cases h2:CF (nx Cy) 8 4 r1 with
   |none=>rw[h2]at he;cases he
   |some x2=>
    obtain⟨k2,r2⟩:=x2;rw[h2]at he;simp only[Ck]at he;cases he;have e2:∃n,n<=4/\k2=List.replicate n false:=by
     rw[show (8:Nat)=7+1 from rfl]at h2;unfold CF AO at h2;rw[if_neg (by omega),if_neg (by omega)]at h2;cases r1 with
     |nil=>cases h2
     |cons x r1=>
      simp only at h2;rw[if_neg (show ¬nx Cy 4=115 by omega)]at h2;split at h2
      ·cases h2
      ·rename_i k0 qs r0 hh;split at hh
       ·rename_i hx;rw[if_neg (by omega)]at hh;cases hh;cases hs:BU (CF (nx Cy) 7) (List.replicate x.1.toNat 6) r1 with
        |none=>rw[hs]at h2;cases h2
        |some y=>
         obtain⟨k3,r3⟩:=y;rw[hs]at h2;simp only[Ck]at h2;cases h2;have e3:=RF (E:=CF (nx Cy) 7) (q:=6) (fun v ks r hq=>MJ (f:=6) hq (by omega) (by omega) (by omega) (by omega) (by omega)) x.1.toNat r1 _ _ hs;have aa:=hx.2.2;rw[aay]at aa;exact⟨x.1.toNat+1,by omega,by rw[e3,List.replicate_succ];rfl⟩
       ·cases hh
    obtain⟨n,hn,e2⟩:=e2;subst e1 e2;have:=Jk (n+1) v;rw[List.replicate_succ]at this;simp only[List.append_nil,List.singleton_append,List.nil_append];omega
 ·cases h
theorem Wc(hc:(Pt.IZ (nx s) s.size).1=0)(hb:∀out,JQ s v=some out->out.length<=70)(h:¬(CW s v).1=0):(CW s v).1=4:=by
 have hm:CW s v=NG (CF (nx s) (s.size+1) 0 v) v:=by unfold CW;rw[if_pos hc]
 rw[hm]at h ⊢;unfold JQ at hb;cases he:CF (nx s) (s.size+1) 0 v with
 |none=>rfl
 |some x=>
  obtain⟨ks,r⟩:=x;rw[he]at h hb;cases r with
  |nil=>
   have:=hb _ rfl;have hn:¬70<(bytesOf ks v).length:=by omega
   simp[NG,hn]at h
  |cons y r=>rfl
end Go.Proofs.YtblomippkddgiabGreatDoor.V
namespace Go.Proofs.YtblomippkddgiabGreatDoor
open Go.RowKit Go.Maps
open Go.RowKit
variable {u v:Int}{s:List UInt8}{b n:Nat}{w:World}
theorem abW(w:World):(zeroValue 3).run Tryz.prog w=.ok (.int .i64 0) w:=by kernel_rfl
theorem Xm(h:-9223372036854775808<=u/\u<=9223372036854775807):(Lit.int .i64 u).wf=true:=by
 simp[Lit.wf,IntKind.min,IntKind.max,IntKind.bits,IntKind.signed];omega
section
variable {α:Type} {w:World} {k t:TypeId} {b n:Nat} {lit:α->Lit} {g:α->Option Int}
theorem Mp.look(h:Mp w k b lit g n)(K:Keyed Tryz.prog k)(ht:Tryz.prog.underlying t=some (.map k 3)){key:Value}{a:α}(aa:keyOf Tryz.prog k key=some (lit a)):(Instr.lookup t (.map (some b)) key true).run Tryz.prog w=.ok (.tuple #[.int .i64 ((g a).getD 0),.bool (g a).isSome]) w:=by
 obtain⟨D,h1,h2,h3⟩:=h;obtain⟨v,ps,ab,hv⟩:=h1.look_ok K ht (abW w) (plainElem_int Tryz.underlying3 (Xm (by omega))) aa;obtain⟨c,rfl,hc,_⟩:=plainElem_int_inv Tryz.underlying3 hv;simp only[Prod.mk.injEq]at hc;rw[ab,(h3 a).1];cases hg:g a with
 |some x=>
  have:=(h3 a).2 x hg;rw[hc.1]at this;cases this;rfl
 |none=>
  have hn:=(h3 a).1;rw[hg]at hn;have:=atKey_of_not_has hn (.lit (.int .i64 0));rw[hc.1]at this;cases this;rfl
theorem Mp.put(h:Mp w k b lit g n)(K:Keyed Tryz.prog k)(ht:Tryz.prog.underlying t=some (.map k 3))(hn:n<1000){key:Value}{a:α}(aa:keyOf Tryz.prog k key=some (lit a))(hl:∀x y,lit x=lit y->x=y)(ad:WideAt.IsKeyLit (lit a))(hv:-9223372036854775808<=v/\v<=9223372036854775807)(g':α->Option Int)(ac:∀x,(x=a->g' x=some v)/\(¬x=a->g' x=g x)):
  ∃w',(Instr.mapUpdate t (.map (some b)) key (.int .i64 v)).run Tryz.prog w=.ok () w'/\Mp w' k b lit g' (if (g a).isSome then n else n+1)/\w.mapTurned w' b:=by
 obtain⟨D,h1,h2,h3⟩:=h;obtain⟨w',ab,h4,h5⟩:=h1.store K ht (by unfold maxLen;omega) aa (plainElem_int Tryz.underlying3 (Xm hv));have hs:=size_put (k:=lit a) (h1.tidy K) (.lit (.int .i64 v));rw[(h3 a).1,h2]at hs;refine⟨w',ab,⟨_,?_,hs,fun x=>?_⟩,h5⟩
 ·obtain⟨es,cl,q1,q2,q3,q4⟩:=h4;refine⟨es,cl,q1,q2,?_,q4⟩;rw[<-hs,q4];simp[Maps.size,length_sorted]
 ·by_cases hx:x=a
  ·subst hx;rw[(ac x).1 rfl];refine⟨has_put_same h1.isMap ad _,fun y hy=>?_⟩;cases hy;exact atKey_put_same h1.isMap ad _ _
  ·have ae:lit x≠lit a:=fun e=>hx (hl _ _ e)
   rw[(ac x).2 hx,has_put_other ae];refine⟨(h3 x).1,fun y hy=>?_⟩;rw[atKey_put_other ae];exact(h3 x).2 y hy
theorem Mp.len(h:Mp w k b lit g n)(ht:Tryz.prog.underlying t=some (.map k 3))(ty:TypeId):(Builtin.len_ #[t] ty #[.map (some b)]).run Tryz.prog w=.ok (.int .i64 (n:Int)) w:=by
 obtain⟨D,h1,h2,h3⟩:=h;rw[h1.len ht ty,h2]
end
theorem Mp.made(w:World)(k:TypeId){α:Type}(lit:α->Lit):Mp (w.alloc (.map #[] 0)) k w.heap.size lit (fun _=>none) 0:=
 ⟨.map [],World.ownsMap_made w _ _ _,rfl,fun _=>⟨rfl,fun _ h=>by cases h⟩⟩
theorem Yw{g:Int->Option Int}(h:Mp w 3 b Kz g n)(hu:-9223372036854775808<=u/\u<=9223372036854775807):(Instr.lookup 130 (.map (some b)) (.int .i64 u) true).run Tryz.prog w=.ok (.tuple #[.int .i64 ((g u).getD 0),.bool (g u).isSome]) w:=
 h.look (int_keyed Tryz.underlying3) Tryz.underlying130 (keyOf_int_mk Tryz.underlying3 (Xm hu))
theorem M4{g:List UInt8->Option Int}(h:Mp w 9 b NU g n)(hs:s.length<=maxLen):(Instr.lookup 134 (.map (some b)) (.string (str s)) true).run Tryz.prog w=.ok (.tuple #[.int .i64 ((g s).getD 0),.bool (g s).isSome]) w:=
 h.look (string_keyed Tryz.underlying9) Tryz.underlying134 (by rw[Go.WideMaps.keyOf_string_mk Tryz.underlying9 (by rw[Ax];exact hs)])
theorem abj{g:Int->Option Int}(h:Mp w 3 b Kz g n)(hn:n<1000)(hu:-9223372036854775808<=u/\u<=9223372036854775807)(hv:-9223372036854775808<=v/\v<=9223372036854775807)(g':Int->Option Int)(aa:∀x,(x=u->g' x=some v)/\(¬x=u->g' x=g x)):
  ∃w',(Instr.mapUpdate 130 (.map (some b)) (.int .i64 u) (.int .i64 v)).run Tryz.prog w=.ok () w'/\Mp w' 3 b Kz g' (if (g u).isSome then n else n+1)/\w.mapTurned w' b:=
 h.put (int_keyed Tryz.underlying3) Tryz.underlying130 hn (keyOf_int_mk Tryz.underlying3 (Xm hu)) (fun x y e=>by cases e;rfl) trivial hv g' aa
theorem Vb{g:List UInt8->Option Int}(h:Mp w 9 b NU g n)(hn:n<1000)(hs:s.length<=maxLen)(hv:-9223372036854775808<=v/\v<=9223372036854775807)(g':List UInt8->Option Int)(aa:∀x,(x=s->g' x=some v)/\(¬x=s->g' x=g x)):
  ∃w',(Instr.mapUpdate 134 (.map (some b)) (.string (str s)) (.int .i64 v)).run Tryz.prog w=.ok () w'/\Mp w' 9 b NU g' (if (g s).isSome then n else n+1)/\w.mapTurned w' b:=
 h.put (string_keyed Tryz.underlying9) Tryz.underlying134 hn (by rw[Go.WideMaps.keyOf_string_mk Tryz.underlying9 (by rw[Ax];exact hs)]) (fun x y e=>by cases e;rfl) trivial hv g' aa
theorem Hf{w':World}(h:w.mapTurned w' b):Af (fun k=>k=b) w w':=by
 have hg:=h.grown;exact⟨hg.os,hg.tape,hg.output,hg.size,fun k hk aa=>hg.block k hk (fun e=>aa (by cases e;rfl))⟩
theorem E0(w:World)(b:Nat):w.drew.heap[b]?=w.heap[b]?:=rfl
abbrev TT(w:World)(b k:Nat)(st sq u pc:Int)(S:ByteArray)(a:Int)(S2:ByteArray)(wt tr:Int):World:=(((((((((w.setCell ⟨b,k*10,none⟩ (.int .i64 st)).setCell ⟨b,k*10+1,none⟩ (.int .i64 sq)).setCell ⟨b,k*10+2,none⟩ (.slice none 0 0)).setCell ⟨b,k*10+3,none⟩ (.int .i64 u)).setCell ⟨b,k*10+4,none⟩ (.int .i64 pc)).setCell ⟨b,k*10+5,none⟩ (.string S)).setCell ⟨b,k*10+6,none⟩ (.int .i64 a)).setCell ⟨b,k*10+7,none⟩ (.string S2)).setCell ⟨b,k*10+8,none⟩ (.int .i64 wt)).setCell ⟨b,k*10+9,none⟩ (.int .i64 tr)
theorem Wp(w:World)(b k:Nat)(st sq u pc:Int)(m:List UInt8)(a wt tr:Int):TT w b k st sq u pc (str m) a ⟨#[]⟩ wt tr=Lp w b k ⟨st,sq,.slice none 0 0,u,pc,m,a,[],wt,tr⟩:=rfl
theorem Vs(w:World)(b k:Nat)(u pc:Int)(m:List UInt8)(xs:List CU)(x:CU)(ac:∃a n c,x.rv=.slice a n c)(h:w.heap[b]?=some (.cells (tab CU.cells xs).toArray 129 (0,0)))(hx:xs[k]?=some x)(hs:0<=x.seq/\x.seq<=1000):
  Calls Tryz.prog 148 #[.pointer (some ⟨b,k*10,none⟩),.agg #[.int .i64 u,.int .i64 pc,.string (str m),.int .i64 0,.string ⟨#[]⟩,.int .i64 0,.int .i64 0]] w fun e w'=>e=.returned (.tuple #[])/\w'.heap[b]?=some (.cells (tab CU.cells (xs.set k ⟨1,x.seq+1,.slice none 0 0,u,pc,m,0,[],0,0⟩)).toArray 129 (0,0))/\Af (fun q=>q=b) w w':=by
 have af:=lt_of_block h;obtain⟨BX,ab⟩:∃BX,w.alloc (.cells #[.int .i64 u,.int .i64 pc,.string (str m),.int .i64 0,.string ⟨#[]⟩,.int .i64 0,.int .i64 0] 127)=BX:=⟨_,rfl⟩;have hb:Below w.heap.size w BX:=by
  rw[<-ab];exact(Below.refl _ _).alloc (Nat.le_refl _) _
 have aa:BX.heap[w.heap.size]?=some (.cells #[.int .i64 u,.int .i64 pc,.string (str m),.int .i64 0,.string ⟨#[]⟩,.int .i64 0,.int .i64 0] 127 (0,0)):=by
  rw[<-ab];exact heap_alloc_new w _
 have h':=(hb.block b af).trans h;obtain⟨a0,a1,a2,a3,a4,a5,a6,a7,a8,a9⟩:=Yu h' hx;obtain⟨ra,rn,rc,ac⟩:=ac;rw[ac]at a2;have z0:=open_list (off:=k*10) h';have z1:=open_list (off:=k*10+1) h';have z2:=open_list (off:=k*10+2) h';have z3:=open_list (off:=k*10+3) h';have z4:=open_list (off:=k*10+4) h';have z5:=open_list (off:=k*10+5) h';have z6:=open_list (off:=k*10+6) h';have z7:=open_list (off:=k*10+7) h';have z8:=open_list (off:=k*10+8) h';have z9:=open_list (off:=k*10+9) h';obtain⟨XS,ad⟩:∃XS,XS=xs.set k ⟨1,x.seq+1,.slice none 0 0,u,pc,m,0,[],0,0⟩:=⟨_,rfl⟩;rw[<-ad];have HP:Hid ((TT BX b k 1 (x.seq+1) u pc (str m) 0 ⟨#[]⟩ 0 0).drew.heap[b]?=some (.cells (tab CU.cells XS).toArray 129 (0,0))/\Af (fun q=>q=b) w (TT BX b k 1 (x.seq+1) u pc (str m) 0 ⟨#[]⟩ 0 0).drew):=by
  have q:=Va (w:=BX) h' hx ⟨1,x.seq+1,.slice none 0 0,u,pc,m,0,[],0,0⟩;rw[ad,Wp];generalize Lp BX b k ⟨1,x.seq+1,.slice none 0 0,u,pc,m,0,[],0,0⟩=W8 at q ⊢;rw[E0];exact⟨q.1,((Af.Al hb _).trans q.2).drew⟩
 clear ad;generalize str m=SM at *;have c0:BX.cell? ⟨w.heap.size,0,none⟩=some (.int .i64 u):=cell_of aa 0 _ rfl;have c1:BX.cell? ⟨w.heap.size,1,none⟩=some (.int .i64 pc):=cell_of aa 1 _ rfl;have c2:BX.cell? ⟨w.heap.size,2,none⟩=some (.string SM):=cell_of aa 2 _ rfl;have c3:BX.cell? ⟨w.heap.size,3,none⟩=some (.int .i64 0):=cell_of aa 3 _ rfl;have c4:BX.cell? ⟨w.heap.size,4,none⟩=some (.string ⟨#[]⟩):=cell_of aa 4 _ rfl;have c5:BX.cell? ⟨w.heap.size,5,none⟩=some (.int .i64 0):=cell_of aa 5 _ rfl;have c6:BX.cell? ⟨w.heap.size,6,none⟩=some (.int .i64 0):=cell_of aa 6 _ rfl;have e1:IntKind.i64.wrap (x.seq+1)=x.seq+1:=by rw[IntKind.wrap_i64];omega
 have ae:=Ac ab;have ag:=lt_of_block h';generalize x.seq=sq at *;clear h hx ab hb aa h' ac;go_enter Tryz.func148,Tryz.ntmps148;go_wp2_with fail
 rw[Aa ae]
 go_region
 all_goals
  go_wp2;go_returns;exact⟨rfl,Aa HP⟩
theorem Rv(w:World)(cb b k:Nat)(rt tr:Int)(xs:List CU)(x:CU)(h:w.heap[b]?=some (.cells (tab CU.cells xs).toArray 129 (0,0)))(hx:xs[k]?=some x)(b4:w.cell? ⟨cb,4,none⟩=some (.int .i64 rt))(b5:w.cell? ⟨cb,5,none⟩=some (.int .i64 tr))(aa:¬cb=b):
  Calls Tryz.prog 149 #[ptr cb,.pointer (some ⟨b,k*10,none⟩)] w fun e w'=>e=.returned (.tuple #[])/\w'.heap[b]?=some (.cells (tab CU.cells (xs.set k {x with wait:=rt,tries:=tr})).toArray 129 (0,0))/\Af (fun q=>q=b) w w':=by
 obtain⟨a0,a1,a2,a3,a4,a5,a6,a7,a8,a9⟩:=Yu h hx;have z6:=open_list (off:=k*10+8) h;have z7:=open_list (off:=k*10+9) h;have e1:=BS (j:=8) (x':={x with wait:=rt}) (v:=.int .i64 rt) h hx (by omega) rfl;have e2:=BS (j:=9) (x':={x with wait:=rt,tries:=tr}) (v:=.int .i64 tr) e1.1 e1.2 (by omega) rfl;simp only[List.set_set]at e2;have ac:=lt_of_cell b4;have ad:=lt_of_block h;have ab:¬b=cb:=fun e=>aa e.symm
 have HP:=Ac e2.1;clear e1 e2 h hx a0 a1 a2 a3 a4 a5 a6 a7;go_enter Tryz.func149,Tryz.ntmps149;go_wp2;go_returns;exact⟨rfl,Aa HP,(Ah _).trans (Ah _)⟩
end Go.Proofs.YtblomippkddgiabGreatDoor
