import Derived.Test.YtblomippkddgiabGreatDoorJ20
set_option maxRecDepth 100000
set_option maxHeartbeats 2000000
namespace Go.Proofs.YtblomippkddgiabGreatDoor
open Go.RowKit
variable {k p:Int}{w w':World}
def Ec(w:World):Prop:=∃tt fr,w.heap[0]?=some (.cells BK tt fr)
theorem Ec.below(h:Ec w)(hb:Below w.heap.size w w'):Ec w':=by
 obtain⟨tt,fr,hg⟩:=h;exact⟨tt,fr,adN hg hb⟩
theorem Ec.keeps{F:Aq}(h:Ec w)(hk:Af F w w')(h0:¬F 0):Ec w':=by
 obtain⟨tt,fr,hg⟩:=h;exact⟨tt,fr,hk.at hg h0⟩
theorem Gz{f t:ByteArray}(h:R.C6 k p=some (f,t)):DY k p=.tuple #[.string f,.string t,.int .i64 0]/\(V.Pt.IZ (V.nx f) f.size).1=0/\(V.Pt.IZ (V.nx t) t.size).1=0/\(p=0\/p=1)/\(0<=k/\k<=2):=by
 unfold R.C6 at h;split at h
 ·rename_i q;obtain⟨rfl,rfl⟩:=q;cases h;exact⟨rfl,by decide +kernel,by decide +kernel,by omega,by omega⟩
 ·split at h
  ·rename_i q;obtain⟨rfl,rfl⟩:=q;cases h;exact⟨rfl,by decide +kernel,by decide +kernel,by omega,by omega⟩
  ·split at h
   ·rename_i q;obtain⟨rfl,rfl⟩:=q;cases h;exact⟨rfl,by decide +kernel,by decide +kernel,by omega,by omega⟩
   ·split at h
    ·rename_i q;obtain⟨rfl,rfl⟩:=q;cases h;exact⟨rfl,by decide +kernel,by decide +kernel,by omega,by omega⟩
    ·split at h
     ·rename_i q;obtain⟨rfl,rfl⟩:=q;cases h;exact⟨rfl,by decide +kernel,by decide +kernel,by omega,by omega⟩
     ·cases h
theorem ZR(hk:0<=k/\k<=2)(h:R.C6 k p=none):DY k p=.tuple #[.string ⟨#[]⟩,.string ⟨#[]⟩,.int .i64 16]:=by
 obtain rfl|rfl|rfl:k=0\/k=1\/k=2:=by omega
 ·have h0:¬p=0:=fun e=>by subst e;simp[R.C6]at h
  have h1:¬p=1:=fun e=>by subst e;simp[R.C6]at h
  exact abT p h0 h1
 ·have h0:¬p=0:=fun e=>by subst e;simp[R.C6]at h
  have h1:¬p=1:=fun e=>by subst e;simp[R.C6]at h
  exact abU p h0 h1
 ·have h0:¬p=0:=fun e=>by subst e;simp[R.C6]at h
  exact abV p h0
theorem Us(k p:Int)(hk:0<=k/\k<=2)(h:R.C6 k p=none)(w:World)(ht:Ec w):Calls Tryz.prog 201 #[.int .i64 k,.int .i64 p] w fun e w'=>e=Az 16 0/\Below w.heap.size w w':=by
 have HS:Hid (∀w',Below w.heap.size w w'->Calls Tryz.prog 183 #[.int .i64 k,.int .i64 p] w' fun e ab=>e=.returned (.tuple #[.string ⟨#[]⟩,.string ⟨#[]⟩,.int .i64 16])/\Below w'.heap.size w' ab):=fun w' hb=>by
  obtain⟨tt,fr,hg⟩:=ht.below hb;refine(Vi k p w' tt fr hg).mono ?_;rintro e ab ⟨rfl,q⟩;exact⟨by rw[ZR hk h],q⟩
 have HB:Hid (Below w.heap.size w ((w.alloc (.cells #[.int .u8 0,.int .i64 0,.slice none 0 0] 262)).alloc (.cells #[.int .u8 0,.int .i64 0,.slice none 0 0] 262))):=((Below.refl _ _).alloc (afI _) _).alloc (by simp) _;go_enter Tryz.func201,Tryz.ntmps201;go_wp2_with fail
 refine((Aa HS) _ (Aa HB)).mono ?_;rintro e w1 ⟨rfl,aa⟩;have ac:=Ac ((Aa HB).trans (aa.mono (Aa HB).size));clear aa;go_wp2;exact⟨rfl,rfl,Aa ac⟩
theorem Hg(k p:Int)(f t:ByteArray)(h:R.C6 k p=some (f,t))(w:World)(ht:Ec w):Calls Tryz.prog 201 #[.int .i64 k,.int .i64 p] w fun e w'=>(∃a0 a1 a2 b0 b1 b2,e=.returned (.tuple #[.agg #[a0,a1,a2],.agg #[b0,b1,b2]])/\(∃S,V.Fe w' S (V.nx f) (f.size+1) 0 a0 a1 a2)/\(∃S,V.Fe w' S (V.nx t) (t.size+1) 0 b0 b1 b2))/\Below w.heap.size w w':=by
 obtain⟨hs,hf,aw,_,_⟩:=Gz h;have HS:Hid (∀w',Below w.heap.size w w'->Calls Tryz.prog 183 #[.int .i64 k,.int .i64 p] w' fun e ab=>e=.returned (.tuple #[.string f,.string t,.int .i64 0])/\Below w'.heap.size w' ab):=fun w' hb=>by
  obtain⟨tt,fr,hg⟩:=ht.below hb;refine(Vi k p w' tt fr hg).mono ?_;rintro e ab ⟨rfl,q⟩;exact⟨by rw[hs],q⟩
 have HR:Hid (∀T w',(V.Pt.IZ (V.nx T) T.size).1=0->Calls Tryz.prog 173 #[.string T] w' fun e ab=>∃c0 c1 c2,e=.returned (.agg #[c0,c1,c2])/\V.Fe ab (fun k=>w'.heap.size<=k) (V.nx T) (T.size+1) 0 c0 c1 c2/\Below w'.heap.size w' ab):=fun T w' hT=>by
  refine(V.WX T w').mono ?_;rintro e ab ⟨h1,h2⟩;rw[if_pos hT]at h1;obtain⟨c0,c1,c2,rfl,h3⟩:=h1;exact⟨c0,c1,c2,rfl,h3,h2⟩
 have HB:Hid (Below w.heap.size w ((w.alloc (.cells #[.int .u8 0,.int .i64 0,.slice none 0 0] 262)).alloc (.cells #[.int .u8 0,.int .i64 0,.slice none 0 0] 262))):=((Below.refl _ _).alloc (afI _) _).alloc (by simp) _;have ar:Hid (((w.alloc (.cells #[.int .u8 0,.int .i64 0,.slice none 0 0] 262)).alloc (.cells #[.int .u8 0,.int .i64 0,.slice none 0 0] 262)).heap[w.heap.size]?=some (.cells #[.int .u8 0,.int .i64 0,.slice none 0 0] 262 (0,0))):=(Below.heap_alloc _ _ _ (by simp)).trans (heap_alloc_new w _);have au:Hid (((w.alloc (.cells #[.int .u8 0,.int .i64 0,.slice none 0 0] 262)).alloc (.cells #[.int .u8 0,.int .i64 0,.slice none 0 0] 262)).heap[w.heap.size+1]?=some (.cells #[.int .u8 0,.int .i64 0,.slice none 0 0] 262 (0,0))):=by
  show _=_;have:=heap_alloc_new (w.alloc (.cells #[.int .u8 0,.int .i64 0,.slice none 0 0] 262)) (.cells #[.int .u8 0,.int .i64 0,.slice none 0 0] 262);simpa using this
 have aj:Hid (((w.alloc (.cells #[.int .u8 0,.int .i64 0,.slice none 0 0] 262)).alloc (.cells #[.int .u8 0,.int .i64 0,.slice none 0 0] 262)).heap.size=w.heap.size+2):=by show _=_;simp
 go_enter Tryz.func201,Tryz.ntmps201;go_wp2_with fail
 refine((Aa HS) _ (Aa HB)).mono ?_;rintro e w1 ⟨rfl,an⟩;have ak:=Ac ((Aa HR) f w1 hf);have ae:=Ac an;clear an;go_wp2_with fail
 refine(Aa ak).mono ?_;rintro e w2 ⟨a0,a1,a2,rfl,am,ao⟩;have al:=Ac ((Aa HR) t w2 aw);have ah:=Ac am;have af:=Ac ao;clear ao am;go_wp2_with fail
 refine(Aa al).mono ?_;rintro e w3 ⟨b0,b1,b2,rfl,ai,ag⟩;obtain⟨⟨x0,rfl⟩,⟨x1,rfl⟩,⟨ea,en,ec,rfl⟩⟩:=V.Bz (Aa ah);obtain⟨⟨y0,rfl⟩,⟨y1,rfl⟩,⟨fa,fn,fc,rfl⟩⟩:=V.Bz ai;have ap:=(Aa ae).size;have av:=(Aa af).size;rw[Aa aj]at ap;have ad:Below w1.heap.size w1 w3:=(Aa af).trans (ag.mono (Aa af).size);have aa:=(Aa ae).trans (ad.mono (Aa ae).size);rw[Aa aj]at aa;have k0:=(aa.block w.heap.size (by omega)).trans (Aa ar);have k1:=(aa.block (w.heap.size+1) (by omega)).trans (Aa au);have p0:w3.cell? ⟨w.heap.size,0,none⟩=some (.int .u8 0):=cell_of k0 0 _ rfl;have p1:w3.cell? ⟨w.heap.size,1,none⟩=some (.int .i64 0):=cell_of k0 1 _ rfl;have p2:w3.cell? ⟨w.heap.size,2,none⟩=some (.slice none 0 0):=cell_of k0 2 _ rfl;have q0:w3.cell? ⟨w.heap.size+1,0,none⟩=some (.int .u8 0):=cell_of k1 0 _ rfl;have q1:w3.cell? ⟨w.heap.size+1,1,none⟩=some (.int .i64 0):=cell_of k1 1 _ rfl;have q2:w3.cell? ⟨w.heap.size+1,2,none⟩=some (.slice none 0 0):=cell_of k1 2 _ rfl;have u0:∀j,w3.frozen? ⟨w.heap.size,j,none⟩=false:=fun j=>open_list k0
 have u1:∀j,w3.frozen? ⟨w.heap.size+1,j,none⟩=false:=fun j=>open_list k1
 have aq:=ag.size;have ac:Hid (∀W:World,Af (fun k=>k=w.heap.size\/k=w.heap.size+1) w3 W->(∃S,V.Fe W S (V.nx f) (f.size+1) 0 (.int .u8 x0) (.int .i64 x1) (.slice ea en ec))/\(∃S,V.Fe W S (V.nx t) (t.size+1) 0 (.int .u8 y0) (.int .i64 y1) (.slice fa fn fc))/\Below w.heap.size w W):=fun W hk=>by
  refine⟨⟨_,V.Bw ⟨agM aq hk.size,fun k hS hl=>?_⟩ (Aa ah)⟩,⟨_,V.Bw ⟨hk.size,fun k hS hl=>?_⟩ ai⟩,?_⟩
  ·have hS:w1.heap.size<=k:=hS;rw[hk.block k (by omega) (by omega)];exact ag.block k hl
  ·have hS:w2.heap.size<=k:=hS;exact hk.block k hl (by omega)
  ·exact((Aa HB).trans (aa.mono (by omega))).trans (hk.below (by omega) (fun k e=>by omega))
 have l0:w.heap.size<w3.heap.size:=by omega
 have l1:w.heap.size+1<w3.heap.size:=by omega
 clear ai ag ad aa k0 k1 ah ae af ak al HR HS HB ar au aj ap av aq;go_wp2;have hK:Af (fun k=>k=w.heap.size\/k=w.heap.size+1) w3 ((((((w3.setCell ⟨w.heap.size,0,none⟩ (.int .u8 x0)).setCell ⟨w.heap.size,1,none⟩ (.int .i64 x1)).setCell ⟨w.heap.size,2,none⟩ (.slice ea en ec)).setCell ⟨w.heap.size+1,0,none⟩ (.int .u8 y0)).setCell ⟨w.heap.size+1,1,none⟩ (.int .i64 y1)).setCell ⟨w.heap.size+1,2,none⟩ (.slice fa fn fc)):=
  ((((((Af.refl _ w3).setCell (p:=⟨w.heap.size,0,none⟩) (afJ (afJ rfl)) _).setCell (p:=⟨w.heap.size,1,none⟩) (afJ (afJ rfl)) _).setCell (p:=⟨w.heap.size,2,none⟩) (afJ (afJ rfl)) _).setCell (p:=⟨w.heap.size+1,0,none⟩) (afJ (afM rfl)) _).setCell (p:=⟨w.heap.size+1,1,none⟩) (afJ (afM rfl)) _).setCell (p:=⟨w.heap.size+1,2,none⟩) (afJ (afM rfl)) _
 obtain⟨r1,r2,r3⟩:=(Aa ac) _ hK;refine⟨rfl,.tuple #[.agg #[.int .u8 x0,.int .i64 x1,.slice ea en ec],.agg #[.int .u8 y0,.int .i64 y1,.slice fa fn fc]],?_,⟨_,_,_,_,_,_,rfl,r1,r2⟩,r3⟩;clear r1 r2 r3 hK ac;simp[results,Tryz.results201,go_sem,p0,p1,p2,q0,q1,q2]
theorem Gx{S:Nat->Prop}{g:Nat->Nat}{f p:Nat}{c0 c1 c2:Value}(h:V.Fe w S g f p c0 c1 c2)(hb:Below w.heap.size w w'):V.Fe w' S g f p c0 c1 c2:=V.Bw ⟨hb.size,fun k _ hl=>hb.block k hl⟩ h
def KS(T:ByteArray)(v:List V.It)(w:World)(e:Ending)(w':World):Prop:=
 (((V.CW T v).1=0/\e=.returned (.string (str (V.CW T v).2)))\/(¬(V.CW T v).1=0/\e=Az (V.CW T v).1 0))/\Below w.heap.size w w'
theorem NF(T:ByteArray)(hT:(V.Pt.IZ (V.nx T) T.size).1=0)(S:Nat->Prop)(c0 c1 c2 X:Value)(v:List V.It)(w:World)(hR:V.Fe w S (V.nx T) (T.size+1) 0 c0 c1 c2)(hI:V.Items w X v)(hn:v.length<=9000000000000):Calls Tryz.prog 177 #[.agg #[c0,c1,c2],X] w (KS T v w):=by
 have hG:=V.Py hT;refine(V.KU T S c0 c1 c2 X v w hR hG.ok hG.EC hI hn).mono ?_;rintro e aa ⟨h1,h2⟩;have e1:V.NG (V.CF (V.nx T) (T.size+1) 0 v) v=V.CW T v:=by unfold V.CW;rw[if_pos hT]
 rw[e1]at h1;unfold V.UE at h1;refine⟨?_,h2⟩;by_cases h0:(V.CW T v).1=0
 ·rw[if_pos h0]at h1;exact afJ ⟨h0,h1⟩
 ·rw[if_neg h0]at h1;exact afM ⟨h0,h1⟩
theorem Yz(T:ByteArray)(v:List V.It):(V.CW T v).2.length<=70:=by
 unfold V.CW V.NG;split
 ·split
  ·simp
  ·split
   ·split
    ·simp
    ·rename_i h;simp only;omega
   ·simp
 ·simp
def U4(proc:Int)(T:ByteArray)(v:List V.It)(w:World)(e:Ending)(w':World):Prop:=
 (((V.CW T v).1=0/\e=.returned (.string (str (A5 proc++(V.CW T v).2))))\/(¬(V.CW T v).1=0/\e=Az (V.CW T v).1 0))/\Below w.heap.size w w'
theorem NJ(k p:Int)(hk:0<=k/\k<=2)(h:R.C6 k p=none)(X:Value)(w:World)(ht:Ec w):Calls Tryz.prog 147 #[.int .i64 k,.int .i64 p,X] w fun e w'=>e=Az 16 0/\Below w.heap.size w w':=by
 have HS:=Ac (Us k p hk h w ht);go_enter Tryz.func147,Tryz.ntmps147;go_wp2_with fail
 refine(Aa HS).mono ?_;rintro e w1 ⟨rfl,aa⟩;go_wp2;exact⟨rfl,rfl,aa⟩
theorem abB(proc:Int)(l:List UInt8)(hl:l.length<=1000)(w:World):(Op.stringOp .add (str (A5 proc)) (str l)).run Tryz.prog w=.ok (.string (str (A5 proc++l))) w:=by
 have e1:str (A5 proc)++str l=str (A5 proc++l):=by
  apply ByteArray.ext;simp
 rw[<-e1];exact run_string_add_sum w _ _ (by rw[Ax,Ax];simp[A5];omega)
abbrev Hr(x0 x1:Int)(a:Option Addr)(n c:Nat):Obj:=.cells #[.int .u8 x0,.int .i64 x1,.slice a n c] 262
theorem ID(k p:Int)(f t:ByteArray)(h:R.C6 k p=some (f,t))(X:Value)(v:List V.It)(w:World)(ht:Ec w)(hI:V.Items w X v)(hn:v.length<=9000000000000):Calls Tryz.prog 147 #[.int .i64 k,.int .i64 p,X] w (U4 p f v w):=by
 obtain⟨_,hf,_,hp,_⟩:=Gz h;have HS:=Ac (Hg k p f t h w ht);have HA:Hid (∀w',Calls Tryz.prog 202 #[.slice none 0 0,.int .i64 p] w' fun e aj=>∃O,e=.returned O/\Own aj w'.heap.size O (A5 p)/\Below w'.heap.size w' aj):=fun w'=>by
  refine(FZ w'.heap.size (.slice none 0 0) [] p w' (World.ownsRow_nil _ _ _ _) (afI _) (by simp) (by omega)).mono ?_;rintro e aj ⟨O,rfl,aa,hb⟩;exact⟨O,rfl,by simpa using aa,hb⟩
 have HW:Hid (∀w' c0 c1 c2 S,V.Fe w' S (V.nx f) (f.size+1) 0 c0 c1 c2->Below w.heap.size w w'->Calls Tryz.prog 177 #[.agg #[c0,c1,c2],X] w' (KS f v w')):=fun w' c0 c1 c2 S hR hb=>NF f hf S c0 c1 c2 X v w' hR (hI.below hb) hn
 have ap:=Yz f v;have ah:=Ac (abB p (V.CW f v).2 (by omega));unfold U4;unfold KS at HW;generalize V.CW f v=r at *;clear hI hn ht;go_enter Tryz.func147,Tryz.ntmps147;go_wp2_with fail
 refine(Aa HS).mono ?_;rintro e w1 ⟨⟨a0,a1,a2,b0,b1,b2,rfl,⟨S1,ai⟩,⟨S2,am⟩⟩,ac⟩;obtain⟨⟨x0,rfl⟩,⟨x1,rfl⟩,⟨ea,en,ec,rfl⟩⟩:=V.Bz ai;obtain⟨⟨y0,rfl⟩,⟨y1,rfl⟩,⟨fa,fn,fc,rfl⟩⟩:=V.Bz am;have af:Hid (Below w.heap.size w ((w1.alloc (Hr x0 x1 ea en ec)).alloc (Hr y0 y1 fa fn fc))):=(ac.alloc ac.size _).alloc (by have:=ac.size;simp;omega) _;have ak:Hid (Below w1.heap.size w1 ((w1.alloc (Hr x0 x1 ea en ec)).alloc (Hr y0 y1 fa fn fc))):=((Below.refl _ _).alloc (afI _) _).alloc (by simp) _;have al:=Ac (Gx ai (Aa ak));have HE:Hid (((w1.alloc (Hr x0 x1 ea en ec)).alloc (Hr y0 y1 fa fn fc)).heap[w1.heap.size]?=some (.cells #[.int .u8 x0,.int .i64 x1,.slice ea en ec] 262 (0,0))):=(Below.heap_alloc _ _ _ (by simp)).trans (heap_alloc_new w1 _);clear ai am ac HS;go_wp2_with fail
 refine((Aa HA) _).mono ?_;rintro e w2 ⟨O,rfl,aa,ad⟩;obtain⟨oa,on,oc,hO⟩:=Ar aa;subst hO;have aq:=aa.conv;have ab:=Ac ((Aa af).trans (ad.mono (Aa af).size));have an:=Ac (Gx (Aa al) ad);have hk:=(ad.block w1.heap.size (by simp;omega)).trans (Aa HE);have p0:w2.cell? ⟨w1.heap.size,0,none⟩=some (.int .u8 x0):=cell_of hk 0 _ rfl;have p1:w2.cell? ⟨w1.heap.size,1,none⟩=some (.int .i64 x1):=cell_of hk 1 _ rfl;have p2:w2.cell? ⟨w1.heap.size,2,none⟩=some (.slice ea en ec):=cell_of hk 2 _ rfl;have ar:=lt_of_block hk;have HC:=Ac ((Aa HW) w2 _ _ _ _ (Aa an) (Aa ab));clear aa ad hk HE al af ak;generalize str (A5 p)=S2' at *;go_wp2_with fail
 refine(Aa HC).mono ?_;rintro e w3 ⟨⟨h0,rfl⟩|⟨h0,rfl⟩,ae⟩
 ·have ag:=Ac ((Aa ab).trans (ae.mono (Aa ab).size));have ao:=(Aa ah) w3;clear ae;have H0:=Ac h0;clear h0;go_wp2;go_returns;exact⟨afJ ⟨Aa H0,rfl⟩,Aa ag⟩
 ·have ag:=Ac ((Aa ab).trans (ae.mono (Aa ab).size));have H0:=Ac h0;clear h0 ae;go_wp2;exact⟨rfl,afM ⟨Aa H0,rfl⟩,Aa ag⟩
theorem KT(k p:Int)(f t:ByteArray)(h:R.C6 k p=some (f,t))(X:Value)(v:List V.It)(w:World)(ht:Ec w)(hI:V.Items w X v)(hn:v.length<=9000000000000):Calls Tryz.prog 165 #[.int .i64 k,.int .i64 p,X] w (KS t v w):=by
 obtain⟨_,_,ai,_,_⟩:=Gz h;have HS:=Ac (Hg k p f t h w ht);have HW:Hid (∀w' c0 c1 c2 S,V.Fe w' S (V.nx t) (t.size+1) 0 c0 c1 c2->Below w.heap.size w w'->Calls Tryz.prog 177 #[.agg #[c0,c1,c2],X] w' (KS t v w')):=fun w' c0 c1 c2 S hR hb=>NF t ai S c0 c1 c2 X v w' hR (hI.below hb) hn
 unfold KS at HW ⊢;generalize V.CW t v=r at *;clear hI hn ht;go_enter Tryz.func165,Tryz.ntmps165;go_wp2_with fail
 refine(Aa HS).mono ?_;rintro e w1 ⟨⟨a0,a1,a2,b0,b1,b2,rfl,⟨S1,ag⟩,⟨S2,ae⟩⟩,ab⟩;obtain⟨⟨x0,rfl⟩,⟨x1,rfl⟩,⟨ea,en,ec,rfl⟩⟩:=V.Bz ag;obtain⟨⟨y0,rfl⟩,⟨y1,rfl⟩,⟨fa,fn,fc,rfl⟩⟩:=V.Bz ae;have aa:Hid (Below w.heap.size w ((w1.alloc (Hr x0 x1 ea en ec)).alloc (Hr y0 y1 fa fn fc))):=(ab.alloc ab.size _).alloc (by have:=ab.size;simp;omega) _;have af:Hid (Below w1.heap.size w1 ((w1.alloc (Hr x0 x1 ea en ec)).alloc (Hr y0 y1 fa fn fc))):=((Below.refl _ _).alloc (afI _) _).alloc (by simp) _;have ah:=Ac (Gx ae (Aa af));have HC:=Ac ((Aa HW) _ _ _ _ _ (Aa ah) (Aa aa));clear ag ae ab HS af;go_wp2_with fail
 refine(Aa HC).mono ?_;rintro e w3 ⟨⟨h0,rfl⟩|⟨h0,rfl⟩,ac⟩
 ·have ad:=Ac ((Aa aa).trans (ac.mono (Aa aa).size));clear ac;have H0:=Ac h0;clear h0;go_wp2;go_returns;exact⟨afJ ⟨Aa H0,rfl⟩,Aa ad⟩
 ·have ad:=Ac ((Aa aa).trans (ac.mono (Aa aa).size));have H0:=Ac h0;clear h0 ac;go_wp2;exact⟨rfl,afM ⟨Aa H0,rfl⟩,Aa ad⟩
theorem R3(T:ByteArray)(hT:(V.Pt.IZ (V.nx T) T.size).1=0)(S:Nat->Prop)(c0 c1 c2:Value)(l:List UInt8)(v:List V.It)(hu:V.D5 T l=(0,v))(w:World)(hR:V.Fe w S (V.nx T) (T.size+1) 0 c0 c1 c2):Calls Tryz.prog 181 #[.agg #[c0,c1,c2],.string (str l)] w fun e w'=>(∃O,e=.returned O/\V.Row w' w.heap.size O v)/\Below w.heap.size w w':=by
 have hG:=V.Py hT;refine(V.Xj T S c0 c1 c2 l w hR hG.ok hG.EC).mono ?_;rintro e w' ⟨h1,h2⟩;have e1:V.KP (V.Aw V.Dz V.Df (V.nx T) (T.size+1) 0 (l,[])) l=V.D5 T l:=by unfold V.D5;rw[if_pos hT]
 rw[e1,hu]at h1;exact⟨h1,h2⟩
theorem LF(k p:Int)(f t:ByteArray)(h:R.C6 k p=some (f,t))(l:List UInt8)(v:List V.It)(hu:V.D5 t l=(0,v))(w:World)(ht:Ec w):Calls Tryz.prog 219 #[.int .i64 k,.int .i64 p,.string (str l)] w fun e w'=>(∃O,e=.returned O/\V.Row w' w.heap.size O v)/\Below w.heap.size w w':=by
 obtain⟨_,_,am,_,_⟩:=Gz h;have HS:=Ac (Hg k p f t h w ht);have HW:Hid (∀w' c0 c1 c2 S,V.Fe w' S (V.nx t) (t.size+1) 0 c0 c1 c2->Calls Tryz.prog 181 #[.agg #[c0,c1,c2],.string (str l)] w' fun e ah=>(∃O,e=.returned O/\V.Row ah w'.heap.size O v)/\Below w'.heap.size w' ah):=fun w' c0 c1 c2 S hR=>R3 t am S c0 c1 c2 l v hu w' hR
 generalize str l=SL at *;clear ht hu;go_enter Tryz.func219,Tryz.ntmps219;go_wp2_with fail
 refine(Aa HS).mono ?_;rintro e w1 ⟨⟨a0,a1,a2,b0,b1,b2,rfl,⟨S1,af⟩,⟨S2,ad⟩⟩,ab⟩;obtain⟨⟨x0,rfl⟩,⟨x1,rfl⟩,⟨ea,en,ec,rfl⟩⟩:=V.Bz af;obtain⟨⟨y0,rfl⟩,⟨y1,rfl⟩,⟨fa,fn,fc,rfl⟩⟩:=V.Bz ad;have ac:Hid (Below w.heap.size w ((w1.alloc (Hr x0 x1 ea en ec)).alloc (Hr y0 y1 fa fn fc))):=(ab.alloc ab.size _).alloc (by have:=ab.size;simp;omega) _;have ae:Hid (Below w1.heap.size w1 ((w1.alloc (Hr x0 x1 ea en ec)).alloc (Hr y0 y1 fa fn fc))):=((Below.refl _ _).alloc (afI _) _).alloc (by simp) _;have aj:=Ac (Gx ad (Aa ae));have HC:=Ac ((Aa HW) _ _ _ _ _ (Aa aj));clear af ad ab HS ae;go_wp2_with fail
 refine(Aa HC).mono ?_;rintro e w3 ⟨⟨O,rfl,aa⟩,ag⟩;have ai:=Ac ((Aa ac).trans (ag.mono (Aa ac).size));obtain⟨oa,on,oc,al⟩:=Ar aa;subst al;have ak:=Ac (V.EU aa (Aa ac).size);clear ag aa;go_wp2
 go_ret
 exact⟨⟨_,rfl,Aa ak⟩,Aa ai⟩
theorem acT(b:Nat)(l:List UInt8)(n:Nat)(w:World)(h1:w.cell? ⟨b,0,none⟩=some (.string (str l)))(h2:w.frozen? ⟨b,0,none⟩=false)(hn:n<=l.length)(hl:l.length<=1000):
  Calls Tryz.prog 246 #[ptr b,.int .i64 n] w fun e w'=>e=.returned (.string (str (l.take n)))/\w'=w.setCell ⟨b,0,none⟩ (.string (str (l.drop n))):=by
 have aa:=Ax l;have e1:(str l).extract 0 n=str (l.take n):=by rw[CP];simp
 have e2:(str l).extract n (str l).size=str (l.drop n):=by
  rw[CP,Ax,af6 (by rw[agf];omega)]
 generalize hS:str l=S at *;generalize hA:str (l.take n)=A at *;generalize hB:str (l.drop n)=B at *;clear hS hA hB;generalize l.length=m at *;subst aa;have ab:¬((S.size:Int)<(n:Int)):=by omega
 go_enter Tryz.func246,Tryz.ntmps246;go_wp2
 go_ret
 exact⟨rfl,rfl⟩
theorem XN(b:Nat)(c:UInt8)(r:List UInt8)(w:World)(h1:w.cell? ⟨b,0,none⟩=some (.string (str (c :: r))))(h2:w.frozen? ⟨b,0,none⟩=false)(hl:r.length<=900):Calls Tryz.prog 206 #[ptr b] w fun e w'=>e=.returned (.int .i64 (c.toNat:Int))/\w'=w.setCell ⟨b,0,none⟩ (.string (str r)):=by
 have H:=Ac (acT b (c :: r) 1 w h1 h2 (by simp) (by simp;omega));rw[show (c :: r).take 1=[c] from rfl,show (c :: r).drop 1=r from rfl]at H;have i0:(str [c])[0]'(by rw[Ax];simp)=c:=rfl;have hc:=c.toNat_lt;have hw:wrap64 (c.toNat:Int)=(c.toNat:Int):=by unfold wrap64;omega
 clear h1 h2;go_enter Tryz.func206,Tryz.ntmps206;go_wp2_with fail
 refine(Aa H).mono ?_;rintro e w1 ⟨rfl,rfl⟩;go_wp2
 go_ret
 exact⟨rfl,rfl⟩
theorem aej(b:Nat)(a c:UInt8)(r:List UInt8)(w:World)(h1:w.cell? ⟨b,0,none⟩=some (.string (str (a :: c :: r))))(h2:w.frozen? ⟨b,0,none⟩=false)(hl:r.length<=500):
  Calls Tryz.prog 207 #[ptr b] w fun e w'=>e=.returned (.int .i64 (V.Cc a c))/\w'=(w.setCell ⟨b,0,none⟩ (.string (str (c :: r)))).setCell ⟨b,0,none⟩ (.string (str r)):=by
 have H:=Ac (XN b a (c :: r) w h1 h2 (by simp;omega));have aa:=lt_of_cell h1;have H2:=Ac (XN b c r (w.setCell ⟨b,0,none⟩ (.string (str (c :: r)))) (by simp[go_sem,h1]) (by simp[go_sem,h2]) (by omega));have ha:=a.toNat_lt;have hc:=c.toNat_lt;have hw:wrap64 ((a.toNat:Int)*256)=(a.toNat:Int)*256:=by unfold wrap64;omega
 have ho:bits .or .i64 ((a.toNat:Int)*256) (c.toNat:Int)=((V.Cc a c:Nat):Int):=by
  have:=V.PR a.toNat c.toNat (by omega) (by omega);rw[show ((a.toNat*256:Nat):Int)=(a.toNat:Int)*256 by omega]at this;exact this
 clear h1 h2;generalize str (c :: r)=S1 at *;generalize str r=S2 at *;go_enter Tryz.func207,Tryz.ntmps207;go_wp2_with fail
 refine(Aa H).mono ?_;rintro e w1 ⟨rfl,rfl⟩;go_wp2_with fail
 refine(Aa H2).mono ?_;rintro e w2 ⟨rfl,rfl⟩;go_wp2
 go_ret
 exact⟨rfl,rfl⟩
theorem NY(k p:Int)(f t:ByteArray)(h:R.C6 k p=some (f,t))(l:List UInt8)(hl:l.length<=500)(v:List V.It)(hu:V.D5 f l=(0,v))(w:World)(ht:Ec w):Calls Tryz.prog 162 #[.int .i64 k,.string (str (A5 p++l))] w fun e w'=>(∃O,e=.returned (.tuple #[.int .i64 p,O])/\V.Row w' w.heap.size O v)/\Below w.heap.size w w':=by
 obtain⟨_,hf,_,hp,_⟩:=Gz h;obtain⟨BX,ab⟩:∃BX,w.alloc (.cells #[.string (str (A5 p++l)),.int .i64 6] 247)=BX:=⟨_,rfl⟩;have an:Below w.heap.size w BX:=by
  rw[<-ab];exact(Below.refl _ _).alloc (afI _) _
 have ac:BX.heap[w.heap.size]?=some (.cells #[.string (str (A5 p++l)),.int .i64 6] 247 (0,0)):=by
  rw[<-ab];exact heap_alloc_new w _
 have ax:((V.Cc (b8 (p / 256)) (b8 (p % 256)):Nat):Int)=p:=by
  have h1:=Bj (n:=p / 256) (by omega) (by omega);have h2:=Bj (n:=p % 256) (by omega) (by omega);unfold V.Cc;omega
 have H2:=Ac (aej w.heap.size (b8 (p / 256)) (b8 (p % 256)) l BX (cell_of ac 0 _ rfl) (open_list ac) hl);rw[ax]at H2;obtain⟨W,hW⟩:∃W,W=(BX.setCell ⟨w.heap.size,0,none⟩ (.string (str (b8 (p % 256) :: l)))).setCell ⟨w.heap.size,0,none⟩ (.string (str l)):=⟨_,rfl⟩;rw[<-hW]at H2;have ah:Below w.heap.size w W:=by
  rw[hW];exact(an.setCell (by simp) _).setCell (by simp) _
 have am:W.heap[w.heap.size]?=some (.cells #[.string (str l),.int .i64 6] 247 (0,0)):=by
  rw[hW];have e1:=Ai (cs:=[.string (str (A5 p++l)),.int .i64 6]) (off:=0) ac (.string (str (b8 (p % 256) :: l)));exact Ai (cs:=[.string (str (b8 (p % 256) :: l)),.int .i64 6]) (off:=0) e1 (.string (str l))
 have HS:=Ac (Hg k p f t h W (ht.below ah));have HW:Hid (∀w' c0 c1 c2 S,V.Fe w' S (V.nx f) (f.size+1) 0 c0 c1 c2->Calls Tryz.prog 181 #[.agg #[c0,c1,c2],.string (str l)] w' fun e aq=>(∃O,e=.returned O/\V.Row aq w'.heap.size O v)/\Below w'.heap.size w' aq):=fun w' c0 c1 c2 S hR=>R3 f hf S c0 c1 c2 l v hu w' hR
 have au:=Ac ab;have aj:=Ac ah;have ak:=Ac am;clear hW ah am an ac ht hu ab;generalize str l=SL at *;generalize str (A5 p++l)=SM at *;go_enter Tryz.func162,Tryz.ntmps162;go_wp2_with fail
 rw[Aa au];refine(Aa H2).mono ?_;rintro e w0 ⟨rfl,ap⟩;rw[ap];clear ap;go_wp2_with fail
 refine(Aa HS).mono ?_;rintro e w1 ⟨⟨a0,a1,a2,b0,b1,b2,rfl,⟨S1,af⟩,⟨S2,al⟩⟩,ag⟩;obtain⟨⟨x0,rfl⟩,⟨x1,rfl⟩,⟨ea,en,ec,rfl⟩⟩:=V.Bz af;obtain⟨⟨y0,rfl⟩,⟨y1,rfl⟩,⟨fa,fn,fc,rfl⟩⟩:=V.Bz al;have ad:Below w.heap.size w w1:=(Aa aj).trans (ag.mono (Aa aj).size);have ae:Hid (Below w.heap.size w ((w1.alloc (Hr x0 x1 ea en ec)).alloc (Hr y0 y1 fa fn fc))):=(ad.alloc ad.size _).alloc (by have:=ad.size;simp;omega) _;have ai:Hid (Below w1.heap.size w1 ((w1.alloc (Hr x0 x1 ea en ec)).alloc (Hr y0 y1 fa fn fc))):=((Below.refl _ _).alloc (afI _) _).alloc (by simp) _;have av:=Ac (Gx af (Aa ai));have HC:=Ac ((Aa HW) _ _ _ _ _ (Aa av));have k1:=(ag.block w.heap.size (lt_of_block (Aa ak))).trans (Aa ak);have c0:w1.cell? ⟨w.heap.size,0,none⟩=some (.string SL):=cell_of k1 0 _ rfl;have az:=lt_of_block k1;clear af al ag HS ai ad k1;go_wp2_with fail
 refine(Aa HC).mono ?_;rintro e w3 ⟨⟨O,rfl,aa⟩,ao⟩;have ar:=Ac ((Aa ae).trans (ao.mono (Aa ae).size));obtain⟨oa,on,oc,ay⟩:=Ar aa;subst ay;have aw:=Ac (V.EU aa (Aa ae).size);clear ao aa;go_wp2
 go_ret2
 exact⟨⟨_,rfl,Aa aw⟩,Aa ar⟩
end Go.Proofs.YtblomippkddgiabGreatDoor
namespace Go.Proofs.YtblomippkddgiabGreatDoor.V
variable {s:ByteArray}{ks:List Bool}{r v:List It}{f p:Nat}{g:Nat→Nat}
def JQ(s:ByteArray)(v:List It):Option (List UInt8):=match CF (nx s) (s.size+1) 0 v with
 |some (ks,[])=>some (bytesOf ks v)
 |_=>none
theorem MJ(h:CF g (f+1) p v=some (ks,r))(ae:g p≠97)(aa:g p≠114)(ab:g p≠115)(ad:g p≠117)(ac:g p≠113):ks=[false]:=by
 unfold CF AO at h;rw[if_neg ae,if_neg aa]at h;cases v with
 |nil=>cases h
 |cons x v=>
  simp only at h;rw[if_neg ab]at h;split at h
  ·cases h
  ·rename_i k0 qs r0 hh;split at hh
   ·cases hh;simp only[BU,Ck]at h;cases h;rfl
   ·cases hh
theorem aaE(h:CF g (f+1) p v=some (ks,r))(aa:g p=115):ks=[true]/\∃x,v=x :: r/\x.2.size<=14:=by
 unfold CF AO at h;rw[if_neg (by omega),if_neg (by omega)]at h;cases v with
 |nil=>cases h
 |cons x v=>
  simp only at h;rw[if_pos aa]at h;split at h
  ·cases h
  ·rename_i k0 qs r0 hh;split at hh
   ·rename_i hx;cases hh;simp only[BU,Ck]at h;cases h;exact⟨rfl,x,rfl,hx.2⟩
   ·cases hh
theorem RF{E:Nat->List It->DZ}{q:Nat}(hE:∀v ks r,E q v=some (ks,r)->ks=[false]):∀(k:Nat) (v r:List It) (ks:List Bool),BU E (List.replicate k q) v=some (ks,r)->ks=List.replicate k false
 |0,v,r,ks,h=>by
  simp only[List.replicate_zero,BU]at h;cases h;rfl
 |k+1,v,r,ks,h=>by
  rw[age,BU]at h;cases he:E q v with
  |none=>rw[he]at h;cases h
  |some x=>
   obtain⟨k1,r1⟩:=x;rw[he]at h;simp only at h;cases hs:BU E (List.replicate k q) r1 with
   |none=>rw[hs]at h;cases h
   |some y=>
    obtain⟨k2,r2⟩:=y;rw[hs]at h;simp only[Ck]at h;cases h;rw[hE v k1 r1 he,RF hE k r1 _ _ hs,age];rfl
theorem Jk:∀(k:Nat) (v:List It),(bytesOf (List.replicate k false) v).length<=2*k
 |0,v=>by simp[bytesOf]
 |k+1,[]=>by simp[List.replicate_succ,bytesOf]
 |k+1,x :: v=>by
  have:=Jk k v;rw[age,bytesOf,afS];simp only[EE,A5];simp;omega
theorem Jp{out:List UInt8}(h:JQ s v=some out)(ae:nx s 0≠97)(ab:nx s 0≠114)(ac:nx s 0≠115)(ad:nx s 0≠117)(aa:nx s 0≠113):out.length<=70:=by
 unfold JQ at h;split at h
 ·rename_i ks he;cases h;rw[MJ he ae ab ac ad aa];have:=Jk 1 v;simp only[List.replicate_one]at this;omega
 ·cases h
theorem VN{out:List UInt8}(h:JQ s v=some out)(aa:nx s 0=115):out.length<=70:=by
 unfold JQ at h;split at h
 ·rename_i ks he;cases h;obtain⟨h1,x,h2,h3⟩:=aaE he aa;rw[h1,h2];have e0:x.2.data.toList.length=x.2.size:=agG;have e1:(if x.2.size % 2=1 then [(0:UInt8)] else []).length<=1:=by split<;>simp
  have e2:(bytesOf [true] (x :: [])).length=(A5 x.2.size).length+(x.2.data.toList.length+(if x.2.size % 2=1 then [(0:UInt8)] else []).length):=by
   simp only[bytesOf,EE,if_true,agv,afS]
  have e3:(A5 x.2.size).length=2:=rfl;omega
 ·cases h
def Cy:ByteArray:={data:=#[114,40,101,51,113,51,105,41]}
theorem VK:Pt.kids (nx Cy) 8 0=[2,4]:=by decide +kernel
theorem aaw:nx Cy 0=114/\nx Cy 2=101/\nx Cy 4=113/\nx Cy 6=105:=by decide +kernel
theorem aay:Ci (nx Cy) 7 4=3:=by decide +kernel
theorem Tg{out:List UInt8}(h:JQ Cy v=some out):out.length<=70:=by
 unfold JQ at h;obtain⟨a0,a2,a4,a6⟩:=aaw;split at h
 ·rename_i ks he;cases h;rw[show Cy.size+1=8+1 from rfl]at he;unfold CF AO at he;rw[if_neg (by omega),if_pos a0,VK]at he;simp only[BU]at he;cases h1:CF (nx Cy) 8 2 v with
  |none=>rw[h1]at he;cases he
  |some x1=>
   obtain⟨k1,r1⟩:=x1;rw[h1]at he;simp only at he;have e1:=MJ (f:=7) h1 (by omega) (by omega) (by omega) (by omega) (by omega);cases h2:CF (nx Cy) 8 4 r1 with
   |none=>rw[h2]at he;cases he
   |some x2=>
    obtain⟨k2,r2⟩:=x2;rw[h2]at he;simp only[Ck]at he;cases he;have e2:∃n,n<=4/\k2=List.replicate n false:=by
     rw[show (8:Nat)=7+1 from rfl]at h2;unfold CF AO at h2;rw[if_neg (by omega),if_neg (by omega)]at h2;cases r1 with
     |nil=>cases h2
     |cons x r1=>
      simp only at h2;rw[if_neg (show ¬nx Cy 4=115 by omega)]at h2;split at h2
      ·cases h2
      ·rename_i k0 qs r0 hh;split at hh
       ·rename_i hx;rw[if_neg (by omega)]at hh;cases hh;cases hs:BU (CF (nx Cy) 7) (List.replicate x.1.toNat 6) r1 with
        |none=>rw[hs]at h2;cases h2
        |some y=>
         obtain⟨k3,r3⟩:=y;rw[hs]at h2;simp only[Ck]at h2;cases h2;have e3:=RF (E:=CF (nx Cy) 7) (q:=6) (fun v ks r hq=>MJ (f:=6) hq (by omega) (by omega) (by omega) (by omega) (by omega)) x.1.toNat r1 _ _ hs;have aa:=hx.2.2;rw[aay]at aa;exact⟨x.1.toNat+1,by omega,by rw[e3,age];rfl⟩
       ·cases hh
    obtain⟨n,hn,e2⟩:=e2;subst e1 e2;have:=Jk (n+1) v;rw[age]at this;simp only[agv,List.singleton_append,agO];omega
 ·cases h
theorem Wc(hc:(Pt.IZ (nx s) s.size).1=0)(hb:∀out,JQ s v=some out->out.length<=70)(h:¬(CW s v).1=0):(CW s v).1=4:=by
 have hm:CW s v=NG (CF (nx s) (s.size+1) 0 v) v:=by unfold CW;rw[if_pos hc]
 rw[hm]at h ⊢;unfold JQ at hb;cases he:CF (nx s) (s.size+1) 0 v with
 |none=>rfl
 |some x=>
  obtain⟨ks,r⟩:=x;rw[he]at h hb;cases r with
  |nil=>
   have:=hb _ rfl;have hn:¬70<(bytesOf ks v).length:=by omega
   simp[NG,hn]at h
  |cons y r=>rfl
end Go.Proofs.YtblomippkddgiabGreatDoor.V
