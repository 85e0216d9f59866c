import Derived.Test.YtblomippkddgiaaGreatDoorJ24
import Derived.StringKeys
set_option maxRecDepth 100000
set_option maxHeartbeats 2000000
namespace Go.Proofs.YtblomippkddgiaaGreatDoor
open Go.RowKit
def Fu(w:World):Prop:=∃tt fr,w.heap[0]?=some (.cells Bm tt fr)
theorem Fu.below{w w':World}(h:Fu w)(hb:Below w.heap.size w w'):Fu w':=by
 obtain⟨tt,fr,hg⟩:=h;exact⟨tt,fr,Zw hg hb⟩
theorem Jv{k p:Int}{f t:ByteArray}(h:R.E3 k p=some (f,t)):Cb k p=.tuple #[.string f,.string t,.int .i64 0]/\(V.Pt.GX (V.nx f) f.size).1=0/\(V.Pt.GX (V.nx t) t.size).1=0/\(p=0\/p=1)/\(0<=k/\k<=2):=by
 unfold R.E3 at h;split at h
 ·rename_i q;obtain⟨rfl,rfl⟩:=q;cases h;exact⟨rfl,by decide +kernel,by decide +kernel,by omega,by omega⟩
 ·split at h
  ·rename_i q;obtain⟨rfl,rfl⟩:=q;cases h;exact⟨rfl,by decide +kernel,by decide +kernel,by omega,by omega⟩
  ·split at h
   ·rename_i q;obtain⟨rfl,rfl⟩:=q;cases h;exact⟨rfl,by decide +kernel,by decide +kernel,by omega,by omega⟩
   ·split at h
    ·rename_i q;obtain⟨rfl,rfl⟩:=q;cases h;exact⟨rfl,by decide +kernel,by decide +kernel,by omega,by omega⟩
    ·split at h
     ·rename_i q;obtain⟨rfl,rfl⟩:=q;cases h;exact⟨rfl,by decide +kernel,by decide +kernel,by omega,by omega⟩
     ·cases h
theorem Vn{k p:Int}(hk:0<=k/\k<=2)(h:R.E3 k p=none):Cb k p=.tuple #[.string ⟨#[]⟩,.string ⟨#[]⟩,.int .i64 16]:=by
 obtain rfl|rfl|rfl:k=0\/k=1\/k=2:=by omega
 ·have h0:¬p=0:=fun e=>by subst e;simp[R.E3]at h
  have h1:¬p=1:=fun e=>by subst e;simp[R.E3]at h
  exact Vv p h0 h1
 ·have h0:¬p=0:=fun e=>by subst e;simp[R.E3]at h
  have h1:¬p=1:=fun e=>by subst e;simp[R.E3]at h
  exact Vw p h0 h1
 ·have h0:¬p=0:=fun e=>by subst e;simp[R.E3]at h
  exact Vx p h0
theorem Pq(k p:Int)(hk:0<=k/\k<=2)(h:R.E3 k p=none)(w:World)(ht:Fu w):Calls Tryz.prog 185 #[.int .i64 k,.int .i64 p] w fun e w'=>e=A5 16 0/\Below w.heap.size w w':=by
 have HS:Hid (∀w',Below w.heap.size w w'->Calls Tryz.prog 75 #[.int .i64 k,.int .i64 p] w' fun e w''=>e=.returned (.tuple #[.string ⟨#[]⟩,.string ⟨#[]⟩,.int .i64 16])/\Below w'.heap.size w' w''):=fun w' hb=>by
  obtain⟨tt,fr,hg⟩:=ht.below hb;refine(Ql k p w' tt fr hg).mono ?_;rintro e w'' ⟨rfl,q⟩;exact⟨by rw[Vn hk h],q⟩
 have HB:Hid (Below w.heap.size w ((w.alloc (.cells #[.int .u8 0,.int .i64 0,.slice none 0 0] 153)).alloc (.cells #[.int .u8 0,.int .i64 0,.slice none 0 0] 153))):=((Below.refl _ _).alloc (Nat.le_refl _) _).alloc (by simp) _;go_enter Tryz.func185,Tryz.ntmps185;go_wp2_with fail
 refine((Aa HS) _ (Aa HB)).mono ?_;rintro e w1 ⟨rfl,hb1⟩;have HB1:=Ab ((Aa HB).trans (hb1.mono (Aa HB).size));clear hb1;go_wp2;exact⟨rfl,rfl,Aa HB1⟩
theorem Ps(k p:Int)(f t:ByteArray)(h:R.E3 k p=some (f,t))(w:World)(ht:Fu w):Calls Tryz.prog 185 #[.int .i64 k,.int .i64 p] w fun e w'=>(∃a0 a1 a2 b0 b1 b2,e=.returned (.tuple #[.agg #[a0,a1,a2],.agg #[b0,b1,b2]])/\(∃S,V.EU w' S (V.nx f) (f.size+1) 0 a0 a1 a2)/\(∃S,V.EU w' S (V.nx t) (t.size+1) 0 b0 b1 b2))/\Below w.heap.size w w':=by
 obtain⟨hs,hf,htt,_,_⟩:=Jv h;have HS:Hid (∀w',Below w.heap.size w w'->Calls Tryz.prog 75 #[.int .i64 k,.int .i64 p] w' fun e w''=>e=.returned (.tuple #[.string f,.string t,.int .i64 0])/\Below w'.heap.size w' w''):=fun w' hb=>by
  obtain⟨tt,fr,hg⟩:=ht.below hb;refine(Ql k p w' tt fr hg).mono ?_;rintro e w'' ⟨rfl,q⟩;exact⟨by rw[hs],q⟩
 have HR:Hid (∀T w',(V.Pt.GX (V.nx T) T.size).1=0->Calls Tryz.prog 78 #[.string T] w' fun e w''=>∃c0 c1 c2,e=.returned (.agg #[c0,c1,c2])/\V.EU w'' (fun k=>w'.heap.size<=k) (V.nx T) (T.size+1) 0 c0 c1 c2/\Below w'.heap.size w' w''):=fun T w' hT=>by
  refine(V.Si T w').mono ?_;rintro e w'' ⟨h1,h2⟩;rw[if_pos hT]at h1;obtain⟨c0,c1,c2,rfl,h3⟩:=h1;exact⟨c0,c1,c2,rfl,h3,h2⟩
 have HB:Hid (Below w.heap.size w ((w.alloc (.cells #[.int .u8 0,.int .i64 0,.slice none 0 0] 153)).alloc (.cells #[.int .u8 0,.int .i64 0,.slice none 0 0] 153))):=((Below.refl _ _).alloc (Nat.le_refl _) _).alloc (by simp) _;have hz0:Hid (((w.alloc (.cells #[.int .u8 0,.int .i64 0,.slice none 0 0] 153)).alloc (.cells #[.int .u8 0,.int .i64 0,.slice none 0 0] 153)).heap[w.heap.size]?=some (.cells #[.int .u8 0,.int .i64 0,.slice none 0 0] 153 (0,0))):=(Below.heap_alloc _ _ _ (by simp)).trans (heap_alloc_new w _);have hz1:Hid (((w.alloc (.cells #[.int .u8 0,.int .i64 0,.slice none 0 0] 153)).alloc (.cells #[.int .u8 0,.int .i64 0,.slice none 0 0] 153)).heap[w.heap.size+1]?=some (.cells #[.int .u8 0,.int .i64 0,.slice none 0 0] 153 (0,0))):=by
  show _=_;have:=heap_alloc_new (w.alloc (.cells #[.int .u8 0,.int .i64 0,.slice none 0 0] 153)) (.cells #[.int .u8 0,.int .i64 0,.slice none 0 0] 153);simpa using this
 have hz2:Hid (((w.alloc (.cells #[.int .u8 0,.int .i64 0,.slice none 0 0] 153)).alloc (.cells #[.int .u8 0,.int .i64 0,.slice none 0 0] 153)).heap.size=w.heap.size+2):=by show _=_;simp
 go_enter Tryz.func185,Tryz.ntmps185;go_wp2_with fail
 refine((Aa HS) _ (Aa HB)).mono ?_;rintro e w1 ⟨rfl,hb1⟩;have HC1:=Ab ((Aa HR) f w1 hf);have HB1:=Ab hb1;clear hb1;go_wp2_with fail
 refine(Aa HC1).mono ?_;rintro e w2 ⟨a0,a1,a2,rfl,hR1,hb2⟩;have HC2:=Ab ((Aa HR) t w2 htt);have HR1:=Ab hR1;have HB2:=Ab hb2;clear hb2 hR1;go_wp2_with fail
 refine(Aa HC2).mono ?_;rintro e w3 ⟨b0,b1,b2,rfl,hR2,hb3⟩;obtain⟨⟨x0,rfl⟩,⟨x1,rfl⟩,⟨ea,en,ec,rfl⟩⟩:=V.Cg (Aa HR1);obtain⟨⟨y0,rfl⟩,⟨y1,rfl⟩,⟨fa,fn,fc,rfl⟩⟩:=V.Cg hR2;have hs1:=(Aa HB1).size;have hs2:=(Aa HB2).size;rw[Aa hz2]at hs1;have hB13:Below w1.heap.size w1 w3:=(Aa HB2).trans (hb3.mono (Aa HB2).size);have hB03:=(Aa HB1).trans (hB13.mono (Aa HB1).size);rw[Aa hz2]at hB03;have k0:=(hB03.block w.heap.size (by omega)).trans (Aa hz0);have k1:=(hB03.block (w.heap.size+1) (by omega)).trans (Aa hz1);have p0:w3.cell? ⟨w.heap.size,0,none⟩=some (.int .u8 0):=cell_of k0 0 _ rfl;have p1:w3.cell? ⟨w.heap.size,1,none⟩=some (.int .i64 0):=cell_of k0 1 _ rfl;have p2:w3.cell? ⟨w.heap.size,2,none⟩=some (.slice none 0 0):=cell_of k0 2 _ rfl;have q0:w3.cell? ⟨w.heap.size+1,0,none⟩=some (.int .u8 0):=cell_of k1 0 _ rfl;have q1:w3.cell? ⟨w.heap.size+1,1,none⟩=some (.int .i64 0):=cell_of k1 1 _ rfl;have q2:w3.cell? ⟨w.heap.size+1,2,none⟩=some (.slice none 0 0):=cell_of k1 2 _ rfl;have u0:∀j,w3.frozen? ⟨w.heap.size,j,none⟩=false:=fun j=>open_list k0
 have u1:∀j,w3.frozen? ⟨w.heap.size+1,j,none⟩=false:=fun j=>open_list k1
 have hs3:=hb3.size;have HEND:Hid (∀W:World,Ae (fun k=>k=w.heap.size\/k=w.heap.size+1) w3 W->(∃S,V.EU W S (V.nx f) (f.size+1) 0 (.int .u8 x0) (.int .i64 x1) (.slice ea en ec))/\(∃S,V.EU W S (V.nx t) (t.size+1) 0 (.int .u8 y0) (.int .i64 y1) (.slice fa fn fc))/\Below w.heap.size w W):=fun W hk=>by
  refine⟨⟨_,V.Bj ⟨Nat.le_trans hs3 hk.size,fun k hS hl=>?_⟩ (Aa HR1)⟩,⟨_,V.Bj ⟨hk.size,fun k hS hl=>?_⟩ hR2⟩,?_⟩
  ·have hS:w1.heap.size<=k:=hS;rw[hk.block k (by omega) (by omega)];exact hb3.block k hl
  ·have hS:w2.heap.size<=k:=hS;exact hk.block k hl (by omega)
  ·exact((Aa HB).trans (hB03.mono (by omega))).trans (hk.below (by omega) (fun k e=>by omega))
 have l0:w.heap.size<w3.heap.size:=by omega
 have l1:w.heap.size+1<w3.heap.size:=by omega
 clear hR2 hb3 hB13 hB03 k0 k1 HR1 HB1 HB2 HC1 HC2 HR HS HB hz0 hz1 hz2 hs1 hs2 hs3;go_wp2;have hK:Ae (fun k=>k=w.heap.size\/k=w.heap.size+1) w3 ((((((w3.setCell ⟨w.heap.size,0,none⟩ (.int .u8 x0)).setCell ⟨w.heap.size,1,none⟩ (.int .i64 x1)).setCell ⟨w.heap.size,2,none⟩ (.slice ea en ec)).setCell ⟨w.heap.size+1,0,none⟩ (.int .u8 y0)).setCell ⟨w.heap.size+1,1,none⟩ (.int .i64 y1)).setCell ⟨w.heap.size+1,2,none⟩ (.slice fa fn fc)):=
  ((((((Ae.refl _ w3).setCell (p:=⟨w.heap.size,0,none⟩) (Or.inl (Or.inl rfl)) _).setCell (p:=⟨w.heap.size,1,none⟩) (Or.inl (Or.inl rfl)) _).setCell (p:=⟨w.heap.size,2,none⟩) (Or.inl (Or.inl rfl)) _).setCell (p:=⟨w.heap.size+1,0,none⟩) (Or.inl (Or.inr rfl)) _).setCell (p:=⟨w.heap.size+1,1,none⟩) (Or.inl (Or.inr rfl)) _).setCell (p:=⟨w.heap.size+1,2,none⟩) (Or.inl (Or.inr rfl)) _
 obtain⟨r1,r2,r3⟩:=(Aa HEND) _ hK;refine⟨rfl,.tuple #[.agg #[.int .u8 x0,.int .i64 x1,.slice ea en ec],.agg #[.int .u8 y0,.int .i64 y1,.slice fa fn fc]],?_,⟨_,_,_,_,_,_,rfl,r1,r2⟩,r3⟩;clear r1 r2 r3 hK HEND;simp[results,Tryz.results185,go_sem,p0,p1,p2,q0,q1,q2]
theorem Kh{S:Nat->Prop}{g:Nat->Nat}{w w':World}{f p:Nat}{c0 c1 c2:Value}(h:V.EU w S g f p c0 c1 c2)(hb:Below w.heap.size w w'):V.EU w' S g f p c0 c1 c2:=V.Bj ⟨hb.size,fun k _ hl=>hb.block k hl⟩ h
def PE(T:ByteArray)(v:List V.It)(w:World)(e:Ending)(w':World):Prop:=
 (((V.C3 T v).1=0/\e=.returned (.string (str (V.C3 T v).2)))\/(¬(V.C3 T v).1=0/\e=A5 (V.C3 T v).1 0))/\Below w.heap.size w w'
theorem Px(T:ByteArray)(hT:(V.Pt.GX (V.nx T) T.size).1=0)(S:Nat->Prop)(c0 c1 c2 X:Value)(v:List V.It)(w:World)(hR:V.EU w S (V.nx T) (T.size+1) 0 c0 c1 c2)(hI:V.Items w X v)(hn:v.length<=9000000000000):Calls Tryz.prog 77 #[.agg #[c0,c1,c2],X] w (PE T v w):=by
 have hG:=V.KV hT;refine(V.Hy T S c0 c1 c2 X v w hR hG.ok hG.DK hI hn).mono ?_;rintro e w'' ⟨h1,h2⟩;have e1:V.Ht (V.Dk (V.nx T) (T.size+1) 0 v) v=V.C3 T v:=by unfold V.C3;rw[if_pos hT]
 rw[e1]at h1;unfold V.PQ at h1;refine⟨?_,h2⟩;by_cases h0:(V.C3 T v).1=0
 ·rw[if_pos h0]at h1;exact Or.inl ⟨h0,h1⟩
 ·rw[if_neg h0]at h1;exact Or.inr ⟨h0,h1⟩
theorem Uq(T:ByteArray)(v:List V.It):(V.C3 T v).2.length<=70:=by
 unfold V.C3 V.Ht;split
 ·split
  ·simp
  ·split
   ·split
    ·simp
    ·rename_i h;simp only;omega
   ·simp
 ·simp
def Qa(proc:Int)(T:ByteArray)(v:List V.It)(w:World)(e:Ending)(w':World):Prop:=
 (((V.C3 T v).1=0/\e=.returned (.string (str (AF proc++(V.C3 T v).2))))\/(¬(V.C3 T v).1=0/\e=A5 (V.C3 T v).1 0))/\Below w.heap.size w w'
theorem JJ(k p:Int)(hk:0<=k/\k<=2)(h:R.E3 k p=none)(X:Value)(w:World)(ht:Fu w):Calls Tryz.prog 109 #[.int .i64 k,.int .i64 p,X] w fun e w'=>e=A5 16 0/\Below w.heap.size w w':=by
 have HS:=Ab (Pq k p hk h w ht);go_enter Tryz.func109,Tryz.ntmps109;go_wp2_with fail
 refine(Aa HS).mono ?_;rintro e w1 ⟨rfl,hb1⟩;go_wp2;exact⟨rfl,rfl,hb1⟩
theorem Xz(proc:Int)(l:List UInt8)(hl:l.length<=1000)(w:World):(Op.stringOp .add (str (AF proc)) (str l)).run Tryz.prog w=.ok (.string (str (AF proc++l))) w:=by
 have e1:str (AF proc)++str l=str (AF proc++l):=by
  apply ByteArray.ext;simp
 rw[<-e1];exact run_string_add_sum w _ _ (by rw[Au,Au];simp[AF];omega)
abbrev QJ(x0 x1:Int)(a:Option Addr)(n c:Nat):Obj:=.cells #[.int .u8 x0,.int .i64 x1,.slice a n c] 153
theorem FN(k p:Int)(f t:ByteArray)(h:R.E3 k p=some (f,t))(X:Value)(v:List V.It)(w:World)(ht:Fu w)(hI:V.Items w X v)(hn:v.length<=9000000000000):Calls Tryz.prog 109 #[.int .i64 k,.int .i64 p,X] w (Qa p f v w):=by
 obtain⟨_,hf,_,hp,_⟩:=Jv h;have HS:=Ab (Ps k p f t h w ht);have HA:Hid (∀w',Calls Tryz.prog 186 #[.slice none 0 0,.int .i64 p] w' fun e w''=>∃O,e=.returned O/\Own w'' w'.heap.size O (AF p)/\Below w'.heap.size w' w''):=fun w'=>by
  refine(EN w'.heap.size (.slice none 0 0) [] p w' (World.ownsRow_nil _ _ _ _) (Nat.le_refl _) (by simp) (by omega)).mono ?_;rintro e w'' ⟨O,rfl,hown,hb⟩;exact⟨O,rfl,by simpa using hown,hb⟩
 have HW:Hid (∀w' c0 c1 c2 S,V.EU w' S (V.nx f) (f.size+1) 0 c0 c1 c2->Below w.heap.size w w'->Calls Tryz.prog 77 #[.agg #[c0,c1,c2],X] w' (PE f v w')):=fun w' c0 c1 c2 S hR hb=>Px f hf S c0 c1 c2 X v w' hR (hI.below hb) hn
 have hbl:=Uq f v;have HSUM:=Ab (Xz p (V.C3 f v).2 (by omega));unfold Qa;unfold PE at HW;generalize V.C3 f v=r at *;clear hI hn ht;go_enter Tryz.func109,Tryz.ntmps109;go_wp2_with fail
 refine(Aa HS).mono ?_;rintro e w1 ⟨⟨a0,a1,a2,b0,b1,b2,rfl,⟨S1,hR1⟩,⟨S2,hR2⟩⟩,hb1⟩;obtain⟨⟨x0,rfl⟩,⟨x1,rfl⟩,⟨ea,en,ec,rfl⟩⟩:=V.Cg hR1;obtain⟨⟨y0,rfl⟩,⟨y1,rfl⟩,⟨fa,fn,fc,rfl⟩⟩:=V.Cg hR2;have HB1:Hid (Below w.heap.size w ((w1.alloc (QJ x0 x1 ea en ec)).alloc (QJ y0 y1 fa fn fc))):=(hb1.alloc hb1.size _).alloc (by have:=hb1.size;simp;omega) _;have HBB:Hid (Below w1.heap.size w1 ((w1.alloc (QJ x0 x1 ea en ec)).alloc (QJ y0 y1 fa fn fc))):=((Below.refl _ _).alloc (Nat.le_refl _) _).alloc (by simp) _;have HR1:=Ab (Kh hR1 (Aa HBB));have HE:Hid (((w1.alloc (QJ x0 x1 ea en ec)).alloc (QJ y0 y1 fa fn fc)).heap[w1.heap.size]?=some (.cells #[.int .u8 x0,.int .i64 x1,.slice ea en ec] 153 (0,0))):=(Below.heap_alloc _ _ _ (by simp)).trans (heap_alloc_new w1 _);clear hR1 hR2 hb1 HS;go_wp2_with fail
 refine((Aa HA) _).mono ?_;rintro e w2 ⟨O,rfl,hown,hb2⟩;obtain⟨oa,on,oc,hO⟩:=Am hown;subst hO;have hcv:=hown.conv;have HB2:=Ab ((Aa HB1).trans (hb2.mono (Aa HB1).size));have HR2:=Ab (Kh (Aa HR1) hb2);have hk:=(hb2.block w1.heap.size (by simp;omega)).trans (Aa HE);have p0:w2.cell? ⟨w1.heap.size,0,none⟩=some (.int .u8 x0):=cell_of hk 0 _ rfl;have p1:w2.cell? ⟨w1.heap.size,1,none⟩=some (.int .i64 x1):=cell_of hk 1 _ rfl;have p2:w2.cell? ⟨w1.heap.size,2,none⟩=some (.slice ea en ec):=cell_of hk 2 _ rfl;have hl2:=lt_of_block hk;have HC:=Ab ((Aa HW) w2 _ _ _ _ (Aa HR2) (Aa HB2));clear hown hb2 hk HE HR1 HB1 HBB;generalize str (AF p)=S2' at *;go_wp2_with fail
 refine(Aa HC).mono ?_;rintro e w3 ⟨⟨h0,rfl⟩|⟨h0,rfl⟩,hb3⟩
 ·have HB3:=Ab ((Aa HB2).trans (hb3.mono (Aa HB2).size));have hsum:=(Aa HSUM) w3;clear hb3;have H0:=Ab h0;clear h0;go_wp2;go_returns;exact⟨Or.inl ⟨Aa H0,rfl⟩,Aa HB3⟩
 ·have HB3:=Ab ((Aa HB2).trans (hb3.mono (Aa HB2).size));have H0:=Ab h0;clear h0 hb3;go_wp2;exact⟨rfl,Or.inr ⟨Aa H0,rfl⟩,Aa HB3⟩
end Go.Proofs.YtblomippkddgiaaGreatDoor
namespace Go.Proofs.YtblomippkddgiaaGreatDoor.V
def C8(s:ByteArray)(v:List It):Option (List UInt8):=match Dk (nx s) (s.size+1) 0 v with
 |some (ks,[])=>some (bytesOf ks v)
 |_=>none
theorem NQ(s:ByteArray)(hc:(Pt.GX (nx s) s.size).1=0)(v:List It)(hb:∀out,C8 s v=some out->out.length<=70):(match C8 s v with|some out=>C3 s v=(0,out)|none=>¬(C3 s v).1=0):=by
 have hmr:C3 s v=Ht (Dk (nx s) (s.size+1) 0 v) v:=by simp[C3,hc]
 rw[hmr];unfold C8 at hb ⊢;cases he:Dk (nx s) (s.size+1) 0 v with
 |none=>simp[Ht]
 |some x=>
  obtain⟨ks,r⟩:=x;rw[he]at hb;cases r with
  |cons y r=>simp[Ht]
  |nil=>
   have:=hb _ rfl;simp[Ht,this]
theorem I4{g:Nat->Nat}{f p:Nat}{v r:List It}{ks:List Bool}(h:Dk g (f+1) p v=some (ks,r))(h97:g p≠97)(h114:g p≠114)(h115:g p≠115)(h117:g p≠117)(h113:g p≠113):ks=[false]:=by
 unfold Dk AA at h;rw[if_neg h97,if_neg h114]at h;cases v with
 |nil=>cases h
 |cons x v=>
  simp only at h;rw[if_neg h115]at h;split at h
  ·cases h
  ·rename_i k0 qs r0 hh;split at hh
   ·cases hh;simp only[AX,BZ]at h;cases h;rfl
   ·cases hh
theorem Wm{g:Nat->Nat}{f p:Nat}{v r:List It}{ks:List Bool}(h:Dk g (f+1) p v=some (ks,r))(h115:g p=115):ks=[true]/\∃x,v=x :: r/\x.2.size<=14:=by
 unfold Dk AA at h;rw[if_neg (by omega),if_neg (by omega)]at h;cases v with
 |nil=>cases h
 |cons x v=>
  simp only at h;rw[if_pos h115]at h;split at h
  ·cases h
  ·rename_i k0 qs r0 hh;split at hh
   ·rename_i hx;cases hh;simp only[AX,BZ]at h;cases h;exact⟨rfl,x,rfl,hx.2⟩
   ·cases hh
theorem ML{E:Nat->List It->Ck}{q:Nat}(hE:∀v ks r,E q v=some (ks,r)->ks=[false]):∀(k:Nat) (v r:List It) (ks:List Bool),AX E (List.replicate k q) v=some (ks,r)->ks=List.replicate k false
 |0,v,r,ks,h=>by
  simp only[List.replicate_zero,AX]at h;cases h;rfl
 |k+1,v,r,ks,h=>by
  rw[List.replicate_succ,AX]at h;cases he:E q v with
  |none=>rw[he]at h;cases h
  |some x=>
   obtain⟨k1,r1⟩:=x;rw[he]at h;simp only at h;cases hs:AX E (List.replicate k q) r1 with
   |none=>rw[hs]at h;cases h
   |some y=>
    obtain⟨k2,r2⟩:=y;rw[hs]at h;simp only[BZ]at h;cases h;rw[hE v k1 r1 he,ML hE k r1 _ _ hs,List.replicate_succ];rfl
theorem Gh:∀(k:Nat) (v:List It),(bytesOf (List.replicate k false) v).length<=2*k
 |0,v=>by simp[bytesOf]
 |k+1,[]=>by simp[List.replicate_succ,bytesOf]
 |k+1,x :: v=>by
  have:=Gh k v;rw[List.replicate_succ,bytesOf,List.length_append];simp only[G6,AF];simp;omega
theorem DL{s:ByteArray}{v:List It}{out:List UInt8}(h:C8 s v=some out)(h97:nx s 0≠97)(h114:nx s 0≠114)(h115:nx s 0≠115)(h117:nx s 0≠117)(h113:nx s 0≠113):out.length<=70:=by
 unfold C8 at h;split at h
 ·rename_i ks he;cases h;rw[I4 he h97 h114 h115 h117 h113];have:=Gh 1 v;simp only[List.replicate_one]at this;omega
 ·cases h
theorem J5{s:ByteArray}{v:List It}{out:List UInt8}(h:C8 s v=some out)(h115:nx s 0=115):out.length<=70:=by
 unfold C8 at h;split at h
 ·rename_i ks he;cases h;obtain⟨h1,x,h2,h3⟩:=Wm he h115;rw[h1,h2];have e0:x.2.data.toList.length=x.2.size:=Array.length_toList;have e1:(if x.2.size % 2=1 then [(0:UInt8)] else []).length<=1:=by split<;>simp
  have e2:(bytesOf [true] (x :: [])).length=(AF x.2.size).length+(x.2.data.toList.length+(if x.2.size % 2=1 then [(0:UInt8)] else []).length):=by
   simp only[bytesOf,G6,if_true,List.append_nil,List.length_append]
  have e3:(AF x.2.size).length=2:=rfl;omega
 ·cases h
def EV:ByteArray:={data:=#[114,40,101,51,113,51,105,41]}
theorem QV:Pt.kids (nx EV) 8 0=[2,4]:=by decide +kernel
theorem Wj:nx EV 0=114/\nx EV 2=101/\nx EV 4=113/\nx EV 6=105:=by decide +kernel
theorem Wl:BF (nx EV) 7 4=3:=by decide +kernel
theorem I5{v:List It}{out:List UInt8}(h:C8 EV v=some out):out.length<=70:=by
 unfold C8 at h;obtain⟨a0,a2,a4,a6⟩:=Wj;split at h
 ·rename_i ks he;cases h;rw[show EV.size+1=8+1 from rfl]at he;unfold Dk AA at he;rw[if_neg (by omega),if_pos a0,QV]at he;simp only[AX]at he;cases h1:Dk (nx EV) 8 2 v with
  |none=>rw[h1]at he;cases he
  |some x1=>
   obtain⟨k1,r1⟩:=x1;rw[h1]at he;simp only at he;have e1:=I4 (f:=7) h1 (by omega) (by omega) (by omega) (by omega) (by omega);cases h2:Dk (nx EV) 8 4 r1 with
   |none=>rw[h2]at he;cases he
   |some x2=>
    obtain⟨k2,r2⟩:=x2;rw[h2]at he;simp only[BZ]at he;cases he;have e2:∃n,n<=4/\k2=List.replicate n false:=by
     rw[show (8:Nat)=7+1 from rfl]at h2;unfold Dk AA at h2;rw[if_neg (by omega),if_neg (by omega)]at h2;cases r1 with
     |nil=>cases h2
     |cons x r1=>
      simp only at h2;rw[if_neg (show ¬nx EV 4=115 by omega)]at h2;split at h2
      ·cases h2
      ·rename_i k0 qs r0 hh;split at hh
       ·rename_i hx;rw[if_neg (by omega)]at hh;cases hh;cases hs:AX (Dk (nx EV) 7) (List.replicate x.1.toNat 6) r1 with
        |none=>rw[hs]at h2;cases h2
        |some y=>
         obtain⟨k3,r3⟩:=y;rw[hs]at h2;simp only[BZ]at h2;cases h2;have e3:=ML (E:=Dk (nx EV) 7) (q:=6) (fun v ks r hq=>I4 (f:=6) hq (by omega) (by omega) (by omega) (by omega) (by omega)) x.1.toNat r1 _ _ hs;have hhi:=hx.2.2;rw[Wl]at hhi;exact⟨x.1.toNat+1,by omega,by rw[e3,List.replicate_succ];rfl⟩
       ·cases hh
    obtain⟨n,hn,e2⟩:=e2;subst e1 e2;have:=Gh (n+1) v;rw[List.replicate_succ]at this;simp only[List.append_nil,List.singleton_append,List.nil_append];omega
 ·cases h
theorem Rj{s:ByteArray}{v:List It}(hc:(Pt.GX (nx s) s.size).1=0)(hb:∀out,C8 s v=some out->out.length<=70)(h:¬(C3 s v).1=0):(C3 s v).1=4:=by
 have hm:C3 s v=Ht (Dk (nx s) (s.size+1) 0 v) v:=by unfold C3;rw[if_pos hc]
 rw[hm]at h ⊢;unfold C8 at hb;cases he:Dk (nx s) (s.size+1) 0 v with
 |none=>rfl
 |some x=>
  obtain⟨ks,r⟩:=x;rw[he]at h hb;cases r with
  |nil=>
   have:=hb _ rfl;have hn:¬70<(bytesOf ks v).length:=by omega
   simp[Ht,hn]at h
  |cons y r=>rfl
end Go.Proofs.YtblomippkddgiaaGreatDoor.V
namespace Go.Proofs.YtblomippkddgiaaGreatDoor
open Go.RowKit Go.Maps
theorem ZT(w:World):(zeroValue 3).run Tryz.prog w=.ok (.int .i64 0) w:=by kernel_rfl
theorem XA{u:Int}(h:-9223372036854775808<=u/\u<=9223372036854775807):(Lit.int .i64 u).wf=true:=by
 simp[Lit.wf,IntKind.min,IntKind.max,IntKind.bits,IntKind.signed];omega
section
variable {α:Type} {w:World} {k t:TypeId} {b n:Nat} {lit:α->Lit} {g:α->Option Int}
theorem Mp.look(h:Mp w k b lit g n)(K:Keyed Tryz.prog k)(ht:Tryz.prog.underlying t=some (.map k 3)){key:Value}{a:α}(hkey:keyOf Tryz.prog k key=some (lit a)):(Instr.lookup t (.map (some b)) key true).run Tryz.prog w=.ok (.tuple #[.int .i64 ((g a).getD 0),.bool (g a).isSome]) w:=by
 obtain⟨D,h1,h2,h3⟩:=h;obtain⟨v,ps,hrun,hv⟩:=h1.look_ok K ht (ZT w) (plainElem_int Tryz.underlying3 (XA (by omega))) hkey;obtain⟨c,rfl,hc,_⟩:=plainElem_int_inv Tryz.underlying3 hv;simp only[Prod.mk.injEq]at hc;rw[hrun,(h3 a).1];cases hg:g a with
 |some x=>
  have:=(h3 a).2 x hg;rw[hc.1]at this;cases this;rfl
 |none=>
  have hn:=(h3 a).1;rw[hg]at hn;have:=atKey_of_not_has hn (.lit (.int .i64 0));rw[hc.1]at this;cases this;rfl
theorem Mp.put(h:Mp w k b lit g n)(K:Keyed Tryz.prog k)(ht:Tryz.prog.underlying t=some (.map k 3))(hn:n<1000){key:Value}{a:α}(hkey:keyOf Tryz.prog k key=some (lit a))(hl:∀x y,lit x=lit y->x=y)(hil:WideAt.IsKeyLit (lit a)){v:Int}(hv:-9223372036854775808<=v/\v<=9223372036854775807)(g':α->Option Int)(hg':∀x,(x=a->g' x=some v)/\(¬x=a->g' x=g x)):
  ∃w',(Instr.mapUpdate t (.map (some b)) key (.int .i64 v)).run Tryz.prog w=.ok () w'/\Mp w' k b lit g' (if (g a).isSome then n else n+1)/\w.mapTurned w' b:=by
 obtain⟨D,h1,h2,h3⟩:=h;obtain⟨w',hrun,h4,h5⟩:=h1.store K ht (by unfold maxLen;omega) hkey (plainElem_int Tryz.underlying3 (XA hv));have hs:=size_put (k:=lit a) (h1.tidy K) (.lit (.int .i64 v));rw[(h3 a).1,h2]at hs;refine⟨w',hrun,⟨_,?_,hs,fun x=>?_⟩,h5⟩
 ·obtain⟨es,cl,q1,q2,q3,q4⟩:=h4;refine⟨es,cl,q1,q2,?_,q4⟩;rw[<-hs,q4];simp[Maps.size,length_sorted]
 ·by_cases hx:x=a
  ·subst hx;rw[(hg' x).1 rfl];refine⟨has_put_same h1.isMap hil _,fun y hy=>?_⟩;cases hy;exact atKey_put_same h1.isMap hil _ _
  ·have hne:lit x≠lit a:=fun e=>hx (hl _ _ e)
   rw[(hg' x).2 hx,has_put_other hne];refine⟨(h3 x).1,fun y hy=>?_⟩;rw[atKey_put_other hne];exact(h3 x).2 y hy
theorem Mp.len(h:Mp w k b lit g n)(ht:Tryz.prog.underlying t=some (.map k 3))(ty:TypeId):(Builtin.len_ #[t] ty #[.map (some b)]).run Tryz.prog w=.ok (.int .i64 (n:Int)) w:=by
 obtain⟨D,h1,h2,h3⟩:=h;rw[h1.len ht ty,h2]
end
theorem Mp.made(w:World)(k:TypeId){α:Type}(lit:α->Lit):Mp (w.alloc (.map #[] 0)) k w.heap.size lit (fun _=>none) 0:=
 ⟨.map [],World.ownsMap_made w _ _ _,rfl,fun _=>⟨rfl,fun _ h=>by cases h⟩⟩
theorem Un{w:World}{b n:Nat}{g:Int->Option Int}(h:Mp w 3 b KY g n){u:Int}(hu:-9223372036854775808<=u/\u<=9223372036854775807):(Instr.lookup 131 (.map (some b)) (.int .i64 u) true).run Tryz.prog w=.ok (.tuple #[.int .i64 ((g u).getD 0),.bool (g u).isSome]) w:=
 h.look (int_keyed Tryz.underlying3) Tryz.underlying131 (keyOf_int_mk Tryz.underlying3 (XA hu))
theorem EX{w:World}{b n:Nat}{g:List UInt8->Option Int}(h:Mp w 9 b G9 g n){s:List UInt8}(hs:s.length<=maxLen):(Instr.lookup 159 (.map (some b)) (.string (str s)) true).run Tryz.prog w=.ok (.tuple #[.int .i64 ((g s).getD 0),.bool (g s).isSome]) w:=
 h.look (string_keyed Tryz.underlying9) Tryz.underlying159 (by rw[Go.WideMaps.keyOf_string_mk Tryz.underlying9 (by rw[Au];exact hs)])
theorem Xa{w:World}{b n:Nat}{g:Int->Option Int}(h:Mp w 3 b KY g n)(hn:n<1000){u v:Int}(hu:-9223372036854775808<=u/\u<=9223372036854775807)(hv:-9223372036854775808<=v/\v<=9223372036854775807)(g':Int->Option Int)(hg':∀x,(x=u->g' x=some v)/\(¬x=u->g' x=g x)):
  ∃w',(Instr.mapUpdate 131 (.map (some b)) (.int .i64 u) (.int .i64 v)).run Tryz.prog w=.ok () w'/\Mp w' 3 b KY g' (if (g u).isSome then n else n+1)/\w.mapTurned w' b:=
 h.put (int_keyed Tryz.underlying3) Tryz.underlying131 hn (keyOf_int_mk Tryz.underlying3 (XA hu)) (fun x y e=>by cases e;rfl) trivial hv g' hg'
theorem Qi{w:World}{b n:Nat}{g:List UInt8->Option Int}(h:Mp w 9 b G9 g n)(hn:n<1000){s:List UInt8}(hs:s.length<=maxLen){v:Int}(hv:-9223372036854775808<=v/\v<=9223372036854775807)(g':List UInt8->Option Int)(hg':∀x,(x=s->g' x=some v)/\(¬x=s->g' x=g x)):
  ∃w',(Instr.mapUpdate 159 (.map (some b)) (.string (str s)) (.int .i64 v)).run Tryz.prog w=.ok () w'/\Mp w' 9 b G9 g' (if (g s).isSome then n else n+1)/\w.mapTurned w' b:=
 h.put (string_keyed Tryz.underlying9) Tryz.underlying159 hn (by rw[Go.WideMaps.keyOf_string_mk Tryz.underlying9 (by rw[Au];exact hs)]) (fun x y e=>by cases e;rfl) trivial hv g' hg'
theorem El{w w':World}{b:Nat}(h:w.mapTurned w' b):Ae (fun k=>k=b) w w':=by
 have hg:=h.grown;exact⟨hg.os,hg.tape,hg.output,hg.size,fun k hk hne=>hg.block k hk (fun e=>hne (by cases e;rfl))⟩
end Go.Proofs.YtblomippkddgiaaGreatDoor
