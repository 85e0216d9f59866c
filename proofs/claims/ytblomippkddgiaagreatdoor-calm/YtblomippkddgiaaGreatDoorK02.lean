import Derived.Test.YtblomippkddgiaaGreatDoorK01
import Derived.Laws.AppendOwnNone
set_option maxHeartbeats 1000000
namespace Go.Proofs.YtblomippkddgiaaGreatDoor.V
open Go.RowKit
def Bl(g:Nat->Nat)(p:Nat):Int:=if g p=101\/g p=97\/g p=113 then (g (p+1):Int)-48 else 0
def Mj(w:World)(S:Nat->Prop)(v:Value)(n:Nat)(xs:List Value):Prop:=w.ownsRow 0 153 3 v n xs/\∀k,v.ownBlock=some k->S k
def EN(w:World)(S:Nat->Prop)(g:Nat->Nat):Nat->Nat->Value->Value->Value->Prop
 |0,_,_,_,_=>False
 |f+1,p,c0,c1,c2=>c0=.int .u8 (g p)/\c1=.int .i64 (Bl g p)/\∃xs:List Value,Mj w S c2 (Pt.kids g f p).length xs /\
   ∀(i q:Nat),(Pt.kids g f p)[i]?=some q->∃d0 d1 d2,xs[3*i]?=some d0/\xs[3*i+1]?=some d1/\xs[3*i+2]?=some d2/\EN w S g f q d0 d1 d2
structure Ce(S:Nat->Prop)(w w':World):Prop where
 size:w.heap.size<=w'.heap.size
 block:∀k,S k->k<w.heap.size->w'.heap[k]?=w.heap[k]?
theorem Ce.refl(S:Nat->Prop)(w:World):Ce S w w:=⟨Nat.le_refl _,fun _ _ _=>rfl⟩
theorem Ce.trans{S:Nat->Prop}{u v w:World}(h:Ce S u v)(k:Ce S v w):Ce S u w:=
 ⟨Nat.le_trans h.size k.size,fun i hb hi=>(k.block i hb (Nat.lt_of_lt_of_le hi h.size)).trans (h.block i hb hi)⟩
theorem Ce.alloc{S:Nat->Prop}{u v:World}(h:Ce S u v)(o:Obj):Ce S u (v.alloc o):=
 h.trans ⟨by simp,fun k _ hk=>Below.heap_alloc _ _ _ hk⟩
theorem Ce.setCell{S:Nat->Prop}{u v:World}(h:Ce S u v){a:Addr}(ha:¬S a.block)(x:Value):Ce S u (v.setCell a x):=
 h.trans ⟨by simp[World.setCell],fun k hb _=>Below.heap_setCell _ _ _ _ (fun e=>ha (e ▸ hb))⟩
theorem Af.above{b:Nat}{S:Nat->Prop}{u v:World}(h:Af b u v)(hb:¬S b):Ce S u v:=⟨h.size,fun k hk hl=>h.block k hl (fun e=>hb (e ▸ hk))⟩
theorem lt_of_block{w:World}{k:Nat}{o:Obj}(h:w.heap[k]?=some o):k<w.heap.size:=by
 rcases Nat.lt_or_ge k w.heap.size with hh|hh
 ·exact hh
 ·rw[Array.getElem?_eq_none hh]at h;cases h
theorem Gw{S:Nat->Prop}{n:Nat}{v:Value}{xs:List Value}{w w':World}(h:Mj w S v n xs)(hk:Ce S w w'):Mj w' S v n xs:=by
 obtain⟨⟨hl,h⟩,hS⟩:=h;refine⟨⟨hl,?_⟩,hS⟩;rcases h with h|⟨g,cap,cur,hv,hg,hh,r⟩
 ·exact Or.inl h
 ·refine Or.inr ⟨g,cap,cur,hv,hg,?_,r⟩;rw[hk.block g (hS g (by rw[hv];rfl)) (lt_of_block hh)];exact hh
theorem Il{S S':Nat->Prop}{n:Nat}{v:Value}{xs:List Value}{w:World}(h:Mj w S v n xs)(hb:∀k,S k->k<w.heap.size->S' k):Mj w S' v n xs:=by
 refine⟨h.1,fun k hk=>hb k (h.2 k hk) ?_⟩;obtain⟨⟨_,h⟩,_⟩:=h;rcases h with ⟨hv,_⟩|⟨g,cap,cur,hv,hg,hh,r⟩
 ·rw[hv]at hk;cases hk
 ·rw[hv]at hk;cases hk;exact lt_of_block hh
theorem Lx{m:Nat}{d0 d1 d2:Value}(X:World)(hm:X.heap.size=m):Mj (X.alloc (.cells #[d0,d1,d2] 153)) (fun k=>k=m) (.slice (some ⟨m,0,none⟩) 1 1) 1 [d0,d1,d2]:=by
 subst hm;refine⟨⟨rfl,Or.inr ⟨_,_,#[d0,d1,d2],rfl,Nat.zero_le _,?_,Nat.le_refl _,by decide,rfl,rfl⟩⟩,fun k hk=>by cases hk;rfl⟩;show (X.heap.push _)[X.heap.size]?=_;rw[Array.getElem?_push_size]
theorem Bo{S:Nat->Prop}{g:Nat->Nat}{w w':World}(hk:Ce S w w'):∀{f p:Nat} {c0 c1 c2:Value},EN w S g f p c0 c1 c2->EN w' S g f p c0 c1 c2:=by
 intro f;induction f with
 |zero=>intro p c0 c1 c2 h;exact h
 |succ f ih=>
  intro p c0 c1 c2 h;obtain⟨h0,h1,xs,ho,hi⟩:=h;refine⟨h0,h1,xs,Gw ho hk,fun i q hq=>?_⟩;obtain⟨d0,d1,d2,a0,a1,a2,hr⟩:=hi i q hq;exact⟨d0,d1,d2,a0,a1,a2,ih hr⟩
theorem Dv{S S':Nat->Prop}{g:Nat->Nat}{w:World}(hb:∀k,S k->k<w.heap.size->S' k):∀{f p:Nat} {c0 c1 c2:Value},EN w S g f p c0 c1 c2->EN w S' g f p c0 c1 c2:=by
 intro f;induction f with
 |zero=>intro p c0 c1 c2 h;exact h
 |succ f ih=>
  intro p c0 c1 c2 h;obtain⟨h0,h1,xs,ho,hi⟩:=h;refine⟨h0,h1,xs,Il ho hb,fun i q hq=>?_⟩;obtain⟨d0,d1,d2,a0,a1,a2,hr⟩:=hi i q hq;exact⟨d0,d1,d2,a0,a1,a2,ih hr⟩
theorem XD(w:World)(S:Nat->Prop):Mj w S (.slice none 0 0) 0 []:=⟨World.ownsRow_nil _ _ _ _,fun k hk=>by cases hk⟩
theorem Qd{w:World}{S:Nat->Prop}{f p:Nat}{g:Nat->Nat}{c0 c1:Value}(hk:Pt.kids g f p=[])(h0:c0=.int .u8 (g p))(h1:c1=.int .i64 (Bl g p)):EN w S g (f+1) p c0 c1 (.slice none 0 0):=by
 refine⟨h0,h1,[],?_,?_⟩
 ·rw[hk];exact XD _ _
 ·intro i q hq;rw[hk]at hq;simp at hq
theorem ab4{b:Nat}{W w1:World}(hb:Af b W w1):(∀k o,k<W.heap.size->¬k=b->w1.cell? ⟨k,o,none⟩=W.cell? ⟨k,o,none⟩)/\(∀k o,k<W.heap.size->¬k=b->w1.frozen? ⟨k,o,none⟩=W.frozen? ⟨k,o,none⟩):=
 ⟨fun k o h hn=>hb.cell (p:=⟨k,o,none⟩) h hn,fun k o h hn=>hb.frozen (p:=⟨k,o,none⟩) h hn⟩
theorem At.other{w:World}{b p:Nat}{s:ByteArray}(h:At w b s p){a:Addr}(ha:¬a.block=b)(x:Value):At (w.setCell a x) b s p:=by
 unfold At at h ⊢;rw[Below.heap_setCell _ _ _ _ (fun e=>ha e.symm)];exact h
def CZ(b:Nat)(s:ByteArray)(f p:Nat)(w:World)(e:Ending)(w':World):Prop:=
 if (Pt.ty (nx s) f p).1 then ∃c0 c1 c2,e=.returned (.agg #[c0,c1,c2])/\Af b w w'/\At w' b s (Pt.ty (nx s) f p).2/\EN w' (fun k=>w.heap.size<=k) (nx s) f p c0 c1 c2
 else e=BB (Pt.ty (nx s) f p).2/\Af b w w'
abbrev Bj:Obj:=.cells #[.int .u8 0,.int .i64 0,.slice none 0 0] 153
theorem Xu(b p:Nat)(s:ByteArray)(w:World)(c:Nat)(h:At w b s p)(hp:p<=s.size)(hs:s.size<=40)(hx:nx s p=c)(hc:c=98\/c=99\/c=105\/c=115):
  Calls Tryz.prog 128 #[.pointer (some ⟨b,0,none⟩)] w fun e w'=>e=.returned (.agg #[.int .u8 c,.int .i64 0,.slice none 0 0])/\Af b w w'/\At w' b s (p+1):=by
 have hlt:=h.lt;have HL:=Ck b p s (w.alloc Bj) c (h.alloc _) hp hs hx (by omega);clear hx h;have hne:¬w.heap.size=b:=by omega
 rcases hc with rfl|rfl|rfl|rfl;all_goals
  go_enter Tryz.func128,Tryz.ntmps128;go_wp2_with fail
  refine HL.mono ?_;rintro e w1 ⟨rfl,hk,ha⟩;obtain⟨hc,hf⟩:=ab4 hk;have hz:w.heap.size<w1.heap.size:=by have:=hk.size;simp at this;omega
  clear HL;go_wp2;refine bodyPost_ret (v:=.agg #[.int .u8 _,.int .i64 0,.slice none 0 0]) (by simp[results,Tryz.results128,go_sem,hc,hz,hne]) rfl ⟨rfl,?_,?_⟩
  ·refine Af.alloc ?_ _;have hk0:=((Af.refl b w).alloc Bj).trans hk;repeat (first|exact hk0|refine Af.setCell ?_ (by simp) _)
  ·refine At.alloc ?_ _;repeat (first|exact ha|refine At.other ?_ (by simpa using hne) _)
theorem Zx(b p:Nat)(s:ByteArray)(w:World)(c:Nat)(h:At w b s p)(hp:p<=s.size)(hs:s.size<=40)(hx:nx s p=c)(hc:¬(c=98\/c=99\/c=105\/c=115\/c=101\/c=97\/c=113\/c=114\/c=117)):
  Calls Tryz.prog 128 #[.pointer (some ⟨b,0,none⟩)] w fun e w'=>e=BB p/\Af b w w':=by
 have HL:=UC b p s (w.alloc Bj) c (h.alloc _) hp hs hx hc;clear hx h hc;go_enter Tryz.func128,Tryz.ntmps128;go_wp2_with fail
 refine HL.mono ?_;rintro e w1 ⟨rfl,hk⟩;clear HL;go_wp2;exact⟨rfl,rfl,((Af.refl b w).alloc Bj).trans hk⟩
def Fe(w:World)(k:Nat)(a0 a1 a2:Value):Prop:=w.heap[k]?=some (.cells #[a0,a1,a2] 153 (0,0))
theorem Fe.facts{w:World}{k:Nat}{a0 a1 a2:Value}(h:Fe w k a0 a1 a2):
  w.cell? ⟨k,0,none⟩=some a0/\w.cell? ⟨k,1,none⟩=some a1/\w.cell? ⟨k,2,none⟩=some a2/\w.frozen? ⟨k,0,none⟩=false/\w.frozen? ⟨k,1,none⟩=false/\w.frozen? ⟨k,2,none⟩=false:=by
 unfold Fe at h;simp[World.cell?,World.frozen?,h]
theorem Fe.new(w:World)(a0 a1 a2:Value):Fe (w.alloc (.cells #[a0,a1,a2] 153)) w.heap.size a0 a1 a2:=by
 show (w.heap.push _)[w.heap.size]?=_;rw[Array.getElem?_push_size]
theorem Fe.lt{w:World}{k:Nat}{a0 a1 a2:Value}(h:Fe w k a0 a1 a2):k<w.heap.size:=by
 unfold Fe at h;rcases Nat.lt_or_ge k w.heap.size with hh|hh
 ·exact hh
 ·rw[Array.getElem?_eq_none hh]at h;cases h
theorem Fe.keeps{b:Nat}{w w':World}{k:Nat}{a0 a1 a2:Value}(h:Fe w k a0 a1 a2)(hk:Af b w w')(hb:k≠b):Fe w' k a0 a1 a2:=by
 have hl:=h.lt;unfold Fe at h ⊢;rw[hk.block k hl hb];exact h
theorem Fe.alloc{w:World}{k:Nat}{a0 a1 a2:Value}(h:Fe w k a0 a1 a2)(o:Obj):Fe (w.alloc o) k a0 a1 a2:=by
 have hl:=h.lt;unfold Fe at h ⊢;rw[Below.heap_alloc w o k hl];exact h
theorem Fe.set1{w:World}{k:Nat}{a0 a1 a2:Value}(h:Fe w k a0 a1 a2)(x:Value):Fe (w.setCell ⟨k,1,none⟩ x) k a0 x a2:=by
 unfold Fe at h ⊢;simp only[World.setCell,Array.getElem?_modify,h];simp
theorem Fe.other{w:World}{k:Nat}{a0 a1 a2:Value}(h:Fe w k a0 a1 a2){a:Addr}(ha:¬a.block=k)(x:Value):Fe (w.setCell a x) k a0 a1 a2:=by
 unfold Fe at h ⊢;rw[Below.heap_setCell _ _ _ _ (fun e=>ha e.symm)];exact h
theorem acf(b p:Nat)(s:ByteArray)(w:World)(h:At w b s p)(hp:p<s.size)(hs:s.size<=40)(hx:nx s p=101)(hd:49<=nx s (p+1)/\nx s (p+1)<=57):
  Calls Tryz.prog 128 #[.pointer (some ⟨b,0,none⟩)] w fun e w'=>e=.returned (.agg #[.int .u8 101,.int .i64 ((nx s (p+1):Int)-48),.slice none 0 0])/\Af b w w'/\At w' b s (p+2):=by
 have hlt:=h.lt;have HL:=Ck b p s (w.alloc Bj) 101 (h.alloc _) (by omega) hs hx (by omega);clear hx h;have hne:¬w.heap.size=b:=by omega
 generalize hc2:nx s (p+1)=c2 at *;have HC2:Hid (nx s (p+1)=c2):=hc2;clear hc2;go_enter Tryz.func128,Tryz.ntmps128;go_wp2_with fail
 refine HL.mono ?_;rintro e w1 ⟨rfl,hk,ha⟩;have T:=(Fe.new w (.int .u8 0) (.int .i64 0) (.slice none 0 0)).keeps hk hne;have hz:w.heap.size<w1.heap.size:=T.lt;have hb1:¬w1.heap.size=b:=by have:=ha.lt;omega
 have hmm:¬w.heap.size=w1.heap.size:=by omega
 clear HL;go_wp2_with fail
 refine(G9 b (p+1) s _ c2 1 (ha.alloc _) (by omega) hs HC2.out (by omega)).mono ?_;rintro e w2 ⟨rfl,hk2,ha2⟩;have T1:=(Fe.new w1 (.int .u8 101) (.int .i64 0) (.slice none 0 0)).keeps hk2 hb1;have T2:=(T.alloc (.cells #[.int .u8 101,.int .i64 0,.slice none 0 0] 153)).keeps hk2 hne;have hk0:=(((Af.refl b w).alloc Bj).trans hk).trans (((Af.refl b w1).alloc _).trans hk2);obtain⟨x0,x1,x2,y0,y1,y2⟩:=T1.facts;obtain⟨u0,u1,u2,v0,v1,v2⟩:=T2.facts;clear T hk hk2 ha T1 T2;go_wp2;refine bodyPost_ret (v:=.agg #[.int .u8 101,.int .i64 ((c2:Int)-48),.slice none 0 0]) (by simp[results,Tryz.results128,go_sem,u0,u1,u2]) rfl ⟨rfl,?_,?_⟩
 ·repeat (first|exact hk0|refine Af.setCell ?_ (by simp;try omega) _)
 ·repeat (first|exact ha2|refine At.other ?_ (by first|simpa using hne|simpa using hb1) _)
theorem Ab{p:Prop}(h:p):Hid p:=h
theorem Aa{p:Prop}(h:Hid p):p:=h
def Kids(w:World)(S:Nat->Prop)(g:Nat->Nat)(f:Nat)(ks:List Nat)(v:Value):Prop:=∃xs:List Value,Mj w S v ks.length xs /\
   ∀(i q:Nat),ks[i]?=some q->∃d0 d1 d2,xs[3*i]?=some d0/\xs[3*i+1]?=some d1/\xs[3*i+2]?=some d2/\EN w S g f q d0 d1 d2
theorem Ob{w:World}{S:Nat->Prop}{f p:Nat}{g:Nat->Nat}{c0 c1 v:Value}(h0:c0=.int .u8 (g p))(h1:c1=.int .i64 (Bl g p))(hk:Kids w S g f (Pt.kids g f p) v):EN w S g (f+1) p c0 c1 v:=⟨h0,h1,hk⟩
theorem Lj{w w':World}{S:Nat->Prop}{f:Nat}{g:Nat->Nat}{ks:List Nat}{v:Value}(h:Kids w S g f ks v)(hk:Ce S w w'):Kids w' S g f ks v:=by
 obtain⟨xs,ho,hi⟩:=h;refine⟨xs,Gw ho hk,fun i q hq=>?_⟩;obtain⟨d0,d1,d2,a0,a1,a2,hr⟩:=hi i q hq;exact⟨d0,d1,d2,a0,a1,a2,Bo hk hr⟩
theorem M1{w:World}{S S':Nat->Prop}{f:Nat}{g:Nat->Nat}{ks:List Nat}{v:Value}(h:Kids w S g f ks v)(hb:∀k,S k->k<w.heap.size->S' k):Kids w S' g f ks v:=by
 obtain⟨xs,ho,hi⟩:=h;refine⟨xs,Il ho hb,fun i q hq=>?_⟩;obtain⟨d0,d1,d2,a0,a1,a2,hr⟩:=hi i q hq;exact⟨d0,d1,d2,a0,a1,a2,Dv hb hr⟩
theorem Ps{w:World}{S:Nat->Prop}{f q:Nat}{g:Nat->Nat}{v d0 d1 d2:Value}(ho:Mj w S v 1 [d0,d1,d2])(hr:EN w S g f q d0 d1 d2):Kids w S g f [q] v:=by
 refine⟨[d0,d1,d2],ho,fun i q' hq=>?_⟩;match i,hq with
 |0,hq=>
  simp at hq;subst hq;exact⟨d0,d1,d2,rfl,rfl,rfl,hr⟩
theorem Xr(b p:Nat)(s:ByteArray)(w:World)(h:At w b s p)(hp:p<s.size)(hs:s.size<=40)(hx:nx s p=101)(hd:¬(48+1<=nx s (p+1)/\nx s (p+1)<=57)):
  Calls Tryz.prog 128 #[.pointer (some ⟨b,0,none⟩)] w fun e w'=>e=BB (p+1)/\Af b w w':=by
 have HL:=Ck b p s (w.alloc Bj) 101 (h.alloc _) (by omega) hs hx (by omega);clear hx h;have HD:Hid (¬(48+1<=nx s (p+1)/\nx s (p+1)<=57)):=hd;clear hd;go_enter Tryz.func128,Tryz.ntmps128;go_wp2_with fail
 refine HL.mono ?_;rintro e w1 ⟨rfl,hk,ha⟩;clear HL;go_wp2_with fail
 refine(La b (p+1) s _ _ 1 (ha.alloc _) (by omega) hs rfl HD.out).mono ?_;rintro e w2 ⟨rfl,hk2⟩;go_wp2;exact⟨rfl,rfl,(((Af.refl b w).alloc Bj).trans hk).trans (((Af.refl b w1).alloc _).trans hk2)⟩
theorem Xp(b p:Nat)(s:ByteArray)(w:World)(h:At w b s p)(hp:p<s.size)(hs:s.size<=40)(hx:nx s p=97)(hd:¬(48+1<=nx s (p+1)/\nx s (p+1)<=57)):
  Calls Tryz.prog 128 #[.pointer (some ⟨b,0,none⟩)] w fun e w'=>e=BB (p+1)/\Af b w w':=by
 have HL:=Ck b p s (w.alloc Bj) 97 (h.alloc _) (by omega) hs hx (by omega);clear hx h;have HD:Hid (¬(48+1<=nx s (p+1)/\nx s (p+1)<=57)):=hd;clear hd;go_enter Tryz.func128,Tryz.ntmps128;go_wp2_with fail
 refine HL.mono ?_;rintro e w1 ⟨rfl,hk,ha⟩;clear HL;go_wp2_with fail
 refine(La b (p+1) s _ _ 1 (ha.alloc _) (by omega) hs rfl HD.out).mono ?_;rintro e w2 ⟨rfl,hk2⟩;go_wp2;exact⟨rfl,rfl,(((Af.refl b w).alloc Bj).trans hk).trans (((Af.refl b w1).alloc _).trans hk2)⟩
theorem Xy(b p:Nat)(s:ByteArray)(w:World)(h:At w b s p)(hp:p<s.size)(hs:s.size<=40)(hx:nx s p=113)(hd:¬(48+0<=nx s (p+1)/\nx s (p+1)<=57)):
  Calls Tryz.prog 128 #[.pointer (some ⟨b,0,none⟩)] w fun e w'=>e=BB (p+1)/\Af b w w':=by
 have HL:=Ck b p s (w.alloc Bj) 113 (h.alloc _) (by omega) hs hx (by omega);clear hx h;have HD:Hid (¬(48+0<=nx s (p+1)/\nx s (p+1)<=57)):=hd;clear hd;go_enter Tryz.func128,Tryz.ntmps128;go_wp2_with fail
 refine HL.mono ?_;rintro e w1 ⟨rfl,hk,ha⟩;clear HL;go_wp2_with fail
 refine(La b (p+1) s _ _ 0 (ha.alloc _) (by omega) hs rfl HD.out).mono ?_;rintro e w2 ⟨rfl,hk2⟩;go_wp2;exact⟨rfl,rfl,(((Af.refl b w).alloc Bj).trans hk).trans (((Af.refl b w1).alloc _).trans hk2)⟩
theorem Xo(b p:Nat)(s:ByteArray)(w:World)(q:Nat)(h:At w b s p)(hp:p<s.size)(hs:s.size<=40)(hx:nx s p=97)(hd:48+1<=nx s (p+1)/\nx s (p+1)<=57)
  (hch:∀w,At w b s (p+2)->Calls Tryz.prog 128 #[.pointer (some ⟨b,0,none⟩)] w fun e w'=>e=BB q/\Af b w w'):
  Calls Tryz.prog 128 #[.pointer (some ⟨b,0,none⟩)] w fun e w'=>e=BB q/\Af b w w':=by
 have hlt:=h.lt;have HL:=Ck b p s (w.alloc Bj) 97 (h.alloc _) (by omega) hs hx (by omega);clear h;have HXC:Hid (nx s p=97):=hx;clear hx;have hne:¬w.heap.size=b:=by omega
 have HD:Hid (48+1<=nx s (p+1)/\nx s (p+1)<=57):=hd;clear hd;have HC:=Ab hch;clear hch;go_enter Tryz.func128,Tryz.ntmps128;go_wp2_with fail
 refine HL.mono ?_;rintro e w1 ⟨rfl,hk,ha⟩;have T:=(Fe.new w (.int .u8 0) (.int .i64 0) (.slice none 0 0)).keeps hk hne;have hz:w.heap.size<w1.heap.size:=T.lt;have hb1:¬w1.heap.size=b:=by have:=ha.lt;omega
 have hmm:¬w.heap.size=w1.heap.size:=by omega
 clear HL;go_wp2_with fail
 refine(G9 b (p+1) s _ _ 1 (ha.alloc _) (by omega) hs rfl HD.out).mono ?_;rintro e w2 ⟨rfl,hk2,ha2⟩;have T1:=(Fe.new w1 (.int .u8 97) (.int .i64 0) (.slice none 0 0)).keeps hk2 hb1;have T2:=(T.alloc (.cells #[.int .u8 97,.int .i64 0,.slice none 0 0] 153)).keeps hk2 hne;have hk0:=(((Af.refl b w).alloc Bj).trans hk).trans (((Af.refl b w1).alloc _).trans hk2);obtain⟨c2,hc2⟩:∃c2:Int,c2=(nx s (p+1):Int)-48:=⟨_,rfl⟩;rw[<-hc2];have HC2:=Ab hc2;clear hc2;obtain⟨x0,x1,x2,y0,y1,y2⟩:=T1.facts;have hz2:=T1.lt;clear T hk hk2 ha;go_wp2_with fail
 refine((Aa HC) _ (ha2.other (by simpa using hb1) _)).mono ?_;rintro e w3 ⟨rfl,hk3⟩;go_wp2;exact⟨rfl,rfl,(hk0.setCell (by simp;omega) _).trans hk3⟩
theorem Xq(b p f:Nat)(s:ByteArray)(w:World)(q:Nat)(h:At w b s p)(hp:p<s.size)(hs:s.size<=40)(hx:nx s p=97)(hd:48+1<=nx s (p+1)/\nx s (p+1)<=57)
  (hch:∀w,At w b s (p+2)->Calls Tryz.prog 128 #[.pointer (some ⟨b,0,none⟩)] w fun e w'=>∃d0 d1 d2,e=.returned (.agg #[d0,d1,d2])/\Af b w w'/\At w' b s q/\EN w' (fun k=>w.heap.size<=k) (nx s) f (p+2) d0 d1 d2):
  Calls Tryz.prog 128 #[.pointer (some ⟨b,0,none⟩)] w fun e w'=>∃c0 c1 c2,e=.returned (.agg #[c0,c1,c2])/\Af b w w'/\At w' b s q/\EN w' (fun k=>w.heap.size<=k) (nx s) (f+1) p c0 c1 c2:=by
 have hlt:=h.lt;have HL:=Ck b p s (w.alloc Bj) 97 (h.alloc _) (by omega) hs hx (by omega);clear h;have HXC:Hid (nx s p=97):=hx;clear hx;have hne:¬w.heap.size=b:=by omega
 have HD:Hid (48+1<=nx s (p+1)/\nx s (p+1)<=57):=hd;clear hd;have HC:=Ab hch;clear hch;go_enter Tryz.func128,Tryz.ntmps128;go_wp2_with fail
 refine HL.mono ?_;rintro e w1 ⟨rfl,hk,ha⟩;have T:=(Fe.new w (.int .u8 0) (.int .i64 0) (.slice none 0 0)).keeps hk hne;have hz:w.heap.size<w1.heap.size:=T.lt;have hb1:¬w1.heap.size=b:=by have:=ha.lt;omega
 have hmm:¬w.heap.size=w1.heap.size:=by omega
 clear HL;go_wp2_with fail
 refine(G9 b (p+1) s _ _ 1 (ha.alloc _) (by omega) hs rfl HD.out).mono ?_;rintro e w2 ⟨rfl,hk2,ha2⟩;have T1:=(Fe.new w1 (.int .u8 97) (.int .i64 0) (.slice none 0 0)).keeps hk2 hb1;have T2:=(T.alloc (.cells #[.int .u8 97,.int .i64 0,.slice none 0 0] 153)).keeps hk2 hne;have hk0:=(((Af.refl b w).alloc Bj).trans hk).trans (((Af.refl b w1).alloc _).trans hk2);obtain⟨c2,hc2⟩:∃c2:Int,c2=(nx s (p+1):Int)-48:=⟨_,rfl⟩;rw[<-hc2];have HC2:=Ab hc2;clear hc2;obtain⟨x0,x1,x2,y0,y1,y2⟩:=T1.facts;have hz2:=T1.lt;clear T hk hk2 ha;go_wp2_with fail
 refine((Aa HC) _ (ha2.other (by simpa using hb1) _)).mono ?_;rintro e w3 ⟨d0,d1,d2,rfl,hk3,ha3,hr3⟩;have T3:=((T1.set1 (.int .i64 c2)).keeps hk3 hb1).alloc (.cells #[d0,d1,d2] 153);have T4:=((T2.other (a:=⟨w1.heap.size,1,none⟩) (by simp;omega) (.int .i64 c2)).keeps hk3 hne).alloc (.cells #[d0,d1,d2] 153);have hz3:w2.heap.size<=w3.heap.size:=by have:=hk3.size;simpa using this
 obtain⟨x0,x1,x2,y0,y1,y2⟩:=T3.facts;obtain⟨u0,u1,u2,v0,v1,v2⟩:=T4.facts;have hka:=(hk0.setCell (p:=⟨w1.heap.size,1,none⟩) (by simp;omega) (.int .i64 c2)).trans hk3;clear T1 T2 T3 T4 hk3 ha2;go_wp2;have hr3:EN w3 (fun k=>w2.heap.size<=k) (nx s) f (p+2) d0 d1 d2:=by simpa using hr3
 refine bodyPost_ret (v:=.agg #[.int .u8 97,.int .i64 c2,.slice (some ⟨w3.heap.size,0,none⟩) 1 1]) (by simp[results,Tryz.results128,go_sem,u0,u1,u2]) rfl ⟨_,_,_,rfl,?_,?_,?_⟩
 ·exact((((hka.alloc _).setCell (by simp;omega) _).setCell (by simp) _).setCell (by simp) _).setCell (by simp) _
 ·exact((((ha3.alloc _).other (by simpa using hb1) _).other (by simpa using hne) _).other (by simpa using hne) _).other (by simpa using hne) _
 ·refine Ob (by rw[HXC.out];rfl) (by rw[HC2.out];unfold Bl;rw[if_pos (by rw[HXC.out];omega)]) ?_;have hks:Pt.kids (nx s) f p=[p+2]:=by simp[Pt.kids,HXC.out]
  rw[hks];refine Ps (Il (Gw (Lx w3 rfl) ?_) (fun k hk _=>by omega)) (Dv (fun k hk _=>by omega) (Bo ?_ hr3))
  ·exact((((Ce.refl _ _).setCell (by simp;omega) _).setCell (by simp;omega) _).setCell (by simp;omega) _).setCell (by simp;omega) _
  ·exact(((((Ce.refl _ _).alloc _).setCell (by simp;omega) _).setCell (by simp;omega) _).setCell (by simp;omega) _).setCell (by simp;omega) _
theorem Xx(b p:Nat)(s:ByteArray)(w:World)(q:Nat)(h:At w b s p)(hp:p<s.size)(hs:s.size<=40)(hx:nx s p=113)(hd:48+0<=nx s (p+1)/\nx s (p+1)<=57)
  (hch:∀w,At w b s (p+2)->Calls Tryz.prog 128 #[.pointer (some ⟨b,0,none⟩)] w fun e w'=>e=BB q/\Af b w w'):
  Calls Tryz.prog 128 #[.pointer (some ⟨b,0,none⟩)] w fun e w'=>e=BB q/\Af b w w':=by
 have hlt:=h.lt;have HL:=Ck b p s (w.alloc Bj) 113 (h.alloc _) (by omega) hs hx (by omega);clear h;have HXC:Hid (nx s p=113):=hx;clear hx;have hne:¬w.heap.size=b:=by omega
 have HD:Hid (48+0<=nx s (p+1)/\nx s (p+1)<=57):=hd;clear hd;have HC:=Ab hch;clear hch;go_enter Tryz.func128,Tryz.ntmps128;go_wp2_with fail
 refine HL.mono ?_;rintro e w1 ⟨rfl,hk,ha⟩;have T:=(Fe.new w (.int .u8 0) (.int .i64 0) (.slice none 0 0)).keeps hk hne;have hz:w.heap.size<w1.heap.size:=T.lt;have hb1:¬w1.heap.size=b:=by have:=ha.lt;omega
 have hmm:¬w.heap.size=w1.heap.size:=by omega
 clear HL;go_wp2_with fail
 refine(G9 b (p+1) s _ _ 0 (ha.alloc _) (by omega) hs rfl HD.out).mono ?_;rintro e w2 ⟨rfl,hk2,ha2⟩;have T1:=(Fe.new w1 (.int .u8 113) (.int .i64 0) (.slice none 0 0)).keeps hk2 hb1;have T2:=(T.alloc (.cells #[.int .u8 113,.int .i64 0,.slice none 0 0] 153)).keeps hk2 hne;have hk0:=(((Af.refl b w).alloc Bj).trans hk).trans (((Af.refl b w1).alloc _).trans hk2);obtain⟨c2,hc2⟩:∃c2:Int,c2=(nx s (p+1):Int)-48:=⟨_,rfl⟩;rw[<-hc2];have HC2:=Ab hc2;clear hc2;obtain⟨x0,x1,x2,y0,y1,y2⟩:=T1.facts;have hz2:=T1.lt;clear T hk hk2 ha;go_wp2_with fail
 refine((Aa HC) _ (ha2.other (by simpa using hb1) _)).mono ?_;rintro e w3 ⟨rfl,hk3⟩;go_wp2;exact⟨rfl,rfl,(hk0.setCell (by simp;omega) _).trans hk3⟩
theorem Xz(b p f:Nat)(s:ByteArray)(w:World)(q:Nat)(h:At w b s p)(hp:p<s.size)(hs:s.size<=40)(hx:nx s p=113)(hd:48+0<=nx s (p+1)/\nx s (p+1)<=57)
  (hch:∀w,At w b s (p+2)->Calls Tryz.prog 128 #[.pointer (some ⟨b,0,none⟩)] w fun e w'=>∃d0 d1 d2,e=.returned (.agg #[d0,d1,d2])/\Af b w w'/\At w' b s q/\EN w' (fun k=>w.heap.size<=k) (nx s) f (p+2) d0 d1 d2):
  Calls Tryz.prog 128 #[.pointer (some ⟨b,0,none⟩)] w fun e w'=>∃c0 c1 c2,e=.returned (.agg #[c0,c1,c2])/\Af b w w'/\At w' b s q/\EN w' (fun k=>w.heap.size<=k) (nx s) (f+1) p c0 c1 c2:=by
 have hlt:=h.lt;have HL:=Ck b p s (w.alloc Bj) 113 (h.alloc _) (by omega) hs hx (by omega);clear h;have HXC:Hid (nx s p=113):=hx;clear hx;have hne:¬w.heap.size=b:=by omega
 have HD:Hid (48+0<=nx s (p+1)/\nx s (p+1)<=57):=hd;clear hd;have HC:=Ab hch;clear hch;go_enter Tryz.func128,Tryz.ntmps128;go_wp2_with fail
 refine HL.mono ?_;rintro e w1 ⟨rfl,hk,ha⟩;have T:=(Fe.new w (.int .u8 0) (.int .i64 0) (.slice none 0 0)).keeps hk hne;have hz:w.heap.size<w1.heap.size:=T.lt;have hb1:¬w1.heap.size=b:=by have:=ha.lt;omega
 have hmm:¬w.heap.size=w1.heap.size:=by omega
 clear HL;go_wp2_with fail
 refine(G9 b (p+1) s _ _ 0 (ha.alloc _) (by omega) hs rfl HD.out).mono ?_;rintro e w2 ⟨rfl,hk2,ha2⟩;have T1:=(Fe.new w1 (.int .u8 113) (.int .i64 0) (.slice none 0 0)).keeps hk2 hb1;have T2:=(T.alloc (.cells #[.int .u8 113,.int .i64 0,.slice none 0 0] 153)).keeps hk2 hne;have hk0:=(((Af.refl b w).alloc Bj).trans hk).trans (((Af.refl b w1).alloc _).trans hk2);obtain⟨c2,hc2⟩:∃c2:Int,c2=(nx s (p+1):Int)-48:=⟨_,rfl⟩;rw[<-hc2];have HC2:=Ab hc2;clear hc2;obtain⟨x0,x1,x2,y0,y1,y2⟩:=T1.facts;have hz2:=T1.lt;clear T hk hk2 ha;go_wp2_with fail
 refine((Aa HC) _ (ha2.other (by simpa using hb1) _)).mono ?_;rintro e w3 ⟨d0,d1,d2,rfl,hk3,ha3,hr3⟩;have T3:=((T1.set1 (.int .i64 c2)).keeps hk3 hb1).alloc (.cells #[d0,d1,d2] 153);have T4:=((T2.other (a:=⟨w1.heap.size,1,none⟩) (by simp;omega) (.int .i64 c2)).keeps hk3 hne).alloc (.cells #[d0,d1,d2] 153);have hz3:w2.heap.size<=w3.heap.size:=by have:=hk3.size;simpa using this
 obtain⟨x0,x1,x2,y0,y1,y2⟩:=T3.facts;obtain⟨u0,u1,u2,v0,v1,v2⟩:=T4.facts;have hka:=(hk0.setCell (p:=⟨w1.heap.size,1,none⟩) (by simp;omega) (.int .i64 c2)).trans hk3;clear T1 T2 T3 T4 hk3 ha2;go_wp2;have hr3:EN w3 (fun k=>w2.heap.size<=k) (nx s) f (p+2) d0 d1 d2:=by simpa using hr3
 refine bodyPost_ret (v:=.agg #[.int .u8 113,.int .i64 c2,.slice (some ⟨w3.heap.size,0,none⟩) 1 1]) (by simp[results,Tryz.results128,go_sem,u0,u1,u2]) rfl ⟨_,_,_,rfl,?_,?_,?_⟩
 ·exact((((hka.alloc _).setCell (by simp;omega) _).setCell (by simp) _).setCell (by simp) _).setCell (by simp) _
 ·exact((((ha3.alloc _).other (by simpa using hb1) _).other (by simpa using hne) _).other (by simpa using hne) _).other (by simpa using hne) _
 ·refine Ob (by rw[HXC.out];rfl) (by rw[HC2.out];unfold Bl;rw[if_pos (by rw[HXC.out];omega)]) ?_;have hks:Pt.kids (nx s) f p=[p+2]:=by simp[Pt.kids,HXC.out]
  rw[hks];refine Ps (Il (Gw (Lx w3 rfl) ?_) (fun k hk _=>by omega)) (Dv (fun k hk _=>by omega) (Bo ?_ hr3))
  ·exact((((Ce.refl _ _).setCell (by simp;omega) _).setCell (by simp;omega) _).setCell (by simp;omega) _).setCell (by simp;omega) _
  ·exact(((((Ce.refl _ _).alloc _).setCell (by simp;omega) _).setCell (by simp;omega) _).setCell (by simp;omega) _).setCell (by simp;omega) _
theorem Ls(b p:Nat)(s:ByteArray)(w:World)(q:Nat)(h:At w b s p)(hp:p<s.size)(hs:s.size<=40)(hx:nx s p=114)
  (hch:∀w,At w b s (p+1)->Calls Tryz.prog 196 #[.pointer (some ⟨b,0,none⟩)] w fun e w'=>e=BB q/\Af b w w'):
  Calls Tryz.prog 128 #[.pointer (some ⟨b,0,none⟩)] w fun e w'=>e=BB q/\Af b w w':=by
 have hlt:=h.lt;have HL:=Ck b p s (w.alloc Bj) 114 (h.alloc _) (by omega) hs hx (by omega);clear h;have HXC:Hid (nx s p=114):=hx;clear hx;have hne:¬w.heap.size=b:=by omega
 have HC:=Ab hch;clear hch;go_enter Tryz.func128,Tryz.ntmps128;go_wp2_with fail
 refine HL.mono ?_;rintro e w1 ⟨rfl,hk,ha⟩;have T:=(Fe.new w (.int .u8 0) (.int .i64 0) (.slice none 0 0)).keeps hk hne;have hz:w.heap.size<w1.heap.size:=T.lt;have hb1:¬w1.heap.size=b:=by have:=ha.lt;omega
 have hmm:¬w.heap.size=w1.heap.size:=by omega
 clear HL;go_wp2_with fail
 refine((Aa HC) _ (ha.alloc _)).mono ?_;rintro e w3 ⟨rfl,hk3⟩;go_wp2;exact⟨rfl,rfl,(((Af.refl b w).alloc Bj).trans hk).trans (((Af.refl b w1).alloc _).trans hk3)⟩
theorem XA(b p f:Nat)(s:ByteArray)(w:World)(q:Nat)(h:At w b s p)(hp:p<s.size)(hs:s.size<=40)(hx:nx s p=114)
  (hch:∀w,At w b s (p+1)->Calls Tryz.prog 196 #[.pointer (some ⟨b,0,none⟩)] w fun e w'=>∃v,e=.returned v/\Af b w w'/\At w' b s q/\Kids w' (fun k=>w.heap.size<=k) (nx s) f (Pt.kids (nx s) f p) v):
  Calls Tryz.prog 128 #[.pointer (some ⟨b,0,none⟩)] w fun e w'=>∃c0 c1 c2,e=.returned (.agg #[c0,c1,c2])/\Af b w w'/\At w' b s q/\EN w' (fun k=>w.heap.size<=k) (nx s) (f+1) p c0 c1 c2:=by
 have hlt:=h.lt;have HL:=Ck b p s (w.alloc Bj) 114 (h.alloc _) (by omega) hs hx (by omega);clear h;have HXC:Hid (nx s p=114):=hx;clear hx;have hne:¬w.heap.size=b:=by omega
 have HC:=Ab hch;clear hch;go_enter Tryz.func128,Tryz.ntmps128;go_wp2_with fail
 refine HL.mono ?_;rintro e w1 ⟨rfl,hk,ha⟩;have T:=(Fe.new w (.int .u8 0) (.int .i64 0) (.slice none 0 0)).keeps hk hne;have hz:w.heap.size<w1.heap.size:=T.lt;have hb1:¬w1.heap.size=b:=by have:=ha.lt;omega
 have hmm:¬w.heap.size=w1.heap.size:=by omega
 clear HL;go_wp2_with fail
 refine((Aa HC) _ (ha.alloc _)).mono ?_;rintro e w3 ⟨v,rfl,hk3,ha3,hr3⟩;obtain⟨va,vn,vc,hv⟩:∃a n c,v=.slice a n c:=by
  obtain⟨xs,⟨⟨_,ho⟩,_⟩,_⟩:=hr3;rcases ho with ⟨rfl,_⟩|⟨g,cap,cur,rfl,_⟩
  ·exact⟨_,_,_,rfl⟩
  ·exact⟨_,_,_,rfl⟩
 subst hv;have T1:=(Fe.new w1 (.int .u8 114) (.int .i64 0) (.slice none 0 0)).keeps hk3 hb1;have T2:=(T.alloc (.cells #[.int .u8 114,.int .i64 0,.slice none 0 0] 153)).keeps hk3 hne;have hka:=(((Af.refl b w).alloc Bj).trans hk).trans (((Af.refl b w1).alloc _).trans hk3);have hz3:=T1.lt;obtain⟨x0,x1,x2,y0,y1,y2⟩:=T1.facts;obtain⟨u0,u1,u2,v0,v1,v2⟩:=T2.facts;clear T T1 T2 hk hk3 ha;go_wp2;have hr3:Kids w3 (fun k=>w1.heap.size+1<=k) (nx s) f (Pt.kids (nx s) f p) (.slice va vn vc):=by simpa using hr3
 refine bodyPost_ret (v:=.agg #[.int .u8 114,.int .i64 0,.slice va vn vc]) (by simp[results,Tryz.results128,go_sem,u0,u1,u2]) rfl ⟨_,_,_,rfl,?_,?_,?_⟩
 ·repeat (first|exact hka|refine Af.setCell ?_ (by simp;try omega) _)
 ·repeat (first|exact ha3|refine At.other ?_ (by first|simpa using hne|simpa using hb1) _)
 ·refine Ob (by rw[HXC.out];rfl) (by unfold Bl;rw[if_neg (by rw[HXC.out];omega)]) ?_;refine M1 (Lj hr3 ?_) (fun k hk _=>by omega);repeat (first|exact Ce.refl _ _|refine Ce.setCell ?_ (by simp;try omega) _)
theorem Lt(b p:Nat)(s:ByteArray)(w:World)(q:Nat)(h:At w b s p)(hp:p<s.size)(hs:s.size<=40)(hx:nx s p=117)
  (hch:∀w,At w b s (p+1)->Calls Tryz.prog 196 #[.pointer (some ⟨b,0,none⟩)] w fun e w'=>e=BB q/\Af b w w'):
  Calls Tryz.prog 128 #[.pointer (some ⟨b,0,none⟩)] w fun e w'=>e=BB q/\Af b w w':=by
 have hlt:=h.lt;have HL:=Ck b p s (w.alloc Bj) 117 (h.alloc _) (by omega) hs hx (by omega);clear h;have HXC:Hid (nx s p=117):=hx;clear hx;have hne:¬w.heap.size=b:=by omega
 have HC:=Ab hch;clear hch;go_enter Tryz.func128,Tryz.ntmps128;go_wp2_with fail
 refine HL.mono ?_;rintro e w1 ⟨rfl,hk,ha⟩;have T:=(Fe.new w (.int .u8 0) (.int .i64 0) (.slice none 0 0)).keeps hk hne;have hz:w.heap.size<w1.heap.size:=T.lt;have hb1:¬w1.heap.size=b:=by have:=ha.lt;omega
 have hmm:¬w.heap.size=w1.heap.size:=by omega
 clear HL;go_wp2_with fail
 refine((Aa HC) _ (ha.alloc _)).mono ?_;rintro e w3 ⟨rfl,hk3⟩;go_wp2;exact⟨rfl,rfl,(((Af.refl b w).alloc Bj).trans hk).trans (((Af.refl b w1).alloc _).trans hk3)⟩
theorem XB(b p f:Nat)(s:ByteArray)(w:World)(q:Nat)(h:At w b s p)(hp:p<s.size)(hs:s.size<=40)(hx:nx s p=117)
  (hch:∀w,At w b s (p+1)->Calls Tryz.prog 196 #[.pointer (some ⟨b,0,none⟩)] w fun e w'=>∃v,e=.returned v/\Af b w w'/\At w' b s q/\Kids w' (fun k=>w.heap.size<=k) (nx s) f (Pt.kids (nx s) f p) v):
  Calls Tryz.prog 128 #[.pointer (some ⟨b,0,none⟩)] w fun e w'=>∃c0 c1 c2,e=.returned (.agg #[c0,c1,c2])/\Af b w w'/\At w' b s q/\EN w' (fun k=>w.heap.size<=k) (nx s) (f+1) p c0 c1 c2:=by
 have hlt:=h.lt;have HL:=Ck b p s (w.alloc Bj) 117 (h.alloc _) (by omega) hs hx (by omega);clear h;have HXC:Hid (nx s p=117):=hx;clear hx;have hne:¬w.heap.size=b:=by omega
 have HC:=Ab hch;clear hch;go_enter Tryz.func128,Tryz.ntmps128;go_wp2_with fail
 refine HL.mono ?_;rintro e w1 ⟨rfl,hk,ha⟩;have T:=(Fe.new w (.int .u8 0) (.int .i64 0) (.slice none 0 0)).keeps hk hne;have hz:w.heap.size<w1.heap.size:=T.lt;have hb1:¬w1.heap.size=b:=by have:=ha.lt;omega
 have hmm:¬w.heap.size=w1.heap.size:=by omega
 clear HL;go_wp2_with fail
 refine((Aa HC) _ (ha.alloc _)).mono ?_;rintro e w3 ⟨v,rfl,hk3,ha3,hr3⟩;obtain⟨va,vn,vc,hv⟩:∃a n c,v=.slice a n c:=by
  obtain⟨xs,⟨⟨_,ho⟩,_⟩,_⟩:=hr3;rcases ho with ⟨rfl,_⟩|⟨g,cap,cur,rfl,_⟩
  ·exact⟨_,_,_,rfl⟩
  ·exact⟨_,_,_,rfl⟩
 subst hv;have T1:=(Fe.new w1 (.int .u8 117) (.int .i64 0) (.slice none 0 0)).keeps hk3 hb1;have T2:=(T.alloc (.cells #[.int .u8 117,.int .i64 0,.slice none 0 0] 153)).keeps hk3 hne;have hka:=(((Af.refl b w).alloc Bj).trans hk).trans (((Af.refl b w1).alloc _).trans hk3);have hz3:=T1.lt;obtain⟨x0,x1,x2,y0,y1,y2⟩:=T1.facts;obtain⟨u0,u1,u2,v0,v1,v2⟩:=T2.facts;clear T T1 T2 hk hk3 ha;go_wp2;have hr3:Kids w3 (fun k=>w1.heap.size+1<=k) (nx s) f (Pt.kids (nx s) f p) (.slice va vn vc):=by simpa using hr3
 refine bodyPost_ret (v:=.agg #[.int .u8 117,.int .i64 0,.slice va vn vc]) (by simp[results,Tryz.results128,go_sem,u0,u1,u2]) rfl ⟨_,_,_,rfl,?_,?_,?_⟩
 ·repeat (first|exact hka|refine Af.setCell ?_ (by simp;try omega) _)
 ·repeat (first|exact ha3|refine At.other ?_ (by first|simpa using hne|simpa using hb1) _)
 ·refine Ob (by rw[HXC.out];rfl) (by unfold Bl;rw[if_neg (by rw[HXC.out];omega)]) ?_;refine M1 (Lj hr3 ?_) (fun k hk _=>by omega);repeat (first|exact Ce.refl _ _|refine Ce.setCell ?_ (by simp;try omega) _)
end Go.Proofs.YtblomippkddgiaaGreatDoor.V
