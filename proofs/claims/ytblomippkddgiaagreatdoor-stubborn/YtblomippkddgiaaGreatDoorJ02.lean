import Derived.Test.YtblomippkddgiaaGreatDoorJ01
import Derived.Maps.AppendAt
import Derived.Laws.AppendOwnNone
set_option maxHeartbeats 1000000
namespace Go.Proofs.YtblomippkddgiaaGreatDoor.V
open Go.RowKit
def aat(g:Nat→Nat)(p:Nat):Int:=if g p=101∨g p=97∨g p=113 then (g (p+1):Int)-48 else 0
def alY(w:World)(S:Nat→Prop)(v:Value)(n:Nat)(xs:List Value):Prop:=w.ownsRow 0 153 3 v n xs∧∀k,v.ownBlock=some k→S k
def Rep(w:World)(S:Nat→Prop)(g:Nat→Nat):Nat→Nat→Value→Value→Value→Prop
 |0,_,_,_,_=>False
 |f+1,p,c0,c1,c2=>c0=.int .u8 (g p)∧c1=.int .i64 (aat g p)∧∃xs:List Value,alY w S c2 (Pt.kids g f p).length xs ∧
   ∀(i q:Nat),(Pt.kids g f p)[i]?=some q→∃d0 d1 d2,xs[3*i]?=some d0∧xs[3*i+1]?=some d1∧xs[3*i+2]?=some d2∧Rep w S g f q d0 d1 d2
structure Above(S:Nat→Prop)(w w':World):Prop where
 size:w.heap.size≤w'.heap.size
 block:∀k,S k→k<w.heap.size→w'.heap[k]?=w.heap[k]?
theorem Above.refl(S:Nat→Prop)(w:World):Above S w w:=⟨Nat.le_refl _,fun _ _ _=>rfl⟩
theorem Above.trans{S:Nat→Prop}{u v w:World}(h:Above S u v)(k:Above S v w):Above S u w:=
 ⟨Nat.le_trans h.size k.size,fun i hb hi=>(k.block i hb (Nat.lt_of_lt_of_le hi h.size)).trans (h.block i hb hi)⟩
theorem Above.alloc{S:Nat→Prop}{u v:World}(h:Above S u v)(o:Obj):Above S u (v.alloc o):=
 h.trans ⟨by simp,fun k _ hk=>Below.heap_alloc _ _ _ hk⟩
theorem Above.setCell{S:Nat→Prop}{u v:World}(h:Above S u v){a:Addr}(ha:¬S a.block)(x:Value):Above S u (v.setCell a x):=
 h.trans ⟨by simp[World.setCell],fun k hb _=>Below.heap_setCell _ _ _ _ (fun e=>ha (e ▸ hb))⟩
theorem Keeps.above{b:Nat}{S:Nat→Prop}{u v:World}(h:Keeps b u v)(hb:¬S b):Above S u v:=⟨h.size,fun k hk hl=>h.block k hl (fun e=>hb (e ▸ hk))⟩
theorem lt_of_block{w:World}{k:Nat}{o:Obj}(h:w.heap[k]?=some o):k<w.heap.size:=by
 rcases Nat.lt_or_ge k w.heap.size with hh|hh
 ·exact hh
 ·rw[Array.getElem?_eq_none hh]at h
  cases h
theorem acm{S:Nat→Prop}{n:Nat}{v:Value}{xs:List Value}{w w':World}(h:alY w S v n xs)(hk:Above S w w'):alY w' S v n xs:=by
 obtain⟨⟨hl,h⟩,hS⟩:=h
 refine⟨⟨hl,?_⟩,hS⟩
 rcases h with h|⟨g,cap,cur,hv,hg,hh,r⟩
 ·exact Or.inl h
 ·refine Or.inr ⟨g,cap,cur,hv,hg,?_,r⟩
  rw[hk.block g (hS g (by rw[hv];rfl)) (lt_of_block hh)]
  exact hh
theorem acN{S S':Nat→Prop}{n:Nat}{v:Value}{xs:List Value}{w:World}(h:alY w S v n xs)(hb:∀k,S k→k<w.heap.size→S' k):alY w S' v n xs:=by
 refine⟨h.1,fun k hk=>hb k (h.2 k hk) ?_⟩
 obtain⟨⟨_,h⟩,_⟩:=h
 rcases h with ⟨hv,_⟩|⟨g,cap,cur,hv,hg,hh,r⟩
 ·rw[hv]at hk;cases hk
 ·rw[hv]at hk
  cases hk
  exact lt_of_block hh
theorem afj{m:Nat}{d0 d1 d2:Value}(X:World)(hm:X.heap.size=m):alY (X.alloc (.cells #[d0,d1,d2] 153)) (fun k=>k=m) (.slice (some ⟨m,0,none⟩) 1 1) 1 [d0,d1,d2]:=by
 subst hm
 refine⟨⟨rfl,Or.inr ⟨_,_,#[d0,d1,d2],rfl,Nat.zero_le _,?_,Nat.le_refl _,by decide,rfl,rfl⟩⟩,fun k hk=>by cases hk;rfl⟩
 show (X.heap.push _)[X.heap.size]?=_
 rw[Array.getElem?_push_size]
theorem rep_above{S:Nat→Prop}{g:Nat→Nat}{w w':World}(hk:Above S w w'):∀{f p:Nat} {c0 c1 c2:Value},Rep w S g f p c0 c1 c2→Rep w' S g f p c0 c1 c2:=by
 intro f
 induction f with
 |zero=>intro p c0 c1 c2 h;exact h
 |succ f ih=>
  intro p c0 c1 c2 h
  obtain⟨h0,h1,xs,ho,hi⟩:=h
  refine⟨h0,h1,xs,acm ho hk,fun i q hq=>?_⟩
  obtain⟨d0,d1,d2,a0,a1,a2,hr⟩:=hi i q hq
  exact⟨d0,d1,d2,a0,a1,a2,ih hr⟩
theorem aa6{S S':Nat→Prop}{g:Nat→Nat}{w:World}(hb:∀k,S k→k<w.heap.size→S' k):∀{f p:Nat} {c0 c1 c2:Value},Rep w S g f p c0 c1 c2→Rep w S' g f p c0 c1 c2:=by
 intro f
 induction f with
 |zero=>intro p c0 c1 c2 h;exact h
 |succ f ih=>
  intro p c0 c1 c2 h
  obtain⟨h0,h1,xs,ho,hi⟩:=h
  refine⟨h0,h1,xs,acN ho hb,fun i q hq=>?_⟩
  obtain⟨d0,d1,d2,a0,a1,a2,hr⟩:=hi i q hq
  exact⟨d0,d1,d2,a0,a1,a2,ih hr⟩
theorem amF(w:World)(S:Nat→Prop):alY w S (.slice none 0 0) 0 []:=⟨World.ownsRow_nil _ _ _ _,fun k hk=>by cases hk⟩
theorem ahV{w:World}{S:Nat→Prop}{f p:Nat}{g:Nat→Nat}{c0 c1:Value}(hk:Pt.kids g f p=[])(h0:c0=.int .u8 (g p))(h1:c1=.int .i64 (aat g p)):Rep w S g (f+1) p c0 c1 (.slice none 0 0):=by
 refine⟨h0,h1,[],?_,?_⟩
 ·rw[hk]
  exact amF _ _
 ·intro i q hq
  rw[hk]at hq
  simp at hq
theorem aqG{b:Nat}{W w1:World}(hb:Keeps b W w1):(∀k o,k<W.heap.size→¬k=b→w1.cell? ⟨k,o,none⟩=W.cell? ⟨k,o,none⟩)∧(∀k o,k<W.heap.size→¬k=b→w1.frozen? ⟨k,o,none⟩=W.frozen? ⟨k,o,none⟩):=
 ⟨fun k o h hn=>hb.cell (p:=⟨k,o,none⟩) h hn,fun k o h hn=>hb.frozen (p:=⟨k,o,none⟩) h hn⟩
theorem At.other{w:World}{b p:Nat}{s:ByteArray}(h:At w b s p){a:Addr}(ha:¬a.block=b)(x:Value):At (w.setCell a x) b s p:=by
 unfold At at h ⊢
 rw[Below.heap_setCell _ _ _ _ (fun e=>ha e.symm)]
 exact h
def aba(b:Nat)(s:ByteArray)(f p:Nat)(w:World)(e:Ending)(w':World):Prop:=
 if (Pt.ty (nx s) f p).1 then ∃c0 c1 c2,e=.returned (.agg #[c0,c1,c2])∧Keeps b w w'∧At w' b s (Pt.ty (nx s) f p).2∧Rep w' (fun k=>w.heap.size≤k) (nx s) f p c0 c1 c2
 else e=aaB (Pt.ty (nx s) f p).2∧Keeps b w w'
abbrev zero63:Obj:=.cells #[.int .u8 0,.int .i64 0,.slice none 0 0] 153
theorem amO(b p:Nat)(s:ByteArray)(w:World)(c:Nat)(h:At w b s p)(hp:p≤s.size)(hs:s.size≤40)(hx:nx s p=c)(hc:c=98∨c=99∨c=105∨c=115) :
  Calls Tryz.prog 128 #[.pointer (some ⟨b,0,none⟩)] w fun e w'=>e=.returned (.agg #[.int .u8 c,.int .i64 0,.slice none 0 0])∧Keeps b w w'∧At w' b s (p+1):=by
 have hlt:=h.lt
 have HL:=aaI b p s (w.alloc zero63) c (h.alloc _) hp hs hx (by omega)
 clear hx h
 have hne:¬w.heap.size=b:=by omega
 rcases hc with rfl|rfl|rfl|rfl
 all_goals
  go_enter Tryz.func128,Tryz.ntmps128
  go_wp2_with fail
  refine HL.mono ?_
  rintro e w1 ⟨rfl,hk,ha⟩
  obtain⟨hc,hf⟩:=aqG hk
  have hz:w.heap.size<w1.heap.size:=by have:=hk.size;simp at this;omega
  clear HL
  go_wp2
  refine bodyPost_ret (v:=.agg #[.int .u8 _,.int .i64 0,.slice none 0 0]) (by simp[results,Tryz.results128,go_sem,hc,hz,hne]) rfl ⟨rfl,?_,?_⟩
  ·refine Keeps.alloc ?_ _
   have hk0:=((Keeps.refl b w).alloc zero63).trans hk
   repeat (first|exact hk0|refine Keeps.setCell ?_ (by simp) _)
  ·refine At.alloc ?_ _
   repeat (first|exact ha|refine At.other ?_ (by simpa using hne) _)
theorem aow(b p:Nat)(s:ByteArray)(w:World)(c:Nat)(h:At w b s p)(hp:p≤s.size)(hs:s.size≤40)(hx:nx s p=c)(hc:¬(c=98∨c=99∨c=105∨c=115∨c=101∨c=97∨c=113∨c=114∨c=117)) :
  Calls Tryz.prog 128 #[.pointer (some ⟨b,0,none⟩)] w fun e w'=>e=aaB p∧Keeps b w w':=by
 have HL:=akV b p s (w.alloc zero63) c (h.alloc _) hp hs hx hc
 clear hx h hc
 go_enter Tryz.func128,Tryz.ntmps128
 go_wp2_with fail
 refine HL.mono ?_
 rintro e w1 ⟨rfl,hk⟩
 clear HL
 go_wp2
 exact⟨rfl,rfl,((Keeps.refl b w).alloc zero63).trans hk⟩
def Tri(w:World)(k:Nat)(a0 a1 a2:Value):Prop:=w.heap[k]?=some (.cells #[a0,a1,a2] 153 (0,0))
theorem Tri.facts{w:World}{k:Nat}{a0 a1 a2:Value}(h:Tri w k a0 a1 a2) :
  w.cell? ⟨k,0,none⟩=some a0∧w.cell? ⟨k,1,none⟩=some a1∧w.cell? ⟨k,2,none⟩=some a2∧w.frozen? ⟨k,0,none⟩=false∧w.frozen? ⟨k,1,none⟩=false∧w.frozen? ⟨k,2,none⟩=false:=by
 unfold Tri at h
 simp[World.cell?,World.frozen?,h]
theorem Tri.new(w:World)(a0 a1 a2:Value):Tri (w.alloc (.cells #[a0,a1,a2] 153)) w.heap.size a0 a1 a2:=by
 show (w.heap.push _)[w.heap.size]?=_
 rw[Array.getElem?_push_size]
theorem Tri.lt{w:World}{k:Nat}{a0 a1 a2:Value}(h:Tri w k a0 a1 a2):k<w.heap.size:=by
 unfold Tri at h
 rcases Nat.lt_or_ge k w.heap.size with hh|hh
 ·exact hh
 ·rw[Array.getElem?_eq_none hh]at h
  cases h
theorem Tri.keeps{b:Nat}{w w':World}{k:Nat}{a0 a1 a2:Value}(h:Tri w k a0 a1 a2)(hk:Keeps b w w')(hb:k≠b):Tri w' k a0 a1 a2:=by
 have hl:=h.lt
 unfold Tri at h ⊢
 rw[hk.block k hl hb]
 exact h
theorem Tri.alloc{w:World}{k:Nat}{a0 a1 a2:Value}(h:Tri w k a0 a1 a2)(o:Obj):Tri (w.alloc o) k a0 a1 a2:=by
 have hl:=h.lt
 unfold Tri at h ⊢
 rw[Below.heap_alloc w o k hl]
 exact h
theorem Tri.set1{w:World}{k:Nat}{a0 a1 a2:Value}(h:Tri w k a0 a1 a2)(x:Value):Tri (w.setCell ⟨k,1,none⟩ x) k a0 x a2:=by
 unfold Tri at h ⊢
 simp only[World.setCell,Array.getElem?_modify,h]
 simp
theorem Tri.other{w:World}{k:Nat}{a0 a1 a2:Value}(h:Tri w k a0 a1 a2){a:Addr}(ha:¬a.block=k)(x:Value):Tri (w.setCell a x) k a0 a1 a2:=by
 unfold Tri at h ⊢
 rw[Below.heap_setCell _ _ _ _ (fun e=>ha e.symm)]
 exact h
theorem aqz(b p:Nat)(s:ByteArray)(w:World)(h:At w b s p)(hp:p<s.size)(hs:s.size≤40)(hx:nx s p=101)(hd:49≤nx s (p+1)∧nx s (p+1)≤57) :
  Calls Tryz.prog 128 #[.pointer (some ⟨b,0,none⟩)] w fun e w'=>e=.returned (.agg #[.int .u8 101,.int .i64 ((nx s (p+1):Int)-48),.slice none 0 0])∧Keeps b w w'∧At w' b s (p+2):=by
 have hlt:=h.lt
 have HL:=aaI b p s (w.alloc zero63) 101 (h.alloc _) (by omega) hs hx (by omega)
 clear hx h
 have hne:¬w.heap.size=b:=by omega
 generalize hc2:nx s (p+1)=c2 at *
 have HC2:Hid (nx s (p+1)=c2):=hc2
 clear hc2
 go_enter Tryz.func128,Tryz.ntmps128
 go_wp2_with fail
 refine HL.mono ?_
 rintro e w1 ⟨rfl,hk,ha⟩
 have T:=(Tri.new w (.int .u8 0) (.int .i64 0) (.slice none 0 0)).keeps hk hne
 have hz:w.heap.size<w1.heap.size:=T.lt
 have hb1:¬w1.heap.size=b:=by have:=ha.lt;omega
 have hmm:¬w.heap.size=w1.heap.size:=by omega
 clear HL
 go_wp2_with fail
 refine(acW b (p+1) s _ c2 1 (ha.alloc _) (by omega) hs HC2.out (by omega)).mono ?_
 rintro e w2 ⟨rfl,hk2,ha2⟩
 have T1:=(Tri.new w1 (.int .u8 101) (.int .i64 0) (.slice none 0 0)).keeps hk2 hb1
 have T2:=(T.alloc (.cells #[.int .u8 101,.int .i64 0,.slice none 0 0] 153)).keeps hk2 hne
 have hk0:=(((Keeps.refl b w).alloc zero63).trans hk).trans (((Keeps.refl b w1).alloc _).trans hk2)
 obtain⟨x0,x1,x2,y0,y1,y2⟩:=T1.facts
 obtain⟨u0,u1,u2,v0,v1,v2⟩:=T2.facts
 clear T hk hk2 ha T1 T2
 go_wp2
 refine bodyPost_ret (v:=.agg #[.int .u8 101,.int .i64 ((c2:Int)-48),.slice none 0 0]) (by simp[results,Tryz.results128,go_sem,u0,u1,u2]) rfl ⟨rfl,?_,?_⟩
 ·repeat (first|exact hk0|refine Keeps.setCell ?_ (by simp;try omega) _)
 ·repeat (first|exact ha2|refine At.other ?_ (by first|simpa using hne|simpa using hb1) _)
end Go.Proofs.YtblomippkddgiaaGreatDoor.V
