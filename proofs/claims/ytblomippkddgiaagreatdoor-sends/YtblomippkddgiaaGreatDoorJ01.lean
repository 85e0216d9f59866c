import Derived.Test.YtblomippkddgiaaGreatDoorJ00
import Derived.Maps.AppendAt
import Derived.Laws.AppendOwnNone
set_option maxHeartbeats 1000000
namespace Go.Proofs.YtblomippkddgiaaGreatDoor.V
open Go.RowKit
def A7(g:Nat->Nat)(p:Nat):Int:=if g p=101\/g p=97\/g p=113 then (g (p+1):Int)-48 else 0
def JN(w:World)(S:Nat->Prop)(v:Value)(n:Nat)(xs:List Value):Prop:=w.ownsRow 0 153 3 v n xs/\∀k,v.ownBlock=some k->S k
def EU(w:World)(S:Nat->Prop)(g:Nat->Nat):Nat->Nat->Value->Value->Value->Prop
 |0,_,_,_,_=>False
 |f+1,p,c0,c1,c2=>c0=.int .u8 (g p)/\c1=.int .i64 (A7 g p)/\∃xs:List Value,JN w S c2 (Pt.kids g f p).length xs /\
   ∀(i q:Nat),(Pt.kids g f p)[i]?=some q->∃d0 d1 d2,xs[3*i]?=some d0/\xs[3*i+1]?=some d1/\xs[3*i+2]?=some d2/\EU w S g f q d0 d1 d2
structure BQ(S:Nat->Prop)(w w':World):Prop where
 size:w.heap.size<=w'.heap.size
 block:∀k,S k->k<w.heap.size->w'.heap[k]?=w.heap[k]?
theorem BQ.refl(S:Nat->Prop)(w:World):BQ S w w:=⟨Nat.le_refl _,fun _ _ _=>rfl⟩
theorem BQ.trans{S:Nat->Prop}{u v w:World}(h:BQ S u v)(k:BQ S v w):BQ S u w:=
 ⟨Nat.le_trans h.size k.size,fun i hb hi=>(k.block i hb (Nat.lt_of_lt_of_le hi h.size)).trans (h.block i hb hi)⟩
theorem BQ.alloc{S:Nat->Prop}{u v:World}(h:BQ S u v)(o:Obj):BQ S u (v.alloc o):=
 h.trans ⟨by simp,fun k _ hk=>Below.heap_alloc _ _ _ hk⟩
theorem BQ.setCell{S:Nat->Prop}{u v:World}(h:BQ S u v){a:Addr}(ha:¬S a.block)(x:Value):BQ S u (v.setCell a x):=
 h.trans ⟨by simp[World.setCell],fun k hb _=>Below.heap_setCell _ _ _ _ (fun e=>ha (e ▸ hb))⟩
theorem Ae.above{b:Nat}{S:Nat->Prop}{u v:World}(h:Ae b u v)(hb:¬S b):BQ S u v:=⟨h.size,fun k hk hl=>h.block k hl (fun e=>hb (e ▸ hk))⟩
theorem lt_of_block{w:World}{k:Nat}{o:Obj}(h:w.heap[k]?=some o):k<w.heap.size:=by
 rcases Nat.lt_or_ge k w.heap.size with hh|hh
 ·exact hh
 ·rw[Array.getElem?_eq_none hh]at h;cases h
theorem Fe{S:Nat->Prop}{n:Nat}{v:Value}{xs:List Value}{w w':World}(h:JN w S v n xs)(hk:BQ S w w'):JN w' S v n xs:=by
 obtain⟨⟨hl,h⟩,hS⟩:=h;refine⟨⟨hl,?_⟩,hS⟩;rcases h with h|⟨g,cap,cur,hv,hg,hh,r⟩
 ·exact Or.inl h
 ·refine Or.inr ⟨g,cap,cur,hv,hg,?_,r⟩;rw[hk.block g (hS g (by rw[hv];rfl)) (lt_of_block hh)];exact hh
theorem FV{S S':Nat->Prop}{n:Nat}{v:Value}{xs:List Value}{w:World}(h:JN w S v n xs)(hb:∀k,S k->k<w.heap.size->S' k):JN w S' v n xs:=by
 refine⟨h.1,fun k hk=>hb k (h.2 k hk) ?_⟩;obtain⟨⟨_,h⟩,_⟩:=h;rcases h with ⟨hv,_⟩|⟨g,cap,cur,hv,hg,hh,r⟩
 ·rw[hv]at hk;cases hk
 ·rw[hv]at hk;cases hk;exact lt_of_block hh
theorem Jm{m:Nat}{d0 d1 d2:Value}(X:World)(hm:X.heap.size=m):JN (X.alloc (.cells #[d0,d1,d2] 153)) (fun k=>k=m) (.slice (some ⟨m,0,none⟩) 1 1) 1 [d0,d1,d2]:=by
 subst hm;refine⟨⟨rfl,Or.inr ⟨_,_,#[d0,d1,d2],rfl,Nat.zero_le _,?_,Nat.le_refl _,by decide,rfl,rfl⟩⟩,fun k hk=>by cases hk;rfl⟩;show (X.heap.push _)[X.heap.size]?=_;rw[Array.getElem?_push_size]
theorem Bj{S:Nat->Prop}{g:Nat->Nat}{w w':World}(hk:BQ S w w'):∀{f p:Nat} {c0 c1 c2:Value},EU w S g f p c0 c1 c2->EU w' S g f p c0 c1 c2:=by
 intro f;induction f with
 |zero=>intro p c0 c1 c2 h;exact h
 |succ f ih=>
  intro p c0 c1 c2 h;obtain⟨h0,h1,xs,ho,hi⟩:=h;refine⟨h0,h1,xs,Fe ho hk,fun i q hq=>?_⟩;obtain⟨d0,d1,d2,a0,a1,a2,hr⟩:=hi i q hq;exact⟨d0,d1,d2,a0,a1,a2,ih hr⟩
theorem CO{S S':Nat->Prop}{g:Nat->Nat}{w:World}(hb:∀k,S k->k<w.heap.size->S' k):∀{f p:Nat} {c0 c1 c2:Value},EU w S g f p c0 c1 c2->EU w S' g f p c0 c1 c2:=by
 intro f;induction f with
 |zero=>intro p c0 c1 c2 h;exact h
 |succ f ih=>
  intro p c0 c1 c2 h;obtain⟨h0,h1,xs,ho,hi⟩:=h;refine⟨h0,h1,xs,FV ho hb,fun i q hq=>?_⟩;obtain⟨d0,d1,d2,a0,a1,a2,hr⟩:=hi i q hq;exact⟨d0,d1,d2,a0,a1,a2,ih hr⟩
theorem UT(w:World)(S:Nat->Prop):JN w S (.slice none 0 0) 0 []:=⟨World.ownsRow_nil _ _ _ _,fun k hk=>by cases hk⟩
theorem ME{w:World}{S:Nat->Prop}{f p:Nat}{g:Nat->Nat}{c0 c1:Value}(hk:Pt.kids g f p=[])(h0:c0=.int .u8 (g p))(h1:c1=.int .i64 (A7 g p)):EU w S g (f+1) p c0 c1 (.slice none 0 0):=by
 refine⟨h0,h1,[],?_,?_⟩
 ·rw[hk];exact UT _ _
 ·intro i q hq;rw[hk]at hq;simp at hq
theorem ZA{b:Nat}{W w1:World}(hb:Ae b W w1):(∀k o,k<W.heap.size->¬k=b->w1.cell? ⟨k,o,none⟩=W.cell? ⟨k,o,none⟩)/\(∀k o,k<W.heap.size->¬k=b->w1.frozen? ⟨k,o,none⟩=W.frozen? ⟨k,o,none⟩):=
 ⟨fun k o h hn=>hb.cell (p:=⟨k,o,none⟩) h hn,fun k o h hn=>hb.frozen (p:=⟨k,o,none⟩) h hn⟩
theorem At.other{w:World}{b p:Nat}{s:ByteArray}(h:At w b s p){a:Addr}(ha:¬a.block=b)(x:Value):At (w.setCell a x) b s p:=by
 unfold At at h ⊢;rw[Below.heap_setCell _ _ _ _ (fun e=>ha e.symm)];exact h
def Co(b:Nat)(s:ByteArray)(f p:Nat)(w:World)(e:Ending)(w':World):Prop:=
 if (Pt.ty (nx s) f p).1 then ∃c0 c1 c2,e=.returned (.agg #[c0,c1,c2])/\Ae b w w'/\At w' b s (Pt.ty (nx s) f p).2/\EU w' (fun k=>w.heap.size<=k) (nx s) f p c0 c1 c2
 else e=Bp (Pt.ty (nx s) f p).2/\Ae b w w'
abbrev AZ:Obj:=.cells #[.int .u8 0,.int .i64 0,.slice none 0 0] 153
theorem UJ(b p:Nat)(s:ByteArray)(w:World)(c:Nat)(h:At w b s p)(hp:p<=s.size)(hs:s.size<=40)(hx:nx s p=c)(hc:c=98\/c=99\/c=105\/c=115):
  Calls Tryz.prog 128 #[.pointer (some ⟨b,0,none⟩)] w fun e w'=>e=.returned (.agg #[.int .u8 c,.int .i64 0,.slice none 0 0])/\Ae b w w'/\At w' b s (p+1):=by
 have hlt:=h.lt;have HL:=BR b p s (w.alloc AZ) c (h.alloc _) hp hs hx (by omega);clear hx h;have hne:¬w.heap.size=b:=by omega
 rcases hc with rfl|rfl|rfl|rfl;all_goals
  go_enter Tryz.func128,Tryz.ntmps128;go_wp2_with fail
  refine HL.mono ?_;rintro e w1 ⟨rfl,hk,ha⟩;obtain⟨hc,hf⟩:=ZA hk;have hz:w.heap.size<w1.heap.size:=by have:=hk.size;simp at this;omega
  clear HL;go_wp2;refine bodyPost_ret (v:=.agg #[.int .u8 _,.int .i64 0,.slice none 0 0]) (by simp[results,Tryz.results128,go_sem,hc,hz,hne]) rfl ⟨rfl,?_,?_⟩
  ·refine Ae.alloc ?_ _;have hk0:=((Ae.refl b w).alloc AZ).trans hk;repeat (first|exact hk0|refine Ae.setCell ?_ (by simp) _)
  ·refine At.alloc ?_ _;repeat (first|exact ha|refine At.other ?_ (by simpa using hne) _)
theorem W7(b p:Nat)(s:ByteArray)(w:World)(c:Nat)(h:At w b s p)(hp:p<=s.size)(hs:s.size<=40)(hx:nx s p=c)(hc:¬(c=98\/c=99\/c=105\/c=115\/c=101\/c=97\/c=113\/c=114\/c=117)):
  Calls Tryz.prog 128 #[.pointer (some ⟨b,0,none⟩)] w fun e w'=>e=Bp p/\Ae b w w':=by
 have HL:=Re b p s (w.alloc AZ) c (h.alloc _) hp hs hx hc;clear hx h hc;go_enter Tryz.func128,Tryz.ntmps128;go_wp2_with fail
 refine HL.mono ?_;rintro e w1 ⟨rfl,hk⟩;clear HL;go_wp2;exact⟨rfl,rfl,((Ae.refl b w).alloc AZ).trans hk⟩
def EB(w:World)(k:Nat)(a0 a1 a2:Value):Prop:=w.heap[k]?=some (.cells #[a0,a1,a2] 153 (0,0))
theorem EB.facts{w:World}{k:Nat}{a0 a1 a2:Value}(h:EB w k a0 a1 a2):
  w.cell? ⟨k,0,none⟩=some a0/\w.cell? ⟨k,1,none⟩=some a1/\w.cell? ⟨k,2,none⟩=some a2/\w.frozen? ⟨k,0,none⟩=false/\w.frozen? ⟨k,1,none⟩=false/\w.frozen? ⟨k,2,none⟩=false:=by
 unfold EB at h;simp[World.cell?,World.frozen?,h]
theorem EB.new(w:World)(a0 a1 a2:Value):EB (w.alloc (.cells #[a0,a1,a2] 153)) w.heap.size a0 a1 a2:=by
 show (w.heap.push _)[w.heap.size]?=_;rw[Array.getElem?_push_size]
theorem EB.lt{w:World}{k:Nat}{a0 a1 a2:Value}(h:EB w k a0 a1 a2):k<w.heap.size:=by
 unfold EB at h;rcases Nat.lt_or_ge k w.heap.size with hh|hh
 ·exact hh
 ·rw[Array.getElem?_eq_none hh]at h;cases h
theorem EB.keeps{b:Nat}{w w':World}{k:Nat}{a0 a1 a2:Value}(h:EB w k a0 a1 a2)(hk:Ae b w w')(hb:k≠b):EB w' k a0 a1 a2:=by
 have hl:=h.lt;unfold EB at h ⊢;rw[hk.block k hl hb];exact h
theorem EB.alloc{w:World}{k:Nat}{a0 a1 a2:Value}(h:EB w k a0 a1 a2)(o:Obj):EB (w.alloc o) k a0 a1 a2:=by
 have hl:=h.lt;unfold EB at h ⊢;rw[Below.heap_alloc w o k hl];exact h
theorem EB.set1{w:World}{k:Nat}{a0 a1 a2:Value}(h:EB w k a0 a1 a2)(x:Value):EB (w.setCell ⟨k,1,none⟩ x) k a0 x a2:=by
 unfold EB at h ⊢;simp only[World.setCell,Array.getElem?_modify,h];simp
theorem EB.other{w:World}{k:Nat}{a0 a1 a2:Value}(h:EB w k a0 a1 a2){a:Addr}(ha:¬a.block=k)(x:Value):EB (w.setCell a x) k a0 a1 a2:=by
 unfold EB at h ⊢;rw[Below.heap_setCell _ _ _ _ (fun e=>ha e.symm)];exact h
theorem ZI(b p:Nat)(s:ByteArray)(w:World)(h:At w b s p)(hp:p<s.size)(hs:s.size<=40)(hx:nx s p=101)(hd:49<=nx s (p+1)/\nx s (p+1)<=57):
  Calls Tryz.prog 128 #[.pointer (some ⟨b,0,none⟩)] w fun e w'=>e=.returned (.agg #[.int .u8 101,.int .i64 ((nx s (p+1):Int)-48),.slice none 0 0])/\Ae b w w'/\At w' b s (p+2):=by
 have hlt:=h.lt;have HL:=BR b p s (w.alloc AZ) 101 (h.alloc _) (by omega) hs hx (by omega);clear hx h;have hne:¬w.heap.size=b:=by omega
 generalize hc2:nx s (p+1)=c2 at *;have HC2:Hid (nx s (p+1)=c2):=hc2;clear hc2;go_enter Tryz.func128,Tryz.ntmps128;go_wp2_with fail
 refine HL.mono ?_;rintro e w1 ⟨rfl,hk,ha⟩;have T:=(EB.new w (.int .u8 0) (.int .i64 0) (.slice none 0 0)).keeps hk hne;have hz:w.heap.size<w1.heap.size:=T.lt;have hb1:¬w1.heap.size=b:=by have:=ha.lt;omega
 have hmm:¬w.heap.size=w1.heap.size:=by omega
 clear HL;go_wp2_with fail
 refine(FF b (p+1) s _ c2 1 (ha.alloc _) (by omega) hs HC2.out (by omega)).mono ?_;rintro e w2 ⟨rfl,hk2,ha2⟩;have T1:=(EB.new w1 (.int .u8 101) (.int .i64 0) (.slice none 0 0)).keeps hk2 hb1;have T2:=(T.alloc (.cells #[.int .u8 101,.int .i64 0,.slice none 0 0] 153)).keeps hk2 hne;have hk0:=(((Ae.refl b w).alloc AZ).trans hk).trans (((Ae.refl b w1).alloc _).trans hk2);obtain⟨x0,x1,x2,y0,y1,y2⟩:=T1.facts;obtain⟨u0,u1,u2,v0,v1,v2⟩:=T2.facts;clear T hk hk2 ha T1 T2;go_wp2;refine bodyPost_ret (v:=.agg #[.int .u8 101,.int .i64 ((c2:Int)-48),.slice none 0 0]) (by simp[results,Tryz.results128,go_sem,u0,u1,u2]) rfl ⟨rfl,?_,?_⟩
 ·repeat (first|exact hk0|refine Ae.setCell ?_ (by simp;try omega) _)
 ·repeat (first|exact ha2|refine At.other ?_ (by first|simpa using hne|simpa using hb1) _)
abbrev Want:=Nat×Nat×Nat
def wc(x:Want):List Value:=[.int .i64 x.1,.int .i64 x.2.1,.int .i64 x.2.2]
def Aj(S:List Want):List Value:=S.reverse.flatMap wc
def Ea(w:World)(B:Nat)(v:Value)(S:List Want):Prop:=w.ownsRow B 293 3 v S.length (Aj S)
theorem Ba(S:List Want):(Aj S).length=S.length*3:=by
 unfold Aj;induction S with
 |nil=>rfl
 |cons x S ih=>simp only[List.reverse_cons,List.flatMap_append,List.length_append,ih,List.length_cons];simp[wc];omega
theorem Cx(S R:List Want):Aj (S++R)=Aj R++Aj S:=by
 unfold Aj;rw[List.reverse_append,List.flatMap_append]
theorem BA(S:List Want):∀u∈Aj S,u.oneCell'=true:=by
 intro u hu;unfold Aj at hu;rw[List.mem_flatMap]at hu;obtain⟨x,_,hx⟩:=hu;simp[wc]at hx;rcases hx with rfl|rfl|rfl<;>rfl
theorem GK(w:World)(B:Nat):Ea w B (.slice none 0 0) []:=World.ownsRow_nil _ _ _ _
theorem Sr{w:World}{B m n:Nat}{l:List Want}(cur:Array Value)(h:w.heap[m]?=some (.cells cur 293 (0,0)))(hB:B<=m)(hn:n=l.length)(hl:cur.toList=Aj l)(hm:n<=100):Ea w B (.slice (some ⟨m,0,none⟩) n n) l:=by
 subst hn;refine⟨Ba l,Or.inr ⟨m,l.length,cur,rfl,hB,h,Nat.le_refl _,by unfold maxLen;omega,?_,?_⟩⟩
 ·have:=Ba l;rw[<-hl]at this;simpa using this
 ·rw[hl,List.take_of_length_le (by rw[Ba];omega)]
theorem F5{B m n:Nat}{l:List Want}(X:World)(cur:Array Value)(hX:X.heap.size=m)(hB:B<=m)(hn:n=l.length)(hl:cur.toList=Aj l)(hm:n<=100):Ea (X.alloc (.cells cur 293)) B (.slice (some ⟨m,0,none⟩) n n) l:=by
 subst hX;refine Sr cur ?_ hB hn hl hm;show (X.heap.push _)[X.heap.size]?=_;rw[Array.getElem?_push_size]
def AV(c L:Nat)(w:World)(e:Ending)(w':World):Prop:=
 ∃v,e=.returned (.tuple #[v,.bool (Pt.begins c L).isSome])/\Below w.heap.size w w'/\Ea w' w.heap.size v ((Pt.begins c L).getD [])
theorem QC(L:Nat)(w:World)(_hL:L<=1000):Calls Tryz.prog 238 #[.int .u8 98,.int .i64 L] w (AV 98 L w):=by
 have hx:Pt.begins 98 L=some []:=by simp[Pt.begins,Pt.AL]
 unfold AV;rw[hx];go_enter Tryz.func238,Tryz.ntmps238;go_wp2
 go_ret2
 exact⟨_,rfl,(Below.refl _ _).alloc (Nat.le_refl _) _,GK _ _⟩
theorem QD(L:Nat)(w:World)(_hL:L<=1000):Calls Tryz.prog 238 #[.int .u8 99,.int .i64 L] w (AV 99 L w):=by
 have hx:Pt.begins 99 L=some []:=by simp[Pt.begins,Pt.AL]
 unfold AV;rw[hx];go_enter Tryz.func238,Tryz.ntmps238;go_wp2
 go_ret2
 exact⟨_,rfl,(Below.refl _ _).alloc (Nat.le_refl _) _,GK _ _⟩
theorem Nn(L:Nat)(w:World)(_hL:L<=1000):Calls Tryz.prog 238 #[.int .u8 105,.int .i64 L] w (AV 105 L w):=by
 have hx:Pt.begins 105 L=some []:=by simp[Pt.begins,Pt.AL]
 unfold AV;rw[hx];go_enter Tryz.func238,Tryz.ntmps238;go_wp2
 go_ret2
 exact⟨_,rfl,(Below.refl _ _).alloc (Nat.le_refl _) _,GK _ _⟩
theorem Nr(L:Nat)(w:World)(_hL:L<=1000):Calls Tryz.prog 238 #[.int .u8 115,.int .i64 L] w (AV 115 L w):=by
 have hx:Pt.begins 115 L=some []:=by simp[Pt.begins,Pt.AL]
 unfold AV;rw[hx];go_enter Tryz.func238,Tryz.ntmps238;go_wp2
 go_ret2
 exact⟨_,rfl,(Below.refl _ _).alloc (Nat.le_refl _) _,GK _ _⟩
theorem Nl(L:Nat)(w:World)(_hL:L<=1000):Calls Tryz.prog 238 #[.int .u8 101,.int .i64 L] w (AV 101 L w):=by
 have hx:Pt.begins 101 L=some [(2,0,0)]:=by simp[Pt.begins,Pt.AL]
 unfold AV;rw[hx];go_enter Tryz.func238,Tryz.ntmps238;go_wp2
 go_ret2
 refine⟨_,rfl,((Below.refl _ _).alloc (Nat.le_refl _) _).alloc (by simp) _,?_⟩;exact F5 _ _ (by simp) (by omega) rfl (by simp[Aj,wc]) (by simp)
theorem QB(L:Nat)(w:World)(_hL:L<=1000):Calls Tryz.prog 238 #[.int .u8 97,.int .i64 L] w (AV 97 L w):=by
 have hx:Pt.begins 97 L=some [(2,0,0),(1,0,L+1)]:=by simp[Pt.begins,Pt.AL]
 unfold AV;rw[hx];go_enter Tryz.func238,Tryz.ntmps238;go_wp2
 go_ret2
 refine⟨_,rfl,((Below.refl _ _).alloc (Nat.le_refl _) _).alloc (by simp) _,?_⟩;exact F5 _ _ (by simp) (by omega) rfl (by simp[Aj,wc]) (by simp)
theorem Np(L:Nat)(w:World)(_hL:L<=1000):Calls Tryz.prog 238 #[.int .u8 113,.int .i64 L] w (AV 113 L w):=by
 have hx:Pt.begins 113 L=some [(3,0,0),(1,0,L+1)]:=by simp[Pt.begins,Pt.AL]
 unfold AV;rw[hx];go_enter Tryz.func238,Tryz.ntmps238;go_wp2
 go_ret2
 refine⟨_,rfl,((Below.refl _ _).alloc (Nat.le_refl _) _).alloc (by simp) _,?_⟩;exact F5 _ _ (by simp) (by omega) rfl (by simp[Aj,wc]) (by simp)
theorem Nq(L:Nat)(w:World)(_hL:L<=1000):Calls Tryz.prog 238 #[.int .u8 114,.int .i64 L] w (AV 114 L w):=by
 have hx:Pt.begins 114 L=some [(4,0,0),(5,0,L+1)]:=by simp[Pt.begins,Pt.AL]
 unfold AV;rw[hx];go_enter Tryz.func238,Tryz.ntmps238;go_wp2
 go_ret2
 refine⟨_,rfl,((Below.refl _ _).alloc (Nat.le_refl _) _).alloc (by simp) _,?_⟩;exact F5 _ _ (by simp) (by omega) rfl (by simp[Aj,wc]) (by simp)
theorem Ns(L:Nat)(w:World)(_hL:L<=1000):Calls Tryz.prog 238 #[.int .u8 117,.int .i64 L] w (AV 117 L w):=by
 have hx:Pt.begins 117 L=some [(4,0,0),(5,0,L+1)]:=by simp[Pt.begins,Pt.AL]
 unfold AV;rw[hx];go_enter Tryz.func238,Tryz.ntmps238;go_wp2
 go_ret2
 refine⟨_,rfl,((Below.refl _ _).alloc (Nat.le_refl _) _).alloc (by simp) _,?_⟩;exact F5 _ _ (by simp) (by omega) rfl (by simp[Aj,wc]) (by simp)
theorem G0(c L:Nat)(w:World)(_hL:L<=1000)(hc:¬(c=98\/c=99\/c=105\/c=115\/c=101\/c=97\/c=113\/c=114\/c=117)):Calls Tryz.prog 238 #[.int .u8 c,.int .i64 L] w (AV c L w):=by
 have hx:Pt.begins c L=none:=by
  have h1:Pt.AL c=false:=by simp[Pt.AL];omega
  have a1:¬c=101:=by omega
  have a2:¬c=97:=by omega
  have a3:¬c=113:=by omega
  have a4:¬c=114:=by omega
  have a5:¬c=117:=by omega
  simp[Pt.begins,h1,a1,a2,a3,a4,a5]
 unfold AV;rw[hx];have c1:((c:Int)==98)=false:=by simp;omega
 have c2:((c:Int)==99)=false:=by simp;omega
 have c3:((c:Int)==105)=false:=by simp;omega
 have c4:((c:Int)==115)=false:=by simp;omega
 have c5:((c:Int)==101)=false:=by simp;omega
 have c6:((c:Int)==97)=false:=by simp;omega
 have c7:((c:Int)==113)=false:=by simp;omega
 have c8:((c:Int)==114)=false:=by simp;omega
 have c9:((c:Int)==117)=false:=by simp;omega
 clear hc hx;go_enter Tryz.func238,Tryz.ntmps238;go_wp2
 go_ret2
 exact⟨_,rfl,(Below.refl _ _).alloc (Nat.le_refl _) _,GK _ _⟩
theorem E7(c L:Nat)(w:World)(hL:L<=1000):Calls Tryz.prog 238 #[.int .u8 c,.int .i64 L] w (AV c L w):=by
 by_cases hc:c=98\/c=99\/c=105\/c=115\/c=101\/c=97\/c=113\/c=114\/c=117
 ·rcases hc with rfl|rfl|rfl|rfl|rfl|rfl|rfl|rfl|rfl
  ·exact QC L w hL
  ·exact QD L w hL
  ·exact Nn L w hL
  ·exact Nr L w hL
  ·exact Nl L w hL
  ·exact QB L w hL
  ·exact Np L w hL
  ·exact Nq L w hL
  ·exact Ns L w hL
 ·exact G0 c L w hL hc
end Go.Proofs.YtblomippkddgiaaGreatDoor.V
