import Derived.Test.YtblomippkddgiabGreatDoorJ00
import Derived.WalkKit
import Derived.WalkSpells
import Derived.WalkLawsBesides
import Derived.BigQuiet
import Derived.Deep.QuietTactic
import Derived.Maps.AppendAt
import Derived.Laws.AppendOwnNone
set_option maxHeartbeats 1000000
namespace Go.Proofs.YtblomippkddgiabGreatDoor.V
open Go.RowKit
variable {a:Addr}{s:ByteArray}{xs:List Value}{b k n p:Nat}{g:Nat→Nat}{S S':Nat→Prop}{a0 a1 a2:Value}{u v w w':World}
def nx(s:ByteArray)(p:Nat):Nat:=if h:p<s.size then (s[p]).toNat else 0
theorem KB(h:s.size<=p):nx s p=0:=by unfold nx;rw[dif_neg (by omega)]
theorem adZ(h:p<s.size):nx s p=(s[p]).toNat:=by unfold nx;rw[dif_pos h]
theorem ad1(s:ByteArray)(p:Nat):nx s p<256:=by
 unfold nx;split
 ·exact UInt8.toNat_lt _
 ·omega
def At(w:World)(b:Nat)(s:ByteArray)(p:Nat):Prop:=w.heap[b]?=some (.cells #[.string s,.int .i64 p] 294 (0,0))
theorem At.text(h:At w b s p):w.cell? ⟨b,0,none⟩=some (.string s):=by
 unfold At at h;simp[World.cell?,h]
theorem At.place(h:At w b s p):w.cell? ⟨b,1,none⟩=some (.int .i64 p):=by
 unfold At at h;simp[World.cell?,h]
theorem At.Un(h:At w b s p):w.frozen? ⟨b,1,none⟩=false:=by
 unfold At at h;simp[World.frozen?,h]
theorem At.lt(h:At w b s p):b<w.heap.size:=by
 unfold At at h;rcases agy b w.heap.size with hh|hh
 ·exact hh
 ·rw[ags hh]at h;cases h
theorem At.set{q:Nat}(h:At w b s p):At (w.setCell ⟨b,1,none⟩ (.int .i64 q)) b s q:=by
 unfold At at h ⊢;simp only[World.setCell,agi,h];simp
theorem At.alloc(h:At w b s p)(o:Obj):At (w.alloc o) b s p:=by
 have hl:=h.lt;unfold At at h ⊢;rw[Below.heap_alloc w o b hl];exact h
theorem Yh(hp:p<s.size):Value.int .u8 (nx s p:Int)=.int .u8 ((s[p]).toNat:Int):=by rw[adZ hp]
structure Af(b:Nat)(w w':World):Prop where
 os:w'.os=w.os
 tape:w'.tape=w.tape
 output:w'.output=w.output
 size:w.heap.size<=w'.heap.size
 block:∀k,k<w.heap.size->k≠b->w'.heap[k]?=w.heap[k]?
theorem Af.refl(b:Nat)(w:World):Af b w w:=⟨rfl,rfl,rfl,afI _,fun _ _ _=>rfl⟩
theorem Af.trans(h:Af b u v)(k:Af b v w):Af b u w:=
 ⟨k.os.trans h.os,k.tape.trans h.tape,k.output.trans h.output,agM h.size k.size,fun i hi hb=>(k.block i (afT hi h.size) hb).trans (h.block i hi hb)⟩
theorem Af.drewN(h:Af b u v)(n:Nat):Af b u (v.drewN n):=⟨h.os,h.tape,h.output,h.size,h.block⟩
theorem Af.alloc(h:Af b u v)(o:Obj):Af b u (v.alloc o):=
 h.trans ⟨rfl,rfl,rfl,by simp,fun k hk _=>Below.heap_alloc _ _ _ hk⟩
theorem Af.setCell(h:Af b u v){p:Addr}(hp:p.block=b\/u.heap.size<=p.block)(x:Value):Af b u (v.setCell p x):=
 ⟨h.os,h.tape,h.output,by simpa [World.setCell] using h.size,fun k hk hb=>by
  rw[Below.heap_setCell v p x k (by omega)];exact h.block k hk hb⟩
theorem Af.cell(h:Af b u v){p:Addr}(hp:p.block<u.heap.size)(hb:p.block≠b):v.cell? p=u.cell? p:=World.cell?_of_block (w:=u) (h.block p.block hp hb)
theorem Af.frozen(h:Af b u v){p:Addr}(hp:p.block<u.heap.size)(hb:p.block≠b):v.frozen? p=u.frozen? p:=World.frozen?_of_block (w:=u) (h.block p.block hp hb)
theorem aa9(b p:Nat)(s:ByteArray)(w:World)(h:At w b s p)(hp:p<s.size)(_hs:s.size<=40):
  Calls Tryz.prog 263 #[.pointer (some ⟨b,0,none⟩)] w fun e w'=>e=.returned (.int .u8 (nx s p))/\Af b w w'/\At w' b s p:=by
 have H:=h;have h1:=h.text;have h2:=h.place;have aa:((p:Int)==(s.size:Int))=false:=by simp;omega
 rw[Yh hp];clear h;go_enter Tryz.func263,Tryz.ntmps263;go_wp2;go_quiet (fail);go_wp2;go_quiet (fail);go_wp2
 go_ret
 exact⟨rfl,((Af.refl _ _).drewN _).drewN _,H⟩
theorem YV(b p:Nat)(s:ByteArray)(w:World)(h:At w b s p)(hp:p=s.size):
  Calls Tryz.prog 263 #[.pointer (some ⟨b,0,none⟩)] w fun e w'=>e=.returned (.int .u8 (nx s p))/\Af b w w'/\At w' b s p:=by
 rw[KB (by omega)];have H:=h;have h1:=h.text;have h2:=h.place;have aa:((p:Int)==(s.size:Int))=true:=by simp;omega
 clear h hp;go_enter Tryz.func263,Tryz.ntmps263;go_wp2;go_quiet (fail);go_wp2
 go_ret
 exact⟨rfl,(Af.refl _ _).drewN _,H⟩
theorem ES(b p:Nat)(s:ByteArray)(w:World)(h:At w b s p)(hp:p<=s.size)(hs:s.size<=40):
  Calls Tryz.prog 263 #[.pointer (some ⟨b,0,none⟩)] w fun e w'=>e=.returned (.int .u8 (nx s p))/\Af b w w'/\At w' b s p:=by
 by_cases aa:p<s.size
 ·exact aa9 b p s w h aa hs
 ·exact YV b p s w h (by omega)
theorem GA(b p:Nat)(s:ByteArray)(w:World)(h:At w b s p):
  Calls Tryz.prog 222 #[.pointer (some ⟨b,0,none⟩)] w fun e w'=>e=.returned (.agg #[.int .i64 2,.int .i64 p])/\Af b w w':=by
 have h2:=fun o=>(h.alloc o).place
 clear h;go_enter Tryz.func222,Tryz.ntmps222;go_wp2;exact bodyPost_ret (v:=.agg #[.int .i64 2,.int .i64 p]) (by simp[results,Tryz.results222,go_sem]) rfl ⟨rfl,(Af.refl _ _).alloc _⟩
abbrev BO(q:Nat):Ending:=.panicked [{v:=.iface 161 (.agg #[.int .i64 2,.int .i64 q]),recovered:=false}]
theorem Cv(b p:Nat)(s:ByteArray)(w:World)(c:Nat)(h:At w b s p)(hp:p<=s.size)(hs:s.size<=40)(hx:nx s p=c)(hc:c=98\/c=99\/c=105\/c=115\/c=101\/c=97\/c=113\/c=114\/c=117):
  Calls Tryz.prog 253 #[.pointer (some ⟨b,0,none⟩)] w fun e w'=>e=.returned (.int .u8 c)/\Af b w w'/\At w' b s (p+1):=by
 have HN:=ES b p s w h hp hs;rw[hx]at HN;have HX:Hid (nx s p=c):=hx;clear hx;rcases hc with rfl|rfl|rfl|rfl|rfl|rfl|rfl|rfl|rfl;all_goals
  go_enter Tryz.func253,Tryz.ntmps253;go_wp2_with fail
  refine HN.mono ?_;rintro e w1 ⟨rfl,hk,ha⟩;have h2:=ha.place;have h3:=ha.Un;go_wp2
  go_ret
  exact⟨rfl,hk.setCell (afJ rfl) _,ha.set⟩
theorem V6(b p:Nat)(s:ByteArray)(w:World)(c:Nat)(h:At w b s p)(hp:p<=s.size)(hs:s.size<=40)(hx:nx s p=c)(hc:¬(c=98\/c=99\/c=105\/c=115\/c=101\/c=97\/c=113\/c=114\/c=117)):
  Calls Tryz.prog 253 #[.pointer (some ⟨b,0,none⟩)] w fun e w'=>e=BO p/\Af b w w':=by
 have HN:=ES b p s w h hp hs;rw[hx]at HN;clear hx;have c1:((c:Int)==98)=false:=by simp;omega
 have c2:((c:Int)==99)=false:=by simp;omega
 have c3:((c:Int)==105)=false:=by simp;omega
 have c4:((c:Int)==115)=false:=by simp;omega
 have c5:((c:Int)==101)=false:=by simp;omega
 have c6:((c:Int)==97)=false:=by simp;omega
 have c7:((c:Int)==113)=false:=by simp;omega
 have c8:((c:Int)==114)=false:=by simp;omega
 have c9:((c:Int)==117)=false:=by simp;omega
 clear hc;go_enter Tryz.func253,Tryz.ntmps253;go_wp2_with fail
 refine HN.mono ?_;rintro e w1 ⟨rfl,hk,ha⟩;go_wp2_with fail
 refine(GA b p s _ ha).mono ?_;rintro e w2 ⟨rfl,aa⟩;go_wp2;exact⟨rfl,rfl,hk.trans aa⟩
theorem Ie(b p:Nat)(s:ByteArray)(w:World)(c l:Nat)(h:At w b s p)(hp:p<=s.size)(hs:s.size<=40)(hx:nx s p=c)(hc:48+l<=c/\c<=57):
  Calls Tryz.prog 254 #[.pointer (some ⟨b,0,none⟩),.int .i64 l] w fun e w'=>e=.returned (.int .i64 ((c:Int)-48))/\Af b w w'/\At w' b s (p+1):=by
 have HN:=ES b p s w h hp hs;rw[hx]at HN;clear hx h;obtain⟨c1,c2⟩:=hc;have d1:¬((c:Int)-48<(l:Int)):=by omega
 have d2:¬((9:Int)<(c:Int)-48):=by omega
 go_enter Tryz.func254,Tryz.ntmps254;go_wp2_with fail
 refine HN.mono ?_;rintro e w1 ⟨rfl,hk,ha⟩;have h2:=ha.place;have h3:=ha.Un;clear HN;go_wp2
 go_ret
 exact⟨rfl,hk.setCell (afJ rfl) _,ha.set⟩
theorem MI(b p:Nat)(s:ByteArray)(w:World)(c l:Nat)(h:At w b s p)(hp:p<=s.size)(hs:s.size<=40)(hx:nx s p=c)(hc:¬(48+l<=c/\c<=57)):
  Calls Tryz.prog 254 #[.pointer (some ⟨b,0,none⟩),.int .i64 l] w fun e w'=>e=BO p/\Af b w w':=by
 have HN:=ES b p s w h hp hs;have ab:=ad1 s p;rw[hx]at HN ab;clear hx h;by_cases d1:(c:Int)-48<(l:Int)
 ·clear hc;go_enter Tryz.func254,Tryz.ntmps254;go_wp2_with fail
  refine HN.mono ?_;rintro e w1 ⟨rfl,hk,ha⟩;clear HN;go_wp2_with fail
  refine(GA b p s _ ha).mono ?_;rintro e w2 ⟨rfl,aa⟩;go_wp2;exact⟨rfl,rfl,hk.trans aa⟩
 ·have d2:(9:Int)<(c:Int)-48:=by omega
  clear hc;go_enter Tryz.func254,Tryz.ntmps254;go_wp2_with fail
  refine HN.mono ?_;rintro e w1 ⟨rfl,hk,ha⟩;clear HN;go_wp2_with fail
  refine(GA b p s _ ha).mono ?_;rintro e w2 ⟨rfl,aa⟩;go_wp2;exact⟨rfl,rfl,hk.trans aa⟩
theorem GK(b p:Nat)(s:ByteArray)(w:World)(c:Nat)(h:At w b s p)(hp:p<=s.size)(hs:s.size<=40)(hx:nx s p=c):
  Calls Tryz.prog 264 #[.pointer (some ⟨b,0,none⟩),.int .u8 c] w fun e w'=>e=.returned (.tuple #[])/\Af b w w'/\At w' b s (p+1):=by
 have HN:=ES b p s w h hp hs;rw[hx]at HN;clear hx h;go_enter Tryz.func264,Tryz.ntmps264;go_wp2_with fail
 refine HN.mono ?_;rintro e w1 ⟨rfl,hk,ha⟩;have h2:=ha.place;have h3:=ha.Un;clear HN;go_wp2
 go_end0
 exact⟨rfl,hk.setCell (afJ rfl) _,ha.set⟩
theorem Mm(b p:Nat)(s:ByteArray)(w:World)(c d:Nat)(h:At w b s p)(hp:p<=s.size)(hs:s.size<=40)(hx:nx s p=c)(hd:c≠d):
  Calls Tryz.prog 264 #[.pointer (some ⟨b,0,none⟩),.int .u8 d] w fun e w'=>e=BO p/\Af b w w':=by
 have HN:=ES b p s w h hp hs;rw[hx]at HN;clear hx h;have d1:((c:Int) != (d:Int))=true:=by simp;omega
 clear hd;go_enter Tryz.func264,Tryz.ntmps264;go_wp2_with fail
 refine HN.mono ?_;rintro e w1 ⟨rfl,hk,ha⟩;clear HN;go_wp2_with fail
 refine(GA b p s _ ha).mono ?_;rintro e w2 ⟨rfl,aa⟩;go_wp2;exact⟨rfl,rfl,hk.trans aa⟩
def Bi(g:Nat->Nat)(p:Nat):Int:=if g p=101\/g p=97\/g p=113 then (g (p+1):Int)-48 else 0
def NN(w:World)(S:Nat->Prop)(v:Value)(n:Nat)(xs:List Value):Prop:=w.ownsRow 0 262 3 v n xs/\∀k,v.ownBlock=some k->S k
def Fe(w:World)(S:Nat->Prop)(g:Nat->Nat):Nat->Nat->Value->Value->Value->Prop
 |0,_,_,_,_=>False
 |f+1,p,c0,c1,c2=>c0=.int .u8 (g p)/\c1=.int .i64 (Bi g p)/\∃xs:List Value,NN w S c2 (Pt.kids g f p).length xs /\
   ∀(i q:Nat),(Pt.kids g f p)[i]?=some q->∃d0 d1 d2,xs[3*i]?=some d0/\xs[3*i+1]?=some d1/\xs[3*i+2]?=some d2/\Fe w S g f q d0 d1 d2
structure Ct(S:Nat->Prop)(w w':World):Prop where
 size:w.heap.size<=w'.heap.size
 block:∀k,S k->k<w.heap.size->w'.heap[k]?=w.heap[k]?
theorem Ct.refl(S:Nat->Prop)(w:World):Ct S w w:=⟨afI _,fun _ _ _=>rfl⟩
theorem Ct.trans(h:Ct S u v)(k:Ct S v w):Ct S u w:=
 ⟨agM h.size k.size,fun i hb hi=>(k.block i hb (afT hi h.size)).trans (h.block i hb hi)⟩
theorem Ct.alloc(h:Ct S u v)(o:Obj):Ct S u (v.alloc o):=
 h.trans ⟨by simp,fun k _ hk=>Below.heap_alloc _ _ _ hk⟩
theorem Ct.setCell(h:Ct S u v)(ha:¬S a.block)(x:Value):Ct S u (v.setCell a x):=
 h.trans ⟨by simp[World.setCell],fun k hb _=>Below.heap_setCell _ _ _ _ (fun e=>ha (e ▸ hb))⟩
theorem Af.above(h:Af b u v)(hb:¬S b):Ct S u v:=⟨h.size,fun k hk hl=>h.block k hl (fun e=>hb (e ▸ hk))⟩
theorem lt_of_block{o:Obj}(h:w.heap[k]?=some o):k<w.heap.size:=by
 rcases agy k w.heap.size with hh|hh
 ·exact hh
 ·rw[ags hh]at h;cases h
theorem GY{v:Value}(h:NN w S v n xs)(hk:Ct S w w'):NN w' S v n xs:=by
 obtain⟨⟨hl,h⟩,hS⟩:=h;refine⟨⟨hl,?_⟩,hS⟩;rcases h with h|⟨g,cap,aa,hv,hg,hh,r⟩
 ·exact afJ h
 ·refine afM ⟨g,cap,aa,hv,hg,?_,r⟩;rw[hk.block g (hS g (by rw[hv];rfl)) (lt_of_block hh)];exact hh
theorem IL{v:Value}(h:NN w S v n xs)(hb:∀k,S k->k<w.heap.size->S' k):NN w S' v n xs:=by
 refine⟨h.1,fun k hk=>hb k (h.2 k hk) ?_⟩;obtain⟨⟨_,h⟩,_⟩:=h;rcases h with ⟨hv,_⟩|⟨g,cap,aa,hv,hg,hh,r⟩
 ·rw[hv]at hk;cases hk
 ·rw[hv]at hk;cases hk;exact lt_of_block hh
theorem Nf{m:Nat}{d0 d1 d2:Value}(X:World)(hm:X.heap.size=m):NN (X.alloc (.cells #[d0,d1,d2] 262)) (fun k=>k=m) (.slice (some ⟨m,0,none⟩) 1 1) 1 [d0,d1,d2]:=by
 subst hm;refine⟨⟨rfl,afM ⟨_,_,#[d0,d1,d2],rfl,af8 _,?_,afI _,by decide,rfl,rfl⟩⟩,fun k hk=>by cases hk;rfl⟩;show (X.heap.push _)[X.heap.size]?=_;rw[agJ]
theorem Bw(hk:Ct S w w'):∀{f p:Nat} {c0 c1 c2:Value},Fe w S g f p c0 c1 c2->Fe w' S g f p c0 c1 c2:=by
 intro f;induction f with
 |zero=>intro p c0 c1 c2 h;exact h
 |succ f ih=>
  intro p c0 c1 c2 h;obtain⟨h0,h1,xs,ho,hi⟩:=h;refine⟨h0,h1,xs,GY ho hk,fun i q hq=>?_⟩;obtain⟨d0,d1,d2,a0,a1,a2,hr⟩:=hi i q hq;exact⟨d0,d1,d2,a0,a1,a2,ih hr⟩
theorem DN(hb:∀k,S k->k<w.heap.size->S' k):∀{f p:Nat} {c0 c1 c2:Value},Fe w S g f p c0 c1 c2->Fe w S' g f p c0 c1 c2:=by
 intro f;induction f with
 |zero=>intro p c0 c1 c2 h;exact h
 |succ f ih=>
  intro p c0 c1 c2 h;obtain⟨h0,h1,xs,ho,hi⟩:=h;refine⟨h0,h1,xs,IL ho hb,fun i q hq=>?_⟩;obtain⟨d0,d1,d2,a0,a1,a2,hr⟩:=hi i q hq;exact⟨d0,d1,d2,a0,a1,a2,ih hr⟩
theorem Zh(w:World)(S:Nat->Prop):NN w S (.slice none 0 0) 0 []:=⟨World.ownsRow_nil _ _ _ _,fun k hk=>by cases hk⟩
theorem Ru{f:Nat}{c0 c1:Value}(hk:Pt.kids g f p=[])(h0:c0=.int .u8 (g p))(h1:c1=.int .i64 (Bi g p)):Fe w S g (f+1) p c0 c1 (.slice none 0 0):=by
 refine⟨h0,h1,[],?_,?_⟩
 ·rw[hk];exact Zh _ _
 ·intro i q hq;rw[hk]at hq;simp at hq
theorem adT{W w1:World}(hb:Af b W w1):(∀k o,k<W.heap.size->¬k=b->w1.cell? ⟨k,o,none⟩=W.cell? ⟨k,o,none⟩)/\(∀k o,k<W.heap.size->¬k=b->w1.frozen? ⟨k,o,none⟩=W.frozen? ⟨k,o,none⟩):=
 ⟨fun k o h hn=>hb.cell (p:=⟨k,o,none⟩) h hn,fun k o h hn=>hb.frozen (p:=⟨k,o,none⟩) h hn⟩
theorem At.other(h:At w b s p)(ha:¬a.block=b)(x:Value):At (w.setCell a x) b s p:=by
 unfold At at h ⊢;rw[Below.heap_setCell _ _ _ _ (fun e=>ha e.symm)];exact h
def Da(b:Nat)(s:ByteArray)(f p:Nat)(w:World)(e:Ending)(w':World):Prop:=
 if (Pt.ty (nx s) f p).1 then ∃c0 c1 c2,e=.returned (.agg #[c0,c1,c2])/\Af b w w'/\At w' b s (Pt.ty (nx s) f p).2/\Fe w' (fun k=>w.heap.size<=k) (nx s) f p c0 c1 c2
 else e=BO (Pt.ty (nx s) f p).2/\Af b w w'
abbrev Bh:Obj:=.cells #[.int .u8 0,.int .i64 0,.slice none 0 0] 262
theorem Y7(b p:Nat)(s:ByteArray)(w:World)(c:Nat)(h:At w b s p)(hp:p<=s.size)(hs:s.size<=40)(hx:nx s p=c)(hc:c=98\/c=99\/c=105\/c=115):
  Calls Tryz.prog 221 #[.pointer (some ⟨b,0,none⟩)] w fun e w'=>e=.returned (.agg #[.int .u8 c,.int .i64 0,.slice none 0 0])/\Af b w w'/\At w' b s (p+1):=by
 have ac:=h.lt;have HL:=Cv b p s (w.alloc Bh) c (h.alloc _) hp hs hx (by omega);clear hx h;have aa:¬w.heap.size=b:=by omega
 rcases hc with rfl|rfl|rfl|rfl;all_goals
  go_enter Tryz.func221,Tryz.ntmps221;go_wp2_with fail
  refine HL.mono ?_;rintro e w1 ⟨rfl,hk,ha⟩;obtain⟨hc,hf⟩:=adT hk;have hz:w.heap.size<w1.heap.size:=by have:=hk.size;simp at this;omega
  clear HL;go_wp2;refine bodyPost_ret (v:=.agg #[.int .u8 _,.int .i64 0,.slice none 0 0]) (by simp[results,Tryz.results221,go_sem,hc,hz,aa]) rfl ⟨rfl,?_,?_⟩
  ·refine Af.alloc ?_ _;have ab:=((Af.refl b w).alloc Bh).trans hk;repeat (first|exact ab|refine Af.setCell ?_ (by simp) _)
  ·refine At.alloc ?_ _;repeat (first|exact ha|refine At.other ?_ (by simpa using aa) _)
theorem abe(b p:Nat)(s:ByteArray)(w:World)(c:Nat)(h:At w b s p)(hp:p<=s.size)(hs:s.size<=40)(hx:nx s p=c)(hc:¬(c=98\/c=99\/c=105\/c=115\/c=101\/c=97\/c=113\/c=114\/c=117)):
  Calls Tryz.prog 221 #[.pointer (some ⟨b,0,none⟩)] w fun e w'=>e=BO p/\Af b w w':=by
 have HL:=V6 b p s (w.alloc Bh) c (h.alloc _) hp hs hx hc;clear hx h hc;go_enter Tryz.func221,Tryz.ntmps221;go_wp2_with fail
 refine HL.mono ?_;rintro e w1 ⟨rfl,hk⟩;clear HL;go_wp2;exact⟨rfl,rfl,((Af.refl b w).alloc Bh).trans hk⟩
def FE(w:World)(k:Nat)(a0 a1 a2:Value):Prop:=w.heap[k]?=some (.cells #[a0,a1,a2] 262 (0,0))
theorem FE.facts(h:FE w k a0 a1 a2):
  w.cell? ⟨k,0,none⟩=some a0/\w.cell? ⟨k,1,none⟩=some a1/\w.cell? ⟨k,2,none⟩=some a2/\w.frozen? ⟨k,0,none⟩=false/\w.frozen? ⟨k,1,none⟩=false/\w.frozen? ⟨k,2,none⟩=false:=by
 unfold FE at h;simp[World.cell?,World.frozen?,h]
theorem FE.new(w:World)(a0 a1 a2:Value):FE (w.alloc (.cells #[a0,a1,a2] 262)) w.heap.size a0 a1 a2:=by
 show (w.heap.push _)[w.heap.size]?=_;rw[agJ]
theorem FE.lt(h:FE w k a0 a1 a2):k<w.heap.size:=by
 unfold FE at h;rcases agy k w.heap.size with hh|hh
 ·exact hh
 ·rw[ags hh]at h;cases h
theorem FE.keeps(h:FE w k a0 a1 a2)(hk:Af b w w')(hb:k≠b):FE w' k a0 a1 a2:=by
 have hl:=h.lt;unfold FE at h ⊢;rw[hk.block k hl hb];exact h
theorem FE.alloc(h:FE w k a0 a1 a2)(o:Obj):FE (w.alloc o) k a0 a1 a2:=by
 have hl:=h.lt;unfold FE at h ⊢;rw[Below.heap_alloc w o k hl];exact h
theorem FE.set1(h:FE w k a0 a1 a2)(x:Value):FE (w.setCell ⟨k,1,none⟩ x) k a0 x a2:=by
 unfold FE at h ⊢;simp only[World.setCell,agi,h];simp
theorem FE.other(h:FE w k a0 a1 a2)(ha:¬a.block=k)(x:Value):FE (w.setCell a x) k a0 a1 a2:=by
 unfold FE at h ⊢;rw[Below.heap_setCell _ _ _ _ (fun e=>ha e.symm)];exact h
theorem ad2(b p:Nat)(s:ByteArray)(w:World)(h:At w b s p)(hp:p<s.size)(hs:s.size<=40)(hx:nx s p=101)(hd:49<=nx s (p+1)/\nx s (p+1)<=57):
  Calls Tryz.prog 221 #[.pointer (some ⟨b,0,none⟩)] w fun e w'=>e=.returned (.agg #[.int .u8 101,.int .i64 ((nx s (p+1):Int)-48),.slice none 0 0])/\Af b w w'/\At w' b s (p+2):=by
 have ag:=h.lt;have HL:=Cv b p s (w.alloc Bh) 101 (h.alloc _) (by omega) hs hx (by omega);clear hx h;have ab:¬w.heap.size=b:=by omega
 generalize hc2:nx s (p+1)=c2 at *;have ad:Hid (nx s (p+1)=c2):=hc2;clear hc2;go_enter Tryz.func221,Tryz.ntmps221;go_wp2_with fail
 refine HL.mono ?_;rintro e w1 ⟨rfl,hk,ha⟩;have T:=(FE.new w (.int .u8 0) (.int .i64 0) (.slice none 0 0)).keeps hk ab;have hz:w.heap.size<w1.heap.size:=T.lt;have ac:¬w1.heap.size=b:=by have:=ha.lt;omega
 have ah:¬w.heap.size=w1.heap.size:=by omega
 clear HL;go_wp2_with fail
 refine(Ie b (p+1) s _ c2 1 (ha.alloc _) (by omega) hs ad.out (by omega)).mono ?_;rintro e w2 ⟨rfl,aa,ae⟩;have T1:=(FE.new w1 (.int .u8 101) (.int .i64 0) (.slice none 0 0)).keeps aa ac;have T2:=(T.alloc (.cells #[.int .u8 101,.int .i64 0,.slice none 0 0] 262)).keeps aa ab;have af:=(((Af.refl b w).alloc Bh).trans hk).trans (((Af.refl b w1).alloc _).trans aa);obtain⟨x0,x1,x2,y0,y1,y2⟩:=T1.facts;obtain⟨u0,u1,u2,v0,v1,v2⟩:=T2.facts;clear T hk aa ha T1 T2;go_wp2;refine bodyPost_ret (v:=.agg #[.int .u8 101,.int .i64 ((c2:Int)-48),.slice none 0 0]) (by simp[results,Tryz.results221,go_sem,u0,u1,u2]) rfl ⟨rfl,?_,?_⟩
 ·repeat (first|exact af|refine Af.setCell ?_ (by simp;try omega) _)
 ·repeat (first|exact ae|refine At.other ?_ (by first|simpa using ab|simpa using ac) _)
end Go.Proofs.YtblomippkddgiabGreatDoor.V
