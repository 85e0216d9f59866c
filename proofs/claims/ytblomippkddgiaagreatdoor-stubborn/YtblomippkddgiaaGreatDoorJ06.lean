import Derived.Test.YtblomippkddgiaaGreatDoorJ05
import Derived.Deep.RegionWith
import Derived.Deep.RegionLaw
import Derived.Lib.AppendStr
set_option maxRecDepth 100000
set_option maxHeartbeats 1000000
namespace Go.Proofs.YtblomippkddgiaaGreatDoor.V
open Go.RowKit
theorem aaZ(w:World):Calls Tryz.prog 126 #[] w fun e w'=>e=.returned (.agg #[.int .i64 4,.int .i64 0])∧Below w.heap.size w w':=by
 go_enter Tryz.func126,Tryz.ntmps126
 go_wp2
 exact bodyPost_ret (v:=.agg #[.int .i64 4,.int .i64 0]) (by simp[results,Tryz.results126,go_sem]) rfl ⟨rfl,(Below.refl _ _).alloc (Nat.le_refl _) _⟩
def Wr(w:World)(b:Nat)(L O:Value):Prop:=w.heap[b]?=some (.cells #[L,O] 201 (0,0))
theorem Wr.left{w:World}{b:Nat}{L O:Value}(h:Wr w b L O):w.cell? ⟨b,0,none⟩=some L:=by
 unfold Wr at h
 simp[World.cell?,h]
theorem Wr.out{w:World}{b:Nat}{L O:Value}(h:Wr w b L O):w.cell? ⟨b,1,none⟩=some O:=by
 unfold Wr at h
 simp[World.cell?,h]
theorem Wr.thaw0{w:World}{b:Nat}{L O:Value}(h:Wr w b L O):w.frozen? ⟨b,0,none⟩=false:=by
 unfold Wr at h
 simp[World.frozen?,h]
theorem Wr.thaw1{w:World}{b:Nat}{L O:Value}(h:Wr w b L O):w.frozen? ⟨b,1,none⟩=false:=by
 unfold Wr at h
 simp[World.frozen?,h]
theorem Wr.lt{w:World}{b:Nat}{L O:Value}(h:Wr w b L O):b<w.heap.size:=lt_of_block h
theorem Wr.set0{w:World}{b:Nat}{L O:Value}(h:Wr w b L O)(x:Value):Wr (w.setCell ⟨b,0,none⟩ x) b x O:=by
 unfold Wr at h ⊢
 simp only[World.setCell,Array.getElem?_modify,h]
 simp
theorem Wr.set1{w:World}{b:Nat}{L O:Value}(h:Wr w b L O)(x:Value):Wr (w.setCell ⟨b,1,none⟩ x) b L x:=by
 unfold Wr at h ⊢
 simp only[World.setCell,Array.getElem?_modify,h]
 simp
theorem Wr.alloc{w:World}{b:Nat}{L O:Value}(h:Wr w b L O)(o:Obj):Wr (w.alloc o) b L O:=by
 have hl:=h.lt
 unfold Wr at h ⊢
 rw[Below.heap_alloc w o b hl]
 exact h
theorem Wr.below{w w':World}{b:Nat}{L O:Value}(h:Wr w b L O)(hb:Below w.heap.size w w'):Wr w' b L O:=by
 have hl:=h.lt
 unfold Wr at h ⊢
 rw[hb.block b hl]
 exact h
theorem akY(b:Nat)(a:Option Addr)(cap:Nat)(O:Value)(w:World)(h:Wr w b (.slice a 0 cap) O) :
  Calls Tryz.prog 283 #[.pointer (some ⟨b,0,none⟩)] w fun e w'=>e=aaf 4 0∧Below w.heap.size w w':=by
 have h1:=fun o=>(h.alloc o).left
 have HN:=aab aaZ
 clear h
 go_enter Tryz.func283,Tryz.ntmps283
 go_wp2_with fail
 refine((unhide HN) _).mono ?_
 rintro e w1 ⟨rfl,hb1⟩
 go_wp2
 exact⟨rfl,rfl,((Below.refl _ _).alloc (Nat.le_refl _) _).trans (hb1.mono (by simp))⟩
def u8s(l:List UInt8):List Value:=l.map fun c=>Value.int .u8 (c.toNat:Int)
theorem aav{w w':World}{B n size:Nat}{e:TypeId}{v:Value}{xs:List Value}(h:w.ownsRow B e size v n xs)(hb:Below w.heap.size w w'):w'.ownsRow B e size v n xs:=by
 obtain⟨hl,h⟩:=h
 refine⟨hl,?_⟩
 rcases h with h|⟨g,cap,cur,hv,hg,hh,r⟩
 ·exact Or.inl h
 ·refine Or.inr ⟨g,cap,cur,hv,hg,?_,r⟩
  rw[hb.block g (lt_of_block hh)]
  exact hh
theorem adZ{w:World}{B n size k o:Nat}{e:TypeId}{v x:Value}{xs:List Value}(h:w.ownsRow B e size v n xs)(hk:k<B):(w.setCell ⟨k,o,none⟩ x).ownsRow B e size v n xs:=by
 obtain⟨hl,h⟩:=h
 refine⟨hl,?_⟩
 rcases h with h|⟨g,cap,cur,hv,hg,hh,r⟩
 ·exact Or.inl h
 ·refine Or.inr ⟨g,cap,cur,hv,hg,?_,r⟩
  rw[Below.heap_setCell _ _ _ _ (by simp;omega)]
  exact hh
theorem adL(l:List UInt8):∀u∈u8s l,u.oneCell'=true:=by
 intro u hu
 unfold u8s at hu
 obtain⟨c,_,rfl⟩:=List.mem_map.1 hu
 rfl
structure WS(w0 w:World)(L:Value)(v:List It)(O:Value)(out:List UInt8):Prop where
 wr:Wr w w0.heap.size L O
 items:Items w0 L v
 below:Below w0.heap.size w0 w
 own:w.ownsRow (w0.heap.size+1) 5 1 O out.length (u8s out)
structure Wk(b:Nat)(O O':Value)(w w':World):Prop where
 size:w.heap.size≤w'.heap.size
 block:∀k,k<w.heap.size→k≠b→O.ownBlock≠some k→w'.heap[k]?=w.heap[k]?
 row:O'.ownBlock=O.ownBlock∨∃g,O'.ownBlock=some g∧w.heap.size≤g
theorem Wk.trans{b:Nat}{O O1 O2:Value}{w w1 w2:World}(h:Wk b O O1 w w1)(k:Wk b O1 O2 w1 w2):Wk b O O2 w w2:=by
 have hs:=h.size
 refine⟨Nat.le_trans h.size k.size,fun i hi hb hr=>?_,?_⟩
 ·rw[k.block i (by omega) hb ?_,h.block i hi hb hr]
  rcases h.row with h1|⟨g,h1,h2⟩
  ·rw[h1];exact hr
  ·rw[h1];intro e;cases e;omega
 ·rcases k.row with k1|⟨g,k1,k2⟩
  ·rcases h.row with h1|⟨g,h1,h2⟩
   ·exact Or.inl (k1.trans h1)
   ·exact Or.inr ⟨g,k1.trans h1,h2⟩
  ·exact Or.inr ⟨g,k1,by omega⟩
theorem Wk.of_below{b:Nat}{O:Value}{w w':World}(h:Below w.heap.size w w'):Wk b O O w w':=⟨h.size,fun k hk _ _=>h.block k hk,Or.inl rfl⟩
theorem Wk.cell{b:Nat}{O O':Value}{w w':World}(h:Wk b O O' w w'){k o:Nat}(hk:k<w.heap.size)(hb:k≠b)(hr:O.ownBlock≠some k):w'.cell? ⟨k,o,none⟩=w.cell? ⟨k,o,none⟩:=World.cell?_of_block (w:=w) (h.block k hk hb hr)
theorem WS.row{w0 w:World}{L O:Value}{v:List It}{out:List UInt8}(h:WS w0 w L v O out){k:Nat}(hk:O.ownBlock=some k):w0.heap.size<k∧k<w.heap.size:=by
 have:=h.own.lt k hk
 omega
theorem WS.go{w0 w w':World}{L O:Value}{v:List It}{out:List UInt8}(h:WS w0 w L v O out)(hb:Below w.heap.size w w'):WS w0 w' L v O out:=
 ⟨h.wr.below hb,h.items,h.below.trans (hb.mono h.below.size),aav h.own hb⟩
theorem ajc{w:World}{L:Value}{x:It}{v:List It}(h:Items w L (x :: v)):∃g off cap,L=.slice (some ⟨g,off,none⟩) (v.length+1) cap∧v.length+1≤cap∧g<w.heap.size∧w.cell? ⟨g,off,none⟩=some (.int .i64 x.1)∧w.cell? ⟨g,off+1,none⟩=some (.string x.2)∧Items w (.slice (some ⟨g,off+2,none⟩) v.length (cap-1)) v∧(cap=1→Items w (.slice (some ⟨g,off,none⟩) v.length 0) v):=by
 obtain⟨a,cap,hL,hc,h⟩:=h
 rcases h with h|⟨g,off,ha,hl,hx⟩
 ·cases h
 ·subst ha
  simp only[List.length_cons]at hL hc
  have h0:=hx 0 x rfl
  refine⟨g,off,cap,hL,hc,hl,by simpa using h0.1,by simpa using h0.2,⟨_,_,rfl,by omega,?_⟩,fun hc1=>⟨_,_,rfl,by omega,Or.inl ?_⟩⟩
  ·refine Or.inr ⟨g,off+2,rfl,hl,fun j y hj=>?_⟩
   have h1:=hx (j+1) y (by simpa using hj)
   rw[show off+2+j*2=off+(j+1)*2 by omega]
   exact h1
  ·exact List.eq_nil_of_length_eq_zero (by omega)
theorem acB(w0 w:World)(L O:Value)(x:It)(v:List It)(out:List UInt8)(h:WS w0 w L (x :: v) O out)(hn:v.length≤9000000000000) :
  Calls Tryz.prog 283 #[.pointer (some ⟨w0.heap.size,0,none⟩)] w fun e w'=>e=.returned (.agg #[.int .i64 x.1,.string x.2])∧∃L',WS w0 w' L' v O out∧Wk w0.heap.size O O w w':=by
 obtain⟨g,off,cap,rfl,hc,hg,f0,f1,it1,it2⟩:=ajc h.items
 have hbz:=h.below.size
 obtain⟨b,hbb⟩:∃b,b=w0.heap.size:=⟨_,rfl⟩
 have hwr:=h.wr
 have hlt:=hwr.lt
 have hgw:g<w.heap.size:=by omega
 have e0:=fun o=>(World.cell?_of_block (w:=w) (a:=⟨g,off,none⟩) (Below.heap_alloc w o g hgw)).trans ((h.below.cell (p:=⟨g,off,none⟩) hg).trans f0)
 have e1:=fun o=>(World.cell?_of_block (w:=w) (a:=⟨g,off+1,none⟩) (Below.heap_alloc w o g hgw)).trans ((h.below.cell (p:=⟨g,off+1,none⟩) hg).trans f1)
 have h1:=fun o=>(hwr.alloc o).left
 have h2:=fun o=>(hwr.alloc o).thaw0
 have HS:=aab h
 have hne:¬w.heap.size=w0.heap.size:=by omega
 have fin:∀L',Items w0 L' v→WS w0 (((w.setCell ⟨w0.heap.size,0,none⟩ L').alloc (.cells #[.int .i64 x.1,.string x.2] 106)).alloc (.cells #[.int .i64 x.1,.string x.2] 106)) L' v O out∧Wk w0.heap.size O O w (((w.setCell ⟨w0.heap.size,0,none⟩ L').alloc (.cells #[.int .i64 x.1,.string x.2] 106)).alloc (.cells #[.int .i64 x.1,.string x.2] 106)):=by
  intro L' hi
  have hb:Below w0.heap.size w0 (w.setCell ⟨w0.heap.size,0,none⟩ L'):=h.below.setCell (by simp) _
  refine⟨⟨((hwr.set0 L').alloc _).alloc _,hi,(hb.alloc (by simp;omega) _).alloc (by simp;omega) _,((adZ h.own (by omega)).alloc _).alloc _⟩,⟨by simp;omega,fun k hk hkb _=>?_,Or.inl rfl⟩⟩
  rw[Below.heap_alloc _ _ _ (by simp;omega),Below.heap_alloc _ _ _ (by simp;omega),Below.heap_setCell _ _ _ _ (by simpa using hkb)]
 have FIN:=aab fin
 clear h hwr f0 f1 hbb fin
 by_cases hc1:cap=1
 ·subst hc1
  obtain rfl:v=[]:=List.eq_nil_of_length_eq_zero (by omega)
  have it:=it2 rfl
  clear it1 it2
  have HIT:=aab it
  clear it
  go_enter Tryz.func283,Tryz.ntmps283
  go_wp2
  exact bodyPost_ret (v:=.agg #[.int .i64 x.1,.string x.2]) (by simp[results,Tryz.results283,go_sem]) rfl ⟨rfl,_,unhide FIN _ (unhide HIT)⟩
 ·have HIT:=aab it1
  clear it1 it2
  go_enter Tryz.func283,Tryz.ntmps283
  go_wp2
  exact bodyPost_ret (v:=.agg #[.int .i64 x.1,.string x.2]) (by simp[results,Tryz.results283,go_sem]) rfl ⟨rfl,_,unhide FIN _ (unhide HIT)⟩
theorem ahf:(Tryz.prog.info? 5).map (fun i=>(i.zero,i.size,i.bytes))=some (some (.int .u8 0),1,1):=by kernel_rfl
theorem aae{w:World}{B n size:Nat}{e:TypeId}{v:Value}{xs:List Value}(h:w.ownsRow B e size v n xs):∃a k c,v=.slice a k c:=by
 rcases h.2 with ⟨hv,_⟩|⟨g,cap,cur,hv,_⟩
 ·exact⟨_,_,_,hv⟩
 ·exact⟨_,_,_,hv⟩
theorem apq(n:Int):IntKind.u16.wrap n=n % 65536:=by
 simp[IntKind.wrap,IntKind.bits,IntKind.signed]
theorem ajL{w0 w w1:World}{L O O1:Value}{v:List It}{out news:List UInt8}{o:Obj}(h:WS w0 w L v O out)(hown:w1.ownsRow (w0.heap.size+1) 5 1 O1 (out.length+news.length) (u8s out++u8s news))(hg:(w.alloc o).grownBy w1 O.ownBlock)(hat:O1.ownBlock=O.ownBlock∨O1.ownBlock=some (w.alloc o).heap.size) :
  Wr w1 w0.heap.size L O∧WS w0 (w1.setCell ⟨w0.heap.size,1,none⟩ O1) L v O1 (out++news)∧Wk w0.heap.size O O1 w (w1.setCell ⟨w0.heap.size,1,none⟩ O1):=by
 have hlt:=h.wr.lt
 have hgs:(w.alloc o).heap.size=w.heap.size+1:=by simp
 have hs1:=hg.size
 have keep:∀k,k<w.heap.size→O.ownBlock≠some k→w1.heap[k]?=w.heap[k]?:=by
  intro k hk hr
  rw[hg.block k (by omega) (fun e=>hr e.symm)]
  exact Below.heap_alloc _ _ _ hk
 have hrow:∀k,O.ownBlock=some k→w0.heap.size<k:=fun k hk=>(h.row hk).1
 have hwr:Wr w1 w0.heap.size L O:=by
  have:=h.wr
  unfold Wr at this ⊢
  rw[keep _ hlt (fun e=>by have:=hrow _ e;omega)]
  exact this
 refine⟨hwr,⟨hwr.set1 O1,h.items,?_,?_⟩,⟨by simp;omega,fun k hk hkb hr=>?_,?_⟩⟩
 ·exact((h.below.alloc (by omega) o).grown hg (by omega) (fun k hk=>by have:=hrow k hk;omega)).setCell (by simp) _
 ·have:=adZ (k:=w0.heap.size) (o:=1) (x:=O1) hown (by omega)
  rw[List.length_append]
  unfold u8s at this ⊢
  rw[List.map_append]
  exact this
 ·rw[Below.heap_setCell _ _ _ _ (by simpa using hkb)]
  exact keep k hk hr
 ·rcases hat with h1|h1
  ·exact Or.inl h1
  ·exact Or.inr ⟨_,h1,by omega⟩
theorem WS.drew{w0 w:World}{L O:Value}{v:List It}{out:List UInt8}(h:WS w0 w L v O out):WS w0 w.drew L v O out:=⟨h.wr,h.items,h.below.drew,h.own⟩
theorem aen(w0 w:World)(L O:Value)(v:List It)(out:List UInt8)(n:Int)(h:WS w0 w L v O out)(hol:out.length≤1000000) :
  Calls Tryz.prog 186 #[O,.int .i64 n] w fun e w'=>∃a k c,e=.returned (.slice a k c)∧Wr w' w0.heap.size L O∧WS w0 (w'.setCell ⟨w0.heap.size,1,none⟩ (.slice a k c)) L v (.slice a k c) (out++two8 n)∧Wk w0.heap.size O (.slice a k c) w (w'.setCell ⟨w0.heap.size,1,none⟩ (.slice a k c)):=by
 have hbz:=h.wr.lt
 have how:=h.own
 have HH:=aab h
 have HN:Hid (∀(j:Nat) (u:Value),(u8s (two8 n))[j]?=some u→(w.alloc (.cells #[.int .u8 (IntKind.u16.wrap n / 256 % 256),.int .u8 (IntKind.u16.wrap n % 256)] 5)).cell? ((⟨w.heap.size,0,none⟩:Addr).add j)=some u):=by
  intro j u hj
  rw[apq]
  unfold u8s two8 at hj
  match j,hj with
  |0,hj=>
   simp at hj
   rw[aaA (by omega) (by omega)]at hj
   subst hj
   rw[show n % 65536 / 256 % 256=n % 65536 / 256 by omega]
   simp[Addr.add,go_sem]
  |1,hj=>
   simp at hj
   rw[aaA (by omega) (by omega)]at hj
   subst hj
   rw[show n % 65536 % 256=n % 256 by omega]
   simp[Addr.add,go_sem]
 obtain⟨oa,ocap,hO⟩:∃a c,O=.slice a out.length c:=by
  rcases how.2 with ⟨hv,h0⟩|⟨g,cap,cur,hv,_⟩
  ·exact⟨none,0,by rw[hv,h0]⟩
  ·exact⟨_,_,hv⟩
 subst hO
 clear h
 obtain⟨i0,hi,hz0,hz1,hz2⟩:=info_parts ahf
 go_enter Tryz.func186,Tryz.ntmps186
 go_wp2_with (at_builtin;refine wpList_append_own_at _ rfl (.tmp 8) (.tmp 14) 199 rfl (w0.heap.size+1) 5 i0 (.int .u8 0) 1 1 Tryz.underlying199 hi hz0 hz1 hz2 rfl (by decide) _ out.length (u8s out) rfl (by exact how.alloc _) ⟨w.heap.size,0,none⟩ 2 2 (u8s (two8 n)) rfl rfl (unhide HN) (by exact adL _) (by unfold maxLen;omega) (by omega) (by simp;omega) ?_)
 intro O1 w1 hown hgrow _ hat
 obtain⟨oa1,on1,oc1,hO1⟩:=aae hown
 subst hO1
 obtain⟨hwr,hws,hwk⟩:=ajL (unhide HH) hown hgrow (by simpa using hat)
 have HWR:=aab hwr
 have HWS:=aab hws
 have HWK:=aab hwk
 clear hown hgrow hat hwr hws hwk how
 go_wp2
 go_ret
 exact⟨_,_,_,rfl,unhide HWR,unhide HWS,unhide HWK⟩
theorem ag4(w0 w:World)(L O:Value)(out:List UInt8)(lo hi':Int)(h:WS w0 w L [] O out) :
  Calls Tryz.prog 281 #[.pointer (some ⟨w0.heap.size,0,none⟩),.int .i64 lo,.int .i64 hi'] w fun e w'=>e=aaf 4 0∧Below w0.heap.size w0 w':=by
 obtain⟨a,cap,hL,_,_⟩:=h.items
 subst hL
 have H1:=aab (akY w0.heap.size a cap O w h.wr)
 have hb:=h.below
 clear h
 go_enter Tryz.func281,Tryz.ntmps281
 go_wp2_with fail
 refine(unhide H1).mono ?_
 rintro e w1 ⟨rfl,hb1⟩
 go_wp2
 exact⟨rfl,rfl,hb.trans (hb1.mono hb.size)⟩
theorem ag7(w0 w:World)(L O:Value)(x:It)(v:List It)(out:List UInt8)(lo hi':Int)(h:WS w0 w L (x :: v) O out)(hn:v.length≤9000000000000)(hS:¬x.2.toList=[]) :
  Calls Tryz.prog 281 #[.pointer (some ⟨w0.heap.size,0,none⟩),.int .i64 lo,.int .i64 hi'] w fun e w'=>e=aaf 4 0∧Below w0.heap.size w0 w':=by
 have H1:=aab (acB w0 w L O x v out h hn)
 have HN:=aab aaZ
 clear h
 obtain⟨N,S⟩:=x
 simp only at H1 hS
 go_enter Tryz.func281,Tryz.ntmps281
 go_wp2_with fail
 refine(unhide H1).mono ?_
 rintro e w1 ⟨rfl,L',hws,hwk⟩
 have hb:=hws.below
 have hbz:=hb.size
 clear hws hwk
 go_wp2_with fail
 refine((unhide HN) _).mono ?_
 rintro e w2 ⟨rfl,hb2⟩
 go_wp2
 exact⟨rfl,rfl,(hb.alloc (by omega) _).trans (hb2.mono (by simp;omega))⟩
theorem ag6(w0 w:World)(L O:Value)(x:It)(v:List It)(out:List UInt8)(lo hi':Int)(h:WS w0 w L (x :: v) O out)(hn:v.length≤9000000000000)(hS:x.2.toList=[])(hl:x.1<lo) :
  Calls Tryz.prog 281 #[.pointer (some ⟨w0.heap.size,0,none⟩),.int .i64 lo,.int .i64 hi'] w fun e w'=>e=aaf 4 0∧Below w0.heap.size w0 w':=by
 have H1:=aab (acB w0 w L O x v out h hn)
 have HN:=aab aaZ
 clear h
 obtain⟨N,S⟩:=x
 simp only at H1 hS hl
 go_enter Tryz.func281,Tryz.ntmps281
 go_wp2_with fail
 refine(unhide H1).mono ?_
 rintro e w1 ⟨rfl,L',hws,hwk⟩
 have hb:=hws.below
 have hbz:=hb.size
 clear hws hwk
 go_wp2_with fail
 refine((unhide HN) _).mono ?_
 rintro e w2 ⟨rfl,hb2⟩
 go_wp2
 exact⟨rfl,rfl,(hb.alloc (by omega) _).trans (hb2.mono (by simp;omega))⟩
theorem ag5(w0 w:World)(L O:Value)(x:It)(v:List It)(out:List UInt8)(lo hi':Int)(h:WS w0 w L (x :: v) O out)(hn:v.length≤9000000000000)(hS:x.2.toList=[])(hl:¬x.1<lo)(hh:hi'<x.1) :
  Calls Tryz.prog 281 #[.pointer (some ⟨w0.heap.size,0,none⟩),.int .i64 lo,.int .i64 hi'] w fun e w'=>e=aaf 4 0∧Below w0.heap.size w0 w':=by
 have H1:=aab (acB w0 w L O x v out h hn)
 have HN:=aab aaZ
 clear h
 obtain⟨N,S⟩:=x
 simp only at H1 hS hl hh
 go_enter Tryz.func281,Tryz.ntmps281
 go_wp2_with fail
 refine(unhide H1).mono ?_
 rintro e w1 ⟨rfl,L',hws,hwk⟩
 have hb:=hws.below
 have hbz:=hb.size
 clear hws hwk
 go_wp2_with fail
 refine((unhide HN) _).mono ?_
 rintro e w2 ⟨rfl,hb2⟩
 go_wp2
 exact⟨rfl,rfl,(hb.alloc (by omega) _).trans (hb2.mono (by simp;omega))⟩
theorem akK(w0 w:World)(L O:Value)(x:It)(v:List It)(out:List UInt8)(lo hi':Int)(h:WS w0 w L (x :: v) O out)(hn:v.length≤9000000000000)(hS:x.2.toList=[])(hl:¬x.1<lo)(hh:¬hi'<x.1)(hol:out.length≤1000000) :
  Calls Tryz.prog 281 #[.pointer (some ⟨w0.heap.size,0,none⟩),.int .i64 lo,.int .i64 hi'] w fun e w'=>e=.returned (.int .i64 x.1)∧∃L' O',WS w0 w' L' v O' (out++two8 x.1)∧Wk w0.heap.size O O' w w':=by
 have H1:=aab (acB w0 w L O x v out h hn)
 clear h
 obtain⟨N,S⟩:=x
 simp only at H1 hS hl hh ⊢
 go_enter Tryz.func281,Tryz.ntmps281
 go_wp2_with fail
 refine(unhide H1).mono ?_
 rintro e w1 ⟨rfl,L',hws,hwk⟩
 have hws2:=hws.go ((Below.refl w1.heap.size w1).alloc (Nat.le_refl _) (.cells #[.int .i64 N,.string S] 106))
 have H2:=aab (aen w0 _ L' O v out N hws2.drew hol)
 have hrow:O.ownBlock≠some w1.heap.size:=fun e=>by have:=(hws.row e).2;omega
 have hbz:=hws.wr.lt
 have hout:=hws2.wr.out
 have HWK:=aab hwk
 obtain⟨sa,sn,sc,hsO⟩:=aae hws2.own
 subst hsO
 clear hws hwk hws2
 go_wp2_with fail
 go_region_with ((go_at_call 186;refine(unhide H2).mono ?_;rintro e w2 ⟨ta,tn,tc,rfl,hwr3,hws3,hwk3⟩;have t1:=hwr3.out;have t2:=hwr3.thaw1))
 all_goals
  have c0:(w2.setCell ⟨w0.heap.size,1,none⟩ (.slice ta tn tc)).cell? ⟨w1.heap.size,0,none⟩=some (.int .i64 N):=(hwk3.cell (by simp) (by omega) hrow).trans (by simp[go_sem])
  have HW3:=aab hws3
  have HK3:=aab ((unhide HWK).trans ((Wk.of_below (((Below.refl w1.heap.size w1).alloc (Nat.le_refl _) (.cells #[.int .i64 N,.string S] 106)).drew)).trans hwk3))
  clear hws3 hwk3 hwr3 t1 t2
  generalize w2.setCell ⟨w0.heap.size,1,none⟩ (.slice ta tn tc)=W3 at *
  go_wp2
  go_ret
  exact⟨rfl,L',_,unhide HW3,unhide HK3⟩
theorem str_cells(S:ByteArray):Lib.strCells S=u8s S.data.toList:=by
 unfold Lib.strCells u8s
 rfl
theorem aiR{P:Program}(w:World)(base:Nat)(t u ty e:TypeId)(i:TypeInfo)(ht:P.underlying t=some (.slice e))(hu:P.underlying u=some .string)(hi:P.info? e=some i)(hz:i.zero=some (.int .u8 0))
  (hsize:i.size=1) (hby:i.bytes=1) (v:Value) (n:Nat) (xs:List Value) (hown:w.ownsRow base e 1 v n xs) (hn:1≤n) (s:ByteArray) (hsm:n+s.size≤100000000) (hbase:base≤w.heap.size) :
  ∃v' w',(Builtin.append_ #[t,u] ty #[v,.string s]).run P w=.ok v' w'∧w'.ownsRow base e 1 v' (n+s.size) (xs++Lib.strCells s)∧w.grownBy w' v.ownBlock∧(v'.ownBlock=v.ownBlock∨v'.ownBlock=some w.heap.size):=by
 obtain⟨v',w',hr,h2,h3,h4⟩:=Lib.run_append_own_string (P:=P) w base t u ty e i ht hu hi hz hsize hby v n xs hown s (by unfold maxLen;omega) (by omega) hbase
 refine⟨v',w',hr,h2,h3,?_⟩
 have hxl:xs.length=n:=by simpa using hown.1
 have hcl:=fun g=>hown.cells (g:=g)
 rcases hown.2 with ⟨_,h0⟩|⟨g,cap,cur,rfl,hbg,hg,hnc,hcm,hcs,htake⟩
 ·omega
 ·by_cases hroom:n+s.size≤cap
  ·have hcs':cur.size=cap:=by simpa using hcs
   have hr2:=Lib.run_append_room_string (P:=P) w t u ty e i ht hu hi hsize g n cap cur hg s hroom (by omega)
   rw[hr]at hr2
   cases hr2
   exact Or.inl rfl
  ·have hr2:=Lib.run_append_grow_string (P:=P) w t u ty e i (.int .u8 0) ht hu hi hz ⟨g,0,none⟩ n cap xs (by rw[hsize];simpa using hxl) (hcl g rfl) s (by omega) (by omega) (by rw[hby];exact growslice_fits (by omega) (by omega))
   rw[hr]at hr2
   cases hr2
   exact Or.inr rfl
theorem adR{P:Program}{ops:Array Oper}{o:Oper}{a:Act}{w:World}{K:Act→World→Prop}{Q:Exit→Act→World→Prop}{E:Prop}
  (hgd:o.guard=none) (sl x:Operand) (t u:TypeId) (ho:o.op=.call {callee:=.builtin .append,args:=#[sl,x],argTypes:=#[t,u]})
  (base:Nat) (e:TypeId) (i:TypeInfo) (ht:P.underlying t=some (.slice e)) (hu:P.underlying u=some .string) (hi:P.info? e=some i) (hz:i.zero=some (.int .u8 0))
  (hsize:i.size=1) (hby:i.bytes=1) (v:Value) (n:Nat) (xs:List Value) (hs:a.eval sl=v) (hown:w.ownsRow base e 1 v n xs) (hn:1≤n) (s:ByteArray) (hx:a.eval x=.string s) (hsm:n+s.size≤100000000) (hbase:base≤w.heap.size)
  (h:∀v' w',w'.ownsRow base e 1 v' (n+s.size) (xs++Lib.strCells s)→w.grownBy w' v.ownBlock→(v'.ownBlock=v.ownBlock∨v'.ownBlock=some w.heap.size)→K (a.put o.dst v') w') :
  if Region.wanted o (yielded ops a.tmps)=true then Oper.wp P o a w K Q else E:=by
 have hw:Region.wanted o (yielded ops a.tmps)=true:=by simp[Region.wanted,hgd]
 rw[if_pos hw]
 obtain⟨v',w',hr,h2,h3,h4⟩:=aiR (P:=P) w base t u o.type e i ht hu hi hz hsize hby v n xs hown hn s hsm hbase
 unfold Oper.wp
 simp[execOp,ho,resolve,invoke,builtin,hs,hx,hr,Result.andThen]
 exact h v' w' h2 h3 h4
theorem al0{w0 w w1:World}{L O O1:Value}{v:List It}{out news:List UInt8}(h:WS w0 w L v O out)(hown:w1.ownsRow (w0.heap.size+1) 5 1 O1 (out.length+news.length) (u8s out++u8s news))(hg:w.grownBy w1 O.ownBlock)(hat:O1.ownBlock=O.ownBlock∨O1.ownBlock=some w.heap.size) :
  Wr w1 w0.heap.size L O∧WS w0 (w1.setCell ⟨w0.heap.size,1,none⟩ O1) L v O1 (out++news)∧Wk w0.heap.size O O1 w (w1.setCell ⟨w0.heap.size,1,none⟩ O1):=by
 have hlt:=h.wr.lt
 have hs1:=hg.size
 have keep:∀k,k<w.heap.size→O.ownBlock≠some k→w1.heap[k]?=w.heap[k]?:=fun k hk hr=>hg.block k hk (fun e=>hr e.symm)
 have hrow:∀k,O.ownBlock=some k→w0.heap.size<k:=fun k hk=>(h.row hk).1
 have hwr:Wr w1 w0.heap.size L O:=by
  have:=h.wr
  unfold Wr at this ⊢
  rw[keep _ hlt (fun e=>by have:=hrow _ e;omega)]
  exact this
 refine⟨hwr,⟨hwr.set1 O1,h.items,?_,?_⟩,⟨by simp;omega,fun k hk hkb hr=>?_,?_⟩⟩
 ·exact(h.below.grown hg (by omega) (fun k hk=>by have:=hrow k hk;omega)).setCell (by simp) _
 ·have:=adZ (k:=w0.heap.size) (o:=1) (x:=O1) hown (by omega)
  rw[List.length_append]
  unfold u8s at this ⊢
  rw[List.map_append]
  exact this
 ·rw[Below.heap_setCell _ _ _ _ (by simpa using hkb)]
  exact keep k hk hr
 ·rcases hat with h1|h1
  ·exact Or.inl h1
  ·exact Or.inr ⟨_,h1,by omega⟩
theorem ab5(n:Nat)(w:World)(hn:n≤14):Calls Tryz.prog 284 #[.int .i64 n] w fun e w'=>e=.returned (.bool (n % 2==1))∧w'=w:=by
 have e:((n % 2==1:Bool))=(((n:Int) % 2==1:Bool)):=by
  rw[Bool.eq_iff_iff]
  simp
  omega
 rw[e]
 go_enter Tryz.func284,Tryz.ntmps284
 go_wp2
 go_ret
 exact⟨rfl,rfl⟩
theorem aoc(w0 w:World)(L O:Value)(x:It)(v:List It)(out:List UInt8)(h:WS w0 w L (x :: v) O out)(hn:v.length≤9000000000000)(hN:x.1=0)(hS:x.2.size≤14)(hol:out.length≤1000000) :
  Calls Tryz.prog 282 #[.pointer (some ⟨w0.heap.size,0,none⟩)] w fun e w'=>e=.returned (.tuple #[])∧∃L' O',WS w0 w' L' v O' (out++enc8 true x)∧Wk w0.heap.size O O' w w':=by
 have H1:=aab (acB w0 w L O x v out h hn)
 clear h
 obtain⟨N,S⟩:=x
 simp only at H1 hS hN ⊢
 subst hN
 have hSI:¬(14:Int)<(S.size:Int):=by omega
 have HOD:=aab (fun w=>ab5 S.size w hS)
 have HEN:Hid (enc8 true (0,S)=two8 (S.size:Int)++(S.data.toList++(if S.size % 2=1 then [0] else []))):=rfl
 go_enter Tryz.func282,Tryz.ntmps282
 go_wp2_with fail
 refine(unhide H1).mono ?_
 rintro e w1 ⟨rfl,L',hws,hwk⟩
 have hws2:=hws.go ((Below.refl w1.heap.size w1).alloc (Nat.le_refl _) (.cells #[.int .i64 0,.string S] 106))
 have H2:=aab (aen w0 _ L' O v out (S.size:Int) hws2.drew hol)
 have hrow:O.ownBlock≠some w1.heap.size:=fun e=>by have:=(hws.row e).2;omega
 have hbz:=hws.wr.lt
 have hout:=hws2.wr.out
 have HWK:=aab hwk
 obtain⟨sa,sn,sc,hsO⟩:=aae hws2.own
 subst hsO
 clear hws hwk hws2
 go_wp2_with fail
 go_region_with ((go_at_call 186;refine(unhide H2).mono ?_;rintro e w2 ⟨ta,tn,tc,rfl,hwr3,hws3,hwk3⟩;have t1:=hwr3.out;have t2:=hwr3.thaw1))
 all_goals
  clear hwr3 t1 t2
  generalize w2.setCell ⟨w0.heap.size,1,none⟩ (.slice ta tn tc)=W2 at *
  have c1:W2.cell? ⟨w1.heap.size,1,none⟩=some (.string S):=(hwk3.cell (by simp) (by omega) hrow).trans (by simp[go_sem])
  have hm2:w1.heap.size<W2.heap.size:=by have:=hwk3.size;simp at this;omega
  have hroW2:(Value.slice ta tn tc).ownBlock≠some w1.heap.size:=by
   intro e
   rcases hwk3.row with h|⟨g,h,hg⟩
   ·exact hrow (h.symm.trans e)
   ·rw[e]at h;cases h;simp at hg;omega
  have HK3:=aab ((unhide HWK).trans ((Wk.of_below (((Below.refl w1.heap.size w1).alloc (Nat.le_refl _) (.cells #[.int .i64 0,.string S] 106)).drew)).trans hwk3))
  have hO2:=hws3.wr.out
  have HWS:=aab hws3
  have hw0:=hws3.wr.lt
  have hl2:(two8 (S.size:Int)).length=2:=rfl
  obtain⟨i0,hi,hz0,hz1,hz2⟩:=info_parts ahf
  clear hws3 hwk3 H2 H1 HWK hout
  go_wp2_with fail
  go_region_law (refine adR rfl (.tmp 31) (.tmp 33) 199 9 rfl (w0.heap.size+1) 5 i0 Tryz.underlying199 Tryz.underlying9 hi hz0 hz1 hz2 _ (out++two8 (S.size:Int)).length (u8s (out++two8 (S.size:Int))) rfl (by exact(unhide HWS).own) (by simp;omega) S rfl (by rw[List.length_append];omega) (by exact hw0) ?_;intro v' wz hown hgrow hat;obtain⟨va,vn,vc,hvs⟩:=aae hown;subst hvs;have hpush:=al0 (news:=S.data.toList) (unhide HWS).drew (by rw[←str_cells];simpa using hown) hgrow hat;obtain⟨hwr,hws4,hwk4⟩:=hpush;have k1:=hwr.out;have k2:=hwr.thaw1)
  all_goals
   have d1:=(hwk4.cell (o:=1) (by exact hm2) (by omega) hroW2).trans c1
   have HW4:=aab hws4
   have HK4:=aab ((unhide HK3).trans ((Wk.of_below ((Below.refl W2.heap.size W2).drew)).trans hwk4))
   have o4:=hws4.wr.out
   have z4:=hws4.wr.thaw1
   have l4:=hws4.wr.lt
   clear hwr hws4 hwk4 k1 k2 hown hgrow hat HWS HK3 c1 hO2 hm2 hroW2 hrow
   generalize wz.setCell {block:=w0.heap.size,off:=1} (Value.slice va vn vc)=W4 at *
   by_cases hodd:S.size % 2=1
   ·have ho:(S.size % 2==1)=true:=by simp[hodd]
    rw[ho]at HOD
    rw[if_pos hodd]at HEN
    clear hodd ho
    obtain⟨acc,hacc⟩:∃acc,acc=out++two8 (S.size:Int)++S.data.toList:=⟨_,rfl⟩
    have hal:acc.length≤1000100:=by
     have e2:S.data.toList.length=S.size:=Array.length_toList
     rw[hacc,List.length_append,List.length_append,hl2,e2]
     omega
    rw[←hacc]at HW4
    have HACC:=aab hacc
    clear hacc
    go_wp2_with fail
    refine((unhide HOD) _).mono ?_
    rintro e w5 ⟨rfl,rfl⟩
    go_wp2_with (at_builtin;refine wpList_append_own_at _ rfl (.tmp 45) (.tmp 46) 199 rfl (w0.heap.size+1) 5 i0 (.int .u8 0) 1 1 Tryz.underlying199 hi hz0 hz1 hz2 rfl (by decide) _ acc.length (u8s acc) rfl (by exact(unhide HW4).own.alloc _) ⟨w5.heap.size,0,none⟩ 1 1 (u8s [0]) rfl rfl (by exact cell_one_new _ _ _) (by exact adL _) (by unfold maxLen;omega) (by omega) (by simp;omega) ?_)
    intro O5 w6 hown5 hgrow5 _ hat5
    obtain⟨ta,tn,tc,hts⟩:=aae hown5
    subst hts
    obtain⟨hwr5,hws5,hwk5⟩:=ajL (news:=[0]) (unhide HW4) hown5 hgrow5 (by simpa using hat5)
    have k1:=hwr5.out
    have k2:=hwr5.thaw1
    have HW5:=aab hws5
    have HK5:=aab ((unhide HK4).trans hwk5)
    clear hown5 hgrow5 hat5 hwr5 hws5 hwk5
    go_wp2
    go_end0
    refine⟨rfl,L',_,?_,unhide HK5⟩
    rw[unhide HEN,←List.append_assoc,←List.append_assoc,←unhide HACC]
    exact unhide HW5
   ·have ho:(S.size % 2==1)=false:=by simp[hodd]
    rw[ho]at HOD
    rw[if_neg hodd,List.append_nil]at HEN
    clear hodd ho
    go_wp2_with fail
    refine((unhide HOD) _).mono ?_
    rintro e w5 ⟨rfl,rfl⟩
    go_wp2
    go_end0
    refine⟨rfl,L',_,?_,unhide HK4⟩
    rw[unhide HEN,←List.append_assoc]
    exact unhide HW4
theorem ajT(w0 w:World)(L O:Value)(out:List UInt8)(h:WS w0 w L [] O out) :
  Calls Tryz.prog 282 #[.pointer (some ⟨w0.heap.size,0,none⟩)] w fun e w'=>e=aaf 4 0∧Below w0.heap.size w0 w':=by
 obtain⟨a,cap,hL,_,_⟩:=h.items
 subst hL
 have H1:=aab (akY w0.heap.size a cap O w h.wr)
 have hb:=h.below
 clear h
 go_enter Tryz.func282,Tryz.ntmps282
 go_wp2_with fail
 refine(unhide H1).mono ?_
 rintro e w1 ⟨rfl,hb1⟩
 go_wp2
 exact⟨rfl,rfl,hb.trans (hb1.mono hb.size)⟩
theorem ajV(w0 w:World)(L O:Value)(x:It)(v:List It)(out:List UInt8)(h:WS w0 w L (x :: v) O out)(hn:v.length≤9000000000000)(hN:(x.1 != 0)=true) :
  Calls Tryz.prog 282 #[.pointer (some ⟨w0.heap.size,0,none⟩)] w fun e w'=>e=aaf 4 0∧Below w0.heap.size w0 w':=by
 have H1:=aab (acB w0 w L O x v out h hn)
 have HN:=aab aaZ
 clear h
 obtain⟨N,S⟩:=x
 simp only at H1 hN
 go_enter Tryz.func282,Tryz.ntmps282
 go_wp2_with fail
 refine(unhide H1).mono ?_
 rintro e w1 ⟨rfl,L',hws,hwk⟩
 have hb:=hws.below
 have hbz:=hb.size
 clear hws hwk
 go_wp2_with fail
 refine((unhide HN) _).mono ?_
 rintro e w2 ⟨rfl,hb2⟩
 go_wp2
 exact⟨rfl,rfl,(hb.alloc (by omega) _).trans (hb2.mono (by simp;omega))⟩
theorem ajU(w0 w:World)(L O:Value)(x:It)(v:List It)(out:List UInt8)(h:WS w0 w L (x :: v) O out)(hn:v.length≤9000000000000)(hN:(x.1 != 0)=false)(hS:(14:Int)<(x.2.size:Int)) :
  Calls Tryz.prog 282 #[.pointer (some ⟨w0.heap.size,0,none⟩)] w fun e w'=>e=aaf 4 0∧Below w0.heap.size w0 w':=by
 have H1:=aab (acB w0 w L O x v out h hn)
 have HN:=aab aaZ
 clear h
 obtain⟨N,S⟩:=x
 simp only at H1 hN hS
 go_enter Tryz.func282,Tryz.ntmps282
 go_wp2_with fail
 refine(unhide H1).mono ?_
 rintro e w1 ⟨rfl,L',hws,hwk⟩
 have hb:=hws.below
 have hbz:=hb.size
 clear hws hwk
 go_wp2_with fail
 refine((unhide HN) _).mono ?_
 rintro e w2 ⟨rfl,hb2⟩
 go_wp2
 exact⟨rfl,rfl,(hb.alloc (by omega) _).trans (hb2.mono (by simp;omega))⟩
end Go.Proofs.YtblomippkddgiaaGreatDoor.V
