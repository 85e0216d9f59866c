import Derived.Test.YtblomippkddgiabGreatDoorJ15
import Derived.Laws.OwnMore
import Derived.Deep.RegionHeld3
set_option maxRecDepth 100000
set_option maxHeartbeats 2000000
namespace Go.Proofs.YtblomippkddgiabGreatDoor
open Go.RowKit
variable {l r t:List UInt8}{xs:List Value}{B n o s size:Nat}{p:Pk}{e:TypeId}{O v:Value}{w:World}
def Rr(l:List UInt8)(w:World)(e:Ending)(w':World):Prop:=Below w.heap.size w w'/\((CO l=none/\e=Az 7 0)\/∃p,CO l=some p/\e=.returned (pv p))
theorem Tn(h:Cb l=some (p,r)):p.body.length<=255:=by
 unfold Cb at h;split at h
 ·split at h
  ·rename_i L t hc;cases h;simp only[aga];have:=L.toNat_lt;omega
  ·cases h
 ·cases h
theorem Zs(h:Cb l=none):CO l=none:=by
 unfold CO;rw[h]
theorem Zt(h:Cb l=some (p,r))(hr:¬AR p):CO l=none:=by
 unfold CO;rw[h];simp only;rw[if_neg hr]
theorem Zu(h:Cb l=some (p,r))(hs:LH l r=none):CO l=none:=by
 unfold CO;rw[h];simp only;split
 ·rw[hs]
 ·rfl
theorem Zv(h:Cb l=some (p,r))(hs:LH l r=some t)(ht:t≠[]):CO l=none:=by
 unfold CO;rw[h];simp only;split
 ·rw[hs];cases t with
  |nil=>exact absurd rfl ht
  |cons _ _=>rfl
 ·rfl
theorem Zw(h:Cb l=some (p,r))(hr:AR p)(hs:LH l r=some []):CO l=some p:=by
 unfold CO;rw[h];simp only;rw[if_pos hr,hs]
theorem abx(h:LH l r=some t):t.length<=r.length:=by
 unfold LH at h;split at h
 ·split at h
  ·cases h;simp;omega
  ·cases h
 ·cases h
abbrev rdW(w:World)(l:List UInt8):World:=(w.alloc (.cells zeroCells 82)).alloc (.cells #[.string (str l),.int .i64 7] 249)
theorem acC(w:World)(l:List UInt8):Rd (rdW w l) (w.heap.size+1) l:=by
 unfold Rd;have:=heap_alloc_new (w.alloc (.cells zeroCells 82)) (.cells #[.string (str l),.int .i64 7] 249);rw[show (w.alloc (.cells zeroCells 82)).heap.size=w.heap.size+1 by simp]at this;exact this
theorem Zo(w:World)(l:List UInt8):(rdW w l).heap[w.heap.size]?=some (.cells zeroCells 82 (0,0)):=by
 rw[Below.heap_alloc _ _ _ (by simp)];exact heap_alloc_new w _
theorem Wt(w:World)(l:List UInt8):Below w.heap.size w (rdW w l):=((Below.refl _ _).alloc (afI _) _).alloc (by simp) _
theorem Zp(l:List UInt8)(w:World)(hl:l.length<=9223372036854775807):Calls Tryz.prog 92 #[.string (str l)] w (Rr l w):=by
 have HF:=Ac (Tm (w.heap.size+1) l (rdW w l) (acC w l) hl);have aF:(rdW w l).heap.size=w.heap.size+2:=by simp
 obtain⟨ab,aa⟩:∃ab,ab=Rr l w:=⟨_,rfl⟩;have ag:Hid (∀w',Below w.heap.size w w'->CO l=none->ab (Az 7 0) w'):=by
  rw[aa];exact fun w' hb hr=>⟨hb,afJ ⟨hr,rfl⟩⟩
 have am:Hid (∀w' p,Below w.heap.size w w'->CO l=some p->ab (.returned (pv p)) w'):=by
  rw[aa];exact fun w' p hb hr=>⟨hb,afM ⟨p,hr,rfl⟩⟩
 have HZ:=Ac (Zo w l);have ah:=Ac (Wt w l);rw[<-aa];clear aa;go_enter Tryz.func92,Tryz.ntmps92;go_wp2_with fail
 refine(Aa HF).mono ?_;rintro e w1 ⟨ae,⟨hn,rfl⟩|⟨p,r,hp,rfl,ao⟩⟩
 ·go_wp2;exact⟨rfl,(Aa ag) _ ((Aa ah).trans (ae.below.mono (by omega))) (Zs hn)⟩
 ·have aH:=ae.size;have ap:=Ac ((Aa ah).trans (ae.below.mono (by omega:w.heap.size<=w.heap.size+1)));have ax:=Ac ((ae.block _ (by omega) (by omega)).trans (Aa HZ));have ak:=Ac (Tn hp);have aj:=Ac (Lc hp);have HP:=Ac hp;have au:=Ac ao;have an:=ao.lt;clear hp ao ae HF;have av:=Ac (fun w=>OC p w);obtain⟨k,c,li,ln,sq,u,pa,o,pl,body⟩:=p;go_wp2_with fail
  refine((Aa av) _).mono ?_;rintro e w3 ⟨ac,⟨aB,rfl⟩|⟨aD,rfl⟩⟩
  ·have aE:=ac.size;have ai:=Ac (((Aa ap).alloc (by omega) (.cells #[.int .i64 k,.int .i64 c,.int .i64 li,.int .i64 ln,.int .i64 sq,.int .i64 u,.int .i64 pa,.int .i64 o,.bool pl,.string (str body)] 82)).trans (ac.mono (by simp;omega)));have ay:=(ac.block w1.heap.size (by simp)).trans (heap_alloc_new w1 _);have aC:=(ac.block w.heap.size (by simp;omega)).trans ((Below.heap_alloc w1 _ _ (by omega)).trans (Aa ax));have az:Rd w3 (w.heap.size+1) r:=by
    have h:=Aa au;unfold Rd at h ⊢;rw[ac.block _ (by simp;omega),Below.heap_alloc _ _ _ an];exact h
   have aG:r.length<=9223372036854775807:=by
    have:=congrArg List.length (Aa aj);rw[afS]at this;omega
   have ad:=abv (w.heap.size+1) (Bv ⟨k,c,li,ln,sq,u,pa,o,pl,body⟩) r w3 az (by have:=Ev ⟨k,c,li,ln,sq,u,pa,o,pl,body⟩;have h2:=Aa ak;simp only at this;omega) (by rw[<-Aa aj];exact hl);rw[<-Aa aj]at ad;have HS:=Ac ad;have al:=Ac aB;simp at aE;clear ad az ac aB av au ax HZ ah;go_wp2_with fail
   refine(Aa HS).mono ?_;rintro e w4 ⟨af,⟨hs,rfl⟩|⟨t,hs,rfl,aA⟩⟩
   ·go_wp2;exact⟨rfl,(Aa ag) _ ((Aa ai).trans (af.below.mono (by omega))) (Zu (Aa HP) hs)⟩
   ·have HE:=Ac (aaH (w.heap.size+1) t w4 aA (by have:=abx hs;omega));have aq:=Ac ((Aa ai).trans (af.below.mono (by omega:w.heap.size<=w.heap.size+1)));have hk:=(af.block _ (by omega) (by omega)).trans ay;have hz:=(af.block _ (by omega) (by omega)).trans aC;have aw:=Ac hs;clear hs af aA ay aC HS ai;by_cases ht:t=[]
    ·subst ht;have e0:=cell_of hk 0 _ rfl;have e1:=cell_of hk 1 _ rfl;have e2:=cell_of hk 2 _ rfl;have e3:=cell_of hk 3 _ rfl;have e4:=cell_of hk 4 _ rfl;have e5:=cell_of hk 5 _ rfl;have e6:=cell_of hk 6 _ rfl;have e7:=cell_of hk 7 _ rfl;have e8:=cell_of hk 8 _ rfl;have e9:=cell_of hk 9 _ rfl;have c0:=cell_of hz 0 _ rfl;have c1:=cell_of hz 1 _ rfl;have c2:=cell_of hz 2 _ rfl;have c3:=cell_of hz 3 _ rfl;have c4:=cell_of hz 4 _ rfl;have c5:=cell_of hz 5 _ rfl;have c6:=cell_of hz 6 _ rfl;have c7:=cell_of hz 7 _ rfl;have c8:=cell_of hz 8 _ rfl;have c9:=cell_of hz 9 _ rfl;have cz:=L6 hz;clear hk hz;go_wp2_with fail
     refine(Aa HE).mono ?_;rintro e w5 ⟨rfl,rfl⟩;go_wp2;refine bodyPost_ret (v:=pv ⟨k,c,li,ln,sq,u,pa,o,pl,body⟩) (by simp[results,Tryz.results92,go_sem,c0,c1,c2,c3,c4,c5,c6,c7,c8,c9]) rfl ((Aa am) _ _ ?_ (Zw (Aa HP) (Aa al) (Aa aw)));exact((((((((((Aa aq).setCell (by simp) _).setCell (by simp) _).setCell (by simp) _).setCell (by simp) _).setCell (by simp) _).setCell (by simp) _).setCell (by simp) _).setCell (by simp) _).setCell (by simp) _).setCell (by simp) _
    ·have ar:=HE;rw[if_neg ht]at ar;clear HE hk hz;go_wp2_with fail
     refine(Aa ar).mono ?_;rintro e w5 ⟨rfl,rfl⟩;go_wp2;exact⟨rfl,(Aa ag) _ (Aa aq) (Zv (Aa HP) (Aa aw) ht)⟩
  ·go_wp2;exact⟨rfl,(Aa ag) _ (((Aa ap).alloc (by omega) _).trans (ac.mono (by simp;omega))) (Zt (Aa HP) aD)⟩
theorem GG(n q:Nat)(w:World):(Instr.typeAssert (.iface 161 (Bq n q)) 20 161 true).run Tryz.prog w=.ok (.tuple #[Bq n q,.bool true]) w:=by kernel_rfl
theorem Ii(n q:Nat)(w:World):(Instr.field 161 (Bq n q) 0).run Tryz.prog w=.ok (.int .i64 n) w:=by kernel_rfl
theorem UI{w1:World}(h:Below B w w1)(hs:B<=s)(x0 x1 x2 x3 x4 x5 x6 x7 x8 x9:Value):Below B w (Vf w1 s x0 x1 x2 x3 x4 x5 x6 x7 x8 x9):=
 (((((((((h.setCell (by exact hs) _).setCell (by exact hs) _).setCell (by exact hs) _).setCell (by exact hs) _).setCell (by exact hs) _).setCell (by exact hs) _).setCell (by exact hs) _).setCell (by exact hs) _).setCell (by exact hs) _).setCell (by exact hs) _
theorem lt_of_cell{k:Nat}(h:w.cell? ⟨k,o,none⟩=some v):k<w.heap.size:=by
 rcases agy k w.heap.size with hh|hh
 ·exact hh
 ·simp[World.cell?,ags hh]at h
theorem Dk{xs:Array Value}{t:TypeId}(h:w.heap[s]?=some (.cells xs t (0,0)))(x:Value):(w.setCell ⟨s,o,none⟩ x).heap[s]?=some (.cells (xs.setIfInBounds o x) t (0,0)):=by
 simp only[World.setCell,agi,h];simp
theorem acm(h:w.heap[s]?=some (.cells zeroCells 82 (0,0)))(x0 x1 x2 x3 x4 x5 x6 x7 x8 x9:Value):(Vf w s x0 x1 x2 x3 x4 x5 x6 x7 x8 x9).heap[s]?=some (.cells #[x0,x1,x2,x3,x4,x5,x6,x7,x8,x9] 82 (0,0)):=by
 have h0:=Dk (o:=0) h x0;have h1:=Dk (o:=1) h0 x1;have h2:=Dk (o:=2) h1 x2;have h3:=Dk (o:=3) h2 x3;have h4:=Dk (o:=4) h3 x4;have h5:=Dk (o:=5) h4 x5;have h6:=Dk (o:=6) h5 x6;have h7:=Dk (o:=7) h6 x7;have h8:=Dk (o:=8) h7 x8;have h9:=Dk (o:=9) h8 x9;refine h9.trans ?_;simp
theorem Jm(n q:Nat)(w:World):
  Calls Tryz.prog 87 #[.iface 161 (Bq n q)] w fun e w'=>e=.returned (Bq n q)/\Below w.heap.size w w':=by
 have aa:=GG n q;go_enter Tryz.func87,Tryz.ntmps87;go_wp2;exact bodyPost_ret (v:=Bq n q) (by simp[results,Tryz.results87,go_sem]) rfl ⟨rfl,((Below.refl _ _).alloc (afI _) _).alloc (by simp) _⟩
theorem KC(a0 a1 B:Nat)(n q:Nat)(aa:List PanicEntry)(w:World)(h0:w.heap[a0]?=some (.cells zeroCells 82 (0,0)))(h1:w.cell? ⟨a1,0,none⟩=some (.int .i64 0))(z1:w.frozen? ⟨a1,0,none⟩=false)(ab:B<=a0)(ac:B<=a1)(ad:¬a0=a1):
  CallsD Tryz.prog 91 #[.pointer (some ⟨a0,0,none⟩),.pointer (some ⟨a1,0,none⟩)] (.panicking ({v:=.iface 161 (Bq n q),recovered:=false} :: aa)) w fun e u' w'=>
   e=.returned (.tuple #[])/\u'=.panicking ({v:=.iface 161 (Bq n q),recovered:=true} :: aa)/\w'.heap[a0]?=some (.cells zeroCells 82 (0,0))/\w'.cell? ⟨a1,0,none⟩=some (.int .i64 n)/\Below B w w':=by
 refine callsD_of_wpS Tryz.func91 rfl fun c₀ cs hu=>?_
 apply wpS_seq;apply wpS_region;simp[wpOpsS,go_sem,recoverD,hu,Tryz.ntmps91,Exit.thenS];rw[show (#[Value.pointer (some {block:=a0,off:=0}),Value.pointer (some {block:=a1,off:=0})]++((Array.replicate 8 undef).setIfInBounds 1 (Value.iface 161 (Bq n q))).setIfInBounds 0 (Value.iface 161 (Bq n q)))=#[.pointer (some {block:=a0,off:=0}),.pointer (some {block:=a1,off:=0}),.iface 161 (Bq n q),.iface 161 (Bq n q),undef,undef,undef,undef,undef,undef] from rfl];refine wpS_of_wp ?_;have ae:=Ii n q;have l0:=lt_of_block h0;have l1:=lt_of_cell h1;go_wp2_with fail
 refine(Jm n q _).mono ?_;rintro e w1 ⟨rfl,hb⟩;have s1:=hb.size;have hz:w1.heap[a0]?=some (.cells zeroCells 82 (0,0)):=(hb.block _ l0).trans h0;have g1:w1.cell? ⟨a1,0,none⟩=some (.int .i64 0):=(hb.cell (p:=⟨a1,0,none⟩) l1).trans h1;have y1:w1.frozen? ⟨a1,0,none⟩=false:=(hb.frozen (p:=⟨a1,0,none⟩) l1).trans z1;have m0:a0<w1.heap.size:=by omega
 have m1:a1<w1.heap.size:=by omega
 have e2:¬a1=a0:=by omega
 have c0:=cell_of hz 0 _ rfl;have c1:=cell_of hz 1 _ rfl;have c2:=cell_of hz 2 _ rfl;have c3:=cell_of hz 3 _ rfl;have c4:=cell_of hz 4 _ rfl;have c5:=cell_of hz 5 _ rfl;have c6:=cell_of hz 6 _ rfl;have c7:=cell_of hz 7 _ rfl;have c8:=cell_of hz 8 _ rfl;have c9:=cell_of hz 9 _ rfl;have cz:=L6 hz;have HZ:=Ac hz;clear h0 h1 z1 hz;go_wp2;have F0:=acm (Aa HZ) (.int .i64 0) (.int .i64 0) (.int .i64 0) (.int .i64 0) (.int .i64 0) (.int .i64 0) (.int .i64 0) (.int .i64 0) (.bool false) (.string ⟨#[]⟩);have FB:=UI (hb.mono (by omega:B<=w.heap.size)) ab (.int .i64 0) (.int .i64 0) (.int .i64 0) (.int .i64 0) (.int .i64 0) (.int .i64 0) (.int .i64 0) (.int .i64 0) (.bool false) (.string ⟨#[]⟩);show bodyPostS Tryz.prog Tryz.f91 c₀ cs _ _ _ _ _;refine⟨rfl,_,rfl,_,results_none rfl _ _ _,rfl,rfl,?_,?_,FB.setCell (by exact ac) _⟩
 ·rw[Below.heap_setCell _ _ _ _ (by simpa using ad)];exact F0
 ·simp[go_sem,g1]
theorem Rc(p0 p1:Addr)(w:World):
  CallsD Tryz.prog 91 #[.pointer (some p0),.pointer (some p1)] .returning w fun e u' w'=>e=.returned (.tuple #[])/\u'=.returning/\w'=w:=by
 refine callsD_of_wpS Tryz.func91 rfl fun c₀ cs hu=>?_
 apply wpS_seq;apply wpS_region;simp[wpOpsS,go_sem,recoverD,hu,Tryz.ntmps91,Exit.thenS];rw[show (#[Value.pointer (some p0),Value.pointer (some p1)]++((Array.replicate 8 undef).setIfInBounds 1 (Value.nilIface)).setIfInBounds 0 (Value.nilIface))=#[.pointer (some p0),.pointer (some p1),.nilIface,.nilIface,undef,undef,undef,undef,undef,undef] from rfl];refine wpS_of_wp ?_;go_wp2;exact⟨rfl,.returning,by cases c₀;simp_all,_,results_none rfl _ _ _,rfl,rfl,rfl⟩
abbrev U9(w:World):World:=(w.alloc (.cells zeroCells 82)).alloc (.cells #[.int .i64 0] 41)
def Nb(l:List UInt8)(w:World)(e:Ending)(w':World):Prop:=Below w.heap.size w w'/\((CO l=none/\e=.returned (.tuple #[aae,.int .i64 7]))\/∃p,CO l=some p/\e=.returned (.tuple #[pv p,.int .i64 0]))
theorem Ri(l:List UInt8)(w:World)(hl:l.length<=9223372036854775807):Calls Tryz.prog 54 #[.string (str l)] w (Nb l w):=by
 have af:∀(fn:Fn) (first cap:Array Value) (w:World),(Instr.makeFunc fn first cap).run Tryz.prog w=.ok (.func fn first cap) w:=fun _ _ _ _=>rfl
 have HH:=Ac (Zp l (U9 w) hl);have ab:(U9 w).heap[w.heap.size]?=some (.cells zeroCells 82 (0,0)):=by
  rw[Below.heap_alloc _ _ _ (by simp)];exact heap_alloc_new w _
 have HZ:=Ac ab;have ag:(U9 w).heap.size=w.heap.size+2:=by simp
 have HB:=Ac (((Below.refl w.heap.size w).alloc (afI _) (.cells zeroCells 82)).alloc (by simp) (.cells #[.int .i64 0] 41));clear ab
 go_enter_defers Tryz.func54,Tryz.ntmps54
 go_wp2_with fail
 refine(Aa HH).mono ?_;rintro e w1 ⟨hb,⟨hn,rfl⟩|⟨p,hp,rfl⟩⟩
 ·have hs:=hb.size;have z0:=(hb.block w.heap.size (by omega)).trans (Aa HZ);have c1:w1.cell? ⟨w.heap.size+1,0,none⟩=some (.int .i64 0):=(hb.cell (p:=⟨w.heap.size+1,0,none⟩) (by simp)).trans (by simp[go_sem]);have z1:w1.frozen? ⟨w.heap.size+1,0,none⟩=false:=(hb.frozen (p:=⟨w.heap.size+1,0,none⟩) (by simp)).trans (by simp[go_sem]);have ad:Below w.heap.size w w1:=(Aa HB).trans (hb.mono (by omega));have aa:=Ac z0;clear z0;go_wp2;refine leaves_cons (f:=91) (args:=#[.pointer (some ⟨w.heap.size,0,none⟩),.pointer (some ⟨w.heap.size+1,0,none⟩)]) (by simp) (by simp[go_sem]) ?_;refine(KC w.heap.size (w.heap.size+1) w.heap.size 7 0 [] _ (Aa aa) c1 z1 (afI _) (by omega) (by omega)).mono ?_;rintro e u' ae ⟨rfl,rfl,f0,f1,fb⟩;have c0:=cell_of f0 0 _ rfl;have d1:=cell_of f0 1 _ rfl;have c2:=cell_of f0 2 _ rfl;have c3:=cell_of f0 3 _ rfl;have c4:=cell_of f0 4 _ rfl;have c5:=cell_of f0 5 _ rfl;have c6:=cell_of f0 6 _ rfl;have c7:=cell_of f0 7 _ rfl;have c8:=cell_of f0 8 _ rfl;have c9:=cell_of f0 9 _ rfl;simp[Leaves,settle,results,Tryz.results54,go_sem,c0,d1,c2,c3,c4,c5,c6,c7,c8,c9,f1];exact⟨ad.trans fb,afJ ⟨hn,rfl⟩⟩
 ·have hs:=hb.size;have hz:=(hb.block w.heap.size (by omega)).trans (Aa HZ);have g1:w1.cell? ⟨w.heap.size+1,0,none⟩=some (.int .i64 0):=(hb.cell (p:=⟨w.heap.size+1,0,none⟩) (by simp)).trans (by simp[go_sem]);have z1:w1.frozen? ⟨w.heap.size+1,0,none⟩=false:=(hb.frozen (p:=⟨w.heap.size+1,0,none⟩) (by simp)).trans (by simp[go_sem]);have ac:=Ac ((Aa HB).trans (hb.mono (by omega:w.heap.size<=(U9 w).heap.size)));have c0:=cell_of hz 0 _ rfl;have c1:=cell_of hz 1 _ rfl;have c2:=cell_of hz 2 _ rfl;have c3:=cell_of hz 3 _ rfl;have c4:=cell_of hz 4 _ rfl;have c5:=cell_of hz 5 _ rfl;have c6:=cell_of hz 6 _ rfl;have c7:=cell_of hz 7 _ rfl;have c8:=cell_of hz 8 _ rfl;have c9:=cell_of hz 9 _ rfl;have cz:=L6 hz;have aa:=Ac hz;have HP:=Ac hp;obtain⟨k,c,li,ln,sq,u,pa,o,pl,body⟩:=p;clear hz hb hp HH;go_wp2;refine leaves_cons (f:=91) (args:=#[.pointer (some ⟨w.heap.size,0,none⟩),.pointer (some ⟨w.heap.size+1,0,none⟩)]) (by simp) (by simp[go_sem]) ?_;refine(Rc _ _ _).mono ?_;rintro e u' ae ⟨rfl,rfl,rfl⟩;simp[Leaves,settle,results,Tryz.results54,go_sem,c0,c1,c2,c3,c4,c5,c6,c7,c8,c9,g1];exact⟨(UI (Aa ac) (afI _) _ _ _ _ _ _ _ _ _ _).setCell (by simp) _,afM ⟨_,Aa HP,rfl⟩⟩
theorem Ar(h:w.ownsRow B e size v n xs):∃a k c,v=.slice a k c:=by
 rcases h.2 with ⟨hv,_⟩|⟨g,cap,aa,hv,_⟩
 ·exact⟨_,_,_,hv⟩
 ·exact⟨_,_,_,hv⟩
theorem Bu{w':World}(h:w.ownsRow B e size v n xs)(hb:Below w.heap.size w w'):w'.ownsRow B e size v n xs:=by
 obtain⟨hl,h⟩:=h;refine⟨hl,?_⟩;rcases h with h|⟨g,cap,aa,hv,hg,hh,r⟩
 ·exact afJ h
 ·refine afM ⟨g,cap,aa,hv,hg,?_,r⟩;rw[hb.block g (lt_of_block hh)];exact hh
theorem Kj(l:List UInt8):∀u∈DT l,u.oneCell'=true:=by
 intro u hu;unfold DT at hu;obtain⟨c,_,rfl⟩:=agE.1 hu;rfl
theorem Ut(a b:List UInt8):DT (a++b)=DT a++DT b:=by
 unfold DT;rw[agw]
def Own(w:World)(B:Nat)(O:Value)(l:List UInt8):Prop:=w.ownsRow B 5 1 O l.length (DT l)
theorem Own.push{a b:List UInt8}(h:w.ownsRow B 5 1 O (a.length+b.length) (DT a++DT b)):Own w B O (a++b):=by
 unfold Own;rw[afS,Ut];exact h
theorem Own.conv{out:List UInt8}(h:Own w B O out):(convert 281 9 O).run Tryz.prog w=.ok (.string (str out)) w:=by
 have aa:=fun g=>World.ownsRow.cells (g:=g) h
 rcases h.2 with ⟨hv,h0⟩|⟨g,cap,ab,hv,_⟩
 ·have:out=[]:=agl h0;subst this;rw[hv];exact Lib.run_convert_nil_bytes w 281 9 5 0 Tryz.underlying281 (by kernel_rfl) Tryz.underlying9
 ·rw[hv];refine run_convert_bytes_back w 281 9 5 ⟨g,0,none⟩ cap out Tryz.underlying281 (by kernel_rfl) Tryz.underlying9 fun j hj=>?_
  refine aa g (by rw[hv];rfl) j _ ?_;unfold DT;rw[afW,afH hj];rfl
theorem Oe(w:World)(cs:List Value):∀(j:Nat) (u:Value),cs[j]?=some u->(w.alloc (.cells cs.toArray 5)).cell? ((⟨w.heap.size,0,none⟩:Addr).add j)=some u:=by
 intro j u hj;rw[Addr.add_lit,agn,World.cell?_alloc_new w _ _ j];rw[agj];exact hj
theorem FZ(B:Nat)(O:Value)(out:List UInt8)(n:Int)(w:World)(how:Own w B O out)(hB:B<=w.heap.size)(am:out.length<=1000)(hn:0<=n/\n<=65535):
  Calls Tryz.prog 202 #[O,.int .i64 n] w fun e w'=>∃O',e=.returned O'/\Own w' B O' (out++A5 n)/\Below B w w':=by
 have ad:=fun k=>World.ownsRow.lt how k
 obtain⟨oa,ok,oc,hO⟩:=Ar how;subst hO;have ac:=Ac (how.alloc (.cells (DT (A5 n)).toArray 5));have HN:=Ac (Oe w (DT (A5 n)));have e1:(DT (A5 n)).toArray=#[.int .u8 (n / 256),.int .u8 (n % 256)]:=by
  unfold DT A5;simp only[agD,agV,Bj (show 0<=n / 256 by omega) (show n / 256<=255 by omega),Bj (show 0<=n % 256 by omega) (show n % 256<=255 by omega)]
 rw[e1]at HN ac;clear how;obtain⟨i0,hi,ag,ah,ai⟩:=info_parts info5;have q1:IntKind.u16.wrap n=n:=by rw[wrap_u16];omega
 have q2:0<=n / 256/\n / 256<=255:=by omega
 go_enter Tryz.func202,Tryz.ntmps202;go_wp2_with (at_builtin;refine wpList_append_own_at _ rfl (.tmp 8) (.tmp 14) 281 rfl B 5 i0 (.int .u8 0) 1 1 Tryz.underlying281 hi ag ah ai rfl (by decide) _ out.length (DT out) rfl (by exact(Aa ac)) ⟨w.heap.size,0,none⟩ 2 2 (DT (A5 n)) rfl rfl (by exact(Aa HN)) (by exact Kj _) (by unfold maxLen;omega) (by omega) (by simp;omega) ?_)
 intro O1 w1 ab aa _ af;obtain⟨aj,al,ak,ae⟩:=Ar ab;subst ae;have HF:Hid (Own w1 B (.slice aj al ak) (out++A5 n)):=Own.push ab;have HB:=Ac (((Below.refl B w).alloc hB (.cells #[.int .u8 (n / 256),.int .u8 (n % 256)] 5)).grown aa (by simp;omega) (fun k hk=>(ad k hk).1));clear ab aa af ad;go_wp2
 go_ret
 exact⟨_,rfl,Aa HF,Aa HB⟩
theorem N6(b:Bool)(w:World):Calls Tryz.prog 234 #[.bool b] w fun e w'=>e=.returned (.int .u8 (yes b))/\w'=w:=by
 cases b
 ·go_enter Tryz.func234,Tryz.ntmps234;go_wp2
  go_ret
  exact⟨rfl,rfl⟩
 ·go_enter Tryz.func234,Tryz.ntmps234;go_wp2
  go_ret
  exact⟨rfl,rfl⟩
theorem Bp{P:Program}{ag:Array Oper}{o:Oper}{a:Act}{K:Act->World->Prop}{Q:Exit->Act->World->Prop}{E:Prop}
  (aj:o.guard=none) (sl x:Operand) (t:TypeId) (ho:o.op=.call {callee:=.builtin .append,args:=#[sl,x],argTypes:=#[t,t]})
  (base:Nat) (e:TypeId) (i:TypeInfo) (z:Value) (size bytes:Nat) (ht:P.underlying t=some (.slice e)) (hi:P.info? e=some i) (hz:i.zero=some z)
  (ae:i.size=size) (ai:i.bytes=bytes) (al:z.cells.size=size) (ak:0<size)
  (v:Value) (n:Nat) (xs:List Value) (hs:a.eval sl=v) (af:w.ownsRow base e size v n xs)
  (ad:Addr) (m c:Nat) (news:List Value) (hx:a.eval x=.slice (some ad) m c) (hl:news.length=m*size) (ac:∀j u,news[j]?=some u->w.cell? (ad.add j)=some u) (h1:∀u∈news,u.oneCell'=true)
  (ah:n+m<=maxLen) (aa:(n+m)*bytes<=140737488355328) (ab:base<=w.heap.size)
  (h:∀v' w',w'.ownsRow base e size v' (n+m) (xs++news)->w.grownBy w' v.ownBlock->(v'.ownBlock=v.ownBlock\/v'.ownBlock=some w.heap.size)->K (a.put o.dst v') w'):
  if Region.wanted o (yielded ag a.tmps)=true then Oper.wp P o a w K Q else E:=by
 have hw:Region.wanted o (yielded ag a.tmps)=true:=by simp[Region.wanted,aj]
 rw[if_pos hw];obtain⟨v',w',hr,h2,h3,_,h4⟩:=run_append_own_at (P:=P) w base t o.type e i z size bytes ht hi hz ae ai al ak v n xs af ad m c news hl ac h1 ah aa ab;unfold Oper.wp;simp[execOp,ho,resolve,invoke,builtin,hs,hx,hr,Result.andThen];exact h v' w' h2 h3 h4
theorem Zg(w1:World)(B:Nat)(hB:B<=w1.heap.size)(k c li ln:Int)(q1:0<=k/\k<=255)(q2:0<=c/\c<=255)(q3:0<=li/\li<=255)(q4:0<=ln/\ln<=255):
  Own (w1.alloc (.cells #[.int .u8 k,.int .u8 c,.int .u8 li,.int .u8 ln] 5)) B (.slice (some ⟨w1.heap.size,0,none⟩) 4 4) [b8 k,b8 c,b8 li,b8 ln]:=by
 have h:=World.ownsRow_lit (base:=B) (e:=5) (size:=1) w1 #[.int .u8 k,.int .u8 c,.int .u8 li,.int .u8 ln] 4 hB (by unfold maxLen;omega) rfl;have e:DT [b8 k,b8 c,b8 li,b8 ln]=[.int .u8 k,.int .u8 c,.int .u8 li,.int .u8 ln]:=by
  unfold DT;simp only[agD,agV,Bj q1.1 q1.2,Bj q2.1 q2.2,Bj q3.1 q3.2,Bj q4.1 q4.2]
 unfold Own;rw[e];exact h
theorem MP(u pa o n m:Int)(q1:0<=u/\u<=255)(q2:0<=pa/\pa<=255)(q3:0<=o/\o<=255)(q4:0<=n/\n<=255)(q5:0<=m/\m<=255):DT [b8 u,b8 pa,b8 o,b8 n,b8 m]=[.int .u8 u,.int .u8 pa,.int .u8 o,.int .u8 n,.int .u8 m]:=by
 unfold DT;simp only[agD,agV,Bj q1.1 q1.2,Bj q2.1 q2.2,Bj q3.1 q3.2,Bj q4.1 q4.2,Bj q5.1 q5.2]
theorem wrap_u8(n:Int):IntKind.u8.wrap n=n % 256:=by
 simp[IntKind.wrap,IntKind.bits,IntKind.signed]
def OU(p:Pk)(w:World)(e:Ending)(w':World):Prop:=Below w.heap.size w w'/\((AR p/\e=.returned (.string (str (Bm p))))\/(¬AR p/\e=Az 7 0))
theorem KU(p:Pk)(w:World):Calls Tryz.prog 185 #[pv p] w (OU p w):=by
 obtain⟨al,af⟩:∃al,al=OU p w:=⟨_,rfl⟩;have aQ:Hid (∀w',Below w.heap.size w w'->¬AR p->al (Az 7 0) w'):=by
  rw[af];exact fun w' hb hr=>⟨hb,afM ⟨hr,rfl⟩⟩
 have ay:Hid (∀w',Below w.heap.size w w'->AR p->al (.returned (.string (str (Bm p)))) w'):=by
  rw[af];exact fun w' hb hr=>⟨hb,afJ ⟨hr,rfl⟩⟩
 rw[<-af];clear af;have aS:=Ac (fun w=>OC p w);have aP:=Ac (fun h:AR p=>LO h);have bL:=Ac (fun h:AR p=>h);have aT:Hid (Bm p=Bv p++A5 (EZ (Bv p))):=rfl;have aO:Hid (Bv p=[b8 p.kind,b8 p.client,b8 p.Ae,b8 p.line]++A5 p.seq++[b8 p.uid,b8 p.part,b8 p.off,b8 (yes p.please),b8 (p.body.length:Int)]++p.body):=rfl;obtain⟨k,c,li,ln,sq,u,pa,o,pl,body⟩:=p;go_enter Tryz.func185,Tryz.ntmps185;go_wp2_with fail
 refine((Aa aS) _).mono ?_;rintro e w1 ⟨az,⟨aI,rfl⟩|⟨bC,rfl⟩⟩
 ·have bD:=az.size;have aq:=(az.block w.heap.size (by simp)).trans (heap_alloc_new w _);have aJ:=Ac (((Below.refl w.heap.size w).alloc (afI _) (.cells #[.int .i64 k,.int .i64 c,.int .i64 li,.int .i64 ln,.int .i64 sq,.int .i64 u,.int .i64 pa,.int .i64 o,.bool pl,.string (str body)] 82)).trans (az.mono (by simp)));have bt:=(Aa aP) aI;simp at bD bt;have bg:=Ac aI;obtain⟨b1,b2,b3,b4,b5,b6,b7,bj,_⟩:=aI;simp only at b1 b2 b3 b4 b5 b6 b7 bj;have q1:0<=k/\k<=255:=by omega
  have q2:0<=c/\c<=255:=by omega
  have q3:0<=li/\li<=255:=by omega
  have q4:0<=ln/\ln<=255:=by omega
  have q6:0<=u/\u<=255:=by omega
  have q7:0<=pa/\pa<=255:=by omega
  have q8:0<=o/\o<=255:=by omega
  have e0:w1.cell? ⟨w.heap.size,0,none⟩=some (.int .i64 k):=cell_of aq 0 _ rfl;have e1:w1.cell? ⟨w.heap.size,1,none⟩=some (.int .i64 c):=cell_of aq 1 _ rfl;have e2:w1.cell? ⟨w.heap.size,2,none⟩=some (.int .i64 li):=cell_of aq 2 _ rfl;have e3:w1.cell? ⟨w.heap.size,3,none⟩=some (.int .i64 ln):=cell_of aq 3 _ rfl;have e4:w1.cell? ⟨w.heap.size,4,none⟩=some (.int .i64 sq):=cell_of aq 4 _ rfl;have bu:w.heap.size<w1.heap.size:=by omega
  have aM:=Ac aq;clear aq az;go_wp2_with fail
  refine(FZ (w.heap.size+1) _ _ sq _ (Zg w1 (w.heap.size+1) (by omega) k c li ln q1 q2 q3 q4) (by simp;omega) (by simp) (by omega)).mono ?_;rintro e w2 ⟨O2,rfl,ad,aB⟩;have bE:=aB.size;simp at bE;have ab:=(aB.block w.heap.size (by omega)).trans ((Below.heap_alloc w1 _ _ bu).trans (Aa aM));obtain⟨bb,bd,bc,bl⟩:=Ar ad;subst bl;have ar:=fun k=>World.ownsRow.lt ad k
  have aF:=Ac ar;have aK:=Ac (((Aa aJ).alloc (by omega) (.cells #[.int .u8 k,.int .u8 c,.int .u8 li,.int .u8 ln] 5)).trans (aB.mono (by omega)));have e5:w2.cell? ⟨w.heap.size,5,none⟩=some (.int .i64 u):=cell_of ab 5 _ rfl;have e6:w2.cell? ⟨w.heap.size,6,none⟩=some (.int .i64 pa):=cell_of ab 6 _ rfl;have e7:w2.cell? ⟨w.heap.size,7,none⟩=some (.int .i64 o):=cell_of ab 7 _ rfl;have e8:w2.cell? ⟨w.heap.size,8,none⟩=some (.bool pl):=cell_of ab 8 _ rfl;have e9:w2.cell? ⟨w.heap.size,9,none⟩=some (.string (str body)):=cell_of ab 9 _ rfl;have av:=Ac ab;have ax:=Ac ad;have bv:w.heap.size<w2.heap.size:=by omega
  have aU:=Ac N6;have bM:¬w2.heap.size=w.heap.size:=by omega
  obtain⟨i0,hi,aZ,b9,ba⟩:=info_parts info5;have qs:0<=(body.length:Int)/\(body.length:Int)<=255:=by omega
  have wu:IntKind.u8.wrap u=u:=by rw[wrap_u8];omega
  have bK:IntKind.u8.wrap pa=pa:=by rw[wrap_u8];omega
  have wo:IntKind.u8.wrap o=o:=by rw[wrap_u8];omega
  have wl:IntKind.u8.wrap (body.length:Int)=(body.length:Int):=by rw[wrap_u8];omega
  have qy:0<=yes pl/\yes pl<=255:=by unfold yes;split<;>omega
  generalize hYP:yes pl=Y at *;have HN:=Oe w2 (DT [b8 u,b8 pa,b8 o,b8 Y,b8 (body.length:Int)]);rw[MP u pa o Y (body.length:Int) q6 q7 q8 qy qs]at HN;have aG:=Ac HN;have aE:=Ac (MP u pa o Y (body.length:Int) q6 q7 q8 qy qs);have aN:Hid (∀(o5:Obj) (wz:World),((w2.alloc o5).drew).grownBy wz (Value.slice bb bd bc).ownBlock->Below (w.heap.size+1) w2 wz/\wz.heap[w.heap.size]?=w2.heap[w.heap.size]?):=by
   intro o5 wz hg;have h:=((Below.refl (w.heap.size+1) w2).alloc (by omega) o5).drew.grown hg (by simp;omega) (fun k hk=>(ar k hk).1);exact⟨h,h.block _ (by omega)⟩
  clear HN ab ad aB ar e0 e1 e2 e3 e4 aS aP aM aJ;go_wp2;go_region_held3 (fun w'=>w'.cell? ⟨w.heap.size,5,none⟩=some (.int .i64 u)/\w'.cell? ⟨w.heap.size,6,none⟩=some (.int .i64 pa)/\w'.cell? ⟨w.heap.size,7,none⟩=some (.int .i64 o)/\w'.cell? ⟨w.heap.size,8,none⟩=some (.bool pl)/\w'.cell? ⟨w.heap.size,9,none⟩=some (.string (str body))) (go_keep)
   (first
    |(go_at_call 234;refine((Aa aU) _ _).mono ?_;rintro e w' ⟨rfl,rfl⟩)
    |(refine Bp rfl (.tmp 23) (.tmp 40) 281 rfl (w.heap.size+1) 5 i0 (.int .u8 0) 1 1 Tryz.underlying281 hi aZ b9 ba rfl (by decide) (.slice bb bd bc) 6 (DT ([b8 k,b8 c,b8 li,b8 ln]++A5 sq)) rfl (by exact(Aa ax).alloc _) ⟨w2.heap.size,0,none⟩ 5 5 [.int .u8 u,.int .u8 pa,.int .u8 o,.int .u8 Y,.int .u8 (body.length:Int)] rfl rfl (by first|exact(Aa aG)|(rw[wu,bK,wo,wl];exact(Aa aG))) (by rw[<-Aa aE];exact Kj _) (by unfold maxLen;omega) (by omega) (by simp;omega) ?_;intro v' wz au am br;obtain⟨va,vn,vc,bG⟩:=Ar au;subst bG;have bA:=(Aa aN) _ _ am;obtain⟨aW,aY⟩:=bA;have ag:=aY.trans (Aa av);have f5:=cell_of ag 5 _ rfl;have f6:=cell_of ag 6 _ rfl;have f7:=cell_of ag 7 _ rfl;have f8:=cell_of ag 8 _ rfl;have f9:=cell_of ag 9 _ rfl;have aR:=Ac au;have aD:=Ac aW;clear au am br aW aY ag))
  have ai:=Aa aR;rw[<-Aa aE]at ai;have ac:Own wz (w.heap.size+1) (.slice va vn vc) ([b8 k,b8 c,b8 li,b8 ln]++A5 sq++[b8 u,b8 pa,b8 o,b8 Y,b8 (body.length:Int)]):=Own.push ai;have an:=Ac ac;have aA:=fun k=>World.ownsRow.lt ac k
  have aw:=Ac aA;have bF:=(Aa aD).size;have aL:=Ac ((Aa aK).trans ((Aa aD).mono (by omega:w.heap.size<=w.heap.size+1)));have g9:wz.cell? ⟨w.heap.size,9,none⟩=some (.string (str body)):=f9;obtain⟨ao,ak⟩:∃ao,ao=[b8 k,b8 c,b8 li,b8 ln]++A5 sq++[b8 u,b8 pa,b8 o,b8 Y,b8 (body.length:Int)]:=⟨_,rfl⟩;have bq:ao.length=11:=by rw[ak];rfl
  rw[<-ak]at an;have aC:=Ac ak;have bO:(str body).size=body.length:=Ax body;have bh:Hid (Lib.strCells (str body)=DT body):=rfl;clear ai ac aR f5 f6 f7 f8 f9 e5 e6 e7 e8 e9 aG aE aN ax aF aD av aK aU aA ak;go_wp2_with (at_builtin;go_must (refine Lib.wpList_append_own_string _ rfl (.tmp 42) (.tmp 44) 281 9 rfl (w.heap.size+1) 5 i0 Tryz.underlying281 Tryz.underlying9 hi aZ b9 ba (.slice va vn vc) ao.length (DT ao) rfl (by exact Aa an) (str body) rfl (by unfold maxLen;omega) (by omega) (by omega) ?_))
  intro O4 w4 ae ah _;obtain⟨bH,bJ,bI,bo⟩:=Ar ae;subst bo;have ap:=(Below.refl (w.heap.size+1) wz).grown ah (by omega) (fun k hk=>((Aa aw) k hk).1);have bN:=ap.size;have be:=Ac ((Aa aL).trans (ap.mono (by omega:w.heap.size<=w.heap.size+1)));rw[Aa bh]at ae;have aa:Own w4 (w.heap.size+1) (.slice bH bJ bI) (ao++body):=Own.push (by rw[bq];exact ae);have aH:ao++body=Bv ⟨k,c,li,ln,sq,u,pa,o,pl,body⟩:=by rw[Aa aC,Aa aO]
  rw[aH]at aa;have bB:(Bv ⟨k,c,li,ln,sq,u,pa,o,pl,body⟩).length<=1000:=by rw[<-aH,afS];omega
  generalize hHH:Bv ⟨k,c,li,ln,sq,u,pa,o,pl,body⟩=H at *;have bw:=aa.conv;have H6:=Ac (fun w=>Lu H w (by omega));have aX:((crc H).toNat:Int)=EZ H:=rfl;rw[aX]at H6;have H7:=Ac (FZ (w.heap.size+1) _ H (EZ H) w4 aa (by omega) bB (JP H));generalize hC:EZ H=C at *;clear ae aa ah ap aL an aw g9 aH aX;generalize hSH:str H=SH at *;go_wp2_with fail
  refine((Aa H6) _).mono ?_;rintro e w5 ⟨rfl,rfl⟩;go_wp2_with fail
  refine(Aa H7).mono ?_;rintro e w6 ⟨O6,rfl,aj,aV⟩;obtain⟨bP,bR,bQ,bp⟩:=Ar aj;subst bp;have bz:=aj.conv;have bf:=Ac ((Aa be).trans (aV.mono (by omega:w.heap.size<=w.heap.size+1)));clear aj aV bw;have HY:=(Aa ay);rw[Aa aT]at HY;have bi:=Ac HY;clear HY ay aQ aT aO;generalize hST:str (H++A5 C)=ST at *;go_wp2;exact(Aa bi) _ (Aa bf) (Aa bg)
 ·go_wp2;exact⟨rfl,(Aa aQ) _ (((Below.refl _ _).alloc (afI _) _).trans (az.mono (by simp))) bC⟩
end Go.Proofs.YtblomippkddgiabGreatDoor
