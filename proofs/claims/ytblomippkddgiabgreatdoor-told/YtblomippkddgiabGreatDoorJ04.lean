import Derived.Test.YtblomippkddgiabGreatDoorJ03
import Derived.Defers
import Derived.Recover
import Derived.Deep.RegionWith
import Derived.Deep.RegionLaw
set_option maxRecDepth 100000
set_option maxHeartbeats 1000000
namespace Go.Proofs.YtblomippkddgiabGreatDoor.V
open Go.RowKit
variable {v:List It}{xs:List Value}{B b f k n o p size:Nat}{g:Nat→Nat}{e:TypeId}{L O O1:Value}{w w' w0 w1:World}
abbrev Bq(n q:Nat):Value:=.agg #[.int .i64 n,.int .i64 q]
abbrev Az(n q:Nat):Ending:=.panicked [{v:=.iface 161 (Bq n q),recovered:=false}]
theorem at_new(w:World)(s:ByteArray):At (w.alloc (.cells #[.string s,.int .i64 0] 294)) w.heap.size s 0:=by
 show (w.heap.push _)[w.heap.size]?=_;rw[agJ];rfl
theorem Wu(s:ByteArray)(w:World)(hs:¬s.size<=40):
  Calls Tryz.prog 173 #[.string s] w fun e w'=>e=Az 1 0/\Below w.heap.size w w':=by
 have h:(40:Int)<(s.size:Int):=by omega
 clear hs;go_enter Tryz.func173,Tryz.ntmps173;go_wp2;exact⟨rfl,rfl,(Below.refl _ _).alloc (afI _) _⟩
theorem JJ{v:World}(hk:Af b (w.alloc Bh) v)(hb:w.heap.size<=b):Below w.heap.size w v:=
 ((Below.refl _ _).alloc (afI _) Bh).trans ⟨hk.os,hk.tape,hk.output,hk.size,fun k h=>hk.block k (by simp;omega) (by omega)⟩
theorem TM(s:ByteArray)(hs:s.size<=40)(w:World):Calls Tryz.prog 221 #[.pointer (some ⟨w.heap.size+1,0,none⟩)] ((w.alloc Bh).alloc (.cells #[.string s,.int .i64 0] 294)) (Da (w.heap.size+1) s (s.size+1) 0 ((w.alloc Bh).alloc (.cells #[.string s,.int .i64 0] 294))):=by
 have h:=at_new (w.alloc Bh) s;have e:(w.alloc Bh).heap.size=w.heap.size+1:=by simp
 rw[e]at h;exact abd (w.heap.size+1) s hs (s.size+1) 0 _ h (by omega) (by omega)
theorem TU(s:ByteArray)(w:World)(hs:s.size<=40)(hT:(Pt.ty (nx s) (s.size+1) 0).1=false):
  Calls Tryz.prog 173 #[.string s] w fun e w'=>e=Az 2 (Pt.ty (nx s) (s.size+1) 0).2/\Below w.heap.size w w':=by
 have H:=TM s hs w;unfold Da at H;simp only[hT,Bool.false_eq_true,if_false]at H;clear hT;go_enter Tryz.func173,Tryz.ntmps173;go_wp2_with fail
 refine H.mono ?_;rintro e w1 ⟨rfl,hk⟩;go_wp2;exact⟨rfl,rfl,JJ (((Af.refl _ _).alloc _).trans hk) (by omega)⟩
theorem Wv(s:ByteArray)(w:World)(hs:s.size<=40)(hT:(Pt.ty (nx s) (s.size+1) 0).1=true)(hq:(Pt.ty (nx s) (s.size+1) 0).2<s.size):
  Calls Tryz.prog 173 #[.string s] w fun e w'=>e=Az 2 (Pt.ty (nx s) (s.size+1) 0).2/\Below w.heap.size w w':=by
 have H:=TM s hs w;unfold Da at H;simp only[hT,if_true]at H;clear hT;generalize (Pt.ty (nx s) (s.size+1) 0).2=q at *;have ad:(q:Int)<(s.size:Int):=by omega
 go_enter Tryz.func173,Tryz.ntmps173;go_wp2_with fail
 refine H.mono ?_;rintro e w1 ⟨c0,c1,c2,rfl,hk,ha,hr⟩;obtain⟨⟨x0,rfl⟩,⟨x1,rfl⟩,⟨ea,en,ec,rfl⟩⟩:=Bz hr;clear H hr;have hp:=fun o=>(ha.alloc o).place
 have aa:=((Af.refl (w.heap.size+1) (w.alloc Bh)).alloc _).trans hk;have ac:=ha.lt;go_wp2_with fail
 refine(GA (w.heap.size+1) q s _ (ha.alloc _)).mono ?_;rintro e w2 ⟨rfl,ab⟩;go_wp2;exact⟨rfl,rfl,JJ ((aa.alloc _).trans ab) (by omega)⟩
theorem Zr(s:ByteArray)(w:World)(hs:s.size<=40)(hT:(Pt.ty (nx s) (s.size+1) 0).1=true)(hq:(Pt.ty (nx s) (s.size+1) 0).2=s.size):
  Calls Tryz.prog 173 #[.string s] w fun e w'=>(if 4<Pt.EC (nx s) (s.size+1) 0 then e=Az 3 0 else ∃c0 c1 c2,e=.returned (.agg #[c0,c1,c2])/\Fe w' (fun k=>w.heap.size<=k) (nx s) (s.size+1) 0 c0 c1 c2)/\Below w.heap.size w w':=by
 have H:=TM s hs w;unfold Da at H;simp only[hT,if_true,hq]at H;clear hT hq;have hD:=fun S c0 c1 c2 w' h=>VH (nx s) (s.size+1) (by omega) 0 S c0 c1 c2 w' h
 generalize hd:Pt.EC (nx s) (s.size+1) 0=d at *;have ag:d<=41:=by have:=Ta (nx s) (s.size+1) 0;omega
 have HD:=Ac hD;clear hD hd;by_cases h4:4<d
 ·have af:(4:Int)<(d:Int):=by omega
  simp only[h4,if_true];go_enter Tryz.func173,Tryz.ntmps173;go_wp2_with fail
  refine H.mono ?_;rintro e w1 ⟨c0,c1,c2,rfl,hk,ha,hr⟩;clear H;obtain⟨⟨x0,rfl⟩,⟨x1,rfl⟩,⟨ea,en,ec,rfl⟩⟩:=Bz hr;have hp:=fun o=>(ha.alloc o).place
  have ab:=((Af.refl (w.heap.size+1) (w.alloc Bh)).alloc _).trans hk;have HR:=Ac (fun o=>Bw ((Ct.refl _ _).alloc o) hr);clear hr;go_wp2_with fail
  refine((Aa HD) _ _ _ _ _ (Aa HR _)).mono ?_;rintro e w2 ⟨rfl,aa⟩;go_wp2;refine⟨rfl,rfl,(JJ (ab.alloc (.cells #[.int .u8 x0,.int .i64 x1,.slice ea en ec] 262)) (by omega)).trans (aa.mono ?_)⟩;have:=ab.size;simp at this ⊢;omega
 ·have af:¬(4:Int)<(d:Int):=by omega
  simp only[h4,if_false];go_enter Tryz.func173,Tryz.ntmps173;go_wp2_with fail
  refine H.mono ?_;rintro e w1 ⟨c0,c1,c2,rfl,hk,ha,hr⟩;clear H;obtain⟨⟨x0,rfl⟩,⟨x1,rfl⟩,⟨ea,en,ec,rfl⟩⟩:=Bz hr;have hp:=fun o=>(ha.alloc o).place
  have ab:=((Af.refl (w.heap.size+1) (w.alloc Bh)).alloc _).trans hk;have T0:=((FE.new w (.int .u8 0) (.int .i64 0) (.slice none 0 0)).keeps ab (by omega)).alloc (.cells #[.int .u8 x0,.int .i64 x1,.slice ea en ec] 262);have T1:=FE.new w1 (.int .u8 x0) (.int .i64 x1) (.slice ea en ec);have al:=T0.lt;have am:w.heap.size+1<w1.heap.size:=ha.lt;have HR:=Ac hr;clear hr;go_wp2_with fail
  refine((Aa HD) _ _ _ _ _ (Bw ((Ct.refl _ _).alloc _) (Aa HR))).mono ?_;rintro e w2 ⟨rfl,aa⟩;have ad:∀k o,k<w1.heap.size+1->w2.cell? ⟨k,o,none⟩=(w1.alloc (.cells #[.int .u8 x0,.int .i64 x1,.slice ea en ec] 262)).cell? ⟨k,o,none⟩:=fun k o hk=>aa.cell (p:=⟨k,o,none⟩) (by simpa using hk)
  have ae:∀k o,k<w1.heap.size+1->w2.frozen? ⟨k,o,none⟩=(w1.alloc (.cells #[.int .u8 x0,.int .i64 x1,.slice ea en ec] 262)).frozen? ⟨k,o,none⟩:=fun k o hk=>aa.frozen (p:=⟨k,o,none⟩) (by simpa using hk)
  obtain⟨u0,u1,u2,v0,v1,v2⟩:=T0.facts;obtain⟨ai,aj,ak,y0,y1,y2⟩:=T1.facts;rw[<-ad _ _ (by omega)]at u0 u1 u2 ai aj ak;rw[<-ae _ _ (by omega)]at v0 v1 v2 y0 y1 y2;clear ad ae T0 T1;go_wp2;have ah:=aa.size;have ac:=hk.size;simp at ah ac;refine bodyPost_ret (v:=.agg #[.int .u8 x0,.int .i64 x1,.slice ea en ec]) (by simp[results,Tryz.results173,go_sem,u0,u1,u2]) rfl ⟨⟨_,_,_,rfl,?_⟩,?_⟩
  ·have h1:Fe w1 (fun k=>w.heap.size+2<=k) (nx s) (s.size+1) 0 (.int .u8 x0) (.int .i64 x1) (.slice ea en ec):=by simpa using Aa HR
   have h2:=Bw (((Ct.refl _ _).alloc (.cells #[.int .u8 x0,.int .i64 x1,.slice ea en ec] 262)).trans (⟨aa.size,fun k _ hl=>aa.block k hl⟩:Ct (fun k=>w.heap.size+2<=k) _ w2)) h1;refine DN (fun k hk _=>by omega) (Bw ?_ h2);exact(((Ct.refl _ _).setCell (by simp) _).setCell (by simp) _).setCell (by simp) _
  ·have h1:=(JJ (ab.alloc (.cells #[.int .u8 x0,.int .i64 x1,.slice ea en ec] 262)) (by omega)).trans (aa.mono (by simp;omega));exact((h1.setCell (by simp) _).setCell (by simp) _).setCell (by simp) _
theorem GG(n q:Nat)(w:World):(Instr.typeAssert (.iface 161 (Bq n q)) 20 161 true).run Tryz.prog w=.ok (.tuple #[Bq n q,.bool true]) w:=by kernel_rfl
theorem Jm(n q:Nat)(w:World):
  Calls Tryz.prog 87 #[.iface 161 (Bq n q)] w fun e w'=>e=.returned (Bq n q)/\Below w.heap.size w w':=by
 have aa:=GG n q;go_enter Tryz.func87,Tryz.ntmps87;go_wp2;exact bodyPost_ret (v:=Bq n q) (by simp[results,Tryz.results87,go_sem]) rfl ⟨rfl,((Below.refl _ _).alloc (afI _) _).alloc (by simp) _⟩
theorem toList_nil{S:ByteArray}:S.toList=[]↔S.size=0:=by
 rw[ByteArray.toList_eq];constructor
 ·intro h;have h2:=congrArg List.length h;rw[agG]at h2;exact h2
 ·intro h;exact agl (by rw[agG];exact h)
theorem Eu{k0:List Bool}{qs:List Nat}{r:List It}(h:AO g f p v=some (k0,qs,r)):CF g (f+1) p v=Ck k0 (BU (CF g f) qs r):=by
 simp only[CF,h]
theorem Gq(h:AO g f p v=none):CF g (f+1) p v=none:=by
 simp only[CF,h]
def b8(n:Int):UInt8:=UInt8.ofNat n.toNat
theorem Bj{n:Int}(h0:0<=n)(h1:n<=255):((b8 n).toNat:Int)=n:=by
 unfold b8;rw[UInt8.toNat_ofNat_of_lt' (by show n.toNat<256;omega)];omega
def A5(n:Int):List UInt8:=[b8 (n % 65536 / 256),b8 (n % 256)]
def EE(k:Bool)(x:It):List UInt8:=if k then A5 x.2.size++(x.2.data.toList++(if x.2.size % 2=1 then [0] else [])) else A5 x.1
def bytesOf:List Bool->List It->List UInt8
 |k :: ks,x :: v=>EE k x++bytesOf ks v
 |_,_=>[]
theorem aaF(k:Bool)(x:It)(h:k=true->x.2.size<=14):(EE k x).length<=17:=by
 unfold EE;cases k with
 |false=>simp[A5]
 |true=>
  have aa:=h rfl;have e:x.2.data.toList.length=x.2.size:=by simp
  simp only[if_true,afS,e];split<;>simp[A5]<;>omega
def abG(ks:List Bool)(v:List It):Prop:=ks.length=v.length/\∀(i:Nat) (k:Bool) (x:It),ks[i]?=some k->v[i]?=some x->(k=true->x.2.size<=14)/\(k=false->-32768<=x.1/\x.1<=65535)
theorem DL(w:World):Calls Tryz.prog 226 #[] w fun e w'=>e=.returned (.agg #[.int .i64 4,.int .i64 0])/\Below w.heap.size w w':=by
 go_enter Tryz.func226,Tryz.ntmps226;go_wp2;exact bodyPost_ret (v:=.agg #[.int .i64 4,.int .i64 0]) (by simp[results,Tryz.results226,go_sem]) rfl ⟨rfl,(Below.refl _ _).alloc (afI _) _⟩
def Wr(w:World)(b:Nat)(L O:Value):Prop:=w.heap[b]?=some (.cells #[L,O] 300 (0,0))
theorem Wr.left(h:Wr w b L O):w.cell? ⟨b,0,none⟩=some L:=by
 unfold Wr at h;simp[World.cell?,h]
theorem Wr.out(h:Wr w b L O):w.cell? ⟨b,1,none⟩=some O:=by
 unfold Wr at h;simp[World.cell?,h]
theorem Wr.aeh(h:Wr w b L O):w.frozen? ⟨b,0,none⟩=false:=by
 unfold Wr at h;simp[World.frozen?,h]
theorem Wr.RU(h:Wr w b L O):w.frozen? ⟨b,1,none⟩=false:=by
 unfold Wr at h;simp[World.frozen?,h]
theorem Wr.lt(h:Wr w b L O):b<w.heap.size:=lt_of_block h
theorem Wr.set0(h:Wr w b L O)(x:Value):Wr (w.setCell ⟨b,0,none⟩ x) b x O:=by
 unfold Wr at h ⊢;simp only[World.setCell,agi,h];simp
theorem Wr.set1(h:Wr w b L O)(x:Value):Wr (w.setCell ⟨b,1,none⟩ x) b L x:=by
 unfold Wr at h ⊢;simp only[World.setCell,agi,h];simp
theorem Wr.alloc(h:Wr w b L O)(o:Obj):Wr (w.alloc o) b L O:=by
 have hl:=h.lt;unfold Wr at h ⊢;rw[Below.heap_alloc w o b hl];exact h
theorem Wr.below(h:Wr w b L O)(hb:Below w.heap.size w w'):Wr w' b L O:=by
 have hl:=h.lt;unfold Wr at h ⊢;rw[hb.block b hl];exact h
theorem UY(b:Nat)(a:Option Addr)(cap:Nat)(O:Value)(w:World)(h:Wr w b (.slice a 0 cap) O):
  Calls Tryz.prog 283 #[.pointer (some ⟨b,0,none⟩)] w fun e w'=>e=Az 4 0/\Below w.heap.size w w':=by
 have h1:=fun o=>(h.alloc o).left
 have HN:=Ac DL;clear h;go_enter Tryz.func283,Tryz.ntmps283;go_wp2_with fail
 refine((Aa HN) _).mono ?_;rintro e w1 ⟨rfl,aa⟩;go_wp2;exact⟨rfl,rfl,((Below.refl _ _).alloc (afI _) _).trans (aa.mono (by simp))⟩
def DT(l:List UInt8):List Value:=l.map fun c=>Value.int .u8 (c.toNat:Int)
theorem Bu{v:Value}(h:w.ownsRow B e size v n xs)(hb:Below w.heap.size w w'):w'.ownsRow B e size v n xs:=by
 obtain⟨hl,h⟩:=h;refine⟨hl,?_⟩;rcases h with h|⟨g,cap,aa,hv,hg,hh,r⟩
 ·exact afJ h
 ·refine afM ⟨g,cap,aa,hv,hg,?_,r⟩;rw[hb.block g (lt_of_block hh)];exact hh
theorem Ka{v x:Value}(h:w.ownsRow B e size v n xs)(hk:k<B):(w.setCell ⟨k,o,none⟩ x).ownsRow B e size v n xs:=by
 obtain⟨hl,h⟩:=h;refine⟨hl,?_⟩;rcases h with h|⟨g,cap,aa,hv,hg,hh,r⟩
 ·exact afJ h
 ·refine afM ⟨g,cap,aa,hv,hg,?_,r⟩;rw[Below.heap_setCell _ _ _ _ (by simp;omega)];exact hh
theorem Kj(l:List UInt8):∀u∈DT l,u.oneCell'=true:=by
 intro u hu;unfold DT at hu;obtain⟨c,_,rfl⟩:=agE.1 hu;rfl
structure WS(w0 w:World)(L:Value)(v:List It)(O:Value)(out:List UInt8):Prop where
 wr:Wr w w0.heap.size L O
 items:Items w0 L v
 below:Below w0.heap.size w0 w
 own:w.ownsRow (w0.heap.size+1) 5 1 O out.length (DT out)
structure Wk(b:Nat)(O O':Value)(w w':World):Prop where
 size:w.heap.size<=w'.heap.size
 block:∀k,k<w.heap.size->k≠b->O.ownBlock≠some k->w'.heap[k]?=w.heap[k]?
 row:O'.ownBlock=O.ownBlock\/∃g,O'.ownBlock=some g/\w.heap.size<=g
theorem Wk.trans{O2:Value}{w2:World}(h:Wk b O O1 w w1)(k:Wk b O1 O2 w1 w2):Wk b O O2 w w2:=by
 have hs:=h.size;refine⟨agM h.size k.size,fun i hi hb hr=>?_,?_⟩
 ·rw[k.block i (by omega) hb ?_,h.block i hi hb hr];rcases h.row with h1|⟨g,h1,h2⟩
  ·rw[h1];exact hr
  ·rw[h1];intro e;cases e;omega
 ·rcases k.row with k1|⟨g,k1,k2⟩
  ·rcases h.row with h1|⟨g,h1,h2⟩
   ·exact afJ (k1.trans h1)
   ·exact afM ⟨g,k1.trans h1,h2⟩
  ·exact afM ⟨g,k1,by omega⟩
theorem Wk.of_below(h:Below w.heap.size w w'):Wk b O O w w':=⟨h.size,fun k hk _ _=>h.block k hk,afJ rfl⟩
theorem Wk.cell{O':Value}(h:Wk b O O' w w')(hk:k<w.heap.size)(hb:k≠b)(hr:O.ownBlock≠some k):w'.cell? ⟨k,o,none⟩=w.cell? ⟨k,o,none⟩:=World.cell?_of_block (w:=w) (h.block k hk hb hr)
theorem WS.row{out:List UInt8}(h:WS w0 w L v O out)(hk:O.ownBlock=some k):w0.heap.size<k/\k<w.heap.size:=by
 have:=h.own.lt k hk;omega
theorem WS.go{out:List UInt8}(h:WS w0 w L v O out)(hb:Below w.heap.size w w'):WS w0 w' L v O out:=
 ⟨h.wr.below hb,h.items,h.below.trans (hb.mono h.below.size),Bu h.own hb⟩
theorem TB{x:It}(h:Items w L (x :: v)):∃g off cap,L=.slice (some ⟨g,off,none⟩) (v.length+1) cap/\v.length+1<=cap/\g<w.heap.size/\w.cell? ⟨g,off,none⟩=some (.int .i64 x.1)/\w.cell? ⟨g,off+1,none⟩=some (.string x.2)/\Items w (.slice (some ⟨g,off+2,none⟩) v.length (cap-1)) v/\(cap=1->Items w (.slice (some ⟨g,off,none⟩) v.length 0) v):=by
 obtain⟨a,cap,hL,hc,h⟩:=h;rcases h with h|⟨g,off,ha,hl,hx⟩
 ·cases h
 ·subst ha;simp only[af1]at hL hc;have h0:=hx 0 x rfl;refine⟨g,off,cap,hL,hc,hl,by simpa using h0.1,by simpa using h0.2,⟨_,_,rfl,by omega,?_⟩,fun aa=>⟨_,_,rfl,by omega,afJ ?_⟩⟩
  ·refine afM ⟨g,off+2,rfl,hl,fun j y hj=>?_⟩;have h1:=hx (j+1) y (by simpa using hj);rw[show off+2+j*2=off+(j+1)*2 by omega];exact h1
  ·exact agl (by omega)
theorem GU(w0 w:World)(L O:Value)(x:It)(v:List It)(out:List UInt8)(h:WS w0 w L (x :: v) O out)(hn:v.length<=9000000000000):
  Calls Tryz.prog 283 #[.pointer (some ⟨w0.heap.size,0,none⟩)] w fun e w'=>e=.returned (.agg #[.int .i64 x.1,.string x.2])/\∃L',WS w0 w' L' v O out/\Wk w0.heap.size O O w w':=by
 obtain⟨g,off,cap,rfl,hc,hg,f0,f1,ac,ad⟩:=TB h.items;have aj:=h.below.size;obtain⟨b,ag⟩:∃b,b=w0.heap.size:=⟨_,rfl⟩;have aa:=h.wr;have ak:=aa.lt;have af:g<w.heap.size:=by omega
 have e0:=fun o=>(World.cell?_of_block (w:=w) (a:=⟨g,off,none⟩) (Below.heap_alloc w o g af)).trans ((h.below.cell (p:=⟨g,off,none⟩) hg).trans f0)
 have e1:=fun o=>(World.cell?_of_block (w:=w) (a:=⟨g,off+1,none⟩) (Below.heap_alloc w o g af)).trans ((h.below.cell (p:=⟨g,off+1,none⟩) hg).trans f1)
 have h1:=fun o=>(aa.alloc o).left
 have h2:=fun o=>(aa.alloc o).aeh
 have HS:=Ac h;have al:¬w.heap.size=w0.heap.size:=by omega
 have fin:∀L',Items w0 L' v->WS w0 (((w.setCell ⟨w0.heap.size,0,none⟩ L').alloc (.cells #[.int .i64 x.1,.string x.2] 73)).alloc (.cells #[.int .i64 x.1,.string x.2] 73)) L' v O out/\Wk w0.heap.size O O w (((w.setCell ⟨w0.heap.size,0,none⟩ L').alloc (.cells #[.int .i64 x.1,.string x.2] 73)).alloc (.cells #[.int .i64 x.1,.string x.2] 73)):=by
  intro L' hi;have hb:Below w0.heap.size w0 (w.setCell ⟨w0.heap.size,0,none⟩ L'):=h.below.setCell (by simp) _;refine⟨⟨((aa.set0 L').alloc _).alloc _,hi,(hb.alloc (by simp;omega) _).alloc (by simp;omega) _,((Ka h.own (by omega)).alloc _).alloc _⟩,⟨by simp;omega,fun k hk ai _=>?_,afJ rfl⟩⟩;rw[Below.heap_alloc _ _ _ (by simp;omega),Below.heap_alloc _ _ _ (by simp;omega),Below.heap_setCell _ _ _ _ (by simpa using ai)]
 have ae:=Ac fin;clear h aa f0 f1 ag fin;by_cases ah:cap=1
 ·subst ah;obtain rfl:v=[]:=agl (by omega);have it:=ad rfl;clear ac ad;have ab:=Ac it;clear it;go_enter Tryz.func283,Tryz.ntmps283;go_wp2;exact bodyPost_ret (v:=.agg #[.int .i64 x.1,.string x.2]) (by simp[results,Tryz.results283,go_sem]) rfl ⟨rfl,_,Aa ae _ (Aa ab)⟩
 ·have ab:=Ac ac;clear ac ad;go_enter Tryz.func283,Tryz.ntmps283;go_wp2;exact bodyPost_ret (v:=.agg #[.int .i64 x.1,.string x.2]) (by simp[results,Tryz.results283,go_sem]) rfl ⟨rfl,_,Aa ae _ (Aa ab)⟩
theorem info5:(Tryz.prog.info? 5).map (fun i=>(i.zero,i.size,i.bytes))=some (some (.int .u8 0),1,1):=by kernel_rfl
theorem Ar{v:Value}(h:w.ownsRow B e size v n xs):∃a k c,v=.slice a k c:=by
 rcases h.2 with ⟨hv,_⟩|⟨g,cap,aa,hv,_⟩
 ·exact⟨_,_,_,hv⟩
 ·exact⟨_,_,_,hv⟩
theorem ac5(n:Int):IntKind.u16.wrap n=n % 65536:=by
 simp[IntKind.wrap,IntKind.bits,IntKind.signed]
theorem Vl{out news:List UInt8}{o:Obj}(h:WS w0 w L v O out)(ab:w1.ownsRow (w0.heap.size+1) 5 1 O1 (out.length+news.length) (DT out++DT news))(hg:(w.alloc o).grownBy w1 O.ownBlock)(ad:O1.ownBlock=O.ownBlock\/O1.ownBlock=some (w.alloc o).heap.size):
  Wr w1 w0.heap.size L O/\WS w0 (w1.setCell ⟨w0.heap.size,1,none⟩ O1) L v O1 (out++news)/\Wk w0.heap.size O O1 w (w1.setCell ⟨w0.heap.size,1,none⟩ O1):=by
 have af:=h.wr.lt;have ag:(w.alloc o).heap.size=w.heap.size+1:=by simp
 have ah:=hg.size;have keep:∀k,k<w.heap.size->O.ownBlock≠some k->w1.heap[k]?=w.heap[k]?:=by
  intro k hk hr;rw[hg.block k (by omega) (fun e=>hr e.symm)];exact Below.heap_alloc _ _ _ hk
 have aa:∀k,O.ownBlock=some k->w0.heap.size<k:=fun k hk=>(h.row hk).1
 have ac:Wr w1 w0.heap.size L O:=by
  have:=h.wr;unfold Wr at this ⊢;rw[keep _ af (fun e=>by have:=aa _ e;omega)];exact this
 refine⟨ac,⟨ac.set1 O1,h.items,?_,?_⟩,⟨by simp;omega,fun k hk ae hr=>?_,?_⟩⟩
 ·exact((h.below.alloc (by omega) o).grown hg (by omega) (fun k hk=>by have:=aa k hk;omega)).setCell (by simp) _
 ·have:=Ka (k:=w0.heap.size) (o:=1) (x:=O1) ab (by omega);rw[afS];unfold DT at this ⊢;rw[agw];exact this
 ·rw[Below.heap_setCell _ _ _ _ (by simpa using ae)];exact keep k hk hr
 ·rcases ad with h1|h1
  ·exact afJ h1
  ·exact afM ⟨_,h1,by omega⟩
theorem WS.drew{out:List UInt8}(h:WS w0 w L v O out):WS w0 w.drew L v O out:=⟨h.wr,h.items,h.below.drew,h.own⟩
theorem K3(w0 w:World)(L O:Value)(v:List It)(out:List UInt8)(n:Int)(h:WS w0 w L v O out)(aq:out.length<=1000000):
  Calls Tryz.prog 202 #[O,.int .i64 n] w fun e w'=>∃a k c,e=.returned (.slice a k c)/\Wr w' w0.heap.size L O/\WS w0 (w'.setCell ⟨w0.heap.size,1,none⟩ (.slice a k c)) L v (.slice a k c) (out++A5 n)/\Wk w0.heap.size O (.slice a k c) w (w'.setCell ⟨w0.heap.size,1,none⟩ (.slice a k c)):=by
 have ap:=h.wr.lt;have how:=h.own;have HH:=Ac h;have HN:Hid (∀(j:Nat) (u:Value),(DT (A5 n))[j]?=some u->(w.alloc (.cells #[.int .u8 (IntKind.u16.wrap n / 256 % 256),.int .u8 (IntKind.u16.wrap n % 256)] 5)).cell? ((⟨w.heap.size,0,none⟩:Addr).add j)=some u):=by
  intro j u hj;rw[ac5];unfold DT A5 at hj;match j,hj with
  |0,hj=>
   simp at hj;rw[Bj (by omega) (by omega)]at hj;subst hj;rw[show n % 65536 / 256 % 256=n % 65536 / 256 by omega];simp[Addr.add,go_sem]
  |1,hj=>
   simp at hj;rw[Bj (by omega) (by omega)]at hj;subst hj;rw[show n % 65536 % 256=n % 256 by omega];simp[Addr.add,go_sem]
 obtain⟨oa,an,hO⟩:∃a c,O=.slice a out.length c:=by
  rcases how.2 with ⟨hv,h0⟩|⟨g,cap,ao,hv,_⟩
  ·exact⟨none,0,by rw[hv,h0]⟩
  ·exact⟨_,_,hv⟩
 subst hO;clear h;obtain⟨i0,hi,ak,al,am⟩:=info_parts info5;go_enter Tryz.func202,Tryz.ntmps202;go_wp2_with (at_builtin;refine wpList_append_own_at _ rfl (.tmp 8) (.tmp 14) 281 rfl (w0.heap.size+1) 5 i0 (.int .u8 0) 1 1 Tryz.underlying281 hi ak al am rfl (by decide) _ out.length (DT out) rfl (by exact how.alloc _) ⟨w.heap.size,0,none⟩ 2 2 (DT (A5 n)) rfl rfl (Aa HN) (by exact Kj _) (by unfold maxLen;omega) (by omega) (by simp;omega) ?_)
 intro O1 w1 ab aa _ ac;obtain⟨ar,av,au,aj⟩:=Ar ab;subst aj;obtain⟨ae,af,ad⟩:=Vl (Aa HH) ab aa (by simpa using ac);have ah:=Ac ae;have ai:=Ac af;have ag:=Ac ad;clear ab aa ac ae af ad how;go_wp2
 go_ret
 exact⟨_,_,_,rfl,Aa ah,Aa ai,Aa ag⟩
theorem Rb(w0 w:World)(L O:Value)(out:List UInt8)(lo ab:Int)(h:WS w0 w L [] O out):
  Calls Tryz.prog 281 #[.pointer (some ⟨w0.heap.size,0,none⟩),.int .i64 lo,.int .i64 ab] w fun e w'=>e=Az 4 0/\Below w0.heap.size w0 w':=by
 obtain⟨a,cap,hL,_,_⟩:=h.items;subst hL;have H1:=Ac (UY w0.heap.size a cap O w h.wr);have hb:=h.below;clear h;go_enter Tryz.func281,Tryz.ntmps281;go_wp2_with fail
 refine(Aa H1).mono ?_;rintro e w1 ⟨rfl,aa⟩;go_wp2;exact⟨rfl,rfl,hb.trans (aa.mono hb.size)⟩
theorem Q8(w0 w:World)(L O:Value)(x:It)(v:List It)(out:List UInt8)(lo ac:Int)(h:WS w0 w L (x :: v) O out)(hn:v.length<=9000000000000)(hS:¬x.2.toList=[]):
  Calls Tryz.prog 281 #[.pointer (some ⟨w0.heap.size,0,none⟩),.int .i64 lo,.int .i64 ac] w fun e w'=>e=Az 4 0/\Below w0.heap.size w0 w':=by
 have H1:=Ac (GU w0 w L O x v out h hn);have HN:=Ac DL;clear h;obtain⟨N,S⟩:=x;simp only at H1 hS;go_enter Tryz.func281,Tryz.ntmps281;go_wp2_with fail
 refine(Aa H1).mono ?_;rintro e w1 ⟨rfl,L',aa,ad⟩;have hb:=aa.below;have ae:=hb.size;clear aa ad;go_wp2_with fail
 refine((Aa HN) _).mono ?_;rintro e w2 ⟨rfl,ab⟩;go_wp2;exact⟨rfl,rfl,(hb.alloc (by omega) _).trans (ab.mono (by simp;omega))⟩
theorem Q9(w0 w:World)(L O:Value)(x:It)(v:List It)(out:List UInt8)(lo ac:Int)(h:WS w0 w L (x :: v) O out)(hn:v.length<=9000000000000)(hS:x.2.toList=[])(hl:x.1<lo):
  Calls Tryz.prog 281 #[.pointer (some ⟨w0.heap.size,0,none⟩),.int .i64 lo,.int .i64 ac] w fun e w'=>e=Az 4 0/\Below w0.heap.size w0 w':=by
 have H1:=Ac (GU w0 w L O x v out h hn);have HN:=Ac DL;clear h;obtain⟨N,S⟩:=x;simp only at H1 hS hl;go_enter Tryz.func281,Tryz.ntmps281;go_wp2_with fail
 refine(Aa H1).mono ?_;rintro e w1 ⟨rfl,L',aa,ad⟩;have hb:=aa.below;have ae:=hb.size;clear aa ad;go_wp2_with fail
 refine((Aa HN) _).mono ?_;rintro e w2 ⟨rfl,ab⟩;go_wp2;exact⟨rfl,rfl,(hb.alloc (by omega) _).trans (ab.mono (by simp;omega))⟩
theorem Ra(w0 w:World)(L O:Value)(x:It)(v:List It)(out:List UInt8)(lo aa:Int)(h:WS w0 w L (x :: v) O out)(hn:v.length<=9000000000000)(hS:x.2.toList=[])(hl:¬x.1<lo)(hh:aa<x.1):
  Calls Tryz.prog 281 #[.pointer (some ⟨w0.heap.size,0,none⟩),.int .i64 lo,.int .i64 aa] w fun e w'=>e=Az 4 0/\Below w0.heap.size w0 w':=by
 have H1:=Ac (GU w0 w L O x v out h hn);have HN:=Ac DL;clear h;obtain⟨N,S⟩:=x;simp only at H1 hS hl hh;go_enter Tryz.func281,Tryz.ntmps281;go_wp2_with fail
 refine(Aa H1).mono ?_;rintro e w1 ⟨rfl,L',ab,ad⟩;have hb:=ab.below;have ae:=hb.size;clear ab ad;go_wp2_with fail
 refine((Aa HN) _).mono ?_;rintro e w2 ⟨rfl,ac⟩;go_wp2;exact⟨rfl,rfl,(hb.alloc (by omega) _).trans (ac.mono (by simp;omega))⟩
theorem Wl(w0 w:World)(L O:Value)(x:It)(v:List It)(out:List UInt8)(lo ag:Int)(h:WS w0 w L (x :: v) O out)(hn:v.length<=9000000000000)(hS:x.2.toList=[])(hl:¬x.1<lo)(hh:¬ag<x.1)(al:out.length<=1000000):
  Calls Tryz.prog 281 #[.pointer (some ⟨w0.heap.size,0,none⟩),.int .i64 lo,.int .i64 ag] w fun e w'=>e=.returned (.int .i64 x.1)/\∃L' O',WS w0 w' L' v O' (out++A5 x.1)/\Wk w0.heap.size O O' w w':=by
 have H1:=Ac (GU w0 w L O x v out h hn);clear h;obtain⟨N,S⟩:=x;simp only at H1 hS hl hh ⊢;go_enter Tryz.func281,Tryz.ntmps281;go_wp2_with fail
 refine(Aa H1).mono ?_;rintro e w1 ⟨rfl,L',ae,ah⟩;have aa:=ae.go ((Below.refl w1.heap.size w1).alloc (afI _) (.cells #[.int .i64 N,.string S] 73));have H2:=Ac (K3 w0 _ L' O v out N aa.drew al);have af:O.ownBlock≠some w1.heap.size:=fun e=>by have:=(ae.row e).2;omega
 have ao:=ae.wr.lt;have am:=aa.wr.out;have ak:=Ac ah;obtain⟨sa,sn,sc,an⟩:=Ar aa.own;subst an;clear ae ah aa;go_wp2_with fail
 go_region_with ((go_at_call 202;refine(Aa H2).mono ?_;rintro e w2 ⟨ta,tn,tc,rfl,ac,ad,ab⟩;have t1:=ac.out;have t2:=ac.RU))
 all_goals
  have c0:(w2.setCell ⟨w0.heap.size,1,none⟩ (.slice ta tn tc)).cell? ⟨w1.heap.size,0,none⟩=some (.int .i64 N):=(ab.cell (by simp) (by omega) af).trans (by simp[go_sem]);have aj:=Ac ad;have ai:=Ac ((Aa ak).trans ((Wk.of_below (((Below.refl w1.heap.size w1).alloc (afI _) (.cells #[.int .i64 N,.string S] 73)).drew)).trans ab));clear ad ab ac t1 t2;generalize w2.setCell ⟨w0.heap.size,1,none⟩ (.slice ta tn tc)=W3 at *;go_wp2
  go_ret
  exact⟨rfl,L',_,Aa aj,Aa ai⟩
end Go.Proofs.YtblomippkddgiabGreatDoor.V
