import Derived.Test.YtblomippkddgiaaGreatDoorK06
import Derived.Laws.IdiomStrings
import Derived.Lib.BufferRead
import Derived.ProofKit
import Derived.OpenShut
import Derived.ShutString
import Derived.ChangeOld
set_option maxRecDepth 100000
set_option maxHeartbeats 1000000
namespace Go.Proofs.YtblomippkddgiaaGreatDoor.V
open Go.RowKit
theorem XY{w:World}{B:Nat}{O:Value}{out:List UInt8}(h:w.ownsRow B 5 1 O out.length (Dx out)):(convert 199 9 O).run Tryz.prog w=.ok (.string ⟨out.toArray⟩) w:=by
 have hcl:=fun g=>h.cells (g:=g)
 rcases h.2 with ⟨hv,h0⟩|⟨g,cap,cur,hv,_⟩
 ·have:out=[]:=List.eq_nil_of_length_eq_zero h0;subst this;rw[hv];exact Lib.run_convert_nil_bytes w 199 9 5 0 Tryz.underlying199 (by kernel_rfl) Tryz.underlying9
 ·rw[hv];refine run_convert_bytes_back w 199 9 5 ⟨g,0,none⟩ cap out Tryz.underlying199 (by kernel_rfl) Tryz.underlying9 fun j hj=>?_
  refine hcl g (by rw[hv];rfl) j _ ?_;unfold Dx;rw[List.getElem?_map,List.getElem?_eq_getElem hj];rfl
def H9(e:Dn)(v:List It):Nat×List UInt8:=match e with
 |none=>(4,[])
 |some (ks,r)=>if r=[] then (if 70<(bytesOf ks v).length then (5,[]) else (0,bytesOf ks v)) else (4,[])
def KP(res:Nat×List UInt8)(e:Ending):Prop:=if res.1=0 then e=.returned (.string ⟨res.2.toArray⟩) else e=Ax res.1 0
theorem Fb(n:Nat)(w:World):Calls Tryz.prog 127 #[.int .i64 n] w fun e w'=>e=.returned (.bool (decide (70<n)))/\w'=w:=by
 have e:(decide (70<n))=(decide ((70:Int)<(n:Int))):=by
  rw[Bool.eq_iff_iff];simp;omega
 rw[e];go_enter Tryz.func127,Tryz.ntmps127;go_wp2
 go_ret
 exact⟨rfl,rfl⟩
abbrev VB(V:Value):Obj:=.cells #[V,.slice none 0 0] 201
theorem SX(w:World)(x0 x1:Int)(ea va:Option Addr)(en ec vn vc:Nat)
  (HK:Calls Tryz.prog 125 #[.agg #[.int .u8 x0,.int .i64 x1,.slice ea en ec],.iface 203 (.pointer (some ⟨w.heap.size+1,0,none⟩))] ((w.alloc (Bh x0 x1 ea en ec)).alloc (VB (.slice va vn vc))) fun e w'=>e=Ax 4 0/\Below w.heap.size w w'):
  Calls Tryz.prog 77 #[.agg #[.int .u8 x0,.int .i64 x1,.slice ea en ec],.slice va vn vc] w fun e w'=>e=Ax 4 0/\Below w.heap.size w w':=by
 have HKK:=Ab HK;clear HK;go_enter Tryz.func77,Tryz.ntmps77;go_wp2_with fail
 refine(Aa HKK).mono ?_;rintro e w1 ⟨rfl,hb⟩;go_wp2;exact⟨rfl,rfl,hb⟩
structure S7(w w':World)(n:Nat)(out:List UInt8)(a:Option Addr)(cap:Nat)(O:Value):Prop where
 left:w'.cell? ⟨w.heap.size+1,0,none⟩=some (.slice a n cap)
 ab8:w'.cell? ⟨w.heap.size+1,1,none⟩=some O
 own:w'.ownsRow (w.heap.size+2) 5 1 O out.length (Dx out)
 below:Below w.heap.size w w'
theorem SV(w:World)(x0 x1:Int)(ea va:Option Addr)(en ec vn vc:Nat)(n:Nat)(out:List UInt8)(hn:0<n)
  (HK:Calls Tryz.prog 125 #[.agg #[.int .u8 x0,.int .i64 x1,.slice ea en ec],.iface 203 (.pointer (some ⟨w.heap.size+1,0,none⟩))] ((w.alloc (Bh x0 x1 ea en ec)).alloc (VB (.slice va vn vc))) fun e w'=>e=.returned (.tuple #[])/\∃a cap O,S7 w w' n out a cap O):
  Calls Tryz.prog 77 #[.agg #[.int .u8 x0,.int .i64 x1,.slice ea en ec],.slice va vn vc] w fun e w'=>e=Ax 4 0/\Below w.heap.size w w':=by
 have HKK:=Ab HK;have HN:=Ab Dt;clear HK;go_enter Tryz.func77,Tryz.ntmps77;go_wp2_with fail
 refine(Aa HKK).mono ?_;rintro e w1 ⟨rfl,a,cap,O,hL⟩;have c0:=hL.left;have hb:=hL.below;have hbz:=hb.size;clear hL;go_wp2_with fail
 refine((Aa HN) _).mono ?_;rintro e w2 ⟨rfl,hb2⟩;go_wp2;exact⟨rfl,rfl,hb.trans (hb2.mono hbz)⟩
theorem VC(w:World)(x0 x1:Int)(ea va:Option Addr)(en ec vn vc:Nat)(out:List UInt8)(hn:70<out.length)
  (HK:Calls Tryz.prog 125 #[.agg #[.int .u8 x0,.int .i64 x1,.slice ea en ec],.iface 203 (.pointer (some ⟨w.heap.size+1,0,none⟩))] ((w.alloc (Bh x0 x1 ea en ec)).alloc (VB (.slice va vn vc))) fun e w'=>e=.returned (.tuple #[])/\∃a cap O,S7 w w' 0 out a cap O):
  Calls Tryz.prog 77 #[.agg #[.int .u8 x0,.int .i64 x1,.slice ea en ec],.slice va vn vc] w fun e w'=>e=Ax 5 0/\Below w.heap.size w w':=by
 have HKK:=Ab HK;have HB:=Ab (fun w=>Fb out.length w);rw[show decide (70<out.length)=true by simp[hn]]at HB;clear HK hn;go_enter Tryz.func77,Tryz.ntmps77;go_wp2_with fail
 refine(Aa HKK).mono ?_;rintro e w1 ⟨rfl,a,cap,O,hL⟩;have c0:=hL.left;have c1:=hL.ab8;have hb:=hL.below;obtain⟨oa,oc,rfl⟩:∃a c,O=.slice a out.length c:=by
  rcases hL.own.2 with ⟨hv,h0⟩|⟨g,cap,cur,hv,_⟩
  ·exact⟨none,0,by rw[hv,h0]⟩
  ·exact⟨_,_,hv⟩
 clear hL;go_wp2_with fail
 refine((Aa HB) _).mono ?_;rintro e w2 ⟨rfl,rfl⟩;go_wp2;exact⟨rfl,rfl,hb⟩
theorem Yw(w:World)(x0 x1:Int)(ea va:Option Addr)(en ec vn vc:Nat)(out:List UInt8)(hn:¬70<out.length)
  (HK:Calls Tryz.prog 125 #[.agg #[.int .u8 x0,.int .i64 x1,.slice ea en ec],.iface 203 (.pointer (some ⟨w.heap.size+1,0,none⟩))] ((w.alloc (Bh x0 x1 ea en ec)).alloc (VB (.slice va vn vc))) fun e w'=>e=.returned (.tuple #[])/\∃a cap O,S7 w w' 0 out a cap O):
  Calls Tryz.prog 77 #[.agg #[.int .u8 x0,.int .i64 x1,.slice ea en ec],.slice va vn vc] w fun e w'=>e=.returned (.string ⟨out.toArray⟩)/\Below w.heap.size w w':=by
 have HKK:=Ab HK;have HB:=Ab (fun w=>Fb out.length w);rw[show decide (70<out.length)=false by simp;omega]at HB;clear HK hn;go_enter Tryz.func77,Tryz.ntmps77;go_wp2_with fail
 refine(Aa HKK).mono ?_;rintro e w1 ⟨rfl,a,cap,O,hL⟩;have c0:=hL.left;have c1:=hL.ab8;have hb:=hL.below;have hcv:=XY hL.own;obtain⟨oa,oc,rfl⟩:∃a c,O=.slice a out.length c:=by
  rcases hL.own.2 with ⟨hv,h0⟩|⟨g,cap,cur,hv,_⟩
  ·exact⟨none,0,by rw[hv,h0]⟩
  ·exact⟨_,_,hv⟩
 clear hL;go_wp2_with fail
 refine((Aa HB) _).mono ?_;rintro e w2 ⟨rfl,rfl⟩;go_wp2
 go_ret
 exact⟨rfl,hb⟩
theorem Iq(s:ByteArray)(S:Nat->Prop)(c0 c1 c2 V:Value)(v:List It)(w:World)(hR:EN w S (nx s) (s.size+1) 0 c0 c1 c2)(hO:Mi s (s.size+1) 0)(hd:Pt.Eh (nx s) (s.size+1) 0<=4)(hI:Items w V v)(hn:v.length<=9000000000000):
  Calls Tryz.prog 77 #[.agg #[c0,c1,c2],V] w fun e w'=>KP (H9 (Ct (nx s) (s.size+1) 0 v) v) e/\Below w.heap.size w w':=by
 obtain⟨⟨x0,rfl⟩,⟨x1,rfl⟩,⟨ea,en,ec,rfl⟩⟩:=Bp hR;obtain⟨va,vc,rfl⟩:∃a c,V=.slice a v.length c:=by
  obtain⟨a,c,h,_⟩:=hI;exact⟨a,c,h⟩
 have hb0:Below w.heap.size w (w.alloc (Bh x0 x1 ea en ec)):=(Below.refl w.heap.size w).alloc (Nat.le_refl _) _;have hR0:EN (w.alloc (Bh x0 x1 ea en ec)) S (nx s) (s.size+1) 0 (.int .u8 x0) (.int .i64 x1) (.slice ea en ec):=Bo ⟨hb0.size,fun k _ hl=>hb0.block k hl⟩ hR;have hz:(w.alloc (Bh x0 x1 ea en ec)).heap.size=w.heap.size+1:=by simp
 have hws:WS (w.alloc (Bh x0 x1 ea en ec)) ((w.alloc (Bh x0 x1 ea en ec)).alloc (VB (.slice va v.length vc))) (.slice va v.length vc) v (.slice none 0 0) []:=by
  refine⟨?_,hI.below hb0,(Below.refl _ _).alloc (Nat.le_refl _) _,World.ownsRow_nil _ _ _ _⟩;unfold Wr;show ((w.alloc (Bh x0 x1 ea en ec)).heap.push _)[(w.alloc (Bh x0 x1 ea en ec)).heap.size]?=_;rw[Array.getElem?_push_size]
 have hM:10 ^ Pt.Eh (nx s) (s.size+1) 0<=10 ^ 4:=Nat.pow_le_pow_right (by decide) hd;have HK:=MK (Mg (w.alloc (Bh x0 x1 ea en ec))) s (s.size+1) 0 S _ _ _ hR0 hO _ 0 (v,[]) _ ⟨_,_,hws,rfl,hn,Nat.le_refl _⟩ (by omega);have hptr:(writer (w.alloc (Bh x0 x1 ea en ec))).I=.iface 203 (.pointer (some ⟨w.heap.size+1,0,none⟩)):=by
  show Value.iface 203 (.pointer (some ⟨(w.alloc (Bh x0 x1 ea en ec)).heap.size,0,none⟩))=_;rw[hz]
 rw[hptr]at HK;have hce:=Ub (nx s) (s.size+1) 0 v [];rw[show Aw (writer (w.alloc (Bh x0 x1 ea en ec))).num (writer (w.alloc (Bh x0 x1 ea en ec))).txt (nx s) (s.size+1) 0 (v,[])=Aw Ix J2 (nx s) (s.size+1) 0 (v,[]) from rfl,hce]at HK;have hbb:∀w',Below (w.alloc (Bh x0 x1 ea en ec)).heap.size (w.alloc (Bh x0 x1 ea en ec)) w'->Below w.heap.size w w':=fun w' h=>hb0.trans (h.mono (by omega))
 cases he:Ct (nx s) (s.size+1) 0 v with
 |none=>
  rw[he]at HK;refine(SX w x0 x1 ea va en ec v.length vc (HK.mono ?_)).mono ?_
  ·rintro e w' (⟨rfl,_,hb⟩|⟨rfl,x',hx,_⟩)
   ·exact⟨rfl,hbb w' hb⟩
   ·cases hx
  ·rintro e w' ⟨rfl,hb⟩;exact⟨rfl,hb⟩
 |some a=>
  obtain⟨ks,r⟩:=a;rw[he]at HK;have HL:Calls Tryz.prog 125 #[.agg #[.int .u8 x0,.int .i64 x1,.slice ea en ec],.iface 203 (.pointer (some ⟨w.heap.size+1,0,none⟩))] ((w.alloc (Bh x0 x1 ea en ec)).alloc (VB (.slice va v.length vc))) fun e w'=>e=.returned (.tuple #[])/\∃a cap O,S7 w w' r.length (bytesOf ks v) a cap O:=by
   refine HK.mono ?_;rintro e w' (⟨rfl,hx,_⟩|⟨rfl,x',hx,c',O',_,⟨L,Ov,hw2,_⟩,_⟩)
   ·cases hx
   ·cases hx;simp only[List.nil_append]at hw2;obtain⟨la,lc,hLs,_⟩:=hw2.items;subst hLs;have h1:=hw2.wr.left;have h2:=hw2.wr.out;have h3:=hw2.own;rw[hz]at h1 h2 h3;exact⟨rfl,la,lc,Ov,h1,h2,h3,hbb w' hw2.below⟩
  cases r with
  |cons y r=>
   refine(SV w x0 x1 ea va en ec v.length vc _ _ (by simp) HL).mono ?_;rintro e w' ⟨rfl,hb⟩;exact⟨rfl,hb⟩
  |nil=>
   by_cases hbig:70<(bytesOf ks v).length
   ·refine(VC w x0 x1 ea va en ec v.length vc _ hbig HL).mono ?_;rintro e w' ⟨rfl,hb⟩;refine⟨?_,hb⟩;simp[KP,H9,hbig]
   ·refine(Yw w x0 x1 ea va en ec v.length vc _ hbig HL).mono ?_;rintro e w' ⟨rfl,hb⟩;refine⟨?_,hb⟩;simp[KP,H9,hbig]
theorem Fp(n q:Nat)(w:World):(Instr.field 86 (Ba n q) 0).run Tryz.prog w=.ok (.int .i64 n) w:=by kernel_rfl
theorem FV(a0 a1 B:Nat)(n q:Nat)(older:List PanicEntry)(w:World)(h0:w.cell? ⟨a0,0,none⟩=some (.string ⟨#[]⟩))(h1:w.cell? ⟨a1,0,none⟩=some (.int .i64 0))(z0:w.frozen? ⟨a0,0,none⟩=false)(z1:w.frozen? ⟨a1,0,none⟩=false)(hb0:B<=a0)(hb1:B<=a1)(hne:¬a0=a1):
  CallsD Tryz.prog 76 #[.pointer (some ⟨a0,0,none⟩),.pointer (some ⟨a1,0,none⟩)] (.panicking ({v:=.iface 86 (Ba n q),recovered:=false} :: older)) w fun e u' w'=>
   e=.returned (.tuple #[])/\u'=.panicking ({v:=.iface 86 (Ba n q),recovered:=true} :: older)/\w'.cell? ⟨a0,0,none⟩=some (.string ⟨#[]⟩)/\w'.cell? ⟨a1,0,none⟩=some (.int .i64 n)/\Below B w w':=by
 refine callsD_of_wpS Tryz.func76 rfl fun c₀ cs hu=>?_
 apply wpS_seq;apply wpS_region;simp[wpOpsS,go_sem,recoverD,hu,Tryz.ntmps76,Exit.thenS];rw[show (#[Value.pointer (some {block:=a0,off:=0}),Value.pointer (some {block:=a1,off:=0})]++((Array.replicate 7 undef).setIfInBounds 1 (Value.iface 86 (Ba n q))).setIfInBounds 0 (Value.iface 86 (Ba n q)))=#[.pointer (some {block:=a0,off:=0}),.pointer (some {block:=a1,off:=0}),.iface 86 (Ba n q),.iface 86 (Ba n q),undef,undef,undef,undef,undef] from rfl];refine wpS_of_wp ?_;have hfl:=Fp n q;have l0:=lt_of_cell h0;have l1:=lt_of_cell h1;go_wp2_with fail
 refine(Gn n q _).mono ?_;rintro e w1 ⟨rfl,hb⟩;have s1:=hb.size;have g0:w1.cell? ⟨a0,0,none⟩=some (.string ⟨#[]⟩):=(hb.cell (p:=⟨a0,0,none⟩) l0).trans h0;have g1:w1.cell? ⟨a1,0,none⟩=some (.int .i64 0):=(hb.cell (p:=⟨a1,0,none⟩) l1).trans h1;have y0:w1.frozen? ⟨a0,0,none⟩=false:=(hb.frozen (p:=⟨a0,0,none⟩) l0).trans z0;have y1:w1.frozen? ⟨a1,0,none⟩=false:=(hb.frozen (p:=⟨a1,0,none⟩) l1).trans z1;have m0:a0<w1.heap.size:=by omega
 have m1:a1<w1.heap.size:=by omega
 have e2:¬a1=a0:=by omega
 clear h0 h1 z0 z1;go_wp2;have F0:((w1.setCell {block:=a0,off:=0} (.string ⟨#[]⟩)).setCell {block:=a1,off:=0} (Value.int IntKind.i64 ↑n)).cell? ⟨a0,0,none⟩=some (.string ⟨#[]⟩):=by simp[go_sem,g0]
 have F1:((w1.setCell {block:=a0,off:=0} (.string ⟨#[]⟩)).setCell {block:=a1,off:=0} (Value.int IntKind.i64 ↑n)).cell? ⟨a1,0,none⟩=some (.int .i64 n):=by simp[go_sem,g1]
 have FB:Below B w ((w1.setCell {block:=a0,off:=0} (.string ⟨#[]⟩)).setCell {block:=a1,off:=0} (Value.int IntKind.i64 ↑n)):=
  ((hb.mono (by omega)).setCell (by simpa using hb0) _).setCell (by simpa using hb1) _
 show bodyPostS Tryz.prog Tryz.f76 c₀ cs _ _ _ _ _;exact⟨rfl,_,rfl,_,results_none rfl _ _ _,rfl,rfl,F0,F1,FB⟩
theorem PG(p0 p1:Addr)(w:World):
  CallsD Tryz.prog 76 #[.pointer (some p0),.pointer (some p1)] .returning w fun e u' w'=>e=.returned (.tuple #[])/\u'=.returning/\w'=w:=by
 refine callsD_of_wpS Tryz.func76 rfl fun c₀ cs hu=>?_
 apply wpS_seq;apply wpS_region;simp[wpOpsS,go_sem,recoverD,hu,Tryz.ntmps76,Exit.thenS];rw[show (#[Value.pointer (some p0),Value.pointer (some p1)]++((Array.replicate 7 undef).setIfInBounds 1 (Value.nilIface)).setIfInBounds 0 (Value.nilIface))=#[.pointer (some p0),.pointer (some p1),.nilIface,.nilIface,undef,undef,undef,undef,undef] from rfl];refine wpS_of_wp ?_;go_wp2;exact⟨rfl,.returning,by cases c₀;simp_all,_,results_none rfl _ _ _,rfl,rfl,rfl⟩
abbrev DL(w:World):World:=(w.alloc (.cells #[.string ⟨#[]⟩] 9)).alloc (.cells #[.int .i64 0] 32)
theorem PE(s:ByteArray)(V:Value)(w:World)(n q:Nat)(H:Calls Tryz.prog 78 #[.string s] (DL w) fun e w'=>e=Ax n q/\Below (DL w).heap.size (DL w) w'):
  Calls Tryz.prog 42 #[.string s,V] w fun e w'=>e=.returned (.tuple #[.string ⟨#[]⟩,.int .i64 n])/\Below w.heap.size w w':=by
 have hmf:∀(fn:Fn) (first cap:Array Value) (w:World),(Instr.makeFunc fn first cap).run Tryz.prog w=.ok (.func fn first cap) w:=fun _ _ _ _=>rfl
 have HH:=Ab H;clear H
 go_enter_defers Tryz.func42,Tryz.ntmps42
 go_wp2_with fail
 refine(Aa HH).mono ?_;rintro e w1 ⟨rfl,hb⟩;have hs:=hb.size;simp at hs;have c0:w1.cell? ⟨w.heap.size,0,none⟩=some (.string ⟨#[]⟩):=(hb.cell (p:=⟨w.heap.size,0,none⟩) (by simp;omega)).trans (by simp[go_sem]);have c1:w1.cell? ⟨w.heap.size+1,0,none⟩=some (.int .i64 0):=(hb.cell (p:=⟨w.heap.size+1,0,none⟩) (by simp)).trans (by simp[go_sem]);have z0:w1.frozen? ⟨w.heap.size,0,none⟩=false:=(hb.frozen (p:=⟨w.heap.size,0,none⟩) (by simp;omega)).trans (by simp[go_sem]);have z1:w1.frozen? ⟨w.heap.size+1,0,none⟩=false:=(hb.frozen (p:=⟨w.heap.size+1,0,none⟩) (by simp)).trans (by simp[go_sem]);have hb0:Below w.heap.size w w1:=(((Below.refl _ _).alloc (Nat.le_refl _) _).alloc (by simp) _).trans (hb.mono (by simp;omega));go_wp2;refine leaves_cons (f:=76) (args:=#[.pointer (some ⟨w.heap.size,0,none⟩),.pointer (some ⟨w.heap.size+1,0,none⟩)]) (by simp) (by simp[go_sem]) ?_;refine(FV w.heap.size (w.heap.size+1) w.heap.size n q [] _ c0 c1 z0 z1 (Nat.le_refl _) (by omega) (by omega)).mono ?_;rintro e u' w'' ⟨rfl,rfl,f0,f1,fb⟩;simp[Leaves,settle,results,Tryz.results42,go_sem,f0,f1];exact hb0.trans fb
theorem Mr(s:ByteArray)(V:Value)(w:World)(n q:Nat)(B:Value->World->Prop)(H:Calls Tryz.prog 78 #[.string s] (DL w) fun e w'=>∃T,e=.returned T/\B T w'/\Below (DL w).heap.size (DL w) w')
  (H2:∀T w',B T w'->Below (DL w).heap.size (DL w) w'->Calls Tryz.prog 77 #[T,V] w' fun e w''=>e=Ax n q/\Below w'.heap.size w' w''):
  Calls Tryz.prog 42 #[.string s,V] w fun e w'=>e=.returned (.tuple #[.string ⟨#[]⟩,.int .i64 n])/\Below w.heap.size w w':=by
 have hmf:∀(fn:Fn) (first cap:Array Value) (w:World),(Instr.makeFunc fn first cap).run Tryz.prog w=.ok (.func fn first cap) w:=fun _ _ _ _=>rfl
 have HH:=Ab H;have HH2:=Ab H2;clear H H2
 go_enter_defers Tryz.func42,Tryz.ntmps42
 go_wp2_with fail
 refine(Aa HH).mono ?_;rintro e w0 ⟨T,rfl,hB,hb1⟩;have HC:=Ab ((Aa HH2) T w0 hB hb1);go_wp2_with fail
 refine(Aa HC).mono ?_;rintro e w1 ⟨rfl,hb2⟩;have hb:=hb1.trans (hb2.mono hb1.size);have hs:=hb.size;simp at hs;have c0:w1.cell? ⟨w.heap.size,0,none⟩=some (.string ⟨#[]⟩):=(hb.cell (p:=⟨w.heap.size,0,none⟩) (by simp;omega)).trans (by simp[go_sem]);have c1:w1.cell? ⟨w.heap.size+1,0,none⟩=some (.int .i64 0):=(hb.cell (p:=⟨w.heap.size+1,0,none⟩) (by simp)).trans (by simp[go_sem]);have z0:w1.frozen? ⟨w.heap.size,0,none⟩=false:=(hb.frozen (p:=⟨w.heap.size,0,none⟩) (by simp;omega)).trans (by simp[go_sem]);have z1:w1.frozen? ⟨w.heap.size+1,0,none⟩=false:=(hb.frozen (p:=⟨w.heap.size+1,0,none⟩) (by simp)).trans (by simp[go_sem]);have hb0:Below w.heap.size w w1:=(((Below.refl _ _).alloc (Nat.le_refl _) _).alloc (by simp) _).trans (hb.mono (by simp;omega));go_wp2;refine leaves_cons (f:=76) (args:=#[.pointer (some ⟨w.heap.size,0,none⟩),.pointer (some ⟨w.heap.size+1,0,none⟩)]) (by simp) (by simp[go_sem]) ?_;refine(FV w.heap.size (w.heap.size+1) w.heap.size n q [] _ c0 c1 z0 z1 (Nat.le_refl _) (by omega) (by omega)).mono ?_;rintro e u' w'' ⟨rfl,rfl,f0,f1,fb⟩;simp[Leaves,settle,results,Tryz.results42,go_sem,f0,f1];exact hb0.trans fb
theorem N3(s:ByteArray)(V:Value)(w:World)(r:ByteArray)(B:Value->World->Prop)(H:Calls Tryz.prog 78 #[.string s] (DL w) fun e w'=>∃T,e=.returned T/\B T w'/\Below (DL w).heap.size (DL w) w')
  (H2:∀T w',B T w'->Below (DL w).heap.size (DL w) w'->Calls Tryz.prog 77 #[T,V] w' fun e w''=>e=.returned (.string r)/\Below w'.heap.size w' w''):
  Calls Tryz.prog 42 #[.string s,V] w fun e w'=>e=.returned (.tuple #[.string r,.int .i64 0])/\Below w.heap.size w w':=by
 have hmf:∀(fn:Fn) (first cap:Array Value) (w:World),(Instr.makeFunc fn first cap).run Tryz.prog w=.ok (.func fn first cap) w:=fun _ _ _ _=>rfl
 have HH:=Ab H;have HH2:=Ab H2;clear H H2
 go_enter_defers Tryz.func42,Tryz.ntmps42
 go_wp2_with fail
 refine(Aa HH).mono ?_;rintro e w0 ⟨T,rfl,hB,hb1⟩;have HC:=Ab ((Aa HH2) T w0 hB hb1);go_wp2_with fail
 refine(Aa HC).mono ?_;rintro e w1 ⟨rfl,hb2⟩;have hb:=hb1.trans (hb2.mono hb1.size);have hs:=hb.size;simp at hs;have c0:w1.cell? ⟨w.heap.size,0,none⟩=some (.string ⟨#[]⟩):=(hb.cell (p:=⟨w.heap.size,0,none⟩) (by simp;omega)).trans (by simp[go_sem]);have c1:w1.cell? ⟨w.heap.size+1,0,none⟩=some (.int .i64 0):=(hb.cell (p:=⟨w.heap.size+1,0,none⟩) (by simp)).trans (by simp[go_sem]);have z0:w1.frozen? ⟨w.heap.size,0,none⟩=false:=(hb.frozen (p:=⟨w.heap.size,0,none⟩) (by simp;omega)).trans (by simp[go_sem]);have z1:w1.frozen? ⟨w.heap.size+1,0,none⟩=false:=(hb.frozen (p:=⟨w.heap.size+1,0,none⟩) (by simp)).trans (by simp[go_sem]);have hb0:Below w.heap.size w w1:=(((Below.refl _ _).alloc (Nat.le_refl _) _).alloc (by simp) _).trans (hb.mono (by simp;omega));go_wp2;refine leaves_cons (f:=76) (args:=#[.pointer (some ⟨w.heap.size,0,none⟩),.pointer (some ⟨w.heap.size+1,0,none⟩)]) (by simp) (by simp[go_sem]) ?_;refine(PG _ _ _).mono ?_;rintro e u' w'' ⟨rfl,rfl,rfl⟩;simp[Leaves,settle,results,Tryz.results42,go_sem,c0,c1];exact(hb0.setCell (by simp) _).setCell (by simp) _
structure Good(s:ByteArray):Prop where
 size:s.size<=40
 ok:Mi s (s.size+1) 0
 Eh:Pt.Eh (nx s) (s.size+1) 0<=4
theorem KD{s:ByteArray}(h:(Pt.G8 (nx s) s.size).1=0):Good s:=by
 unfold Pt.G8 at h;split at h
 ·cases h
 ·split at h
  ·rename_i h1 h2;split at h
   ·cases h
   ·split at h
    ·cases h
    ·exact⟨by omega,⟨Nat.zero_le _,by omega,h2⟩,by omega⟩
  ·cases h
def KO(s:ByteArray)(w:World)(e:Ending)(w':World):Prop:=
 (if (Pt.G8 (nx s) s.size).1=0 then ∃c0 c1 c2,e=.returned (.agg #[c0,c1,c2])/\EN w' (fun k=>w.heap.size<=k) (nx s) (s.size+1) 0 c0 c1 c2 else e=Ax (Pt.G8 (nx s) s.size).1 (Pt.G8 (nx s) s.size).2)/\Below w.heap.size w w'
theorem Nc(s:ByteArray)(w:World):Calls Tryz.prog 78 #[.string s] w (KO s w):=by
 unfold KO;by_cases hs:s.size<=40
 ·have hn:¬40<s.size:=by omega
  cases hT:(Pt.ty (nx s) (s.size+1) 0).1 with
  |false=>
   have e1:Pt.G8 (nx s) s.size=(2,(Pt.ty (nx s) (s.size+1) 0).2):=by simp[Pt.G8,hn,hT]
   rw[e1];exact R4 s w hs hT
  |true=>
   obtain⟨_,hb,_⟩:=Pt.agree (g:=nx s) (n:=s.size) (fun p hp=>JS hp) (s.size+1) 0 0 1 0 [] (by omega) (by omega);obtain⟨q1,q2⟩:=hb hT;by_cases hq:(Pt.ty (nx s) (s.size+1) 0).2<s.size
   ·have e1:Pt.G8 (nx s) s.size=(2,(Pt.ty (nx s) (s.size+1) 0).2):=by simp[Pt.G8,hn,hT,hq]
    rw[e1];exact UT s w hs hT hq
   ·have H:=XK s w hs hT (by omega);by_cases h4:4<Pt.Eh (nx s) (s.size+1) 0
    ·have e1:Pt.G8 (nx s) s.size=(3,0):=by simp[Pt.G8,hn,hT,hq,h4]
     rw[e1];simp only[h4,if_true]at H;exact H
    ·have e1:Pt.G8 (nx s) s.size=(0,0):=by simp[Pt.G8,hn,hT,hq,h4]
     rw[e1];simp only[h4,if_false]at H;exact H
 ·have e1:Pt.G8 (nx s) s.size=(1,0):=by
   have:40<s.size:=by omega
   simp[Pt.G8,this]
  rw[e1];exact US s w hs
def Cn(s:ByteArray)(v:List It):Nat×List UInt8:=if (Pt.G8 (nx s) s.size).1=0 then H9 (Ct (nx s) (s.size+1) 0 v) v else ((Pt.G8 (nx s) s.size).1,[])
abbrev acO(r:Nat×List UInt8):Ending:=.returned (.tuple #[.string ⟨r.2.toArray⟩,.int .i64 r.1])
theorem ZU{e:Dn}{v:List It}(h:¬(H9 e v).1=0):(H9 e v).2=[]:=by
 unfold H9 at h ⊢;split
 ·rfl
 ·rename_i ks r;simp only at h ⊢;split
  ·rename_i hr;split
   ·rfl
   ·rename_i hb;rw[if_pos hr,if_neg hb]at h;exact absurd rfl h
  ·rfl
theorem Kf(s:ByteArray)(V:Value)(v:List It)(w:World)(hI:Items w V v)(hn:v.length<=9000000000000):
  Calls Tryz.prog 42 #[.string s,V] w fun e w'=>e=acO (Cn s v)/\Below w.heap.size w w':=by
 have hm:Below w.heap.size w (DL w):=((Below.refl _ _).alloc (Nat.le_refl _) _).alloc (by simp) _;have H:=Nc s (DL w);unfold KO at H;by_cases hc:(Pt.G8 (nx s) s.size).1=0
 ·have hg:=KD hc;simp only[hc,if_true]at H;have hmr:Cn s v=H9 (Ct (nx s) (s.size+1) 0 v) v:=by simp[Cn,hc]
  rw[hmr];have H1:Calls Tryz.prog 78 #[.string s] (DL w) fun e w'=>∃T,e=.returned T/\(∃c0 c1 c2,T=.agg #[c0,c1,c2]/\EN w' (fun k=>(DL w).heap.size<=k) (nx s) (s.size+1) 0 c0 c1 c2)/\Below (DL w).heap.size (DL w) w':=by
   refine H.mono ?_;rintro e w' ⟨⟨c0,c1,c2,rfl,hr⟩,hb⟩;exact⟨_,rfl,⟨c0,c1,c2,rfl,hr⟩,hb⟩
  have H2:∀T w',(∃c0 c1 c2,T=.agg #[c0,c1,c2]/\EN w' (fun k=>(DL w).heap.size<=k) (nx s) (s.size+1) 0 c0 c1 c2)->Below (DL w).heap.size (DL w) w'->Calls Tryz.prog 77 #[T,V] w' fun e w''=>KP (H9 (Ct (nx s) (s.size+1) 0 v) v) e/\Below w'.heap.size w' w'':=by
   rintro T w' ⟨c0,c1,c2,rfl,hr⟩ hb;exact Iq s _ c0 c1 c2 V v w' hr hg.ok hg.Eh ((hI.below hm).below hb) hn
  generalize hres:H9 (Ct (nx s) (s.size+1) 0 v) v=res at *;have hno:¬res.1=0->res.2=[]:=by rw[<-hres];exact ZU
  obtain⟨n,bs⟩:=res;simp only at hno;by_cases h0:n=0
  ·subst h0;simp only[KP,if_true]at H2;exact N3 s V w _ _ H1 H2
  ·have:=hno h0;subst this;simp only[KP,if_neg h0]at H2;exact Mr s V w n 0 _ H1 H2
 ·simp only[hc,if_false]at H;have hmr:Cn s v=((Pt.G8 (nx s) s.size).1,[]):=by simp[Cn,hc]
  rw[hmr];exact PE s V w _ _ H
theorem WG{ks:List Bool}{v:List It}(h:Dy ks v)(hl:ks.length=v.length):ZY ks v:=⟨hl,h⟩
end Go.Proofs.YtblomippkddgiaaGreatDoor.V
namespace Go.Proofs.YtblomippkddgiaaGreatDoor.R
abbrev It:=Int×ByteArray
structure Cf where
 Ad:Int
 lines:Int
 Be:Int
 tries:Int
 table:Int
structure En where
 client:Int
 Ag:Int
 line:Int
 seq:Int
 proc:Int
 arg:List It
 result:List It
structure Fl where
 to:Int
 s:List UInt8
 VS:Bool
structure Sv where
 kind:Int
 alive:Bool
 log:List En
structure Ln where
 seq:Int
 state:Int
 result:List It
 uid:Int
 to:ByteArray
 message:List UInt8
 Ah:Int
 came:List UInt8
 pieces:Int
 wait:Int
 tries:Int
structure Cl where
 Ag:Int
 bound:List Int
 lines:List Ln
structure Sn where
 seq:Int
 uid:Int
 message:List UInt8
 pieces:Int
 state:Int
 result:List UInt8
 at':Int
 timed:Bool
 wait:Int
 tries:Int
structure Jb where
 client:Int
 line:Int
 Ag:Int
 seq:Int
 uid:Int
structure Wd where
 c:Cf
 names:List (List UInt8)
 stands:List Int
 Ac:List Sv
 Ao:List Fl
 Ad:List Cl
 Ai:List Int
 seen:List Sn
 jobs:List Jb
def Ou:Ln:=⟨0,0,[],0,⟨#[]⟩,[],0,[],0,0,0⟩
def De:Sn:=⟨0,0,[],0,0,[],0,false,0,0⟩
def MN(Ag:Int)(lines:Int):Cl:=⟨Ag,[],List.replicate lines.toNat Ou⟩
def BL(c:Cf):Prop:=(1<=c.Ad/\c.Ad<=3)/\(1<=c.lines/\c.lines<=3)/\(1<=c.Be/\c.Be<=8)/\(1<=c.tries/\c.tries<=6)/\(1<=c.table/\c.table<=9)
instance (c:Cf):Decidable (BL c):=by unfold BL;infer_instance
def UH(c:Cf):Option Wd:=if BL c then some ⟨c,[],[],[],[],List.replicate c.Ad.toNat (MN 1 c.lines),[0,0,0],List.replicate 9 De,[]⟩ else none
def E5(s:List UInt8):Bool:=decide (1<=s.length)&&decide (s.length<=8)&&s.all fun b=>decide (97<=b.toNat)&&decide (b.toNat<=122)
def Dg(w:Wd)(name:List UInt8):Option Nat:=w.names.findIdx? (·==name)
def Ez(w:Wd)(uid:Int):Wd:=
 {w with
  Ac:=w.Ac.modify (uid-1).toNat fun s=>{s with alive:=false}
  seen:=w.seen.map fun r=>if r.uid=uid/\r.state<3 then {r with state:=4} else r}
def Fj(w:Wd)(name:List UInt8)(kind:Int):(Int×Int)×Wd:=
 if E5 name=false then ((0,10),w)
 else if kind<0\/2<kind then ((0,9),w)
 else match Dg w name with
  |none=>
   if w.names.length=6 then ((0,12),w)
   else if w.Ac.length=255 then ((0,11),w)
   else (((w.Ac.length:Int)+1,0),{w with names:=w.names++[name],stands:=w.stands++[(w.Ac.length:Int)+1],Ac:=w.Ac++[⟨kind,true,[]⟩]})
  |some k=>
   if w.Ac.length=255 then ((0,11),w)
   else
    let w1:=Ez w (w.stands.getD k 0)
    (((w.Ac.length:Int)+1,0),{w1 with stands:=w1.stands.set k ((w.Ac.length:Int)+1),Ac:=w1.Ac++[⟨kind,true,[]⟩]})
def EQ(w:Wd)(client:Int)(name:List UInt8):(Int×Int×Int)×Wd:=
 if client<0\/(w.Ad.length:Int)<=client then ((0,0,13),w)
 else match Dg w name with
  |none=>((0,0,10),w)
  |some k=>
   let uid:=w.stands.getD k 0
   ((uid,((w.Ac[(uid-1).toNat]?).map (·.kind)).getD 0,0),{w with Ad:=w.Ad.modify client.toNat fun c=>{c with bound:=c.bound++[uid]}})
def Ae(s:List UInt8):Int:=(((s.length+7) / 8:Nat):Int)
def Bb(s:List UInt8)(k:Int):List UInt8:=(s.drop (8*k.toNat)).take 8
def AU(w:Wd)(to:Int)(p:Pk):Wd:=if w.Ao.length<40 then {w with Ao:=w.Ao++[⟨to,CB p,false⟩]} else w
def A7(w:Wd)(client line:Int):Ln:=((w.Ad[client.toNat]?).bind fun c=>c.lines[line.toNat]?).getD Ou
def Kd(w:Wd)(client:Int):Int:=((w.Ad[client.toNat]?).map (·.Ag)).getD 0
def Al(w:Wd)(client line:Int)(l:Ln):Wd:={w with Ad:=w.Ad.modify client.toNat fun c=>{c with lines:=c.lines.set line.toNat l}}
def AA(w:Wd)(client line:Int)(again:Bool):Wd:=
 let l:=A7 w client line
 AU w (-1) ⟨1,client,Kd w client,line,l.seq,l.uid,l.Ah,Ae l.message,again || decide (l.Ah<Ae l.message-1),Bb l.message l.Ah⟩
def txt(l:List UInt8):ByteArray:=⟨l.toArray⟩
def CO(kind proc:Int):Option (ByteArray×ByteArray):=
 if kind=0/\proc=0 then some (txt [105],txt [99])
 else if kind=0/\proc=1 then some (txt [98],txt [99])
 else if kind=1/\proc=0 then some (txt [115],txt [99])
 else if kind=1/\proc=1 then some (txt [99],txt [113,52,115])
 else if kind=2/\proc=0 then some (txt [114,40,101,51,113,51,105,41],txt [117,40,98,113,51,105,41])
 else none
def AV(t:ByteArray)(v:List It):Option (List UInt8):=if (V.Cn t v).1=0 then some (V.Cn t v).2 else none
def Cz(w:Wd)(client line uid proc:Int)(arg:List It):(Int×Int)×Wd:=
 if client<0\/(w.Ad.length:Int)<=client then ((0,13),w)
 else if line<0\/w.c.lines<=line then ((0,14),w)
 else if ¬uid∈((w.Ad[client.toNat]?).map (·.bound)).getD [] then ((0,15),w)
 else match CO (((w.Ac[(uid-1).toNat]?).map (·.kind)).getD 0) proc with
  |none=>((0,16),w)
  |some (from',to)=>match AV from' arg with
   |none=>((0,4),w)
   |some bs=>
    let l:=A7 w client line
    if l.state=1 then ((0,17),w)
    else if l.seq=999 then ((0,11),w)
    else ((l.seq+1,0),AA (Al w client line ⟨l.seq+1,1,[],uid,to,AX proc++bs,0,[],0,w.c.Be,w.c.tries⟩) client line false)
def GF(w:Wd)(client line:Int):Int×Int×List It×Int:=
 if client<0\/(w.Ad.length:Int)<=client then (0,0,[],13)
 else if line<0\/w.c.lines<=line then (0,0,[],14)
 else ((A7 w client line).state,(A7 w client line).seq,(A7 w client line).result,0)
def Ap(w:Wd)(i:Nat):Sn:=(w.seen[i]?).getD De
def Av(w:Wd)(i:Nat)(r:Sn):Wd:={w with seen:=w.seen.set i r}
def AB(w:Wd)(i:Nat):Wd:=
 let r:=Ap w i
 AU w ((i / 3:Nat):Int) ⟨5,((i / 3:Nat):Int),(w.Ai[i / 3]?).getD 0,((i % 3:Nat):Int),r.seq,r.uid,r.at',Ae r.result,false,Bb r.result r.at'⟩
def off(w:Wd)(i:Int):Prop:=i<0\/(w.Ao.length:Int)<=i
instance (w:Wd) (i:Int):Decidable (off w i):=by unfold off;infer_instance
end Go.Proofs.YtblomippkddgiaaGreatDoor.R
