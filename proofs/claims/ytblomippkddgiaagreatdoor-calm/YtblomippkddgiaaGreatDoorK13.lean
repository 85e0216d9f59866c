import Derived.Test.YtblomippkddgiaaGreatDoorK12
import Derived.Lib.AppendStr
import Derived.Lib.BufferRead
import Derived.Laws.IdiomStrings
import Derived.Laws.OwnMore
import Derived.Deep.RegionLaw
import Derived.Deep.RegionHeld3
set_option maxRecDepth 100000
set_option maxHeartbeats 2000000
namespace Go.Proofs.YtblomippkddgiaaGreatDoor
open Go.RowKit
theorem Gg(n q:Nat)(w:World):(Instr.typeAssert (.iface 86 (Ba n q)) 20 86 true).run Tryz.prog w=.ok (.tuple #[Ba n q,.bool true]) w:=by kernel_rfl
theorem Fp(n q:Nat)(w:World):(Instr.field 86 (Ba n q) 0).run Tryz.prog w=.ok (.int .i64 n) w:=by kernel_rfl
theorem Ta{B s:Nat}{w w1:World}(h:Below B w w1)(hs:B<=s)(x0 x1 x2 x3 x4 x5 x6 x7 x8 x9:Value):Below B w (TE w1 s x0 x1 x2 x3 x4 x5 x6 x7 x8 x9):=
 (((((((((h.setCell (by exact hs) _).setCell (by exact hs) _).setCell (by exact hs) _).setCell (by exact hs) _).setCell (by exact hs) _).setCell (by exact hs) _).setCell (by exact hs) _).setCell (by exact hs) _).setCell (by exact hs) _).setCell (by exact hs) _
theorem lt_of_cell{w:World}{k o:Nat}{v:Value}(h:w.cell? ⟨k,o,none⟩=some v):k<w.heap.size:=by
 rcases Nat.lt_or_ge k w.heap.size with hh|hh
 ·exact hh
 ·simp[World.cell?,Array.getElem?_eq_none hh]at h
theorem Df{w:World}{s o:Nat}{xs:Array Value}{t:TypeId}(h:w.heap[s]?=some (.cells xs t (0,0)))(x:Value):(w.setCell ⟨s,o,none⟩ x).heap[s]?=some (.cells (xs.setIfInBounds o x) t (0,0)):=by
 simp only[World.setCell,Array.getElem?_modify,h];simp
theorem aaK{w:World}{s:Nat}(h:w.heap[s]?=some (.cells zeroCells 41 (0,0)))(x0 x1 x2 x3 x4 x5 x6 x7 x8 x9:Value):(TE w s x0 x1 x2 x3 x4 x5 x6 x7 x8 x9).heap[s]?=some (.cells #[x0,x1,x2,x3,x4,x5,x6,x7,x8,x9] 41 (0,0)):=by
 have h0:=Df (o:=0) h x0;have h1:=Df (o:=1) h0 x1;have h2:=Df (o:=2) h1 x2;have h3:=Df (o:=3) h2 x3;have h4:=Df (o:=4) h3 x4;have h5:=Df (o:=5) h4 x5;have h6:=Df (o:=6) h5 x6;have h7:=Df (o:=7) h6 x7;have h8:=Df (o:=8) h7 x8;have h9:=Df (o:=9) h8 x9;refine h9.trans ?_;simp
theorem Gn(n q:Nat)(w:World):
  Calls Tryz.prog 34 #[.iface 86 (Ba n q)] w fun e w'=>e=.returned (Ba n q)/\Below w.heap.size w w':=by
 have hta:=Gg n q;go_enter Tryz.func34,Tryz.ntmps34;go_wp2;exact bodyPost_ret (v:=Ba n q) (by simp[results,Tryz.results34,go_sem]) rfl ⟨rfl,((Below.refl _ _).alloc (Nat.le_refl _) _).alloc (by simp) _⟩
theorem JU(a0 a1 B:Nat)(n q:Nat)(older:List PanicEntry)(w:World)(h0:w.heap[a0]?=some (.cells zeroCells 41 (0,0)))(h1:w.cell? ⟨a1,0,none⟩=some (.int .i64 0))(z1:w.frozen? ⟨a1,0,none⟩=false)(hb0:B<=a0)(hb1:B<=a1)(hne:¬a0=a1):
  CallsD Tryz.prog 33 #[.pointer (some ⟨a0,0,none⟩),.pointer (some ⟨a1,0,none⟩)] (.panicking ({v:=.iface 86 (Ba n q),recovered:=false} :: older)) w fun e u' w'=>
   e=.returned (.tuple #[])/\u'=.panicking ({v:=.iface 86 (Ba n q),recovered:=true} :: older)/\w'.heap[a0]?=some (.cells zeroCells 41 (0,0))/\w'.cell? ⟨a1,0,none⟩=some (.int .i64 n)/\Below B w w':=by
 refine callsD_of_wpS Tryz.func33 rfl fun c₀ cs hu=>?_
 apply wpS_seq;apply wpS_region;simp[wpOpsS,go_sem,recoverD,hu,Tryz.ntmps33,Exit.thenS];rw[show (#[Value.pointer (some {block:=a0,off:=0}),Value.pointer (some {block:=a1,off:=0})]++((Array.replicate 8 undef).setIfInBounds 1 (Value.iface 86 (Ba n q))).setIfInBounds 0 (Value.iface 86 (Ba n q)))=#[.pointer (some {block:=a0,off:=0}),.pointer (some {block:=a1,off:=0}),.iface 86 (Ba n q),.iface 86 (Ba n q),undef,undef,undef,undef,undef,undef] from rfl];refine wpS_of_wp ?_;have hfl:=Fp n q;have l0:=lt_of_block h0;have l1:=lt_of_cell h1;go_wp2_with fail
 refine(Gn n q _).mono ?_;rintro e w1 ⟨rfl,hb⟩;have s1:=hb.size;have hz:w1.heap[a0]?=some (.cells zeroCells 41 (0,0)):=(hb.block _ l0).trans h0;have g1:w1.cell? ⟨a1,0,none⟩=some (.int .i64 0):=(hb.cell (p:=⟨a1,0,none⟩) l1).trans h1;have y1:w1.frozen? ⟨a1,0,none⟩=false:=(hb.frozen (p:=⟨a1,0,none⟩) l1).trans z1;have m0:a0<w1.heap.size:=by omega
 have m1:a1<w1.heap.size:=by omega
 have e2:¬a1=a0:=by omega
 have c0:=cell_of hz 0 _ rfl;have c1:=cell_of hz 1 _ rfl;have c2:=cell_of hz 2 _ rfl;have c3:=cell_of hz 3 _ rfl;have c4:=cell_of hz 4 _ rfl;have c5:=cell_of hz 5 _ rfl;have c6:=cell_of hz 6 _ rfl;have c7:=cell_of hz 7 _ rfl;have c8:=cell_of hz 8 _ rfl;have c9:=cell_of hz 9 _ rfl;have cz:=D4 hz;have HZ:=Ab hz;clear h0 h1 z1 hz;go_wp2;have F0:=aaK (Aa HZ) (.int .i64 0) (.int .i64 0) (.int .i64 0) (.int .i64 0) (.int .i64 0) (.int .i64 0) (.int .i64 0) (.int .i64 0) (.bool false) (.string ⟨#[]⟩);have FB:=Ta (hb.mono (by omega:B<=w.heap.size)) hb0 (.int .i64 0) (.int .i64 0) (.int .i64 0) (.int .i64 0) (.int .i64 0) (.int .i64 0) (.int .i64 0) (.int .i64 0) (.bool false) (.string ⟨#[]⟩);show bodyPostS Tryz.prog Tryz.f33 c₀ cs _ _ _ _ _;refine⟨rfl,_,rfl,_,results_none rfl _ _ _,rfl,rfl,?_,?_,FB.setCell (by exact hb1) _⟩
 ·rw[Below.heap_setCell _ _ _ _ (by simpa using hne)];exact F0
 ·simp[go_sem,g1]
theorem PU(p0 p1:Addr)(w:World):
  CallsD Tryz.prog 33 #[.pointer (some p0),.pointer (some p1)] .returning w fun e u' w'=>e=.returned (.tuple #[])/\u'=.returning/\w'=w:=by
 refine callsD_of_wpS Tryz.func33 rfl fun c₀ cs hu=>?_
 apply wpS_seq;apply wpS_region;simp[wpOpsS,go_sem,recoverD,hu,Tryz.ntmps33,Exit.thenS];rw[show (#[Value.pointer (some p0),Value.pointer (some p1)]++((Array.replicate 8 undef).setIfInBounds 1 (Value.nilIface)).setIfInBounds 0 (Value.nilIface))=#[.pointer (some p0),.pointer (some p1),.nilIface,.nilIface,undef,undef,undef,undef,undef,undef] from rfl];refine wpS_of_wp ?_;go_wp2;exact⟨rfl,.returning,by cases c₀;simp_all,_,results_none rfl _ _ _,rfl,rfl,rfl⟩
abbrev TA(w:World):World:=(w.alloc (.cells zeroCells 41)).alloc (.cells #[.int .i64 0] 32)
def Lu(l:List UInt8)(w:World)(e:Ending)(w':World):Prop:=Below w.heap.size w w'/\((Dk l=none/\e=.returned (.tuple #[Yz,.int .i64 7]))\/∃p,Dk l=some p/\e=.returned (.tuple #[pv p,.int .i64 0]))
theorem PX(l:List UInt8)(w:World)(hl:l.length<=9223372036854775807):Calls Tryz.prog 14 #[.string (str l)] w (Lu l w):=by
 have hmf:∀(fn:Fn) (first cap:Array Value) (w:World),(Instr.makeFunc fn first cap).run Tryz.prog w=.ok (.func fn first cap) w:=fun _ _ _ _=>rfl
 have HH:=Ab (XI l (TA w) hl);have hz0:(TA w).heap[w.heap.size]?=some (.cells zeroCells 41 (0,0)):=by
  rw[Below.heap_alloc _ _ _ (by simp)];exact heap_alloc_new w _
 have HZ:=Ab hz0;have hsz:(TA w).heap.size=w.heap.size+2:=by simp
 have HB:=Ab (((Below.refl w.heap.size w).alloc (Nat.le_refl _) (.cells zeroCells 41)).alloc (by simp) (.cells #[.int .i64 0] 32));clear hz0
 go_enter_defers Tryz.func14,Tryz.ntmps14
 go_wp2_with fail
 refine(Aa HH).mono ?_;rintro e w1 ⟨hb,⟨hn,rfl⟩|⟨p,hp,rfl⟩⟩
 ·have hs:=hb.size;have z0:=(hb.block w.heap.size (by omega)).trans (Aa HZ);have c1:w1.cell? ⟨w.heap.size+1,0,none⟩=some (.int .i64 0):=(hb.cell (p:=⟨w.heap.size+1,0,none⟩) (by simp)).trans (by simp[go_sem]);have z1:w1.frozen? ⟨w.heap.size+1,0,none⟩=false:=(hb.frozen (p:=⟨w.heap.size+1,0,none⟩) (by simp)).trans (by simp[go_sem]);have hb0:Below w.heap.size w w1:=(Aa HB).trans (hb.mono (by omega));have HZ1:=Ab z0;clear z0;go_wp2;refine leaves_cons (f:=33) (args:=#[.pointer (some ⟨w.heap.size,0,none⟩),.pointer (some ⟨w.heap.size+1,0,none⟩)]) (by simp) (by simp[go_sem]) ?_;refine(JU w.heap.size (w.heap.size+1) w.heap.size 7 0 [] _ (Aa HZ1) c1 z1 (Nat.le_refl _) (by omega) (by omega)).mono ?_;rintro e u' w'' ⟨rfl,rfl,f0,f1,fb⟩;have c0:=cell_of f0 0 _ rfl;have d1:=cell_of f0 1 _ rfl;have c2:=cell_of f0 2 _ rfl;have c3:=cell_of f0 3 _ rfl;have c4:=cell_of f0 4 _ rfl;have c5:=cell_of f0 5 _ rfl;have c6:=cell_of f0 6 _ rfl;have c7:=cell_of f0 7 _ rfl;have c8:=cell_of f0 8 _ rfl;have c9:=cell_of f0 9 _ rfl;simp[Leaves,settle,results,Tryz.results14,go_sem,c0,d1,c2,c3,c4,c5,c6,c7,c8,c9,f1];exact⟨hb0.trans fb,Or.inl ⟨hn,rfl⟩⟩
 ·have hs:=hb.size;have hz:=(hb.block w.heap.size (by omega)).trans (Aa HZ);have g1:w1.cell? ⟨w.heap.size+1,0,none⟩=some (.int .i64 0):=(hb.cell (p:=⟨w.heap.size+1,0,none⟩) (by simp)).trans (by simp[go_sem]);have z1:w1.frozen? ⟨w.heap.size+1,0,none⟩=false:=(hb.frozen (p:=⟨w.heap.size+1,0,none⟩) (by simp)).trans (by simp[go_sem]);have HB1:=Ab ((Aa HB).trans (hb.mono (by omega:w.heap.size<=(TA w).heap.size)));have c0:=cell_of hz 0 _ rfl;have c1:=cell_of hz 1 _ rfl;have c2:=cell_of hz 2 _ rfl;have c3:=cell_of hz 3 _ rfl;have c4:=cell_of hz 4 _ rfl;have c5:=cell_of hz 5 _ rfl;have c6:=cell_of hz 6 _ rfl;have c7:=cell_of hz 7 _ rfl;have c8:=cell_of hz 8 _ rfl;have c9:=cell_of hz 9 _ rfl;have cz:=D4 hz;have HZ1:=Ab hz;have HP:=Ab hp;obtain⟨k,c,li,ln,sq,u,pa,o,pl,body⟩:=p;clear hz hb hp HH;go_wp2;refine leaves_cons (f:=33) (args:=#[.pointer (some ⟨w.heap.size,0,none⟩),.pointer (some ⟨w.heap.size+1,0,none⟩)]) (by simp) (by simp[go_sem]) ?_;refine(PU _ _ _).mono ?_;rintro e u' w'' ⟨rfl,rfl,rfl⟩;simp[Leaves,settle,results,Tryz.results14,go_sem,c0,c1,c2,c3,c4,c5,c6,c7,c8,c9,g1];exact⟨(Ta (Aa HB1) (Nat.le_refl _) _ _ _ _ _ _ _ _ _ _).setCell (by simp) _,Or.inr ⟨_,Aa HP,rfl⟩⟩
theorem Ar{w:World}{B n size:Nat}{e:TypeId}{v:Value}{xs:List Value}(h:w.ownsRow B e size v n xs):∃a k c,v=.slice a k c:=by
 rcases h.2 with ⟨hv,_⟩|⟨g,cap,cur,hv,_⟩
 ·exact⟨_,_,_,hv⟩
 ·exact⟨_,_,_,hv⟩
theorem Bu{w w':World}{B n size:Nat}{e:TypeId}{v:Value}{xs:List Value}(h:w.ownsRow B e size v n xs)(hb:Below w.heap.size w w'):w'.ownsRow B e size v n xs:=by
 obtain⟨hl,h⟩:=h;refine⟨hl,?_⟩;rcases h with h|⟨g,cap,cur,hv,hg,hh,r⟩
 ·exact Or.inl h
 ·refine Or.inr ⟨g,cap,cur,hv,hg,?_,r⟩;rw[hb.block g (lt_of_block hh)];exact hh
theorem JF(l:List UInt8):∀u∈Dx l,u.oneCell'=true:=by
 intro u hu;unfold Dx at hu;obtain⟨c,_,rfl⟩:=List.mem_map.1 hu;rfl
theorem SG(a b:List UInt8):Dx (a++b)=Dx a++Dx b:=by
 unfold Dx;rw[List.map_append]
def Own(w:World)(B:Nat)(O:Value)(l:List UInt8):Prop:=w.ownsRow B 5 1 O l.length (Dx l)
theorem Own.push{w:World}{B:Nat}{O:Value}{a b:List UInt8}(h:w.ownsRow B 5 1 O (a.length+b.length) (Dx a++Dx b)):Own w B O (a++b):=by
 unfold Own;rw[List.length_append,SG];exact h
theorem Own.conv{w:World}{B:Nat}{O:Value}{out:List UInt8}(h:Own w B O out):(convert 199 9 O).run Tryz.prog w=.ok (.string (str out)) w:=by
 have hcl:=fun g=>World.ownsRow.cells (g:=g) h
 rcases h.2 with ⟨hv,h0⟩|⟨g,cap,cur,hv,_⟩
 ·have:out=[]:=List.eq_nil_of_length_eq_zero h0;subst this;rw[hv];exact Lib.run_convert_nil_bytes w 199 9 5 0 Tryz.underlying199 (by kernel_rfl) Tryz.underlying9
 ·rw[hv];refine run_convert_bytes_back w 199 9 5 ⟨g,0,none⟩ cap out Tryz.underlying199 (by kernel_rfl) Tryz.underlying9 fun j hj=>?_
  refine hcl g (by rw[hv];rfl) j _ ?_;unfold Dx;rw[List.getElem?_map,List.getElem?_eq_getElem hj];rfl
theorem ML(w:World)(cs:List Value):∀(j:Nat) (u:Value),cs[j]?=some u->(w.alloc (.cells cs.toArray 5)).cell? ((⟨w.heap.size,0,none⟩:Addr).add j)=some u:=by
 intro j u hj;rw[Addr.add_lit,Nat.zero_add,World.cell?_alloc_new w _ _ j];rw[List.getElem?_toArray];exact hj
theorem Fz(B:Nat)(O:Value)(out:List UInt8)(n:Int)(w:World)(how:Own w B O out)(hB:B<=w.heap.size)(hol:out.length<=1000)(hn:0<=n/\n<=65535):
  Calls Tryz.prog 186 #[O,.int .i64 n] w fun e w'=>∃O',e=.returned O'/\Own w' B O' (out++AX n)/\Below B w w':=by
 have hlt:=fun k=>World.ownsRow.lt how k
 obtain⟨oa,ok,oc,hO⟩:=Ar how;subst hO;have HOW:=Ab (how.alloc (.cells (Dx (AX n)).toArray 5));have HN:=Ab (ML w (Dx (AX n)));have e1:(Dx (AX n)).toArray=#[.int .u8 (n / 256),.int .u8 (n % 256)]:=by
  unfold Dx AX;simp only[List.map_cons,List.map_nil,Bn (show 0<=n / 256 by omega) (show n / 256<=255 by omega),Bn (show 0<=n % 256 by omega) (show n % 256<=255 by omega)]
 rw[e1]at HN HOW;clear how;obtain⟨i0,hi,hz0,hz1,hz2⟩:=info_parts info5;have q1:IntKind.u16.wrap n=n:=by rw[wrap_u16];omega
 have q2:0<=n / 256/\n / 256<=255:=by omega
 go_enter Tryz.func186,Tryz.ntmps186;go_wp2_with (at_builtin;refine wpList_append_own_at _ rfl (.tmp 8) (.tmp 14) 199 rfl B 5 i0 (.int .u8 0) 1 1 Tryz.underlying199 hi hz0 hz1 hz2 rfl (by decide) _ out.length (Dx out) rfl (by exact(Aa HOW)) ⟨w.heap.size,0,none⟩ 2 2 (Dx (AX n)) rfl rfl (by exact(Aa HN)) (by exact JF _) (by unfold maxLen;omega) (by omega) (by simp;omega) ?_)
 intro O1 w1 hown hgrow _ hat;obtain⟨oa1,on1,oc1,hO1⟩:=Ar hown;subst hO1;have HF:Hid (Own w1 B (.slice oa1 on1 oc1) (out++AX n)):=Own.push hown;have HB:=Ab (((Below.refl B w).alloc hB (.cells #[.int .u8 (n / 256),.int .u8 (n % 256)] 5)).grown hgrow (by simp;omega) (fun k hk=>(hlt k hk).1));clear hown hgrow hat hlt;go_wp2
 go_ret
 exact⟨_,rfl,Aa HF,Aa HB⟩
theorem MC(b:Bool)(w:World):Calls Tryz.prog 245 #[.bool b] w fun e w'=>e=.returned (.int .u8 (yes b))/\w'=w:=by
 cases b
 ·go_enter Tryz.func245,Tryz.ntmps245;go_wp2
  go_ret
  exact⟨rfl,rfl⟩
 ·go_enter Tryz.func245,Tryz.ntmps245;go_wp2
  go_ret
  exact⟨rfl,rfl⟩
theorem Bs{P:Program}{ops:Array Oper}{o:Oper}{a:Act}{w:World}{K:Act->World->Prop}{Q:Exit->Act->World->Prop}{E:Prop}
  (hgd:o.guard=none) (sl x:Operand) (t:TypeId) (ho:o.op=.call {callee:=.builtin .append,args:=#[sl,x],argTypes:=#[t,t]})
  (base:Nat) (e:TypeId) (i:TypeInfo) (z:Value) (size bytes:Nat) (ht:P.underlying t=some (.slice e)) (hi:P.info? e=some i) (hz:i.zero=some z)
  (hsize:i.size=size) (hby:i.bytes=bytes) (hzs:z.cells.size=size) (hsz:0<size)
  (v:Value) (n:Nat) (xs:List Value) (hs:a.eval sl=v) (hown:w.ownsRow base e size v n xs)
  (ad:Addr) (m c:Nat) (news:List Value) (hx:a.eval x=.slice (some ad) m c) (hl:news.length=m*size) (hnews:∀j u,news[j]?=some u->w.cell? (ad.add j)=some u) (h1:∀u∈news,u.oneCell'=true)
  (h63:n+m<=maxLen) (hbytes:(n+m)*bytes<=140737488355328) (hbase:base<=w.heap.size)
  (h:∀v' w',w'.ownsRow base e size v' (n+m) (xs++news)->w.grownBy w' v.ownBlock->(v'.ownBlock=v.ownBlock\/v'.ownBlock=some w.heap.size)->K (a.put o.dst v') w'):
  if Region.wanted o (yielded ops a.tmps)=true then Oper.wp P o a w K Q else E:=by
 have hw:Region.wanted o (yielded ops a.tmps)=true:=by simp[Region.wanted,hgd]
 rw[if_pos hw];obtain⟨v',w',hr,h2,h3,_,h4⟩:=run_append_own_at (P:=P) w base t o.type e i z size bytes ht hi hz hsize hby hzs hsz v n xs hown ad m c news hl hnews h1 h63 hbytes hbase;unfold Oper.wp;simp[execOp,ho,resolve,invoke,builtin,hs,hx,hr,Result.andThen];exact h v' w' h2 h3 h4
theorem XC(w1:World)(B:Nat)(hB:B<=w1.heap.size)(k c li ln:Int)(q1:0<=k/\k<=255)(q2:0<=c/\c<=255)(q3:0<=li/\li<=255)(q4:0<=ln/\ln<=255):
  Own (w1.alloc (.cells #[.int .u8 k,.int .u8 c,.int .u8 li,.int .u8 ln] 5)) B (.slice (some ⟨w1.heap.size,0,none⟩) 4 4) [b8 k,b8 c,b8 li,b8 ln]:=by
 have h:=World.ownsRow_lit (base:=B) (e:=5) (size:=1) w1 #[.int .u8 k,.int .u8 c,.int .u8 li,.int .u8 ln] 4 hB (by unfold maxLen;omega) rfl;have e:Dx [b8 k,b8 c,b8 li,b8 ln]=[.int .u8 k,.int .u8 c,.int .u8 li,.int .u8 ln]:=by
  unfold Dx;simp only[List.map_cons,List.map_nil,Bn q1.1 q1.2,Bn q2.1 q2.2,Bn q3.1 q3.2,Bn q4.1 q4.2]
 unfold Own;rw[e];exact h
theorem Ld(u pa o n m:Int)(q1:0<=u/\u<=255)(q2:0<=pa/\pa<=255)(q3:0<=o/\o<=255)(q4:0<=n/\n<=255)(q5:0<=m/\m<=255):Dx [b8 u,b8 pa,b8 o,b8 n,b8 m]=[.int .u8 u,.int .u8 pa,.int .u8 o,.int .u8 n,.int .u8 m]:=by
 unfold Dx;simp only[List.map_cons,List.map_nil,Bn q1.1 q1.2,Bn q2.1 q2.2,Bn q3.1 q3.2,Bn q4.1 q4.2,Bn q5.1 q5.2]
theorem wrap_u8(n:Int):IntKind.u8.wrap n=n % 256:=by
 simp[IntKind.wrap,IntKind.bits,IntKind.signed]
def Nq(p:Pk)(w:World)(e:Ending)(w':World):Prop:=Below w.heap.size w w'/\((AJ p/\e=.returned (.string (str (CB p))))\/(¬AJ p/\e=Ax 7 0))
theorem Iq(p:Pk)(w:World):Calls Tryz.prog 212 #[pv p] w (Nq p w):=by
 obtain⟨post,hpost⟩:∃post,post=Nq p w:=⟨_,rfl⟩;have HNO:Hid (∀w',Below w.heap.size w w'->¬AJ p->post (Ax 7 0) w'):=by
  rw[hpost];exact fun w' hb hr=>⟨hb,Or.inr ⟨hr,rfl⟩⟩
 have HYES:Hid (∀w',Below w.heap.size w w'->AJ p->post (.returned (.string (str (CB p)))) w'):=by
  rw[hpost];exact fun w' hb hr=>⟨hb,Or.inl ⟨hr,rfl⟩⟩
 rw[<-hpost];clear hpost;have HRT:=Ab (fun w=>M9 p w);have HLE:=Ab (fun h:AJ p=>KC h);have HWH:=Ab (fun h:AJ p=>h);have HSB:Hid (CB p=Da p++AX (FD (Da p))):=rfl;have HHB:Hid (Da p=[b8 p.kind,b8 p.client,b8 p.Ag,b8 p.line]++AX p.seq++[b8 p.uid,b8 p.part,b8 p.off,b8 (yes p.please),b8 (p.body.length:Int)]++p.body):=rfl;obtain⟨k,c,li,ln,sq,u,pa,o,pl,body⟩:=p;go_enter Tryz.func212,Tryz.ntmps212;go_wp2_with fail
 refine((Aa HRT) _).mono ?_;rintro e w1 ⟨hb1,⟨hrt,rfl⟩|⟨hnr,rfl⟩⟩
 ·have hs1:=hb1.size;have hbx:=(hb1.block w.heap.size (by simp)).trans (heap_alloc_new w _);have HB1:=Ab (((Below.refl w.heap.size w).alloc (Nat.le_refl _) (.cells #[.int .i64 k,.int .i64 c,.int .i64 li,.int .i64 ln,.int .i64 sq,.int .i64 u,.int .i64 pa,.int .i64 o,.bool pl,.string (str body)] 41)).trans (hb1.mono (by simp)));have hbl:=(Aa HLE) hrt;simp at hs1 hbl;have HRR:=Ab hrt;obtain⟨b1,b2,b3,b4,b5,b6,b7,b8',_⟩:=hrt;simp only at b1 b2 b3 b4 b5 b6 b7 b8';have q1:0<=k/\k<=255:=by omega
  have q2:0<=c/\c<=255:=by omega
  have q3:0<=li/\li<=255:=by omega
  have q4:0<=ln/\ln<=255:=by omega
  have q6:0<=u/\u<=255:=by omega
  have q7:0<=pa/\pa<=255:=by omega
  have q8:0<=o/\o<=255:=by omega
  have e0:w1.cell? ⟨w.heap.size,0,none⟩=some (.int .i64 k):=cell_of hbx 0 _ rfl;have e1:w1.cell? ⟨w.heap.size,1,none⟩=some (.int .i64 c):=cell_of hbx 1 _ rfl;have e2:w1.cell? ⟨w.heap.size,2,none⟩=some (.int .i64 li):=cell_of hbx 2 _ rfl;have e3:w1.cell? ⟨w.heap.size,3,none⟩=some (.int .i64 ln):=cell_of hbx 3 _ rfl;have e4:w1.cell? ⟨w.heap.size,4,none⟩=some (.int .i64 sq):=cell_of hbx 4 _ rfl;have hcl:w.heap.size<w1.heap.size:=by omega
  have HBX:=Ab hbx;clear hbx hb1;go_wp2_with fail
  refine(Fz (w.heap.size+1) _ _ sq _ (XC w1 (w.heap.size+1) (by omega) k c li ln q1 q2 q3 q4) (by simp;omega) (by simp) (by omega)).mono ?_;rintro e w2 ⟨O2,rfl,hown2,hb2⟩;have hs2:=hb2.size;simp at hs2;have hbx2:=(hb2.block w.heap.size (by omega)).trans ((Below.heap_alloc w1 _ _ hcl).trans (Aa HBX));obtain⟨o2a,o2n,o2c,hO2⟩:=Ar hown2;subst hO2;have hlt2:=fun k=>World.ownsRow.lt hown2 k
  have HLT2:=Ab hlt2;have HB2:=Ab (((Aa HB1).alloc (by omega) (.cells #[.int .u8 k,.int .u8 c,.int .u8 li,.int .u8 ln] 5)).trans (hb2.mono (by omega)));have e5:w2.cell? ⟨w.heap.size,5,none⟩=some (.int .i64 u):=cell_of hbx2 5 _ rfl;have e6:w2.cell? ⟨w.heap.size,6,none⟩=some (.int .i64 pa):=cell_of hbx2 6 _ rfl;have e7:w2.cell? ⟨w.heap.size,7,none⟩=some (.int .i64 o):=cell_of hbx2 7 _ rfl;have e8:w2.cell? ⟨w.heap.size,8,none⟩=some (.bool pl):=cell_of hbx2 8 _ rfl;have e9:w2.cell? ⟨w.heap.size,9,none⟩=some (.string (str body)):=cell_of hbx2 9 _ rfl;have HBX2:=Ab hbx2;have HOW2:=Ab hown2;have hcl2:w.heap.size<w2.heap.size:=by omega
  have HZO:=Ab MC;have hne:¬w2.heap.size=w.heap.size:=by omega
  obtain⟨i0,hi,hz0,hz1,hz2⟩:=info_parts info5;have qs:0<=(body.length:Int)/\(body.length:Int)<=255:=by omega
  have wu:IntKind.u8.wrap u=u:=by rw[wrap_u8];omega
  have wpa:IntKind.u8.wrap pa=pa:=by rw[wrap_u8];omega
  have wo:IntKind.u8.wrap o=o:=by rw[wrap_u8];omega
  have wl:IntKind.u8.wrap (body.length:Int)=(body.length:Int):=by rw[wrap_u8];omega
  have qy:0<=yes pl/\yes pl<=255:=by unfold yes;split<;>omega
  generalize hYP:yes pl=Y at *;have HN:=ML w2 (Dx [b8 u,b8 pa,b8 o,b8 Y,b8 (body.length:Int)]);rw[Ld u pa o Y (body.length:Int) q6 q7 q8 qy qs]at HN;have HNN:=Ab HN;have HF5:=Ab (Ld u pa o Y (body.length:Int) q6 q7 q8 qy qs);have HGR:Hid (∀(o5:Obj) (wz:World),((w2.alloc o5).drew).grownBy wz (Value.slice o2a o2n o2c).ownBlock->Below (w.heap.size+1) w2 wz/\wz.heap[w.heap.size]?=w2.heap[w.heap.size]?):=by
   intro o5 wz hg;have h:=((Below.refl (w.heap.size+1) w2).alloc (by omega) o5).drew.grown hg (by simp;omega) (fun k hk=>(hlt2 k hk).1);exact⟨h,h.block _ (by omega)⟩
  clear HN hbx2 hown2 hb2 hlt2 e0 e1 e2 e3 e4 HRT HLE HBX HB1;go_wp2;go_region_held3 (fun w'=>w'.cell? ⟨w.heap.size,5,none⟩=some (.int .i64 u)/\w'.cell? ⟨w.heap.size,6,none⟩=some (.int .i64 pa)/\w'.cell? ⟨w.heap.size,7,none⟩=some (.int .i64 o)/\w'.cell? ⟨w.heap.size,8,none⟩=some (.bool pl)/\w'.cell? ⟨w.heap.size,9,none⟩=some (.string (str body))) (go_keep)
   (first
    |(go_at_call 245;refine((Aa HZO) _ _).mono ?_;rintro e w' ⟨rfl,rfl⟩)
    |(refine Bs rfl (.tmp 23) (.tmp 40) 199 rfl (w.heap.size+1) 5 i0 (.int .u8 0) 1 1 Tryz.underlying199 hi hz0 hz1 hz2 rfl (by decide) (.slice o2a o2n o2c) 6 (Dx ([b8 k,b8 c,b8 li,b8 ln]++AX sq)) rfl (by exact(Aa HOW2).alloc _) ⟨w2.heap.size,0,none⟩ 5 5 [.int .u8 u,.int .u8 pa,.int .u8 o,.int .u8 Y,.int .u8 (body.length:Int)] rfl rfl (by first|exact(Aa HNN)|(rw[wu,wpa,wo,wl];exact(Aa HNN))) (by rw[<-Aa HF5];exact JF _) (by unfold maxLen;omega) (by omega) (by simp;omega) ?_;intro v' wz hown hgrow hat;obtain⟨va,vn,vc,hvs⟩:=Ar hown;subst hvs;have hgg:=(Aa HGR) _ _ hgrow;obtain⟨hbz,hkz⟩:=hgg;have hbxz:=hkz.trans (Aa HBX2);have f5:=cell_of hbxz 5 _ rfl;have f6:=cell_of hbxz 6 _ rfl;have f7:=cell_of hbxz 7 _ rfl;have f8:=cell_of hbxz 8 _ rfl;have f9:=cell_of hbxz 9 _ rfl;have HOZ:=Ab hown;have HBZ:=Ab hbz;clear hown hgrow hat hbz hkz hbxz))
  have hown3:=Aa HOZ;rw[<-Aa HF5]at hown3;have hown3':Own wz (w.heap.size+1) (.slice va vn vc) ([b8 k,b8 c,b8 li,b8 ln]++AX sq++[b8 u,b8 pa,b8 o,b8 Y,b8 (body.length:Int)]):=Own.push hown3;have HOW3:=Ab hown3';have hlt3:=fun k=>World.ownsRow.lt hown3' k
  have HLT3:=Ab hlt3;have hsz3:=(Aa HBZ).size;have HB3:=Ab ((Aa HB2).trans ((Aa HBZ).mono (by omega:w.heap.size<=w.heap.size+1)));have g9:wz.cell? ⟨w.heap.size,9,none⟩=some (.string (str body)):=f9;obtain⟨acc,hacc⟩:∃acc,acc=[b8 k,b8 c,b8 li,b8 ln]++AX sq++[b8 u,b8 pa,b8 o,b8 Y,b8 (body.length:Int)]:=⟨_,rfl⟩;have hal:acc.length=11:=by rw[hacc];rfl
  rw[<-hacc]at HOW3;have HACC:=Ab hacc;have hsb:(str body).size=body.length:=Az body;have HSC:Hid (Lib.strCells (str body)=Dx body):=rfl;clear hown3 hown3' HOZ f5 f6 f7 f8 f9 e5 e6 e7 e8 e9 HNN HF5 HGR HOW2 HLT2 HBZ HBX2 HB2 HZO hlt3 hacc;go_wp2_with (at_builtin;go_must (refine Lib.wpList_append_own_string _ rfl (.tmp 42) (.tmp 44) 199 9 rfl (w.heap.size+1) 5 i0 Tryz.underlying199 Tryz.underlying9 hi hz0 hz1 hz2 (.slice va vn vc) acc.length (Dx acc) rfl (by exact Aa HOW3) (str body) rfl (by unfold maxLen;omega) (by omega) (by omega) ?_))
  intro O4 w4 hown4 hgrow4 _;obtain⟨o4a,o4n,o4c,hO4⟩:=Ar hown4;subst hO4;have hbl4:=(Below.refl (w.heap.size+1) wz).grown hgrow4 (by omega) (fun k hk=>((Aa HLT3) k hk).1);have hs4:=hbl4.size;have HB4:=Ab ((Aa HB3).trans (hbl4.mono (by omega:w.heap.size<=w.heap.size+1)));rw[Aa HSC]at hown4;have hown4':Own w4 (w.heap.size+1) (.slice o4a o4n o4c) (acc++body):=Own.push (by rw[hal];exact hown4);have hhd:acc++body=Da ⟨k,c,li,ln,sq,u,pa,o,pl,body⟩:=by rw[Aa HACC,Aa HHB]
  rw[hhd]at hown4';have hhl:(Da ⟨k,c,li,ln,sq,u,pa,o,pl,body⟩).length<=1000:=by rw[<-hhd,List.length_append];omega
  generalize hHH:Da ⟨k,c,li,ln,sq,u,pa,o,pl,body⟩=H at *;have hcv:=hown4'.conv;have H6:=Ab (fun w=>Kp H w (by omega));have hcd:((crc H).toNat:Int)=FD H:=rfl;rw[hcd]at H6;have H7:=Ab (Fz (w.heap.size+1) _ H (FD H) w4 hown4' (by omega) hhl (NF H));generalize hC:FD H=C at *;clear hown4 hown4' hgrow4 hbl4 HB3 HOW3 HLT3 g9 hhd hcd;generalize hSH:str H=SH at *;go_wp2_with fail
  refine((Aa H6) _).mono ?_;rintro e w5 ⟨rfl,rfl⟩;go_wp2_with fail
  refine(Aa H7).mono ?_;rintro e w6 ⟨O6,rfl,hown6,hb6⟩;obtain⟨o6a,o6n,o6c,hO6⟩:=Ar hown6;subst hO6;have hcv6:=hown6.conv;have HB6:=Ab ((Aa HB4).trans (hb6.mono (by omega:w.heap.size<=w.heap.size+1)));clear hown6 hb6 hcv;have HY:=(Aa HYES);rw[Aa HSB]at HY;have HY':=Ab HY;clear HY HYES HNO HSB HHB;generalize hST:str (H++AX C)=ST at *;go_wp2;exact(Aa HY') _ (Aa HB6) (Aa HRR)
 ·go_wp2;exact⟨rfl,(Aa HNO) _ (((Below.refl _ _).alloc (Nat.le_refl _) _).trans (hb1.mono (by simp))) hnr⟩
end Go.Proofs.YtblomippkddgiaaGreatDoor
