import Derived.Test.YtblomippkddgiaaGreatDoorJ15
import Derived.Maps.AppendAt
import Derived.Lib.AppendStr
import Derived.Lib.BufferRead
import Derived.Laws.IdiomStrings
import Derived.Laws.OwnMore
import Derived.Deep.RegionLaw
import Derived.Deep.RegionHeld3
set_option maxRecDepth 100000
set_option maxHeartbeats 2000000
namespace Go.Proofs.YtblomippkddgiaaGreatDoor
open Go.RowKit
theorem ab9(n q:Nat)(w:World):(Instr.typeAssert (.iface 86 (aaw n q)) 20 86 true).run Tryz.prog w=.ok (.tuple #[aaw n q,.bool true]) w:=by kernel_rfl
theorem field_fault(n q:Nat)(w:World):(Instr.field 86 (aaw n q) 0).run Tryz.prog w=.ok (.int .i64 n) w:=by kernel_rfl
theorem alD{B s:Nat}{w w1:World}(h:Below B w w1)(hs:B≤s)(x0 x1 x2 x3 x4 x5 x6 x7 x8 x9:Value):Below B w (amo w1 s x0 x1 x2 x3 x4 x5 x6 x7 x8 x9):=
 (((((((((h.setCell (by exact hs) _).setCell (by exact hs) _).setCell (by exact hs) _).setCell (by exact hs) _).setCell (by exact hs) _).setCell (by exact hs) _).setCell (by exact hs) _).setCell (by exact hs) _).setCell (by exact hs) _).setCell (by exact hs) _
theorem lt_of_cell{w:World}{k o:Nat}{v:Value}(h:w.cell? ⟨k,o,none⟩=some v):k<w.heap.size:=by
 rcases Nat.lt_or_ge k w.heap.size with hh|hh
 ·exact hh
 ·simp[World.cell?,Array.getElem?_eq_none hh]at h
theorem aaV{w:World}{s o:Nat}{xs:Array Value}{t:TypeId}(h:w.heap[s]?=some (.cells xs t (0,0)))(x:Value):(w.setCell ⟨s,o,none⟩ x).heap[s]?=some (.cells (xs.setIfInBounds o x) t (0,0)):=by
 simp only[World.setCell,Array.getElem?_modify,h]
 simp
theorem ap3{w:World}{s:Nat}(h:w.heap[s]?=some (.cells zeroCells 41 (0,0)))(x0 x1 x2 x3 x4 x5 x6 x7 x8 x9:Value):(amo w s x0 x1 x2 x3 x4 x5 x6 x7 x8 x9).heap[s]?=some (.cells #[x0,x1,x2,x3,x4,x5,x6,x7,x8,x9] 41 (0,0)):=by
 have h0:=aaV (o:=0) h x0
 have h1:=aaV (o:=1) h0 x1
 have h2:=aaV (o:=2) h1 x2
 have h3:=aaV (o:=3) h2 x3
 have h4:=aaV (o:=4) h3 x4
 have h5:=aaV (o:=5) h4 x5
 have h6:=aaV (o:=6) h5 x6
 have h7:=aaV (o:=7) h6 x7
 have h8:=aaV (o:=8) h7 x8
 have h9:=aaV (o:=9) h8 x9
 refine h9.trans ?_
 simp
theorem caught_any(n q:Nat)(w:World) :
  Calls Tryz.prog 34 #[.iface 86 (aaw n q)] w fun e w'=>e=.returned (aaw n q)∧Below w.heap.size w w':=by
 have hta:=ab9 n q
 go_enter Tryz.func34,Tryz.ntmps34
 go_wp2
 exact bodyPost_ret (v:=aaw n q) (by simp[results,Tryz.results34,go_sem]) rfl ⟨rfl,((Below.refl _ _).alloc (Nat.le_refl _) _).alloc (by simp) _⟩
theorem adA(a0 a1 B:Nat)(n q:Nat)(older:List PanicEntry)(w:World)(h0:w.heap[a0]?=some (.cells zeroCells 41 (0,0)))(h1:w.cell? ⟨a1,0,none⟩=some (.int .i64 0))(z1:w.frozen? ⟨a1,0,none⟩=false)(hb0:B≤a0)(hb1:B≤a1)(hne:¬a0=a1) :
  CallsD Tryz.prog 33 #[.pointer (some ⟨a0,0,none⟩),.pointer (some ⟨a1,0,none⟩)] (.panicking ({v:=.iface 86 (aaw n q),recovered:=false} :: older)) w fun e u' w'=>
   e=.returned (.tuple #[])∧u'=.panicking ({v:=.iface 86 (aaw n q),recovered:=true} :: older)∧w'.heap[a0]?=some (.cells zeroCells 41 (0,0))∧w'.cell? ⟨a1,0,none⟩=some (.int .i64 n)∧Below B w w':=by
 refine callsD_of_wpS Tryz.func33 rfl fun c₀ cs hu=>?_
 apply wpS_seq
 apply wpS_region
 simp[wpOpsS,go_sem,recoverD,hu,Tryz.ntmps33,Exit.thenS]
 rw[show (#[Value.pointer (some {block:=a0,off:=0}),Value.pointer (some {block:=a1,off:=0})]++((Array.replicate 8 undef).setIfInBounds 1 (Value.iface 86 (aaw n q))).setIfInBounds 0 (Value.iface 86 (aaw n q)))=#[.pointer (some {block:=a0,off:=0}),.pointer (some {block:=a1,off:=0}),.iface 86 (aaw n q),.iface 86 (aaw n q),undef,undef,undef,undef,undef,undef] from rfl]
 refine wpS_of_wp ?_
 have hfl:=field_fault n q
 have l0:=lt_of_block h0
 have l1:=lt_of_cell h1
 go_wp2_with fail
 refine(caught_any n q _).mono ?_
 rintro e w1 ⟨rfl,hb⟩
 have s1:=hb.size
 have hz:w1.heap[a0]?=some (.cells zeroCells 41 (0,0)):=(hb.block _ l0).trans h0
 have g1:w1.cell? ⟨a1,0,none⟩=some (.int .i64 0):=(hb.cell (p:=⟨a1,0,none⟩) l1).trans h1
 have y1:w1.frozen? ⟨a1,0,none⟩=false:=(hb.frozen (p:=⟨a1,0,none⟩) l1).trans z1
 have m0:a0<w1.heap.size:=by omega
 have m1:a1<w1.heap.size:=by omega
 have e2:¬a1=a0:=by omega
 have c0:=aaa hz 0 _ rfl
 have c1:=aaa hz 1 _ rfl
 have c2:=aaa hz 2 _ rfl
 have c3:=aaa hz 3 _ rfl
 have c4:=aaa hz 4 _ rfl
 have c5:=aaa hz 5 _ rfl
 have c6:=aaa hz 6 _ rfl
 have c7:=aaa hz 7 _ rfl
 have c8:=aaa hz 8 _ rfl
 have c9:=aaa hz 9 _ rfl
 have cz:=abP hz
 have HZ:=aab hz
 clear h0 h1 z1 hz
 go_wp2
 have F0:=ap3 (unhide HZ) (.int .i64 0) (.int .i64 0) (.int .i64 0) (.int .i64 0) (.int .i64 0) (.int .i64 0) (.int .i64 0) (.int .i64 0) (.bool false) (.string ⟨#[]⟩)
 have FB:=alD (hb.mono (by omega:B≤w.heap.size)) hb0 (.int .i64 0) (.int .i64 0) (.int .i64 0) (.int .i64 0) (.int .i64 0) (.int .i64 0) (.int .i64 0) (.int .i64 0) (.bool false) (.string ⟨#[]⟩)
 show bodyPostS Tryz.prog Tryz.f33 c₀ cs _ _ _ _ _
 refine⟨rfl,_,rfl,_,results_none rfl _ _ _,rfl,rfl,?_,?_,FB.setCell (by exact hb1) _⟩
 ·rw[Below.heap_setCell _ _ _ _ (by simpa using hne)]
  exact F0
 ·simp[go_sem,g1]
theorem ag3(p0 p1:Addr)(w:World) :
  CallsD Tryz.prog 33 #[.pointer (some p0),.pointer (some p1)] .returning w fun e u' w'=>e=.returned (.tuple #[])∧u'=.returning∧w'=w:=by
 refine callsD_of_wpS Tryz.func33 rfl fun c₀ cs hu=>?_
 apply wpS_seq
 apply wpS_region
 simp[wpOpsS,go_sem,recoverD,hu,Tryz.ntmps33,Exit.thenS]
 rw[show (#[Value.pointer (some p0),Value.pointer (some p1)]++((Array.replicate 8 undef).setIfInBounds 1 (Value.nilIface)).setIfInBounds 0 (Value.nilIface))=#[.pointer (some p0),.pointer (some p1),.nilIface,.nilIface,undef,undef,undef,undef,undef,undef] from rfl]
 refine wpS_of_wp ?_
 go_wp2
 exact⟨rfl,.returning,by cases c₀;simp_all,_,results_none rfl _ _ _,rfl,rfl,rfl⟩
abbrev amV(w:World):World:=(w.alloc (.cells zeroCells 41)).alloc (.cells #[.int .i64 0] 32)
def afk(l:List UInt8)(w:World)(e:Ending)(w':World):Prop:=Below w.heap.size w w'∧((abn l=none∧e=.returned (.tuple #[an5,.int .i64 7]))∨∃p,abn l=some p∧e=.returned (.tuple #[pv p,.int .i64 0]))
theorem ahZ(l:List UInt8)(w:World)(hl:l.length≤9223372036854775807):Calls Tryz.prog 14 #[.string (str l)] w (afk l w):=by
 have hmf:∀(fn:Fn) (first cap:Array Value) (w:World),(Instr.makeFunc fn first cap).run Tryz.prog w=.ok (.func fn first cap) w:=fun _ _ _ _=>rfl
 have HH:=aab (amA l (amV w) hl)
 have hz0:(amV w).heap[w.heap.size]?=some (.cells zeroCells 41 (0,0)):=by
  rw[Below.heap_alloc _ _ _ (by simp)]
  exact heap_alloc_new w _
 have HZ:=aab hz0
 have hsz:(amV w).heap.size=w.heap.size+2:=by simp
 have HB:=aab (((Below.refl w.heap.size w).alloc (Nat.le_refl _) (.cells zeroCells 41)).alloc (by simp) (.cells #[.int .i64 0] 32))
 clear hz0
 go_enter_defers Tryz.func14,Tryz.ntmps14
 go_wp2_with fail
 refine(unhide HH).mono ?_
 rintro e w1 ⟨hb,⟨hn,rfl⟩|⟨p,hp,rfl⟩⟩
 ·have hs:=hb.size
  have z0:=(hb.block w.heap.size (by omega)).trans (unhide HZ)
  have c1:w1.cell? ⟨w.heap.size+1,0,none⟩=some (.int .i64 0):=(hb.cell (p:=⟨w.heap.size+1,0,none⟩) (by simp)).trans (by simp[go_sem])
  have z1:w1.frozen? ⟨w.heap.size+1,0,none⟩=false:=(hb.frozen (p:=⟨w.heap.size+1,0,none⟩) (by simp)).trans (by simp[go_sem])
  have hb0:Below w.heap.size w w1:=(unhide HB).trans (hb.mono (by omega))
  have HZ1:=aab z0
  clear z0
  go_wp2
  refine leaves_cons (f:=33) (args:=#[.pointer (some ⟨w.heap.size,0,none⟩),.pointer (some ⟨w.heap.size+1,0,none⟩)]) (by simp) (by simp[go_sem]) ?_
  refine(adA w.heap.size (w.heap.size+1) w.heap.size 7 0 [] _ (unhide HZ1) c1 z1 (Nat.le_refl _) (by omega) (by omega)).mono ?_
  rintro e u' w'' ⟨rfl,rfl,f0,f1,fb⟩
  have c0:=aaa f0 0 _ rfl
  have d1:=aaa f0 1 _ rfl
  have c2:=aaa f0 2 _ rfl
  have c3:=aaa f0 3 _ rfl
  have c4:=aaa f0 4 _ rfl
  have c5:=aaa f0 5 _ rfl
  have c6:=aaa f0 6 _ rfl
  have c7:=aaa f0 7 _ rfl
  have c8:=aaa f0 8 _ rfl
  have c9:=aaa f0 9 _ rfl
  simp[Leaves,settle,results,Tryz.results14,go_sem,c0,d1,c2,c3,c4,c5,c6,c7,c8,c9,f1]
  exact⟨hb0.trans fb,Or.inl ⟨hn,rfl⟩⟩
 ·have hs:=hb.size
  have hz:=(hb.block w.heap.size (by omega)).trans (unhide HZ)
  have g1:w1.cell? ⟨w.heap.size+1,0,none⟩=some (.int .i64 0):=(hb.cell (p:=⟨w.heap.size+1,0,none⟩) (by simp)).trans (by simp[go_sem])
  have z1:w1.frozen? ⟨w.heap.size+1,0,none⟩=false:=(hb.frozen (p:=⟨w.heap.size+1,0,none⟩) (by simp)).trans (by simp[go_sem])
  have HB1:=aab ((unhide HB).trans (hb.mono (by omega:w.heap.size≤(amV w).heap.size)))
  have c0:=aaa hz 0 _ rfl
  have c1:=aaa hz 1 _ rfl
  have c2:=aaa hz 2 _ rfl
  have c3:=aaa hz 3 _ rfl
  have c4:=aaa hz 4 _ rfl
  have c5:=aaa hz 5 _ rfl
  have c6:=aaa hz 6 _ rfl
  have c7:=aaa hz 7 _ rfl
  have c8:=aaa hz 8 _ rfl
  have c9:=aaa hz 9 _ rfl
  have cz:=abP hz
  have HZ1:=aab hz
  have HP:=aab hp
  obtain⟨k,c,li,ln,sq,u,pa,o,pl,body⟩:=p
  clear hz hb hp HH
  go_wp2
  refine leaves_cons (f:=33) (args:=#[.pointer (some ⟨w.heap.size,0,none⟩),.pointer (some ⟨w.heap.size+1,0,none⟩)]) (by simp) (by simp[go_sem]) ?_
  refine(ag3 _ _ _).mono ?_
  rintro e u' w'' ⟨rfl,rfl,rfl⟩
  simp[Leaves,settle,results,Tryz.results14,go_sem,c0,c1,c2,c3,c4,c5,c6,c7,c8,c9,g1]
  exact⟨(alD (unhide HB1) (Nat.le_refl _) _ _ _ _ _ _ _ _ _ _).setCell (by simp) _,Or.inr ⟨_,unhide HP,rfl⟩⟩
theorem aae{w:World}{B n size:Nat}{e:TypeId}{v:Value}{xs:List Value}(h:w.ownsRow B e size v n xs):∃a k c,v=.slice a k c:=by
 rcases h.2 with ⟨hv,_⟩|⟨g,cap,cur,hv,_⟩
 ·exact⟨_,_,_,hv⟩
 ·exact⟨_,_,_,hv⟩
theorem aav{w w':World}{B n size:Nat}{e:TypeId}{v:Value}{xs:List Value}(h:w.ownsRow B e size v n xs)(hb:Below w.heap.size w w'):w'.ownsRow B e size v n xs:=by
 obtain⟨hl,h⟩:=h
 refine⟨hl,?_⟩
 rcases h with h|⟨g,cap,cur,hv,hg,hh,r⟩
 ·exact Or.inl h
 ·refine Or.inr ⟨g,cap,cur,hv,hg,?_,r⟩
  rw[hb.block g (lt_of_block hh)]
  exact hh
theorem adL(l:List UInt8):∀u∈u8s l,u.oneCell'=true:=by
 intro u hu
 unfold u8s at hu
 obtain⟨c,_,rfl⟩:=List.mem_map.1 hu
 rfl
theorem aiw(a b:List UInt8):u8s (a++b)=u8s a++u8s b:=by
 unfold u8s
 rw[List.map_append]
def Own(w:World)(B:Nat)(O:Value)(l:List UInt8):Prop:=w.ownsRow B 5 1 O l.length (u8s l)
theorem Own.push{w:World}{B:Nat}{O:Value}{a b:List UInt8}(h:w.ownsRow B 5 1 O (a.length+b.length) (u8s a++u8s b)):Own w B O (a++b):=by
 unfold Own
 rw[List.length_append,aiw]
 exact h
theorem Own.conv{w:World}{B:Nat}{O:Value}{out:List UInt8}(h:Own w B O out):(convert 199 9 O).run Tryz.prog w=.ok (.string (str out)) w:=by
 have hcl:=fun g=>World.ownsRow.cells (g:=g) h
 rcases h.2 with ⟨hv,h0⟩|⟨g,cap,cur,hv,_⟩
 ·have:out=[]:=List.eq_nil_of_length_eq_zero h0
  subst this
  rw[hv]
  exact Lib.run_convert_nil_bytes w 199 9 5 0 Tryz.underlying199 (by kernel_rfl) Tryz.underlying9
 ·rw[hv]
  refine run_convert_bytes_back w 199 9 5 ⟨g,0,none⟩ cap out Tryz.underlying199 (by kernel_rfl) Tryz.underlying9 fun j hj=>?_
  refine hcl g (by rw[hv];rfl) j _ ?_
  unfold u8s
  rw[List.getElem?_map,List.getElem?_eq_getElem hj]
  rfl
theorem agm(w:World)(cs:List Value):∀(j:Nat) (u:Value),cs[j]?=some u→(w.alloc (.cells cs.toArray 5)).cell? ((⟨w.heap.size,0,none⟩:Addr).add j)=some u:=by
 intro j u hj
 rw[Addr.add_lit,Nat.zero_add,World.cell?_alloc_new w _ _ j]
 rw[List.getElem?_toArray]
 exact hj
theorem abV(B:Nat)(O:Value)(out:List UInt8)(n:Int)(w:World)(how:Own w B O out)(hB:B≤w.heap.size)(hol:out.length≤1000)(hn:0≤n∧n≤65535) :
  Calls Tryz.prog 186 #[O,.int .i64 n] w fun e w'=>∃O',e=.returned O'∧Own w' B O' (out++two8 n)∧Below B w w':=by
 have hlt:=fun k=>World.ownsRow.lt how k
 obtain⟨oa,ok,oc,hO⟩:=aae how
 subst hO
 have HOW:=aab (how.alloc (.cells (u8s (two8 n)).toArray 5))
 have HN:=aab (agm w (u8s (two8 n)))
 have e1:(u8s (two8 n)).toArray=#[.int .u8 (n / 256),.int .u8 (n % 256)]:=by
  unfold u8s two8
  simp only[List.map_cons,List.map_nil,aaA (show 0≤n / 256 by omega) (show n / 256≤255 by omega),aaA (show 0≤n % 256 by omega) (show n % 256≤255 by omega)]
 rw[e1]at HN HOW
 clear how
 obtain⟨i0,hi,hz0,hz1,hz2⟩:=info_parts ahf
 have q1:IntKind.u16.wrap n=n:=by rw[acb];omega
 have q2:0≤n / 256∧n / 256≤255:=by omega
 go_enter Tryz.func186,Tryz.ntmps186
 go_wp2_with (at_builtin;refine wpList_append_own_at _ rfl (.tmp 8) (.tmp 14) 199 rfl B 5 i0 (.int .u8 0) 1 1 Tryz.underlying199 hi hz0 hz1 hz2 rfl (by decide) _ out.length (u8s out) rfl (by exact(unhide HOW)) ⟨w.heap.size,0,none⟩ 2 2 (u8s (two8 n)) rfl rfl (by exact(unhide HN)) (by exact adL _) (by unfold maxLen;omega) (by omega) (by simp;omega) ?_)
 intro O1 w1 hown hgrow _ hat
 obtain⟨oa1,on1,oc1,hO1⟩:=aae hown
 subst hO1
 have HF:Hid (Own w1 B (.slice oa1 on1 oc1) (out++two8 n)):=Own.push hown
 have HB:=aab (((Below.refl B w).alloc hB (.cells #[.int .u8 (n / 256),.int .u8 (n % 256)] 5)).grown hgrow (by simp;omega) (fun k hk=>(hlt k hk).1))
 clear hown hgrow hat hlt
 go_wp2
 go_ret
 exact⟨_,rfl,unhide HF,unhide HB⟩
theorem afb(b:Bool)(w:World):Calls Tryz.prog 245 #[.bool b] w fun e w'=>e=.returned (.int .u8 (yes b))∧w'=w:=by
 cases b
 ·go_enter Tryz.func245,Tryz.ntmps245
  go_wp2
  go_ret
  exact⟨rfl,rfl⟩
 ·go_enter Tryz.func245,Tryz.ntmps245
  go_wp2
  go_ret
  exact⟨rfl,rfl⟩
theorem aau{P:Program}{ops:Array Oper}{o:Oper}{a:Act}{w:World}{K:Act→World→Prop}{Q:Exit→Act→World→Prop}{E:Prop}
  (hgd:o.guard=none) (sl x:Operand) (t:TypeId) (ho:o.op=.call {callee:=.builtin .append,args:=#[sl,x],argTypes:=#[t,t]})
  (base:Nat) (e:TypeId) (i:TypeInfo) (z:Value) (size bytes:Nat) (ht:P.underlying t=some (.slice e)) (hi:P.info? e=some i) (hz:i.zero=some z)
  (hsize:i.size=size) (hby:i.bytes=bytes) (hzs:z.cells.size=size) (hsz:0<size)
  (v:Value) (n:Nat) (xs:List Value) (hs:a.eval sl=v) (hown:w.ownsRow base e size v n xs)
  (ad:Addr) (m c:Nat) (news:List Value) (hx:a.eval x=.slice (some ad) m c) (hl:news.length=m*size) (hnews:∀j u,news[j]?=some u→w.cell? (ad.add j)=some u) (h1:∀u∈news,u.oneCell'=true)
  (h63:n+m≤maxLen) (hbytes:(n+m)*bytes≤140737488355328) (hbase:base≤w.heap.size)
  (h:∀v' w',w'.ownsRow base e size v' (n+m) (xs++news)→w.grownBy w' v.ownBlock→(v'.ownBlock=v.ownBlock∨v'.ownBlock=some w.heap.size)→K (a.put o.dst v') w') :
  if Region.wanted o (yielded ops a.tmps)=true then Oper.wp P o a w K Q else E:=by
 have hw:Region.wanted o (yielded ops a.tmps)=true:=by simp[Region.wanted,hgd]
 rw[if_pos hw]
 obtain⟨v',w',hr,h2,h3,_,h4⟩:=run_append_own_at (P:=P) w base t o.type e i z size bytes ht hi hz hsize hby hzs hsz v n xs hown ad m c news hl hnews h1 h63 hbytes hbase
 unfold Oper.wp
 simp[execOp,ho,resolve,invoke,builtin,hs,hx,hr,Result.andThen]
 exact h v' w' h2 h3 h4
theorem amG(w1:World)(B:Nat)(hB:B≤w1.heap.size)(k c li ln:Int)(q1:0≤k∧k≤255)(q2:0≤c∧c≤255)(q3:0≤li∧li≤255)(q4:0≤ln∧ln≤255) :
  Own (w1.alloc (.cells #[.int .u8 k,.int .u8 c,.int .u8 li,.int .u8 ln] 5)) B (.slice (some ⟨w1.heap.size,0,none⟩) 4 4) [b8 k,b8 c,b8 li,b8 ln]:=by
 have h:=World.ownsRow_lit (base:=B) (e:=5) (size:=1) w1 #[.int .u8 k,.int .u8 c,.int .u8 li,.int .u8 ln] 4 hB (by unfold maxLen;omega) rfl
 have e:u8s [b8 k,b8 c,b8 li,b8 ln]=[.int .u8 k,.int .u8 c,.int .u8 li,.int .u8 ln]:=by
  unfold u8s
  simp only[List.map_cons,List.map_nil,aaA q1.1 q1.2,aaA q2.1 q2.2,aaA q3.1 q3.2,aaA q4.1 q4.2]
 unfold Own
 rw[e]
 exact h
theorem ae1(u pa o n m:Int)(q1:0≤u∧u≤255)(q2:0≤pa∧pa≤255)(q3:0≤o∧o≤255)(q4:0≤n∧n≤255)(q5:0≤m∧m≤255):u8s [b8 u,b8 pa,b8 o,b8 n,b8 m]=[.int .u8 u,.int .u8 pa,.int .u8 o,.int .u8 n,.int .u8 m]:=by
 unfold u8s
 simp only[List.map_cons,List.map_nil,aaA q1.1 q1.2,aaA q2.1 q2.2,aaA q3.1 q3.2,aaA q4.1 q4.2,aaA q5.1 q5.2]
theorem afc(n:Int):IntKind.u8.wrap n=n % 256:=by
 simp[IntKind.wrap,IntKind.bits,IntKind.signed]
def afF(p:Pk)(w:World)(e:Ending)(w':World):Prop:=Below w.heap.size w w'∧((aaj p∧e=.returned (.string (str (aa3 p))))∨(¬aaj p∧e=aaf 7 0))
theorem write_any(p:Pk)(w:World):Calls Tryz.prog 212 #[pv p] w (afF p w):=by
 obtain⟨post,hpost⟩:∃post,post=afF p w:=⟨_,rfl⟩
 have HNO:Hid (∀w',Below w.heap.size w w'→¬aaj p→post (aaf 7 0) w'):=by
  rw[hpost]
  exact fun w' hb hr=>⟨hb,Or.inr ⟨hr,rfl⟩⟩
 have HYES:Hid (∀w',Below w.heap.size w w'→aaj p→post (.returned (.string (str (aa3 p)))) w'):=by
  rw[hpost]
  exact fun w' hb hr=>⟨hb,Or.inl ⟨hr,rfl⟩⟩
 rw[←hpost]
 clear hpost
 have HRT:=aab (fun w=>afX p w)
 have HLE:=aab (fun h:aaj p=>afA h)
 have HWH:=aab (fun h:aaj p=>h)
 have HSB:Hid (aa3 p=abl p++two8 (aex (abl p))):=rfl
 have HHB:Hid (abl p=[b8 p.kind,b8 p.client,b8 p.life,b8 p.line]++two8 p.seq++[b8 p.uid,b8 p.part,b8 p.off,b8 (yes p.please),b8 (p.body.length:Int)]++p.body):=rfl
 obtain⟨k,c,li,ln,sq,u,pa,o,pl,body⟩:=p
 go_enter Tryz.func212,Tryz.ntmps212
 go_wp2_with fail
 refine((unhide HRT) _).mono ?_
 rintro e w1 ⟨hb1,⟨hrt,rfl⟩|⟨hnr,rfl⟩⟩
 ·have hs1:=hb1.size
  have hbx:=(hb1.block w.heap.size (by simp)).trans (heap_alloc_new w _)
  have HB1:=aab (((Below.refl w.heap.size w).alloc (Nat.le_refl _) (.cells #[.int .i64 k,.int .i64 c,.int .i64 li,.int .i64 ln,.int .i64 sq,.int .i64 u,.int .i64 pa,.int .i64 o,.bool pl,.string (str body)] 41)).trans (hb1.mono (by simp)))
  have hbl:=(unhide HLE) hrt
  simp at hs1 hbl
  have HRR:=aab hrt
  obtain⟨b1,b2,b3,b4,b5,b6,b7,b8',_⟩:=hrt
  simp only at b1 b2 b3 b4 b5 b6 b7 b8'
  have q1:0≤k∧k≤255:=by omega
  have q2:0≤c∧c≤255:=by omega
  have q3:0≤li∧li≤255:=by omega
  have q4:0≤ln∧ln≤255:=by omega
  have q6:0≤u∧u≤255:=by omega
  have q7:0≤pa∧pa≤255:=by omega
  have q8:0≤o∧o≤255:=by omega
  have e0:w1.cell? ⟨w.heap.size,0,none⟩=some (.int .i64 k):=aaa hbx 0 _ rfl
  have e1:w1.cell? ⟨w.heap.size,1,none⟩=some (.int .i64 c):=aaa hbx 1 _ rfl
  have e2:w1.cell? ⟨w.heap.size,2,none⟩=some (.int .i64 li):=aaa hbx 2 _ rfl
  have e3:w1.cell? ⟨w.heap.size,3,none⟩=some (.int .i64 ln):=aaa hbx 3 _ rfl
  have e4:w1.cell? ⟨w.heap.size,4,none⟩=some (.int .i64 sq):=aaa hbx 4 _ rfl
  have hcl:w.heap.size<w1.heap.size:=by omega
  have HBX:=aab hbx
  clear hbx hb1
  go_wp2_with fail
  refine(abV (w.heap.size+1) _ _ sq _ (amG w1 (w.heap.size+1) (by omega) k c li ln q1 q2 q3 q4) (by simp;omega) (by simp) (by omega)).mono ?_
  rintro e w2 ⟨O2,rfl,hown2,hb2⟩
  have hs2:=hb2.size
  simp at hs2
  have hbx2:=(hb2.block w.heap.size (by omega)).trans ((Below.heap_alloc w1 _ _ hcl).trans (unhide HBX))
  obtain⟨o2a,o2n,o2c,hO2⟩:=aae hown2
  subst hO2
  have hlt2:=fun k=>World.ownsRow.lt hown2 k
  have HLT2:=aab hlt2
  have HB2:=aab (((unhide HB1).alloc (by omega) (.cells #[.int .u8 k,.int .u8 c,.int .u8 li,.int .u8 ln] 5)).trans (hb2.mono (by omega)))
  have e5:w2.cell? ⟨w.heap.size,5,none⟩=some (.int .i64 u):=aaa hbx2 5 _ rfl
  have e6:w2.cell? ⟨w.heap.size,6,none⟩=some (.int .i64 pa):=aaa hbx2 6 _ rfl
  have e7:w2.cell? ⟨w.heap.size,7,none⟩=some (.int .i64 o):=aaa hbx2 7 _ rfl
  have e8:w2.cell? ⟨w.heap.size,8,none⟩=some (.bool pl):=aaa hbx2 8 _ rfl
  have e9:w2.cell? ⟨w.heap.size,9,none⟩=some (.string (str body)):=aaa hbx2 9 _ rfl
  have HBX2:=aab hbx2
  have HOW2:=aab hown2
  have hcl2:w.heap.size<w2.heap.size:=by omega
  have HZO:=aab afb
  have hne:¬w2.heap.size=w.heap.size:=by omega
  obtain⟨i0,hi,hz0,hz1,hz2⟩:=info_parts ahf
  have qs:0≤(body.length:Int)∧(body.length:Int)≤255:=by omega
  have wu:IntKind.u8.wrap u=u:=by rw[afc];omega
  have wpa:IntKind.u8.wrap pa=pa:=by rw[afc];omega
  have wo:IntKind.u8.wrap o=o:=by rw[afc];omega
  have wl:IntKind.u8.wrap (body.length:Int)=(body.length:Int):=by rw[afc];omega
  have qy:0≤yes pl∧yes pl≤255:=by unfold yes;split <;> omega
  generalize hYP:yes pl=Y at *
  have HN:=agm w2 (u8s [b8 u,b8 pa,b8 o,b8 Y,b8 (body.length:Int)])
  rw[ae1 u pa o Y (body.length:Int) q6 q7 q8 qy qs]at HN
  have HNN:=aab HN
  have HF5:=aab (ae1 u pa o Y (body.length:Int) q6 q7 q8 qy qs)
  have HGR:Hid (∀(o5:Obj) (wz:World),((w2.alloc o5).drew).grownBy wz (Value.slice o2a o2n o2c).ownBlock→Below (w.heap.size+1) w2 wz∧wz.heap[w.heap.size]?=w2.heap[w.heap.size]?):=by
   intro o5 wz hg
   have h:=((Below.refl (w.heap.size+1) w2).alloc (by omega) o5).drew.grown hg (by simp;omega) (fun k hk=>(hlt2 k hk).1)
   exact⟨h,h.block _ (by omega)⟩
  clear HN hbx2 hown2 hb2 hlt2 e0 e1 e2 e3 e4 HRT HLE HBX HB1
  go_wp2
  go_region_held3 (fun w'=>w'.cell? ⟨w.heap.size,5,none⟩=some (.int .i64 u)∧w'.cell? ⟨w.heap.size,6,none⟩=some (.int .i64 pa)∧w'.cell? ⟨w.heap.size,7,none⟩=some (.int .i64 o)∧w'.cell? ⟨w.heap.size,8,none⟩=some (.bool pl)∧w'.cell? ⟨w.heap.size,9,none⟩=some (.string (str body))) (go_keep)
   (first
    |(go_at_call 245;refine((unhide HZO) _ _).mono ?_;rintro e w' ⟨rfl,rfl⟩)
    |(refine aau rfl (.tmp 23) (.tmp 40) 199 rfl (w.heap.size+1) 5 i0 (.int .u8 0) 1 1 Tryz.underlying199 hi hz0 hz1 hz2 rfl (by decide) (.slice o2a o2n o2c) 6 (u8s ([b8 k,b8 c,b8 li,b8 ln]++two8 sq)) rfl (by exact(unhide HOW2).alloc _) ⟨w2.heap.size,0,none⟩ 5 5 [.int .u8 u,.int .u8 pa,.int .u8 o,.int .u8 Y,.int .u8 (body.length:Int)] rfl rfl (by first|exact(unhide HNN)|(rw[wu,wpa,wo,wl];exact(unhide HNN))) (by rw[←unhide HF5];exact adL _) (by unfold maxLen;omega) (by omega) (by simp;omega) ?_;intro v' wz hown hgrow hat;obtain⟨va,vn,vc,hvs⟩:=aae hown;subst hvs;have hgg:=(unhide HGR) _ _ hgrow;obtain⟨hbz,hkz⟩:=hgg;have hbxz:=hkz.trans (unhide HBX2);have f5:=aaa hbxz 5 _ rfl;have f6:=aaa hbxz 6 _ rfl;have f7:=aaa hbxz 7 _ rfl;have f8:=aaa hbxz 8 _ rfl;have f9:=aaa hbxz 9 _ rfl;have HOZ:=aab hown;have HBZ:=aab hbz;clear hown hgrow hat hbz hkz hbxz))
  have hown3:=unhide HOZ
  rw[←unhide HF5]at hown3
  have hown3':Own wz (w.heap.size+1) (.slice va vn vc) ([b8 k,b8 c,b8 li,b8 ln]++two8 sq++[b8 u,b8 pa,b8 o,b8 Y,b8 (body.length:Int)]):=Own.push hown3
  have HOW3:=aab hown3'
  have hlt3:=fun k=>World.ownsRow.lt hown3' k
  have HLT3:=aab hlt3
  have hsz3:=(unhide HBZ).size
  have HB3:=aab ((unhide HB2).trans ((unhide HBZ).mono (by omega:w.heap.size≤w.heap.size+1)))
  have g9:wz.cell? ⟨w.heap.size,9,none⟩=some (.string (str body)):=f9
  obtain⟨acc,hacc⟩:∃acc,acc=[b8 k,b8 c,b8 li,b8 ln]++two8 sq++[b8 u,b8 pa,b8 o,b8 Y,b8 (body.length:Int)]:=⟨_,rfl⟩
  have hal:acc.length=11:=by rw[hacc];rfl
  rw[←hacc]at HOW3
  have HACC:=aab hacc
  have hsb:(str body).size=body.length:=str_size body
  have HSC:Hid (Lib.strCells (str body)=u8s body):=rfl
  clear hown3 hown3' HOZ f5 f6 f7 f8 f9 e5 e6 e7 e8 e9 HNN HF5 HGR HOW2 HLT2 HBZ HBX2 HB2 HZO hlt3 hacc
  go_wp2_with (at_builtin;go_must (refine Lib.wpList_append_own_string _ rfl (.tmp 42) (.tmp 44) 199 9 rfl (w.heap.size+1) 5 i0 Tryz.underlying199 Tryz.underlying9 hi hz0 hz1 hz2 (.slice va vn vc) acc.length (u8s acc) rfl (by exact unhide HOW3) (str body) rfl (by unfold maxLen;omega) (by omega) (by omega) ?_))
  intro O4 w4 hown4 hgrow4 _
  obtain⟨o4a,o4n,o4c,hO4⟩:=aae hown4
  subst hO4
  have hbl4:=(Below.refl (w.heap.size+1) wz).grown hgrow4 (by omega) (fun k hk=>((unhide HLT3) k hk).1)
  have hs4:=hbl4.size
  have HB4:=aab ((unhide HB3).trans (hbl4.mono (by omega:w.heap.size≤w.heap.size+1)))
  rw[unhide HSC]at hown4
  have hown4':Own w4 (w.heap.size+1) (.slice o4a o4n o4c) (acc++body):=Own.push (by rw[hal];exact hown4)
  have hhd:acc++body=abl ⟨k,c,li,ln,sq,u,pa,o,pl,body⟩:=by rw[unhide HACC,unhide HHB]
  rw[hhd]at hown4'
  have hhl:(abl ⟨k,c,li,ln,sq,u,pa,o,pl,body⟩).length≤1000:=by rw[←hhd,List.length_append];omega
  generalize hHH:abl ⟨k,c,li,ln,sq,u,pa,o,pl,body⟩=H at *
  have hcv:=hown4'.conv
  have H6:=aab (fun w=>adT H w (by omega))
  have hcd:((crc H).toNat:Int)=aex H:=rfl
  rw[hcd]at H6
  have H7:=aab (abV (w.heap.size+1) _ H (aex H) w4 hown4' (by omega) hhl (ahw H))
  generalize hC:aex H=C at *
  clear hown4 hown4' hgrow4 hbl4 HB3 HOW3 HLT3 g9 hhd hcd
  generalize hSH:str H=SH at *
  go_wp2_with fail
  refine((unhide H6) _).mono ?_
  rintro e w5 ⟨rfl,rfl⟩
  go_wp2_with fail
  refine(unhide H7).mono ?_
  rintro e w6 ⟨O6,rfl,hown6,hb6⟩
  obtain⟨o6a,o6n,o6c,hO6⟩:=aae hown6
  subst hO6
  have hcv6:=hown6.conv
  have HB6:=aab ((unhide HB4).trans (hb6.mono (by omega:w.heap.size≤w.heap.size+1)))
  clear hown6 hb6 hcv
  have HY:=(unhide HYES)
  rw[unhide HSB]at HY
  have HY':=aab HY
  clear HY HYES HNO HSB HHB
  generalize hST:str (H++two8 C)=ST at *
  go_wp2
  exact(unhide HY') _ (unhide HB6) (unhide HRR)
 ·go_wp2
  exact⟨rfl,(unhide HNO) _ (((Below.refl _ _).alloc (Nat.le_refl _) _).trans (hb1.mono (by simp))) hnr⟩
end Go.Proofs.YtblomippkddgiaaGreatDoor
