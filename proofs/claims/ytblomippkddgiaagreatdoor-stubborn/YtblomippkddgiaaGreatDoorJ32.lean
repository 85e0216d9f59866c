import Derived.Test.YtblomippkddgiaaGreatDoorJ31
set_option maxRecDepth 100000
set_option maxHeartbeats 4000000
namespace Go.Proofs.YtblomippkddgiaaGreatDoor
open Go.RowKit
def aa8(G:R.Wd)(i:Nat)(u:List Int):Nat→R.Wd
 |0=>G
 |k+1=>aap (aa8 G i u k) i ((u[k]?).getD 0)
theorem abT(G:R.Wd)(i:Nat)(u:List Int)(n:List UInt8):∀k,aar (aa8 G i u k) n=aar G n
 |0=>rfl
 |k+1=>abT G i u n k
theorem adf(G:R.Wd)(i:Nat)(u:List Int)(n:Int):∀k,aan (aa8 G i u k) n=aan G n
 |0=>rfl
 |k+1=>adf G i u n k
theorem acZ(G:R.Wd)(i:Nat)(u:List Int):∀k,(aa8 G i u k).clients.length=G.clients.length
 |0=>rfl
 |k+1=>by
  show (aap (aa8 G i u k) i _).clients.length=_
  rw[←acZ G i u k]
  simp[aap]
theorem arn:∀args w,(callFunc 62 args).run Tryz.prog w=.ok (.enter 62 args) w:=fun _ _=>rfl
theorem anI(w0:World)(q:RP)(p:Pl)(c:R.Cf)(s:RS)(G:R.Wd)(w:World)(i:Nat)(h:Both w0 q p c s G w)(hi:i<G.clients.length)(hul:s.uid.length=3)(hst:∀k,k<3→∃u,s.uid[k]?=some u∧aar G (aaW k)=some u∧aan G u=(k:Int)) :
  Calls Tryz.prog 29 #[ptr q.r,.int .i64 (i:Int)] w fun e w'=>e=.returned (.bool true)∧Both w0 q p c s (aa8 G i s.uid 3) w':=by
 have HH:=aab h
 have HST:Hid (∀k,k<3→∃u,s.uid[k]?=some u∧aar G (aaW k)=some u∧aan G u=(k:Int)):=hst
 have H39:Hid (∀k wr u,k<3→Both w0 q p c s (aa8 G i s.uid k) wr→s.uid[k]?=some u→aar G (aaW k)=some u→aan G u=(k:Int)→Calls Tryz.prog 62 #[ptr q.x,.int .i64 (i:Int),.string (str (aaW k))] wr.drew fun e w'=>e=.returned (.tuple #[.int .i64 u,.int .i64 (k:Int),.int .i64 0])∧Both w0 q p c s (aa8 G i s.uid (k+1)) w'):=fun k wr u hk hB h1 h2 h3=>by
  have hd:=hB.still (Below.refl wr.heap.size wr).drew
  obtain⟨tp,E,F,hr,hw,hdj,hlo⟩:=hd.run
  rw[hB.x]
  have hlt:i<(aa8 G i s.uid k).clients.length:=by rw[acZ];exact hi
  have:=hw.import (name:=aaW k) (uid:=u) (List.getElem?_eq_getElem hlt) (by have:=am9 k;omega) (by rw[abT];exact h2)
  rw[adf,h3]at this
  refine this.mono ?_
  rintro e w' ⟨rfl,q1,q2⟩
  refine⟨rfl,?_⟩
  show Both w0 q p c s (aap (aa8 G i s.uid k) i ((s.uid[k]?).getD 0)) w'
  rw[h1]
  exact hd.world hr hdj hlo q1 q2
 have hxx:=h.cells.a0
 clear h hst
 go_enter Tryz.func29,Tryz.ntmps29
 go_wp2
 go_loopw [5] (fun kv wr=>∃k:Nat,k≤3∧kv=.int .i64 k∧Both w0 q p c s (aa8 G i s.uid k) wr) (fun kv _=>3-(intOf kv).toNat)
 case atStart=>exact⟨0,by omega,rfl,unhide HH⟩
 case round=>
  obtain⟨k,hk,rfl,hB⟩:=hrel
  by_cases hlt:k<3
  ·obtain⟨u,u1,u2,u3⟩:=(unhide HST) k hlt
   have HC:=aab ((unhide H39) k wr u hlt hB u1 u2 u3)
   have HNA:=aab (ah4 k hlt)
   have b0:=hB.cells.a0
   have hlr:=hB.cells.ltr
   have hkn:(k:Int)<(s.uid.length:Int):=by omega
   have hkn2:k<s.uid.length:=by omega
   have U1:=aab u1
   clear hB u1 u2 u3 hxx
   generalize str (aaW k)=SN at *
   go_wp2
   go_region_law (first
    |(refine aak rfl 61 #[.tmp 19] #[3] rfl aq9 #[.int .i64 (k:Int)] rfl _ ((unhide HNA) _) ?_;rintro e w1 ⟨rfl,hw1⟩;rw[hw1];clear hw1;refine⟨_,rfl,?_⟩)
    |(refine aak rfl 62 #[.tmp 17,.tmp 18,.tmp 20] #[34,3,9] rfl arn #[ptr q.x,.int .i64 (i:Int),.string SN] rfl _ (unhide HC) ?_;rintro e w2 ⟨rfl,hB2⟩;have HB2:=aab hB2;have c8:=hB2.cells.a8;have cu:=hB2.cells.u k u (unhide U1);clear hB2;refine⟨_,rfl,?_⟩))
   all_goals
    go_wp2
    go_roundw
    case rel=>exact⟨k+1,by omega,by go_num,unhide HB2⟩
    case measure=>simp[intOf];omega
  ·obtain rfl:k=3:=by omega
   go_wp2
   go_returns
   exact⟨rfl,hB⟩
def ada(c:R.Cf):Nat→R.Wd
 |0=>abJ c
 |k+1=>aax (ada c k) (aaW k) k
def ac0(k:Nat):List Int:=[if 0<k then 1 else 0,if 1<k then 2 else 0,if 2<k then 3 else 0]
theorem al5(k:Nat):(ac0 k).length=3:=rfl
theorem an9{k:Nat}(h:k<3):(ac0 k)[k]?=some 0:=by
 have h3:k=0∨k=1∨k=2:=by omega
 rcases h3 with rfl|rfl|rfl <;> rfl
theorem al4{k:Nat}(h:k<3):(ac0 k).set k ((k:Int)+1)=ac0 (k+1):=by
 have h3:k=0∨k=1∨k=2:=by omega
 rcases h3 with rfl|rfl|rfl <;> rfl
theorem expG_names(c:R.Cf):∀k,(ada c k).names=(List.range k).map aaW
 |0=>rfl
 |k+1=>by
  show (ada c k).names++[aaW k]=_
  rw[expG_names c k,List.range_succ,List.map_append]
  rfl
theorem expG_services(c:R.Cf):∀k,(ada c k).services=(List.range k).map fun (i:Nat)=>(⟨(i:Int),true,[]⟩:R.Sv)
 |0=>rfl
 |k+1=>by
  show (ada c k).services++[⟨(k:Int),true,[]⟩]=_
  rw[expG_services c k,List.range_succ,List.map_append]
  rfl
theorem aee(c:R.Cf):∀k,(ada c k).stands=(List.range k).map fun (i:Nat)=>(i:Int)+1
 |0=>rfl
 |k+1=>by
  show (ada c k).stands++[((ada c k).services.length:Int)+1]=_
  rw[aee c k,expG_services,List.range_succ,List.map_append]
  simp
theorem adt(c:R.Cf):∀k,(ada c k).clients=(abJ c).clients
 |0=>rfl
 |k+1=>adt c k
theorem expG_new(c:R.Cf){k:Nat}(h:k<3):¬aaW k∈(ada c k).names:=by
 rw[expG_names]
 intro hm
 obtain⟨i,hi,e⟩:=List.mem_map.1 hm
 have hik:=List.mem_range.1 hi
 have:=ana (by omega) h e
 omega
theorem ac9(c:R.Cf){k:Nat}(h:k<3):aar (ada c 3) (aaW k)=some ((k:Int)+1):=by
 unfold aar R.entryP
 rw[expG_names,aee]
 have h3:k=0∨k=1∨k=2:=by omega
 rcases h3 with rfl|rfl|rfl <;> rfl
theorem agb(c:R.Cf){k:Nat}(h:k<3):aan (ada c 3) ((k:Int)+1)=(k:Int):=by
 unfold aan
 rw[expG_services]
 have h3:k=0∨k=1∨k=2:=by omega
 rcases h3 with rfl|rfl|rfl <;> rfl
def bndG(c:R.Cf):Nat→R.Wd
 |0=>ada c 3
 |i+1=>aa8 (bndG c i) i (ac0 3) 3
theorem acr(c:R.Cf)(n:List UInt8):∀i,aar (bndG c i) n=aar (ada c 3) n
 |0=>rfl
 |i+1=>(abT _ _ _ n 3).trans (acr c n i)
theorem ael(c:R.Cf)(n:Int):∀i,aan (bndG c i) n=aan (ada c 3) n
 |0=>rfl
 |i+1=>(adf _ _ _ n 3).trans (ael c n i)
theorem abE(c:R.Cf):∀i,(bndG c i).clients.length=(abJ c).clients.length
 |0=>by show (ada c 3).clients.length=_;rw[adt]
 |i+1=>(acZ _ _ _ 3).trans (abE c i)
theorem ajD{w0 W W4:World}{p:Pl}{F:aai}{c:R.Cf}{r lf sq ud:Nat}{N:Nat}(hw:LW p F (abJ c) W)(hF:∀k,F k→w0.heap.size≤k)(hb0:Below w0.heap.size w0 W)(ht:acG W)(hp:0<w0.heap.size)(hb:Below W.heap.size W W4)
  (h1:W4.heap[r]?=some (.cells (acv ⟨r,p.x,lf,sq,ud⟩ c ⟨List.replicate N 0,List.replicate (3*N) 0,ac0 0,0,.slice none 0 0,.slice none 0 0,.slice none 0 0,[],[],[]⟩) 38 (0,0)))
  (h2:W4.heap[lf]?=some (.cells (ints (List.replicate N 0)).toArray 3 (0,0))) (h3:W4.heap[sq]?=some (.cells (ints (List.replicate (3*N) 0)).toArray 3 (0,0))) (h4:W4.heap[ud]?=some (.cells (ints [0,0,0]).toArray 3 (0,0)))
  (g1:W.heap.size≤r) (g2:W.heap.size≤lf) (g3:W.heap.size≤sq) (g4:W.heap.size≤ud) (n1:lf≠sq) (n2:lf≠ud) (n3:sq≠ud) :
  Both w0 ⟨r,p.x,lf,sq,ud⟩ p c ⟨List.replicate N 0,List.replicate (3*N) 0,ac0 0,0,.slice none 0 0,.slice none 0 0,.slice none 0 0,[],[],[]⟩ (abJ c) W4:=by
 have s0:=hb0.size
 have s1:=hb.size
 refine⟨⟨p.t,fun k=>W.heap.size≤k∧k<W4.heap.size,F,⟨h1,h2,h3,h4,World.ownsRow_nil _ _ _ _,World.ownsRow_nil _ _ _ _,World.ownsRow_nil _ _ _ _,by simp,⟨⟨g1,lt_of_block h1⟩,⟨g2,lt_of_block h2⟩,⟨g3,lt_of_block h3⟩,⟨g4,lt_of_block h4⟩⟩,fun j hj=>?_,⟨n1,n2,n3⟩,?_,?_,(fun j hj=>by cases hj),(fun k hk=>hk.2)⟩,hw.below hb,fun k hk hf=>?_,fun k hk=>?_⟩,rfl,ht.below hb,hb0.trans (hb.mono s0),hp⟩
 ·rcases hj with e|e|e <;> cases e
 ·refine⟨fun e=>?_,fun e=>?_,fun e=>?_⟩ <;> cases e
 ·refine⟨fun e=>?_,fun e=>?_,fun e=>?_⟩ <;> cases e
 ·have:=hw.lt k hf
  omega
 ·rcases hk with hk|hk
  ·omega
  ·exact hF k hk
theorem aal{W:World}{a b c d:Obj}:((((W.alloc a).alloc b).alloc c).alloc d).drew.heap[W.heap.size]?=some a∧((((W.alloc a).alloc b).alloc c).alloc d).drew.heap[W.heap.size+1]?=some b∧((((W.alloc a).alloc b).alloc c).alloc d).drew.heap[W.heap.size+1+1]?=some c∧((((W.alloc a).alloc b).alloc c).alloc d).drew.heap[W.heap.size+1+1+1]?=some d∧Below W.heap.size W ((((W.alloc a).alloc b).alloc c).alloc d).drew:=by
 have e1:(W.alloc a).heap.size=W.heap.size+1:=by simp
 have e2:((W.alloc a).alloc b).heap.size=W.heap.size+1+1:=by simp
 have e3:(((W.alloc a).alloc b).alloc c).heap.size=W.heap.size+1+1+1:=by simp
 refine⟨?_,?_,?_,?_,?_⟩
 ·rw[abS,Below.heap_alloc _ _ _ (by omega),Below.heap_alloc _ _ _ (by omega),Below.heap_alloc _ _ _ (by omega)]
  exact aaR _ _ rfl
 ·rw[abS,Below.heap_alloc _ _ _ (by omega),Below.heap_alloc _ _ _ (by omega)]
  exact aaR _ _ e1
 ·rw[abS,Below.heap_alloc _ _ _ (by omega)]
  exact aaR _ _ e2
 ·rw[abS]
  exact aaR _ _ e3
 ·exact((((Below.refl _ _).alloc (Nat.le_refl _) _).alloc (by omega) _).alloc (by omega) _ |>.alloc (by omega) _).drew
theorem aea(n:Nat)(hn:n=1∨n=2∨n=3∨n=6∨n=9)(W:World):(Instr.makeSlice 35 (.int .i64 (n:Int)) (.int .i64 (n:Int))).run Tryz.prog W=.ok (.slice (some ⟨W.heap.size,0,none⟩) n n) (W.alloc (.cells (ints (List.replicate n 0)).toArray 3)):=by
 rcases hn with rfl|rfl|rfl|rfl|rfl
 ·show _=_
  kernel_rfl
 ·show _=_
  kernel_rfl
 ·show _=_
  kernel_rfl
 ·show _=_
  kernel_rfl
 ·show _=_
  kernel_rfl
def acF(k:Nat):List Int:=List.replicate k (-1)
def adB(k:Nat):List Int:=(List.range k).map fun (i:Nat)=>(i:Int)
theorem ajv(k:Nat):acF k++[-1]=acF (k+1):=by simp[acF,List.replicate_succ']
theorem ajb(k:Nat):adB k++[(k:Int)]=adB (k+1):=by simp[adB,List.range_succ]
theorem alq(k:Nat):(acF k).length=k:=by simp[acF]
theorem akX(k:Nat):(adB k).length=k:=by simp[adB]
theorem aou{L:List Int}{N:Nat}(h:L.length=N)(h1:∀j,j<N→L[j]?=some 1):L=List.replicate N 1:=by
 refine List.ext_getElem? (fun j=>?_)
 by_cases hj:j<N
 ·rw[h1 j hj,List.getElem?_replicate,if_pos hj]
 ·rw[List.getElem?_eq_none (by omega),List.getElem?_eq_none (by simp;omega)]
theorem ajE{w0 W W4:World}{p:Pl}{F:aai}{c:R.Cf}{r lf sq ud:Nat}{N:Nat}{LA LB LC:Array Value}(hA:LA=(ints (List.replicate N 0)).toArray)(hB:LB=(ints (List.replicate (3*N) 0)).toArray)(hC:LC=(ints (List.replicate 3 0)).toArray)(hw:LW p F (abJ c) W)(hF:∀k,F k→w0.heap.size≤k)(hb0:Below w0.heap.size w0 W)(ht:acG W)(hp:0<w0.heap.size)(hb:Below W.heap.size W W4)
  (h1:W4.heap[r]?=some (.cells #[ptr p.x,.int .i64 c.clients,.int .i64 c.lines,.int .i64 c.retry,.int .i64 c.tries,.int .i64 c.table,.slice (some ⟨lf,0,none⟩) N N,.slice (some ⟨sq,0,none⟩) (3*N) (3*N),.slice (some ⟨ud,0,none⟩) 3 3,.slice none 0 0,.int .i64 0,.slice none 0 0,.slice none 0 0] 38 (0,0)))
  (h2:W4.heap[lf]?=some (.cells LA 3 (0,0))) (h3:W4.heap[sq]?=some (.cells LB 3 (0,0))) (h4:W4.heap[ud]?=some (.cells LC 3 (0,0)))
  (g1:W.heap.size≤r) (g2:W.heap.size≤lf) (g3:W.heap.size≤sq) (g4:W.heap.size≤ud) (n1:lf≠sq) (n2:lf≠ud) (n3:sq≠ud) :
  ∃q,q.r=r∧q.x=p.x∧∃L,L.length=N∧Both w0 q p c ⟨L,List.replicate (3*N) 0,ac0 0,0,.slice none 0 0,.slice none 0 0,.slice none 0 0,[],[],[]⟩ (abJ c) W4:=by
 refine⟨_,rfl,rfl,List.replicate N 0,by simp,ajD hw hF hb0 ht hp hb (by rw[h1];simp[acv,ac0]) (by rw[h2,hA]) (by rw[h3,hB]) (by rw[h4,hC];rfl) g1 g2 g3 g4 n1 n2 n3⟩
theorem Both.base{w0 wB:World}{q:RP}{p:Pl}{c:R.Cf}{s:RS}{G:R.Wd}{w:World}(h:Both wB q p c s G w)(hb:Below w0.heap.size w0 wB)(hp:0<w0.heap.size):Both w0 q p c s G w:=by
 obtain⟨tp,E,F,hr,hw,hd,hlo⟩:=h.run
 have:=hb.size
 exact⟨⟨tp,E,F,hr,hw,hd,fun k hk=>by have:=hlo k hk;omega⟩,h.x,h.t0,hb.trans (h.below.mono hb.size),hp⟩
theorem abG{f:World→Prop}{W:World}(P:World→Prop)(hP:P W)(h:∀W',P W'→f W'):f W:=h W hP
theorem alE(w0 w:World)(c:R.Cf)(hc:R.okCf c)(hb0:Below w0.heap.size w0 w)(ht:acG w)(hp:0<w0.heap.size) :
  Calls Tryz.prog 10 #[cfv c.clients c.lines c.retry c.tries c.table] w fun e w'=>∃q p D K,e=.returned (ptr q.r)∧Both w0 q p c ⟨List.replicate c.clients.toNat 1,List.replicate (3*c.clients.toNat) 0,ac0 3,3,.slice none 0 0,D,K,[],acF 3,adB 3⟩ (bndG c c.clients.toNat) w':=by
 have HNW:=aab (fun w=>aoA w c hc)
 have hc':=hc
 unfold R.okCf at hc'
 obtain⟨N,hN⟩:∃N:Nat,c.clients=(N:Int):=⟨c.clients.toNat,by omega⟩
 have hN2:c.clients.toNat=N:=by omega
 have hlenC:(abJ c).clients.length=N:=by simp[abJ,hN2]
 rw[hN2]
 have hN3:N=1∨N=2∨N=3:=by omega
 have hm1:=aea N (by omega)
 have hm2:=aea (3*N) (by omega)
 have hm3:=aea 3 (by omega)
 rw[show ((3*N:Nat):Int)=3*(N:Int) by omega]at hm2
 rw[show ((3:Nat):Int)=3 from rfl]at hm3
 have e3:IntKind.i64.wrap (3*(N:Int))=3*(N:Int):=by rw[IntKind.wrap_i64];omega
 obtain⟨LA,hLA⟩:∃LA,LA=(ints (List.replicate N 0)).toArray:=⟨_,rfl⟩
 obtain⟨LB,hLB⟩:∃LB,LB=(ints (List.replicate (3*N) 0)).toArray:=⟨_,rfl⟩
 obtain⟨LC,hLC⟩:∃LC,LC=(ints (List.replicate 3 0)).toArray:=⟨_,rfl⟩
 rw[←hLA]at hm1
 rw[←hLB]at hm2
 rw[←hLC]at hm3
 have HBG:Hid (∀{wB:World} {p:Pl} {F:aai} {W W4:World} {r lf sq ud:Nat},LW p F (abJ c) W→0<wB.heap.size→(∀k,F k→wB.heap.size≤k)→Below wB.heap.size wB W→acG W→Below W.heap.size W W4→W4.heap[r]?=some (.cells #[ptr p.x,.int .i64 (N:Int),.int .i64 c.lines,.int .i64 c.retry,.int .i64 c.tries,.int .i64 c.table,.slice (some ⟨lf,0,none⟩) N N,.slice (some ⟨sq,0,none⟩) (3*N) (3*N),.slice (some ⟨ud,0,none⟩) 3 3,.slice none 0 0,.int .i64 0,.slice none 0 0,.slice none 0 0] 38 (0,0))→W4.heap[lf]?=some (.cells LA 3 (0,0))→W4.heap[sq]?=some (.cells LB 3 (0,0))→W4.heap[ud]?=some (.cells LC 3 (0,0))→W.heap.size≤r→W.heap.size≤lf→W.heap.size≤sq→W.heap.size≤ud→lf≠sq→lf≠ud→sq≠ud→∃q,q.r=r∧q.x=p.x∧∃L,L.length=N∧Both wB q p c ⟨L,List.replicate (3*N) 0,ac0 0,0,.slice none 0 0,.slice none 0 0,.slice none 0 0,[],[],[]⟩ (abJ c) W4):=
  fun {wB p F W W4 r lf sq ud} a1 a0 a2 a3 a4 a5 a6=>ajE hLA hLB hLC a1 a2 a3 a4 a0 a5 (by rw[hN];exact a6)
 rw[hN]at HNW
 rw[hN]
 have H20:Hid (∀(wB:World) (q:RP) (p:Pl) (L:List Int) (D K:Value) (k:Nat) (wr:World),k<3→Both wB q p c ⟨L,List.replicate (3*N) 0,ac0 k,(k:Int),.slice none 0 0,D,K,[],acF k,adB k⟩ (ada c k) wr→Calls Tryz.prog 28 #[ptr q.r,.int .i64 (k:Int)] wr fun e w'=>e=.returned (.bool true)∧∃D K,Both wB q p c ⟨L,List.replicate (3*N) 0,ac0 (k+1),((k+1:Nat):Int),.slice none 0 0,D,K,[],acF (k+1),adB (k+1)⟩ (ada c (k+1)) w'):=fun wB q p L D K k wr hk hB=>by
  have:=aho wB q p c _ _ wr k hk hB (al5 k) (an9 hk) (by simp[expG_services]) (expG_new c hk) (by rw[expG_names];simp;omega) (by rw[expG_services];simp;omega) (by simp only[alq];omega) (by simp only[akX];omega)
  simp only[al4 hk,ajv,ajb]at this
  rw[show ((k+1:Nat):Int)=(k:Int)+1 by omega]
  exact this
 have H21:Hid (∀(wB:World) (q:RP) (p:Pl) (s:RS) (i:Nat) (wr:World),i<N→s.uid=ac0 3→Both wB q p c s (bndG c i) wr→Calls Tryz.prog 29 #[ptr q.r,.int .i64 (i:Int)] wr fun e w'=>e=.returned (.bool true)∧Both wB q p c s (bndG c (i+1)) w'):=fun wB q p s i wr hi hu hB=>by
  have:=anI wB q p c s (bndG c i) wr i hB (by rw[abE,hlenC];exact hi) (by rw[hu];rfl) (fun k hk=>⟨(k:Int)+1,by
   rw[hu]
   have h3:k=0∨k=1∨k=2:=by omega
   rcases h3 with rfl|rfl|rfl <;> rfl,by rw[acr];exact ac9 c hk,by rw[ael];exact agb c hk⟩)
  rw[hu]at this
  exact this
 have HCL:=aab hlenC
 clear hLA hLB hLC hc hN2 hN3 hlenC
 obtain⟨cl,ln,rt,tr,tb⟩:=c
 simp only at hN hc' HNW HBG ⊢
 subst hN
 obtain⟨BX,hBX⟩:∃BX,w.alloc (.cells #[.int .i64 (N:Int),.int .i64 ln,.int .i64 rt,.int .i64 tr,.int .i64 tb] 26)=BX:=⟨_,rfl⟩
 have HB:Hid (Below w.heap.size w BX):=by
  rw[←hBX]
  exact(Below.refl _ _).alloc (Nat.le_refl _) _
 have hbx:BX.heap[w.heap.size]?=some (.cells #[.int .i64 (N:Int),.int .i64 ln,.int .i64 rt,.int .i64 tr,.int .i64 tb] 26 (0,0)):=by
  rw[←hBX]
  exact heap_alloc_new w _
 have hlx:=lt_of_block hbx
 have k0:BX.cell? ⟨w.heap.size,0,none⟩=some (.int .i64 (N:Int)):=aaa hbx 0 _ rfl
 have HK0:=aab k0
 clear k0
 have HBX:=aab hBX
 have HCB:=aab hbx
 have HB0:=aab hb0
 have HT:=aab ht
 clear hBX hbx hb0 ht
 go_enter Tryz.func10,Tryz.ntmps10
 go_wp2_with fail
 rw[unhide HBX]
 refine((unhide HNW) _).mono ?_
 rintro e w1 ⟨p,F,rfl,hW,hF,hb1⟩
 have HC1:=aab ((hb1.block w.heap.size hlx).trans (unhide HCB))
 have c0:w1.cell? ⟨w.heap.size,0,none⟩=some (.int .i64 (N:Int)):=aaa (unhide HC1) 0 _ rfl
 have c1:w1.cell? ⟨w.heap.size,1,none⟩=some (.int .i64 ln):=aaa (unhide HC1) 1 _ rfl
 have c2:w1.cell? ⟨w.heap.size,2,none⟩=some (.int .i64 rt):=aaa (unhide HC1) 2 _ rfl
 have c3:w1.cell? ⟨w.heap.size,3,none⟩=some (.int .i64 tr):=aaa (unhide HC1) 3 _ rfl
 have c4:w1.cell? ⟨w.heap.size,4,none⟩=some (.int .i64 tb):=aaa (unhide HC1) 4 _ rfl
 have m0:=lt_of_block (unhide HC1)
 have H10:=aab hb1
 have HT1:=aab (((unhide HT).below (unhide HB)).below hb1)
 have HFF:=aab hF
 have hpB:0<BX.heap.size:=Nat.lt_of_le_of_lt (Nat.zero_le _) hlx
 have HW1:=aab hW
 have hq:∀w,(binOp .eql 34 (ptr p.x) (.pointer none)).run Tryz.prog w=.ok (.bool false) w:=fun w=>by kernel_rfl
 clear hb1 hF hW HNW
 have HKP:Hid (∀w',Below w1.heap.size w1 w'→w'.cell? ⟨w.heap.size,0,none⟩=some (.int .i64 (N:Int))∧w'.cell? ⟨w.heap.size,1,none⟩=some (.int .i64 ln)∧w'.cell? ⟨w.heap.size,2,none⟩=some (.int .i64 rt)∧w'.cell? ⟨w.heap.size,3,none⟩=some (.int .i64 tr)∧w'.cell? ⟨w.heap.size,4,none⟩=some (.int .i64 tb)):=fun w' hb=>⟨(hb.cell (p:=⟨w.heap.size,0,none⟩) m0).trans c0,(hb.cell (p:=⟨w.heap.size,1,none⟩) m0).trans c1,(hb.cell (p:=⟨w.heap.size,2,none⟩) m0).trans c2,(hb.cell (p:=⟨w.heap.size,3,none⟩) m0).trans c3,(hb.cell (p:=⟨w.heap.size,4,none⟩) m0).trans c4⟩
 go_wp2
 go_region_held3 (fun w'=>w'.cell? ⟨w.heap.size,0,none⟩=some (.int .i64 (N:Int))∧w'.cell? ⟨w.heap.size,1,none⟩=some (.int .i64 ln)∧w'.cell? ⟨w.heap.size,2,none⟩=some (.int .i64 rt)∧w'.cell? ⟨w.heap.size,3,none⟩=some (.int .i64 tr)∧w'.cell? ⟨w.heap.size,4,none⟩=some (.int .i64 tb)) ((refine(unhide HKP) _ ?_;repeat (first|exact Below.refl _ _|refine Below.drew ?_|refine Below.alloc ?_ (by simp;try omega) _))) (fail)
 all_goals
  refine abG (fun W=>∃q:RP,q.r=w1.heap.size+1+1+1∧q.x=p.x∧∃L:List Int,L.length=N∧Both BX q p ⟨(N:Int),ln,rt,tr,tb⟩ ⟨L,List.replicate (3*N) 0,ac0 0,0,.slice none 0 0,.slice none 0 0,.slice none 0 0,[],[],[]⟩ (abJ ⟨(N:Int),ln,rt,tr,tb⟩) W) ?_ ?_
  ·first
    |exact(unhide HBG) (unhide HW1) hpB (unhide HFF) (unhide H10) (unhide HT1) aal.2.2.2.2 aal.2.2.2.1 aal.1 aal.2.1 aal.2.2.1 (by omega) (by omega) (by omega) (by omega) (by omega) (by omega) (by omega)
    |exact(unhide HBG) (unhide HW1) hpB (unhide HFF) (unhide H10) (unhide HT1) aal.2.2.2.2 aal.2.2.2.1 aal.1 aal.2.2.1 aal.2.1 (by omega) (by omega) (by omega) (by omega) (by omega) (by omega) (by omega)
    |exact(unhide HBG) (unhide HW1) hpB (unhide HFF) (unhide H10) (unhide HT1) aal.2.2.2.2 aal.2.2.2.1 aal.2.1 aal.1 aal.2.2.1 (by omega) (by omega) (by omega) (by omega) (by omega) (by omega) (by omega)
    |exact(unhide HBG) (unhide HW1) hpB (unhide HFF) (unhide H10) (unhide HT1) aal.2.2.2.2 aal.2.2.2.1 aal.2.1 aal.2.2.1 aal.1 (by omega) (by omega) (by omega) (by omega) (by omega) (by omega) (by omega)
    |exact(unhide HBG) (unhide HW1) hpB (unhide HFF) (unhide H10) (unhide HT1) aal.2.2.2.2 aal.2.2.2.1 aal.2.2.1 aal.1 aal.2.1 (by omega) (by omega) (by omega) (by omega) (by omega) (by omega) (by omega)
    |exact(unhide HBG) (unhide HW1) hpB (unhide HFF) (unhide H10) (unhide HT1) aal.2.2.2.2 aal.2.2.2.1 aal.2.2.1 aal.2.1 aal.1 (by omega) (by omega) (by omega) (by omega) (by omega) (by omega) (by omega)
  ·clear c0 c1 c2 c3 c4 HKP hm1 hm2 hm3 HW1 HFF H10 HT1 HC1 m0
   rintro W4 ⟨q,hqr,hqx,L,hL,hBo⟩
   rw[←hqr]
   have HBo:=aab hBo
   have HL0:=aab hL
   have HA0:Hid (∀s G wr,Both BX q p ⟨(N:Int),ln,rt,tr,tb⟩ s G wr→wr.cell? ⟨w.heap.size,0,none⟩=some (.int .i64 (N:Int))):=fun s G wr hB=>(hB.below.cell (p:=⟨w.heap.size,0,none⟩) hlx).trans (unhide HK0)
   have hcA:=(unhide HA0) _ _ _ hBo
   clear hBo hL hqr hqx HBG
   go_wp2
   go_loopw [6] (fun iv wr=>∃(i:Nat) (L:List Int),i≤N∧iv=.int .i64 i∧(L.length=N∧∀j,j<i→L[j]?=some 1)∧Both BX q p ⟨(N:Int),ln,rt,tr,tb⟩ ⟨L,List.replicate (3*N) 0,ac0 0,0,.slice none 0 0,.slice none 0 0,.slice none 0 0,[],[],[]⟩ (abJ ⟨(N:Int),ln,rt,tr,tb⟩) wr) (fun iv _=>N-(intOf iv).toNat)
   case atStart=>exact⟨0,L,Nat.zero_le _,rfl,⟨unhide HL0,fun j hj=>by omega⟩,unhide HBo⟩
   case round=>
    obtain⟨i,L1,hi,rfl,⟨hL1,hO1⟩,hB⟩:=hrel
    have HO1:Hid (∀j,j<i→L1[j]?=some 1):=hO1
    clear hO1
    have hA1:=(unhide HA0) _ _ _ hB
    by_cases hlt:i<N
    ·have y6:=hB.cells.a6
     obtain⟨x0,hx0⟩:∃x0,L1[i]?=some x0:=⟨_,List.getElem?_eq_getElem (by omega)⟩
     have yl:=hB.cells.lf i x0 hx0
     have yz:=hB.cells.zl i
     have yr:=hB.cells.ltr
     simp only[hL1]at y6
     have HB2:=aab (hB.putL i 1)
     have hlf:=lt_of_cell yl
     have HL1:=aab hL1
     clear hB hL1 hcA hx0
     go_wp2
     go_roundw
     case rel=>exact⟨i+1,L1.set i 1,by omega,by go_num,⟨by simpa using unhide HL1,fun j hj=>by
      rw[List.getElem?_set]
      split
      ·rw[if_pos (by have:=unhide HL1;omega)]
      ·exact(unhide HO1) j (by omega)⟩,unhide HB2⟩
     case measure=>simp[intOf];omega
    ·obtain rfl:i=N:=by omega
     have hLr:=aou hL1 (unhide HO1)
     rw[hLr]at hB
     have HB3:=aab hB
     clear hB hL1 hcA HO1 hLr L1
     go_wp2
     go_loopw [7] (fun kv wr=>∃(k:Nat) (D K:Value),k≤3∧kv=.int .i64 k∧Both BX q p ⟨(i:Int),ln,rt,tr,tb⟩ ⟨List.replicate i 1,List.replicate (3*i) 0,ac0 k,(k:Int),.slice none 0 0,D,K,[],acF k,adB k⟩ (ada ⟨(i:Int),ln,rt,tr,tb⟩ k) wr) (fun kv _=>3-(intOf kv).toNat)
     case atStart=>exact⟨0,_,_,by omega,rfl,unhide HB3⟩
     case round=>
      obtain⟨k,D,K,hk,rfl,hB⟩:=hrel
      by_cases hlt2:k<3
      ·have HC:=aab ((unhide H20) BX q p _ D K k _ hlt2 hB)
       clear hB hA1
       go_wp2_with (first|(go_at_call 28;refine(unhide HC).mono ?_;rintro e w5 ⟨rfl,D2,K2,hB2⟩))
       go_roundw
       case rel=>exact⟨k+1,D2,K2,by omega,by go_num,hB2⟩
       case measure=>simp[intOf];omega
      ·have hk3:k=3:=by omega
       have hA2:=(unhide HA0) _ _ _ hB
       rw[hk3]at hB
       have HB4:=aab hB
       clear hB hk3
       go_wp2
       go_loopw [9] (fun iv wr=>∃j:Nat,j≤i∧iv=.int .i64 j∧Both BX q p ⟨(i:Int),ln,rt,tr,tb⟩ ⟨List.replicate i 1,List.replicate (3*i) 0,ac0 3,3,.slice none 0 0,D,K,[],acF 3,adB 3⟩ (bndG ⟨(i:Int),ln,rt,tr,tb⟩ j) wr) (fun iv _=>i-(intOf iv).toNat)
       case atStart=>exact⟨0,Nat.zero_le _,rfl,unhide HB4⟩
       case round=>
        obtain⟨j,hj,rfl,hB⟩:=hrel
        have hA3:=(unhide HA0) _ _ _ hB
        by_cases hlt3:j<i
        ·have HC:=aab ((unhide H21) BX q p _ j _ hlt3 rfl hB)
         clear hB hA2
         go_wp2_with (first|(go_at_call 29;refine(unhide HC).mono ?_;rintro e w5 ⟨rfl,hB2⟩))
         go_roundw
         case rel=>exact⟨j+1,by omega,by go_num,hB2⟩
         case measure=>simp[intOf];omega
        ·obtain rfl:j=i:=by omega
         have HB5:=aab (hB.base ((unhide HB0).trans ((unhide HB).mono (unhide HB0).size)) hp)
         clear hB
         go_wp2
         go_returns
         exact⟨q,p,D,K,rfl,unhide HB5⟩
def e0:ByteArray:=⟨#[]⟩
structure Fits(T:ByteArray)(v:List V.It):Prop where
 chk:(V.Pt.chk (V.nx T) T.size).1=0
 zero:(V.mRes T v).1=0
 len:(V.mRes T v).2.length≤70
 few:v.length≤9000000000000
theorem ahl{T:ByteArray}{v:List V.It}{ks:List Bool}(hc:(V.Pt.chk (V.nx T) T.size).1=0)(he:V.eat (V.nx T) (T.size+1) 0 v=some (ks,[]))(hb:(V.bytesOf ks v).length≤70)(hf:v.length≤100):Fits T v:=by
 have e1:V.mRes T v=(0,V.bytesOf ks v):=by
  unfold V.mRes
  rw[if_pos hc,he]
  unfold V.wRes
  simp only
  rw[if_pos trivial,if_neg (by omega)]
 exact⟨hc,by rw[e1],by rw[e1];exact hb,by omega⟩
theorem acE{g:Nat→Nat}{f p:Nat}{n:Int}{r:List V.It}(h1:g p≠97)(h2:g p≠114)(h3:g p≠115)(h4:g p≠117)(h5:g p≠113)(hl:V.loOf (g p)≤n)(hh:n≤V.hiOf g f p):V.eat g (f+1) p ((n,e0) :: r)=some ([false],r):=by
 have e:V.headOf g f p ((n,e0) :: r)=some ([false],[],r):=by
  unfold V.headOf
  rw[if_neg h1,if_neg h2]
  simp only
  rw[if_neg h3,if_pos ⟨rfl,hl,hh⟩,if_neg h4,if_neg h5]
 show (match V.headOf g f p ((n,e0) :: r) with
  |none=>none
  |some (k0,qs,r)=>V.joinE k0 (V.seqE (V.eat g f) qs r))=_
 rw[e]
 rfl
theorem aqR{g:Nat→Nat}{f p:Nat}{n:Int}{r:List V.It}(h5:g p=113)(hl:0≤n)(hh:n≤V.hiOf g f p):V.eat g (f+1) p ((n,e0) :: r)=V.joinE [false] (V.seqE (V.eat g f) (List.replicate n.toNat (p+2)) r):=by
 have e:V.headOf g f p ((n,e0) :: r)=some ([false],List.replicate n.toNat (p+2),r):=by
  unfold V.headOf
  rw[if_neg (by omega),if_neg (by omega)]
  simp only
  rw[if_neg (by omega),if_pos ⟨rfl,by unfold V.loOf;rw[if_neg (by omega)];exact hl,hh⟩,if_neg (by omega),if_pos h5]
 show (match V.headOf g f p ((n,e0) :: r) with
  |none=>none
  |some (k0,qs,r)=>V.joinE k0 (V.seqE (V.eat g f) qs r))=_
 rw[e]
theorem aqQ{g:Nat→Nat}{f p:Nat}{v:List V.It}(h:g p=114):V.eat g (f+1) p v=V.joinE [] (V.seqE (V.eat g f) (V.Pt.kids g f p) v):=by
 have e:V.headOf g f p v=some ([],V.Pt.kids g f p,v):=by
  unfold V.headOf
  rw[if_neg (by omega),if_pos h]
 show (match V.headOf g f p v with
  |none=>none
  |some (k0,qs,r)=>V.joinE k0 (V.seqE (V.eat g f) qs r))=_
 rw[e]
theorem aqP{g:Nat→Nat}{f p:Nat}{S:ByteArray}{r:List V.It}(h3:g p=115)(hl:S.size≤14):V.eat g (f+1) p ((0,S) :: r)=some ([true],r):=by
 have e:V.headOf g f p ((0,S) :: r)=some ([true],[],r):=by
  unfold V.headOf
  rw[if_neg (by omega),if_neg (by omega)]
  simp only
  rw[if_pos h3,if_pos ⟨trivial,hl⟩]
 show (match V.headOf g f p ((0,S) :: r) with
  |none=>none
  |some (k0,qs,r)=>V.joinE k0 (V.seqE (V.eat g f) qs r))=_
 rw[e]
 rfl
theorem two_len(n:Int):(V.two8 n).length=2:=rfl
theorem enc_num(x:V.It):(V.enc8 false x).length=2:=rfl
theorem afu{T:ByteArray}{c:Nat}{n:Int}(hT:T.size=1)(hc:(V.Pt.chk (V.nx T) T.size).1=0)(g0:V.nx T 0=c)(hcc:c=105∨c=98∨c=99)(hl:V.loOf c≤n)(hh:n≤(if c=98 then 1 else if c=99 then 65535 else 32767)):Fits T [(n,e0)]:=by
 refine ahl (ks:=[false]) hc ?_ (by simp[V.bytesOf,enc_num]) (by simp)
 rw[hT]
 refine acE (by omega) (by omega) (by omega) (by omega) (by omega) (by rw[g0];exact hl) ?_
 unfold V.hiOf
 rw[g0]
 rcases hcc with rfl|rfl|rfl
 ·simpa using hh
 ·simpa using hh
 ·simpa using hh
theorem ap5{n:Int}(h:-32768≤n∧n≤32767):Fits ⟨#[105]⟩ [(n,e0)]:=afu (c:=105) rfl (by decide +kernel) (by decide +kernel) (by omega) (by unfold V.loOf;simp;omega) (by simp;omega)
theorem ap7{n:Int}(h:0≤n∧n≤1):Fits ⟨#[98]⟩ [(n,e0)]:=afu (c:=98) rfl (by decide +kernel) (by decide +kernel) (by omega) (by unfold V.loOf;simp;omega) (by simp;omega)
theorem ap6{n:Int}(h:0≤n∧n≤5):Fits ⟨#[99]⟩ [(n,e0)]:=afu (c:=99) rfl (by decide +kernel) (by decide +kernel) (by omega) (by unfold V.loOf;simp;omega) (by simp;omega)
theorem ap4{S:ByteArray}(h:S.size≤14):Fits ⟨#[115]⟩ [(0,S)]:=by
 refine ahl (ks:=[true]) (by decide +kernel) (aqP (by decide +kernel) h) ?_ (by simp)
 have hd:S.data.toList.length=S.size:=by simp
 simp only[V.bytesOf,V.enc8,if_true,List.append_nil,List.length_append,two_len,hd]
 split <;> simp <;> omega
abbrev deskT:ByteArray:=⟨#[114,40,101,51,113,51,105,41]⟩
theorem ald{a:Int}{L:List Int}(ha:0≤a∧a≤2)(hl:L.length≤3)(hL:∀x∈L,-32768≤x∧x≤32767):Fits deskT ((a,e0) :: ((L.length:Int),e0) :: L.map fun x=>(x,e0)):=by
 have g0:V.nx deskT 0=114:=by decide +kernel
 have g2:V.nx deskT 2=101:=by decide +kernel
 have g3:V.nx deskT 3=51:=by decide +kernel
 have g4:V.nx deskT 4=113:=by decide +kernel
 have g5:V.nx deskT 5=51:=by decide +kernel
 have g6:V.nx deskT 6=105:=by decide +kernel
 have hk:V.Pt.kids (V.nx deskT) 8 0=[2,4]:=by decide +kernel
 have e2:∀r,V.eat (V.nx deskT) 8 2 ((a,e0) :: r)=some ([false],r):=fun r=>acE (by omega) (by omega) (by omega) (by omega) (by omega) (by rw[g2];unfold V.loOf;simp;omega) (by unfold V.hiOf;rw[g2];simp only[show (2+1:Nat)=3 from rfl,g3];simp;omega)
 have e6:∀x r,x∈L→V.eat (V.nx deskT) 7 6 ((x,e0) :: r)=some ([false],r):=fun x r hx=>acE (by omega) (by omega) (by omega) (by omega) (by omega) (by have:=hL x hx;rw[g6];unfold V.loOf;simp;omega) (by have:=hL x hx;unfold V.hiOf;rw[g6];simp;omega)
 have es:∀M:List Int,(∀x∈M,x∈L)→V.seqE (V.eat (V.nx deskT) 7) (List.replicate M.length 6) (M.map fun x=>(x,e0))=some (List.replicate M.length false,[]):=fun M=>by
  induction M with
  |nil=>intro _;rfl
  |cons x M ih=>
   intro hM
   simp only[List.length_cons,List.replicate_succ,List.map_cons,V.seqE]
   rw[e6 x _ (hM x (by simp)),]
   simp only
   rw[ih (fun y hy=>hM y (by simp[hy]))]
   rfl
 have e4:V.eat (V.nx deskT) 8 4 (((L.length:Int),e0) :: L.map fun x=>(x,e0))=some (List.replicate (L.length+1) false,[]):=by
  rw[aqR g4 (by omega) (by unfold V.hiOf;rw[g4];simp only[show (4+1:Nat)=5 from rfl,g5];simp;omega),Int.toNat_natCast,es L (fun x hx=>hx)]
  simp[V.joinE,List.replicate_succ]
 have hall:V.eat (V.nx deskT) (deskT.size+1) 0 ((a,e0) :: ((L.length:Int),e0) :: L.map fun x=>(x,e0))=some (List.replicate (L.length+2) false,[]):=by
  show V.eat (V.nx deskT) (8+1) 0 _=_
  rw[aqQ g0,hk]
  simp only[V.seqE]
  rw[e2]
  simp only
  rw[e4]
  simp[V.joinE,List.replicate_succ]
 refine ahl (by decide +kernel) hall ?_ (by simp;omega)
 have hb:∀(v:List V.It) (n:Nat),(V.bytesOf (List.replicate n false) v).length≤2*n:=fun v=>by
  induction v with
  |nil=>intro n;cases n <;> simp[V.bytesOf,List.replicate_succ]
  |cons x v ih=>
   intro n
   cases n with
   |zero=>simp[V.bytesOf]
   |succ n=>
    simp only[List.replicate_succ,V.bytesOf,List.length_append,enc_num]
    have:=ih n
    omega
 have:=hb ((a,e0) :: ((L.length:Int),e0) :: L.map fun x=>(x,e0)) (L.length+2)
 omega
end Go.Proofs.YtblomippkddgiaaGreatDoor
