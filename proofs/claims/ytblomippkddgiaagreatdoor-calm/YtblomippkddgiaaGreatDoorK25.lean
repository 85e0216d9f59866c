import Derived.Test.YtblomippkddgiaaGreatDoorK24
set_option maxRecDepth 100000
set_option maxHeartbeats 1000000
namespace Go.Proofs.YtblomippkddgiaaGreatDoor
open Go.RowKit
theorem Zf:(Tryz.prog.info? 213).map (fun i=>(i.zero,i.size,i.bytes))=some (some (.agg #[.int .i64 0,.nilIface,.slice none 0 0]),3,48):=by kernel_rfl
def Em(kind:Int):TypeId:=if kind=0 then 328 else if kind=1 then 331 else 334
theorem Ut(w:World)(kind:Int)(hk:0<=kind/\kind<=2):Calls Tryz.prog 228 #[.int .i64 kind] w fun e w'=>e=.returned (.iface (Em kind) (ptr w.heap.size))/\Works w' (fun k=>k=w.heap.size) [] w.heap.size (.slice none 0 0) kind (.iface (Em kind) (ptr w.heap.size))/\Below w.heap.size w w'/\w.heap.size<w'.heap.size:=by
 have hc:kind=0\/kind=1\/kind=2:=by omega
 rcases hc with rfl|rfl|rfl
 ·have H:Hid (∀W,W=w.alloc (.cells #[.int .u16 0] 330)->Works W (fun k=>k=w.heap.size) [] w.heap.size (.slice none 0 0) 0 (.iface (Em 0) (ptr w.heap.size))/\Below w.heap.size w W/\w.heap.size<W.heap.size):=fun W hW=>by
   subst hW;exact⟨.counter rfl (heap_alloc_new w _) rfl,(Below.refl _ _).alloc (Nat.le_refl _) _,by simp⟩
  go_enter Tryz.func228,Tryz.ntmps228;go_wp2;go_returns;exact⟨rfl,(Aa H) _ rfl⟩
 ·have H:Hid (∀W,W=w.alloc (.cells #[.slice none 0 0] 333)->Works W (fun k=>k=w.heap.size) [] w.heap.size (.slice none 0 0) 1 (.iface (Em 1) (ptr w.heap.size))/\Below w.heap.size w W/\w.heap.size<W.heap.size):=fun W hW=>by
   subst hW;refine⟨.Fh rfl (heap_alloc_new w _) ⟨rfl,Or.inl ⟨rfl,rfl⟩⟩ (fun j hj=>by cases hj),(Below.refl _ _).alloc (Nat.le_refl _) _,by simp⟩
  go_enter Tryz.func228,Tryz.ntmps228;go_wp2;go_returns;exact⟨rfl,(Aa H) _ rfl⟩
 ·have H:Hid (∀W,W=w.alloc (.cells #[.slice none 0 0,.slice none 0 0,.slice none 0 0] 337)->Works W (fun k=>k=w.heap.size) [] w.heap.size (.slice none 0 0) 2 (.iface (Em 2) (ptr w.heap.size))/\Below w.heap.size w W/\w.heap.size<W.heap.size):=fun W hW=>by
   subst hW;exact⟨.IP _ _ _ rfl (heap_alloc_new w _) rfl (Or.inl ⟨rfl,none,rfl⟩) (Or.inl ⟨rfl,none,rfl⟩) (Or.inl ⟨rfl,none,rfl⟩),(Below.refl _ _).alloc (Nat.le_refl _) _,by simp⟩
  go_enter Tryz.func228,Tryz.ntmps228;go_wp2;go_returns;exact⟨rfl,(Aa H) _ rfl⟩
structure KI(w:World)(s:Nat)(cs:List Value)(K:Value)(m:Nat)(TF:List Value)(kind:Int)(K':Value)(w':World):Prop where
 cell:w'.heap[s]?=some (.cells (cs.set 6 K').toArray 167 (0,0))
 row:w'.ownsRow 0 213 3 K' (m+1) (TF++[.int .i64 kind,.iface (Em kind) (ptr w.heap.size),.slice none 0 0])
 wk:Works w' (fun k=>k=w.heap.size) [] w.heap.size (.slice none 0 0) kind (.iface (Em kind) (ptr w.heap.size))
 at':K'.ownBlock=K.ownBlock\/∃j,K'.ownBlock=some j/\w.heap.size<j
 keeps:Af (fun k=>k=s\/K.ownBlock=some k) w w'
theorem TV{w W V wz:World}{s m:Nat}{cs TF:List Value}{K K':Value}{kind:Int}{j0:Nat}(h:w.heap[s]?=some (.cells cs.toArray 167 (0,0)))(hrow:w.ownsRow 0 213 3 K m TF)(hb:Below w.heap.size w W)(hwk:Works W (fun k=>k=w.heap.size) [] w.heap.size (.slice none 0 0) kind (.iface (Em kind) (ptr w.heap.size)))(hsz:w.heap.size<W.heap.size)(hV:Below W.heap.size W V)
  (hg:V.grownBy wz K.ownBlock) (hown:wz.ownsRow 0 213 3 K' (m+1) (TF++[.int .i64 kind,.iface (Em kind) (ptr w.heap.size),.slice none 0 0])) (hat:K'.ownBlock=K.ownBlock\/K'.ownBlock=some j0) (hj:W.heap.size<=j0):wz.heap[s]?=some (.cells cs.toArray 167 (0,0))/\KI w s cs K m TF kind K' (wz.setCell ⟨s,6,none⟩ K'):=by
 have hnK:K.ownBlock≠some s:=A6 hrow h (by decide);have hln:=(Array.getElem?_eq_some_iff.1 h).1;have hlV:s<V.heap.size:=Nat.lt_of_lt_of_le (by omega) hV.size;have hzn:wz.heap[s]?=some (.cells cs.toArray 167 (0,0)):=by
  rw[hg.block s hlV (fun e=>hnK e.symm),hV.block s (by omega),hb.block s hln];exact h
 have hnK':K'.ownBlock≠some s:=by
  rcases hat with e|e
  ·rw[e];exact hnK
  ·rw[e];intro q;cases q;omega
 have hk0:Af (fun k=>k=s\/K.ownBlock=some k) W V:=Af.Aj hV _;have hk1:Af (fun k=>k=s\/K.ownBlock=some k) W (wz.setCell ⟨s,6,none⟩ K'):=(hk0.grown hg (fun k hk=>Or.inl (Or.inr hk))).setCell (p:=⟨s,6,none⟩) (Or.inl (Or.inl rfl)) _;refine⟨hzn,⟨Ak (cs:=cs) (off:=6) hzn K',F9 hown (fun g hg=>Below.heap_setCell _ _ _ _ (fun e=>hnK' (by rw[hg];exact congrArg some e))),?_,?_,(Af.Aj hb _).trans hk1⟩⟩
 ·refine hwk.keep hk1 (fun b cur t z hb' ht hbl hE=>?_) (fun _ q=>q);subst hb';rcases hE with e|e
  ·omega
  ·have:=(World.ownsRow.lt hrow _ e).2;omega
 ·rcases hat with e|e
  ·exact Or.inl e
  ·exact Or.inr ⟨j0,e,by omega⟩
theorem Xv(w:World)(kind:Int)(T:TypeId)(b:Nat)(j:Nat)(u:Value)(h:([.int .i64 kind,.iface T (ptr b),.slice none 0 0]:List Value)[j]?=some u):(w.alloc (.cells #[.int .i64 kind,.iface T (ptr b),.slice none 0 0] 213)).cell? ((⟨w.heap.size,0,none⟩:Addr).add j)=some u:=by
 rw[Addr.add_lit,Nat.zero_add,World.cell?_alloc_new w _ _ j,<-List.getElem?_toArray]at *;exact h
theorem abI:∀args w,(callFunc 228 args).run Tryz.prog w=.ok (.enter 228 args) w:=fun _ _=>rfl
theorem TU(w:World)(s m c:Nat)(cs TF:List Value)(a:Option Addr)(kind:Int)(hk:0<=kind/\kind<=2)(h:w.heap[s]?=some (.cells cs.toArray 167 (0,0)))(h6:cs[6]?=some (.slice a m c))(hrow:w.ownsRow 0 213 3 (.slice a m c) m TF)(hm:m<=300):
  Calls Tryz.prog 183 #[ptr s,.int .i64 kind] w fun e w'=>e=.returned (.int .i64 ((m:Int)+1))/\∃K',KI w s cs (.slice a m c) m TF kind K' w':=by
 have HF:=Ab (fun w=>Ut w kind hk);have HP:Hid (∀{W V wz:World} {K':Value} {j0:Nat},Below w.heap.size w W->Works W (fun k=>k=w.heap.size) [] w.heap.size (.slice none 0 0) kind (.iface (Em kind) (ptr w.heap.size))->w.heap.size<W.heap.size->Below W.heap.size W V->V.grownBy wz (Value.slice a m c).ownBlock->wz.ownsRow 0 213 3 K' (m+1) (TF++[.int .i64 kind,.iface (Em kind) (ptr w.heap.size),.slice none 0 0])->(K'.ownBlock=(Value.slice a m c).ownBlock\/K'.ownBlock=some j0)->W.heap.size<=j0->wz.heap[s]?=some (.cells cs.toArray 167 (0,0))/\KI w s cs (.slice a m c) m TF kind K' (wz.setCell ⟨s,6,none⟩ K')):=fun a1 a2 a3 a4 a5 a6 a7 a8=>TV h hrow a1 a2 a3 a4 a5 a6 a7 a8
 have c6:w.cell? ⟨s,6,none⟩=some (.slice a m c):=cell_of h 6 _ (by simpa using h6);have z6:w.frozen? ⟨s,6,none⟩=false:=open_list h;have hl:=lt_of_block h;have HZ:Hid (∀wz:World,wz.heap[s]?=some (.cells cs.toArray 167 (0,0))->wz.cell? ⟨s,6,none⟩=some (.slice a m c)/\wz.frozen? ⟨s,6,none⟩=false):=fun wz hw=>⟨cell_of hw 6 _ (by simpa using h6),open_list hw⟩
 have HRW:=Ab hrow;obtain⟨i0,hi,hz0,hz1,hz2⟩:=info_parts Zf;obtain⟨Post,hPost⟩:∃Post:Value->World->Prop,Post=fun K' w'=>KI w s cs (.slice a m c) m TF kind K' w':=⟨_,rfl⟩
 have HQ:Hid (∀K' w',KI w s cs (.slice a m c) m TF kind K' w'->Post K' w'):=fun K' w' q=>by rw[hPost];exact q
 have HR:Hid (∀e w',e=Ending.returned (.int .i64 ((m:Int)+1))/\(∃K',Post K' w')->e=Ending.returned (.int .i64 ((m:Int)+1))/\∃K',KI w s cs (.slice a m c) m TF kind K' w'):=fun e w' ⟨q1,K',q2⟩=>⟨q1,K',by rw[hPost]at q2;exact q2⟩
 clear hPost;refine Calls.mono ?_ (Aa HR);generalize Em kind=FT at *;clear h hrow h6 hk;go_enter Tryz.func183,Tryz.ntmps183;go_wp2_with fail
 go_region_law (first
  |(refine AR rfl 228 #[.tmp 11] #[3] rfl abI #[.int .i64 kind] rfl _ ((Aa HF) _) ?_;rintro e w1 ⟨rfl,hwk,hb1,hs1⟩;have hlw:s<w1.heap.size:=Nat.lt_of_lt_of_le hl hb1.size;have HB1:=Ab (D6 hb1);have HW1:=Ab hwk;have hz3:w1.frozen? ⟨s,6,none⟩=false:=(hb1.frozen (p:=⟨s,6,none⟩) hl).trans z6;have hc1:w1.cell? ⟨s,6,none⟩=some (.slice a m c):=(hb1.cell (p:=⟨s,6,none⟩) hl).trans c6;clear hb1 hwk;refine⟨_,rfl,?_⟩)
  |(refine Bs rfl (.tmp 9) (.tmp 14) 160 rfl 0 213 i0 (.agg #[.int .i64 0,.nilIface,.slice none 0 0]) 3 48 Tryz.underlying160 hi hz0 hz1 hz2 rfl (by decide) (.slice a m c) m TF rfl (by exact(Bu (Aa HRW) (Aa HB1)).alloc _) ⟨w1.heap.size,0,none⟩ 1 1 [.int .i64 kind,.iface FT (ptr w.heap.size),.slice none 0 0] rfl rfl (by exact Xv w1 kind FT w.heap.size) (by simp[Value.oneCell']) (by unfold maxLen;omega) (by omega) (by omega) ?_;intro v' wz hownz hgrow hat;obtain⟨va,vc,hvs⟩:=Bg hownz;subst hvs;have hn2:=(Aa HP) (Aa HB1) (Aa HW1) hs1 ((Below.refl _ _).alloc (Nat.le_refl _) _) hgrow hownz hat (by simp);obtain⟨hzn,hpost⟩:=hn2;have HPO:=Ab ((Aa HQ) _ _ hpost);have d1:=((Aa HZ) wz hzn).1;have z1:=((Aa HZ) wz hzn).2;have hlz:=lt_of_block hzn;clear hownz hgrow hat hzn hpost))
 all_goals
  go_wp2;go_returns;exact⟨rfl,_,Aa HPO⟩
theorem Xa{s:List UInt8}(h:R.E5 s=true)(i:Nat)(hi:i<(str s).size):97<=(((str s)[i]'hi).toNat:Int)/\(((str s)[i]'hi).toNat:Int)<=122:=by
 unfold R.E5 at h;simp only[Bool.and_eq_true,decide_eq_true_eq,List.all_eq_true]at h;have hg:=Ol s i hi;have:=h.2 _ (List.mem_of_getElem? hg);omega
theorem Rx(s:List UInt8)(h:R.E5 s=true)(w:World):Calls Tryz.prog 181 #[.string (str s)] w fun e w'=>e=.returned (.bool true)/\w'=w:=by
 have HA:=Ab (Xa h);have hz:(str s).size=s.length:=Az s;have hl:1<=(str s).size/\(str s).size<=8:=by
  unfold R.E5 at h;simp only[Bool.and_eq_true,decide_eq_true_eq]at h;omega
 generalize str s=S at *;clear h hz;obtain⟨n,hn⟩:∃n,S.size=n:=⟨_,rfl⟩;rw[hn]at hl;go_enter Tryz.func181,Tryz.ntmps181;go_wp2;go_loopw [14] (fun iv wr=>∃i:Nat,i<=n/\iv=.int .i64 i/\wr=w) (fun iv _=>n-(intOf iv).toNat)
 case atStart=>exact⟨0,Nat.zero_le _,rfl,rfl⟩
 case round=>
  obtain⟨i,hi,rfl,rfl⟩:=hrel;by_cases hlt:i<n
  ·have hq:=(Aa HA) i (by omega);obtain⟨h1,h2⟩:=hq;go_wp2;exact⟨⟨i+1,by omega,by go_num,trivial⟩,by simp[intOf];omega⟩
  ·obtain rfl:i=n:=by omega
   go_wp2;go_returns;exact⟨rfl,rfl⟩
theorem acG:∀args w,(callFunc 184 args).run Tryz.prog w=.ok (.enter 184 args) w:=fun _ _=>rfl
theorem O0(w:World)(s nm m c nn:Nat)(a:Option Addr)(name:List UInt8)(kind u:Int)(A C:World->Prop)(hnm:R.E5 name=true)(hk:0<=kind/\kind<=2)(c5:w.cell? ⟨s,5,none⟩=some (.map (some nm)))(c6:w.cell? ⟨s,6,none⟩=some (.slice a m c))(hm:m<255)(hnn:nn<6)
  (hlook:(Instr.lookup 159 (.map (some nm)) (.string (str name)) true).run Tryz.prog w=.ok (.tuple #[.int .i64 0,.bool false]) w)
  (hlen:(Builtin.len_ #[159] 3 #[.map (some nm)]).run Tryz.prog w=.ok (.int .i64 (nn:Int)) w)
  (H70:Hid (Calls Tryz.prog 183 #[ptr s,.int .i64 kind] w fun e w'=>e=.returned (.int .i64 u)/\A w'))
  (HA:Hid (∀w',A w'->w'.cell? ⟨s,5,none⟩=some (.map (some nm))))
  (HPUT:Hid (∀w1 w2,A w1->Below w1.heap.size w1 w2->∃w3,(Instr.mapUpdate 159 (.map (some nm)) (.string (str name)) (.int .i64 u)).run Tryz.prog w2=.ok () w3/\C w3)):
  Calls Tryz.prog 106 #[ptr s,.string (str name),.int .i64 kind] w fun e w'=>e=.returned (.tuple #[.int .i64 u,.int .i64 0])/\C w':=by
 have H68:=Ab (fun w=>Rx name hnm w);have hl8:name.length<=1000:=by
  unfold R.E5 at hnm;simp only[Bool.and_eq_true,decide_eq_true_eq]at hnm;omega
 have H71:=Ab (fun w=>Ek name w hl8);have H32:Hid (∀w,Calls Tryz.prog 124 #[.int .i64 kind] w fun e w'=>e=.returned (.bool true)/\w'=w):=fun w=>by
  refine(CK kind w).mono ?_;rintro e w' ⟨rfl,rfl⟩;refine⟨?_,rfl⟩;have:(kind==0 || kind==1 || kind==2)=true:=by simp;omega
  rw[this]
 have e1:((nn:Int)==6)=false:=by simp;omega
 have e2:((m:Int)==255)=false:=by simp;omega
 generalize str name=SN at *;clear hnm hm hnn hl8;go_enter Tryz.func106,Tryz.ntmps106;go_wp2_with (first|(go_at_call 181;refine((Aa H68) _).mono ?_;rintro e w' ⟨rfl,hw'⟩;rw[hw'];clear hw')|(go_at_call 124;refine((Aa H32) _).mono ?_;rintro e w' ⟨rfl,hw'⟩;rw[hw'];clear hw'))
 refine(Aa H70).mono ?_;rintro e w1 ⟨rfl,hA⟩;have d0:=(Aa HA) w1 hA;have hl1:=lt_of_cell d0;have HA1:=Ab hA;clear hA hlook hlen c5 c6;go_wp2;go_region_law (refine AR rfl 184 #[.tmp 53] #[9] rfl acG #[.string SN] rfl _ ((Aa H71) _) ?_;rintro e w2 ⟨rfl,hb⟩;have f0:w2.cell? ⟨s,5,none⟩=some (.map (some nm)):=(hb.cell (p:=⟨s,5,none⟩) hl1).trans d0;have hput:=(Aa HPUT) w1 w2 (Aa HA1) (D6 hb);obtain⟨w3,hrun,hC⟩:=hput;have HC:=Ab hC;clear hC hb;refine⟨_,rfl,?_⟩)
 all_goals
  go_wp2;go_returns;exact⟨rfl,Aa HC⟩
def Bw(G:R.Wd)(name:List UInt8)(kind:Int):R.Wd:={G with names:=G.names++[name],stands:=G.stands++[(G.Ac.length:Int)+1],Ac:=G.Ac++[⟨kind,true,[]⟩]}
theorem O3{G:R.Wd}(h:R.Wf G){name:List UInt8}{kind:Int}(hn:¬name∈G.names)(h6:G.names.length<6)(h255:G.Ac.length<255)(hk:0<=kind/\kind<=2):R.Wf (Bw G name kind):=by
 refine⟨h.cf,h.KF,fun i c hc=>?_,h.Ih,h.Hf,by simp[Bw];omega,fun s hs=>?_,by simp[Bw];omega,by simp[Bw,h.st],?_,fun u hu=>?_⟩
 ·have h0:=h.cl i c hc;refine⟨h0.lines,h0.Ag,fun u hu=>?_,h0.line⟩;have:=h0.bound u hu;simp[Bw];omega
 ·rcases List.mem_append.1 hs with hs|hs
  ·exact h.MA s hs
  ·simp only[List.mem_singleton]at hs;subst hs;exact hk
 ·show (G.names++[name]).Nodup;rw[List.nodup_append];refine⟨h.nd,by simp,fun a ha b hb e=>?_⟩;simp only[List.mem_singleton]at hb;subst hb;exact hn (e ▸ ha)
 ·rcases List.mem_append.1 hu with hu|hu
  ·have:=h.Ma u hu;simp[Bw];omega
  ·simp only[List.mem_singleton]at hu;subst hu;simp[Bw];omega
theorem Sr{G:R.Wd}{name:List UInt8}(hn:¬name∈G.names):Bc G name=none:=by
 unfold Bc R.Dg;rw[List.findIdx?_eq_none_iff.2 (fun x hx=>by simp;exact fun e=>hn (e ▸ hx))];rfl
theorem L6{G:R.Wd}(hst:G.stands.length=G.names.length){name:List UInt8}{kind:Int}(hn:¬name∈G.names)(x:List UInt8):(x=name->Bc (Bw G name kind) x=some ((G.Ac.length:Int)+1))/\(¬x=name->Bc (Bw G name kind) x=Bc G x):=by
 unfold Bc R.Dg Bw;simp only[List.findIdx?_append];constructor
 ·rintro rfl;rw[List.findIdx?_eq_none_iff.2 (fun y hy=>by simp;exact fun e=>hn (e ▸ hy))];simp[List.findIdx?_cons,hst]
 ·intro hx;cases hf:G.names.findIdx? (·==x) with
  |some k=>
   have hk:=(List.findIdx?_eq_some_iff_getElem.1 hf).1;simp[List.getElem?_append_left (show k<G.stands.length by omega)]
  |none=>
   have:(name==x)=false:=by simpa using fun e=>hx e.symm
   simp[List.findIdx?_cons,this]
theorem Works.BM{w:World}{F:Aq}{l:List R.En}{b:Nat}{K:Value}{k:Int}{W:Value}(h:Works w F l b K k W):F b:=by
 cases h<;>assumption
theorem Works.wide{w:World}{F F':Aq}{l:List R.En}{b:Nat}{K:Value}{k:Int}{W:Value}(h:Works w F l b K k W)(hF:∀k,F k->F' k):Works w F' l b K k W:=h.keep (Af.refl (fun _=>False) w) (fun _ _ _ _ _ _ _ q=>q) hF
def Xd(kind:Int)(b:Nat):R.Sv×MV:=(⟨kind,true,[]⟩,⟨.iface (Em kind) (ptr b),.slice none 0 0,b,.slice none 0 0⟩)
theorem Hz{α:Type}{l:List α}{i:Nat}{x y:α}(h:(l++[x])[i]?=some y):l[i]?=some y\/(i=l.length/\y=x):=by
 rcases Nat.lt_trichotomy i l.length with q|q|q
 ·rw[List.getElem?_append_left q]at h;exact Or.inl h
 ·subst q;simp at h;exact Or.inr ⟨rfl,h.symm⟩
 ·rw[List.getElem?_append_right (by omega),List.getElem?_singleton,if_neg (by omega)]at h;cases h
theorem Cp.begun{s n nm:Nat}{t:SP}{F:Aq}{c:R.Cf}{sv:List R.Sv}{Ai:List Int}{seen:List R.Sn}{jobs:List R.Jb}{w w':World}{kind:Int}{K':Value}(h:Cp s n nm t F c sv Ai seen jobs w)(hlt:∀k,F k->k<w.heap.size)(hb:KI w s (Cv n nm t c Ai seen) t.K t.zs.length (tab Hq t.zs) kind K' w'):Cp s n nm {t with K:=K',zs:=t.zs++[Xd kind w.heap.size]} (fun k=>F k\/k=w.heap.size\/K'.ownBlock=some k) c (sv++[⟨kind,true,[]⟩]) Ai seen jobs w':=by
 obtain⟨f1,f2,f3⟩:=h.BM;obtain⟨b1,b2,b3,b4,hk⟩:=hb;have hav:Kt w F (fun k=>k=s\/t.K.ownBlock=some k):=fun b cur t' z' _ ht hbl hE=>by
  rcases hE with rfl|e
  ·rw[h.bs]at hbl;cases hbl;cases ht
  ·rcases id h.made.2 with ⟨q,_⟩|⟨g,cap,cur',q,_,hg,_⟩
   ·rw[q]at e;cases e
   ·rw[q]at e;cases e;rw[hg]at hbl;cases hbl;cases ht
 have alive:∀{i:Nat} {z:R.Sv×MV},t.zs[i]?=some z->z.1.alive=true->z.2.sb<w.heap.size:=fun hz ha=>by
  have:=(h.each _ (List.mem_of_getElem? hz)).wk;rw[if_pos ha]at this;exact hlt _ this.BM
 refine⟨b1,?_,?_,fun z hz=>?_,fun i j z y hz hy hij k hk1=>?_,fun i j z y hz hy hij ha1 ha2=>?_,fun i r hr hne=>?_,h.inj,?_,Or.inl f1,Or.inl f2,fun j hj=>Or.inr (Or.inr hj)⟩
 ·simp only[List.map_append,h.zs];rfl
 ·simp only[List.length_append,List.length_singleton,Fa];exact b2
 ·rcases List.mem_append.1 hz with q|q
  ·exact(h.each z q).keep hk hav (fun _ r=>Or.inl r)
  ·rw[List.mem_singleton.1 q];refine⟨?_,⟨[],rfl,⟨rfl,Or.inl ⟨rfl,rfl⟩⟩,fun y hy=>by cases hy⟩,fun j hj=>by cases hj⟩;rw[if_pos (show (Xd kind w.heap.size).1.alive=true from rfl)];exact b3.wide (fun k r=>Or.inr (Or.inl r))
 ·rcases Hz hz with q|⟨q,rfl⟩
  ·rcases Hz hy with r|⟨r,rfl⟩
   ·exact h.dns i j z y q r hij k hk1
   ·intro e;cases e
  ·cases hk1
 ·rcases Hz hz with q|⟨q,rfl⟩
  ·rcases Hz hy with r|⟨r,rfl⟩
   ·exact h.ZW i j z y q r hij ha1 ha2
   ·have:=alive q ha1;refine⟨fun e=>?_,fun k _ e=>by cases e⟩;simp only[Xd]at e;omega
  ·rcases Hz hy with r|⟨r,rfl⟩
   ·have:=alive r ha2;refine⟨fun e=>?_,fun k e=>by cases e⟩;simp only[Xd]at e;omega
   ·omega
 ·obtain⟨y,h1,h2,h3⟩:=h.ln i r hr hne;refine⟨y,hk.at h1 ?_,h2,Or.inl h3⟩;rintro (e|e)
  ·exact Bi h1 h.bs (by decide) e
  ·exact A6 h.made h1 (by decide) e
 ·obtain⟨a,b,hj⟩:=h.jobs;refine⟨a,b,hk.at hj ?_⟩;rintro (e|e)
  ·rw[e,h.bs]at hj;cases hj
  ·rcases id h.made.2 with ⟨q,_⟩|⟨g,cap,cur',q,_,hg,_⟩
   ·rw[q]at e;cases e
   ·rw[q]at e;cases e;rw[hg]at hj;cases hj
theorem LW.begun{p:Pl}{F:Aq}{G:R.Wd}{w:World}(h:LW p F G w){kind:Int}(hk:0<=kind/\kind<=2)(h255:G.Ac.length<255):
  Calls Tryz.prog 183 #[ptr p.s,.int .i64 kind] w fun e w'=>e=.returned (.int .i64 ((G.Ac.length:Int)+1))/\∃t F',LW {p with t:=t} F' {G with Ac:=G.Ac++[⟨kind,true,[]⟩]} w'/\Ay F F' w w':=by
 have hzl:p.t.zs.length=G.Ac.length:=by rw[<-h.Co.zs,List.length_map]
 obtain⟨a,c,hK⟩:=Bg h.Co.made;have hm:=h.Co.made;rw[hK]at hm;refine(TU w p.s p.t.zs.length c (Cv p.n p.nm p.t G.c G.Ai G.seen) (tab Hq p.t.zs) a kind hk h.Co.bs (by rw[<-hK];rfl) hm (by omega)).mono ?_;rintro e w' ⟨rfl,K',hb⟩;rw[<-hK]at hb;refine⟨by rw[hzl],{p.t with K:=K',zs:=p.t.zs++[Xd kind w.heap.size]},fun k=>F k\/k=w.heap.size\/K'.ownBlock=some k,?_,?_⟩
 ·have hs:=h.Co.begun h.lt hb;have hE:BQ w (fun k=>k=p.s\/p.t.K.ownBlock=some k):=(BQ.one h.Co.bs (by decide)).or (BQ.row h.Co.made (by decide));refine h.JB hs hb.keeps hE (fun _ q=>Or.inl q) (fun k hk'=>?_) ?_ h.Eb (fun i c hc u=>?_)
  ·have hsz:=hb.keeps.size;rcases hk' with q|q|q
   ·exact Nat.lt_of_lt_of_le (h.lt k q) hsz
   ·have:=hb.wk;subst q;cases this with
    |counter _ h2 _=>exact(Array.getElem?_eq_some_iff.1 h2).1
    |Fh _ h2 _ _=>exact(Array.getElem?_eq_some_iff.1 h2).1
    |IP _ _ _ _ h2 _ _ _ _=>exact(Array.getElem?_eq_some_iff.1 h2).1
   ·exact(World.ownsRow.lt hb.row k q).2
  ·refine h.wf.serve hk h255 h.wf.nm h.wf.st h.wf.nd (fun u hu=>?_);have:=h.wf.Ma u hu;omega
  ·unfold BR;by_cases hu:u∈c.bound
   ·rw[if_pos hu,if_pos hu];have:=(h.wf.cl i c hc).bound u hu;unfold kindOf;simp only;rw[List.getElem?_append_left (by omega)]
   ·rw[if_neg hu,if_neg hu]
 ·refine⟨hb.keeps.mono (fun k _ q=>?_),fun k q=>?_⟩
  ·rcases q with rfl|q
   ·exact h.Co.BM.1
   ·exact h.Co.BM.2.2 k q
  ·rcases q with q|q|q
   ·exact Or.inl q
   ·exact Or.inr (by omega)
   ·rcases hb.at' with e|⟨j,e,hj⟩
    ·exact Or.inl (h.Co.BM.2.2 k (e ▸ q))
    ·rw[e]at q;cases q;exact Or.inr (by omega)
theorem LW.WZ{p:Pl}{F:Aq}{G:R.Wd}{w w':World}(h:LW p F G w){N:List (List UInt8)}{S:List Int}(hk:Af (fun k=>k=p.nm) w w')(hm:Mp w' 9 p.nm N0 (Bc {G with names:=N,stands:=S}) N.length)(hwf:R.Wf {G with names:=N,stands:=S}):LW p F {G with names:=N,stands:=S} w'/\Ay F F w w':=by
 obtain⟨hx,hn,hcs,hnm⟩:=h.BM;obtain⟨es,q,hq⟩:=h.names.block;have hav:Avoid w F (fun k=>k=p.nm):=Avoid.tags (fun b hb=>Or.inr ⟨es,q,by subst hb;exact hq⟩);have hlen:=fun (i:Nat) (c:R.Cl) (hc:G.Ad[i]?=some c)=>(List.getElem?_eq_some_iff.1 hc).1
 have at':∀{b:Nat} {ys:Array Value} {t:TypeId} {f:Nat×Nat},w.heap[b]?=some (.cells ys t f)->w'.heap[b]?=some (.cells ys t f):=fun hb=>hk.at hb (Hr hb hq)
 refine⟨⟨hwf,h.Eb,at' h.bx,?_,?_,h.Co.keep hk hav (fun _ r=>r),hm,fun i c hc=>at' (h.cl i c hc),fun i c hc=>?_,fun i c hc=>(h.bound i c hc).keep hk (h.Gs i (hlen i c hc)).2.2.2,h.BM,h.Gs,h.inj,fun k hf=>Nat.lt_of_lt_of_le (h.lt k hf) hk.size⟩,hk.mono (fun k _ e=>by rw[e];exact hnm),fun _ r=>Or.inl r⟩
 ·obtain⟨cur,h1,h2⟩:=h.YF;exact⟨cur,at' h1,h2⟩
 ·obtain⟨K,h1,h2,h3⟩:=h.bn;exact⟨K,at' h1,hk.row h2 (fun j hj e=>Fw h2 hq (e ▸ hj)),h3⟩
 ·obtain⟨xs,h1,h2,h3⟩:=h.ln i c hc;exact⟨xs,at' h1,h2,h3.Ea hk hav.sv (fun _ r=>r)⟩
theorem LW.exported{p:Pl}{F:Aq}{G:R.Wd}{w:World}(h:LW p F G w){name:List UInt8}{kind:Int}(hnm:R.E5 name=true)(hk:0<=kind/\kind<=2)(hn:¬name∈G.names)(h6:G.names.length<6)(h255:G.Ac.length<255):
  Calls Tryz.prog 106 #[ptr p.s,.string (str name),.int .i64 kind] w fun e w'=>e=.returned (.tuple #[.int .i64 ((G.Ac.length:Int)+1),.int .i64 0])/\∃t F',LW {p with t:=t} F' (Bw G name kind) w'/\Ay F F' w w':=by
 obtain⟨a,c,hK⟩:=Bg h.Co.made;have hl8:name.length<=8:=by
  unfold R.E5 at hnm;simp only[Bool.and_eq_true,decide_eq_true_eq]at hnm;omega
 have hzl:p.t.zs.length=G.Ac.length:=by rw[<-h.Co.zs,List.length_map]
 have hsn:=Sr hn;have hlook:=Py h.names (s:=name) (by unfold maxLen;omega);rw[hsn]at hlook;have hwf:=O3 h.wf (name:=name) (kind:=kind) hn h6 h255 hk;refine O0 w p.s p.nm p.t.zs.length c G.names.length a name kind _ (fun w'=>∃t F',LW {p with t:=t} F' {G with Ac:=G.Ac++[⟨kind,true,[]⟩]} w'/\Ay F F' w w') _ hnm hk (cell_of h.Co.bs 5 _ rfl) (cell_of h.Co.bs 6 _ (by rw[<-hK];rfl)) (by omega) h6 hlook (h.names.len Tryz.underlying159 3) (h.begun hk h255) ?_ ?_
 ·rintro w' ⟨t,F',hL,_⟩;exact cell_of hL.Co.bs 5 _ rfl
 ·rintro w1 w2 ⟨t,F',hL,hW⟩ hb;have hL2:=hL.below hb;obtain⟨w3,hrun,hm,htn⟩:=ZB hL2.names (by simp only;omega) (s:=name) (by unfold maxLen;omega) (v:=(G.Ac.length:Int)+1) (by omega) (Bc (Bw G name kind)) (L6 h.wf.st hn);refine⟨w3,hrun,t,F',?_⟩;have hst:Bc {G with Ac:=G.Ac++[⟨kind,true,[]⟩]} name=none:=hsn;rw[hst]at hm;have q:=hL2.WZ (N:=G.names++[name]) (S:=G.stands++[(G.Ac.length:Int)+1]) (JE htn) (by simpa [Bw] using hm) hwf;exact⟨q.1,(hW.trans (Ay.Aj F' hb)).trans q.2⟩
end Go.Proofs.YtblomippkddgiaaGreatDoor
