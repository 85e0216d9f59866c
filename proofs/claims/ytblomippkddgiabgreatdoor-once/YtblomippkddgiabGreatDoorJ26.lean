import Derived.Test.YtblomippkddgiabGreatDoorJ25
import Derived.Conc.SmallLaws
set_option maxRecDepth 100000
set_option maxHeartbeats 1000000
namespace Go.Proofs.YtblomippkddgiabGreatDoor
open Go.RowKit
variable {TL:Array Value}{F:Aq}{a rt tr uid:Int}{name:List UInt8}{b i j k n nb tb:Nat}{o:Obj}{p:Pl}{c:R.Cl}{G:R.Wd}{BX V w w1:World}
theorem Pj(l:List Int)(u:Int):dd (l++[u])=if u∈dd l then dd l else dd l++[u]:=by
 unfold dd;rw[List.foldl_append];rfl
theorem RJ{P:List Int->Prop}(h0:P [])(hs:∀l a,P l->P (l++[a]))(l:List Int):P l:=by
 have h:∀r:List Int,P r.reverse:=fun r=>by
  induction r with
  |nil=>exact h0
  |cons a r ih=>rw[List.reverse_cons];exact hs _ _ ih
 simpa using h l.reverse
theorem SS(l:List Int):∀u,u∈dd l↔u∈l:=by
 refine RJ (P:=fun l=>∀u,u∈dd l↔u∈l) ?_ ?_ l
 ·simp[dd]
 ·intro l a ih u;rw[Pj];split
  ·rename_i h;rw[ih u];simp only[List.mem_append,List.mem_singleton];constructor
   ·exact Or.inl
   ·rintro (q|rfl)
    ·exact q
    ·exact(ih u).1 h
  ·simp[ih u]
theorem XX(l:List Int):(dd l).Nodup:=by
 refine RJ (P:=fun l=>(dd l).Nodup) ?_ ?_ l
 ·simp[dd]
 ·intro l a ih;rw[Pj];split
  ·exact ih
  ·rename_i h;rw[List.nodup_append];exact⟨ih,by simp,fun x hx y hy e=>by simp only[List.mem_singleton]at hy;subst hy;exact h (e ▸ hx)⟩
theorem adI:∀(N:Nat) (l:List Int),l.Nodup->(∀u∈l,1<=u/\u<=(N:Int))->l.length<=N
 |0,[],_,_=>Nat.le_refl _
 |0,u :: l,_,h=>by have:=h u (by simp);omega
 |N+1,l,hd,h=>by
  have h1:=adI N (l.erase ((N:Int)+1)) (hd.erase _) (fun u hu=>by
   have hm:=List.mem_of_mem_erase hu;have aa:u≠(N:Int)+1:=fun e=>by subst e;exact hd.not_mem_erase hu
   have:=h u hm;omega)
  have:=List.length_erase_le (a:=(N:Int)+1) (l:=l);by_cases hm:((N:Int)+1)∈l
  ·rw[List.length_erase_of_mem hm]at h1;omega
  ·rw[List.erase_of_not_mem hm]at h1;omega
theorem acd{l:List Int}{N:Nat}(h:∀u∈l,1<=u/\u<=(N:Int)):(dd l).length<=N:=adI N (dd l) (XX l) (fun u hu=>h u ((SS l u).1 hu))
theorem VS(w:World)(s nm g m c k:Nat)(S:ByteArray)(kind:Int)(c5:w.cell? ⟨s,5,none⟩=some (.map (some nm)))(c6:w.cell? ⟨s,6,none⟩=some (.slice (some ⟨g,0,none⟩) m c))(hk:k<m)(hm:m<=255)(ad:w.cell? ⟨g,k*3,none⟩=some (.int .i64 kind))
  (aa:(Instr.lookup 134 (.map (some nm)) (.string S) true).run Tryz.prog w=.ok (.tuple #[.int .i64 ((k:Int)+1),.bool true]) w):
  Calls Tryz.prog 84 #[ptr s,.string S] w fun e w'=>e=.returned (.tuple #[.int .i64 ((k:Int)+1),.int .i64 kind,.int .i64 0])/\Below w.heap.size w w':=by
 have ac:=Ac (Ey w.drew s g k m c c6 hk hm);clear c6;go_enter Tryz.func84,Tryz.ntmps84;go_wp2;go_region_held3 (fun w'=>w'.cell? ⟨g,k*3,none⟩=some (.int .i64 kind)) (go_keep) ((go_at_call 38;refine(Aa ac).mono ?_;rintro e w1 ⟨rfl,ab⟩;rw[ab];clear ab))
 go_wp2;go_returns;exact⟨rfl,(Below.refl _ _).drew⟩
theorem QO(w:World)(x n s cs cn cap cb bm i:Nat)(S:ByteArray)(uid kind:Int)(C:World->Prop)(hx:w.heap[x]?=some (.cells #[ptr n,ptr s,.slice (some ⟨cs,0,none⟩) cn cap] 71 (0,0)))(hi:i<cn)(ac:w.cell? ⟨cs,i,none⟩=some (ptr cb))(ab:w.cell? ⟨cb,2,none⟩=some (.map (some bm)))
  (ad:Hid (Calls Tryz.prog 84 #[ptr s,.string S] w fun e w'=>e=.returned (.tuple #[.int .i64 uid,.int .i64 kind,.int .i64 0])/\Below w.heap.size w w'))
  (aa:Hid (∀w1,Below w.heap.size w w1->∃w2,(Instr.mapUpdate 130 (.map (some bm)) (.int .i64 uid) (.int .i64 kind)).run Tryz.prog w1=.ok () w2/\C w2)):
  Calls Tryz.prog 50 #[ptr x,.int .i64 (i:Int),.string S] w fun e w'=>e=.returned (.tuple #[.int .i64 uid,.int .i64 kind,.int .i64 0])/\C w':=by
 have q1:(0:Int)<=(i:Int):=by omega
 have q2:(i:Int)<(cn:Int):=by omega
 have c1:w.cell? ⟨x,1,none⟩=some (ptr s):=cell_of hx 1 _ rfl;have c2:w.cell? ⟨x,2,none⟩=some (.slice (some ⟨cs,0,none⟩) cn cap):=cell_of hx 2 _ rfl;have l1:=lt_of_cell c1;have l2:=lt_of_cell ac;have l3:=lt_of_cell ab;clear hx;go_enter Tryz.func50,Tryz.ntmps50;go_wp2_with (first|(go_at_call 35;go_in))
 refine(Aa ad).mono ?_;rintro e w1 ⟨rfl,hb⟩;have d2:w1.cell? ⟨x,2,none⟩=some (.slice (some ⟨cs,0,none⟩) cn cap):=(hb.cell (p:=⟨x,2,none⟩) l1).trans c2;have d3:w1.cell? ⟨cs,i,none⟩=some (ptr cb):=(hb.cell (p:=⟨cs,i,none⟩) l2).trans ac;have d4:w1.cell? ⟨cb,2,none⟩=some (.map (some bm)):=(hb.cell (p:=⟨cb,2,none⟩) l3).trans ab;obtain⟨w2,ae,hC⟩:=(Aa aa) w1 hb;have HC:=Ac hC;clear hb hC c1 c2 ac ab;go_wp2_with (first|(go_at_call 85;go_in))
 go_returns;exact⟨rfl,Aa HC⟩
theorem Lb(w:World)(x n s cs cn cap:Nat)(S:ByteArray)(kind uid er:Int)(C:World->Prop)(hx:w.heap[x]?=some (.cells #[ptr n,ptr s,.slice (some ⟨cs,0,none⟩) cn cap] 71 (0,0)))(aa:Hid (Calls Tryz.prog 83 #[ptr s,.string S,.int .i64 kind] w fun e w'=>e=.returned (.tuple #[.int .i64 uid,.int .i64 er])/\C w')):
  Calls Tryz.prog 48 #[ptr x,.string S,.int .i64 kind] w fun e w'=>e=.returned (.tuple #[.int .i64 uid,.int .i64 er])/\C w':=by
 have c1:w.cell? ⟨x,1,none⟩=some (ptr s):=cell_of hx 1 _ rfl;clear hx;go_enter Tryz.func48,Tryz.ntmps48;go_wp2_with fail
 refine(Aa aa).mono ?_;rintro e w1 ⟨rfl,hC⟩;go_wp2;go_returns;exact⟨rfl,hC⟩
def A1(G:R.Wd)(i:Nat)(uid:Int):R.Wd:={G with Ad:=G.Ad.modify i fun c=>{c with bound:=c.bound++[uid]}}
theorem CJ:(A1 G i uid).Ad[j]?=(G.Ad[j]?).map fun c=>if i=j then {c with bound:=c.bound++[uid]} else c:=by
 simp only[A1,List.getElem?_modify];by_cases h:i=j<;>simp[h]
theorem Dc{c':R.Cl}(h:(A1 G i uid).Ad[j]?=some c'):∃c0,G.Ad[j]?=some c0/\c'=(if i=j then {c0 with bound:=c0.bound++[uid]} else c0):=by
 rw[CJ]at h;cases h0:G.Ad[j]? with
 |none=>rw[h0]at h;cases h
 |some c0=>rw[h0]at h;exact⟨c0,rfl,(Option.some.inj h).symm⟩
theorem QP(h:R.Wf G)(hu:1<=uid/\uid<=(G.Ab.length:Int)):R.Wf (A1 G i uid):=by
 refine⟨h.cf,by simpa [A1] using h.Gt,fun j c hc=>?_,h.E3,h.Eo,h.sv,h.Kh,h.nm,h.st,h.nd,h.I5⟩;obtain⟨c0,h0,rfl⟩:=Dc hc;have q:=h.cl j c0 h0;split
 ·refine⟨q.lines,q.Ae,fun u aa=>?_,q.line⟩;rcases List.mem_append.1 aa with aa|aa
  ·exact q.bound u aa
  ·simp only[List.mem_singleton]at aa;subst aa;exact hu
 ·exact⟨q.lines,q.Ae,q.bound,q.line⟩
theorem LW.bind{w2:World}(h:LW p F G w)(hc:G.Ad[i]?=some c)(hu:1<=uid/\uid<=(G.Ab.length:Int))(hb:Below w.heap.size w w1)(ht:Af (fun k=>k=p.bm i) w1 w2)(hm:Mp w2 3 (p.bm i) Kz (BL G {c with bound:=c.bound++[uid]}) (dd (c.bound++[uid])).length):
  LW p F (A1 G i uid) w2/\Ap F F w w2:=by
 have hi:=(List.getElem?_eq_some_iff.1 hc).1;obtain⟨es,q,hq⟩:=(h.bound i c hc).block;have ab:Af (fun k=>k=p.bm i) w w2:=(Af.Al hb _).trans ht;have ad:Avoid w F (fun k=>k=p.bm i):=Avoid.tags (fun b hb=>Or.inr ⟨es,q,by subst hb;exact hq⟩);have aa:(A1 G i uid).Ad.length=G.Ad.length:=by simp[A1]
 have at':∀{b:Nat} {ys:Array Value} {t:TypeId} {f:Nat×Nat},w.heap[b]?=some (.cells ys t f)->w2.heap[b]?=some (.cells ys t f):=fun hb=>ab.at hb (Fv hb hq)
 have af:∀{K:Value} {e:TypeId} {size n B:Nat} {xs:List Value},w.ownsRow B e size K n xs->w2.ownsRow B e size K n xs:=fun hr=>ab.row hr (fun j hj e=>FU hr hq (e ▸ hj))
 refine⟨⟨QP h.wf hu,h.Db,?_,?_,?_,?_,?_,fun j c' hj=>?_,fun j c' hj=>?_,fun j c' hj=>?_,h.BP,?_,?_,fun k hf=>Nat.lt_of_lt_of_le (h.lt k hf) ab.size⟩,⟨ab.mono (fun k _ e=>by rw[e];exact(h.FG i hi).2.2.1),fun _ q=>Or.inl q⟩⟩
 ·rw[aa];exact at' h.bx
 ·rw[aa];obtain⟨ae,h1,h2⟩:=h.XH;exact⟨ae,at' h1,h2⟩
 ·obtain⟨K,h1,h2,h3⟩:=h.bn;exact⟨K,at' h1,af h2,h3⟩
 ·exact h.BN.keep ab ad (fun _ r=>r)
 ·exact h.names.keep ab (fun e=>(h.FG i hi).2.2.2 e.symm)
 ·obtain⟨c0,h0,rfl⟩:=Dc hj;have:=at' (h.cl j c0 h0);split<;>exact this
 ·obtain⟨c0,h0,rfl⟩:=Dc hj;obtain⟨xs,h1,h2,h3⟩:=h.ln j c0 h0;refine⟨xs,at' h1,?_⟩;have h4:=h3.Eg ab ad.sv (fun _ r=>r);split<;>exact⟨h2,h4⟩
 ·obtain⟨c0,h0,rfl⟩:=Dc hj;by_cases ac:i=j
  ·subst ac;obtain rfl:=Option.some.inj (hc.symm.trans h0);simp only[if_true];exact hm
  ·simp only[ac,if_false];exact(h.bound j c0 h0).keep ab (fun e=>(h.inj i j hi (List.getElem?_eq_some_iff.1 h0).1 ac).2.1 e.symm)
 ·rw[aa];exact h.FG
 ·rw[aa];exact h.inj
theorem ZU(h:R.Wf G)(hs:AF G name=some uid):1<=uid/\uid<=(G.Ab.length:Int):=by
 unfold AF R.BI at hs;cases hf:G.names.findIdx? (·==name) with
 |none=>rw[hf]at hs;cases hs
 |some k=>
  rw[hf]at hs;simp only[Option.map_some,Option.some.injEq]at hs;have hk:=(List.findIdx?_eq_some_iff_getElem.1 hf).1;have aa:=h.st;subst hs;refine h.I5 _ ?_;rw[List.getD_eq_getElem?_getD,List.getElem?_eq_getElem (by omega)];simp
theorem LW.import(h:LW p F G w)(hc:G.Ad[i]?=some c)(hl:name.length<=1000)(hs:AF G name=some uid):
  Calls Tryz.prog 50 #[ptr p.x,.int .i64 (i:Int),.string (str name)] w fun e w'=>e=.returned (.tuple #[.int .i64 uid,.int .i64 (kindOf G uid),.int .i64 0])/\LW p F (A1 G i uid) w'/\Ap F F w w':=by
 have hi:=(List.getElem?_eq_some_iff.1 hc).1;have hu:=ZU h.wf hs;have ap:=h.wf.sv;obtain⟨k,hk⟩:∃k:Nat,uid=(k:Int)+1:=⟨(uid-1).toNat,by omega⟩;have ai:k<G.Ab.length:=by omega
 have aa:=M4 h.names (s:=name) (by unfold maxLen;omega);rw[hs]at aa;simp only[Option.getD_some,Option.isSome_some]at aa;have ac:G.Ab[k]?=some (G.Ab[k]'ai):=List.getElem?_eq_getElem ai;have af:kindOf G uid=(G.Ab[k]'ai).kind:=by
  unfold kindOf;rw[show (uid-1).toNat=k by omega,ac];rfl
 obtain⟨z,hz,am⟩:=KV h.BN.zs ac;have aq:p.t.zs.length=G.Ab.length:=by rw[<-h.BN.zs,List.length_map]
 obtain⟨g,cap,ao,hK,_,_,ab,_⟩:=h.BN.Jt hz;have an:z.1.kind=kindOf G uid:=by rw[am,af]
 rw[an]at ab;rw[hk]at aa ⊢;have ae:=VS w p.s p.nm g p.t.zs.length cap k (str name) (kindOf G uid) (cell_of h.BN.bs 5 _ rfl) (cell_of h.BN.bs 6 _ (by rw[<-hK];rfl)) (by omega) (by omega) ab aa;rw[hk]at ae;refine QO w p.x p.n p.s p.cs G.Ad.length p.cap (p.cb i) (p.bm i) i (str name) ((k:Int)+1) (kindOf G ((k:Int)+1)) (fun w'=>LW p F (A1 G i ((k:Int)+1)) w'/\Ap F F w w') h.bx hi (h.SQ hi) (Ic h hc).a2 ae ?_;intro w1 hb;have ah:=acd (N:=255) (fun u al=>by have:=(h.wf.cl i c hc).bound u al;omega);have aj:-9223372036854775808<=kindOf G ((k:Int)+1)/\kindOf G ((k:Int)+1)<=9223372036854775807:=by
  rw[hk]at af;have:=h.wf.Kh _ (List.mem_of_getElem? ac);omega
 obtain⟨w2,ad,hm,ak⟩:=abj ((h.bound i c hc).keep (Af.Al hb (fun _=>False)) (fun e=>e)) (by omega) (u:=(k:Int)+1) (v:=kindOf G ((k:Int)+1)) (by omega) aj (BL G {c with bound:=c.bound++[(k:Int)+1]}) (fun x=>⟨fun e=>by subst e;simp[BL],fun e=>by
  unfold BL;simp[e]⟩)
 refine⟨w2,ad,h.bind hc (by omega) hb (Hf ak) ?_⟩;rw[Pj];have ag:(BL G c ((k:Int)+1)).isSome=decide (((k:Int)+1)∈c.bound):=by
  unfold BL;by_cases hq:((k:Int)+1)∈c.bound<;>simp[hq]
 rw[ag]at hm;by_cases hq:((k:Int)+1)∈c.bound
 ·rw[if_pos ((SS _ _).2 hq)];simpa [hq] using hm
 ·rw[if_neg (fun q=>hq ((SS _ _).1 q))];simpa [hq] using hm
abbrev UK(a b c d e:Int):Value:=.agg #[.int .i64 a,.int .i64 b,.int .i64 c,.int .i64 d,.int .i64 e]
def Qc:CU:=⟨0,0,.slice none 0 0,0,0,[],0,[],0,0⟩
theorem TG(n:Nat)(hn:1<=n/\n<=3)(W:World):(Instr.makeSlice 131 (.int .i64 (n:Int)) (.int .i64 (n:Int))).run Tryz.prog W=.ok (.slice (some ⟨W.heap.size,0,none⟩) n n) (W.alloc (.cells (tab CU.cells (List.replicate n Qc)).toArray 129)):=by
 have h3:n=1\/n=2\/n=3:=by omega
 rcases h3 with rfl|rfl|rfl
 ·show _=_;kernel_rfl
 ·show _=_;kernel_rfl
 ·show _=_;kernel_rfl
structure Sb(w w':World)(k:Nat)(Ae:Int)(n nb:Nat)(rt tr:Int)(cb lb bm:Nat):Prop where
 below:Below w.heap.size w w'
 c0:w.heap.size<=cb
 l0:w.heap.size<=lb
 b0:w.heap.size<=bm
 cell:w'.heap[cb]?=some (.cells #[.int .i64 (k:Int),.int .i64 Ae,.map (some bm),.slice (some ⟨lb,0,none⟩) n n,.int .i64 rt,.int .i64 tr,ptr nb] 133 (0,0))
 lines:w'.heap[lb]?=some (.cells (tab CU.cells (List.replicate n Qc)).toArray 129 (0,0))
 map:Mp w' 3 bm Kz (fun _=>none) 0
theorem CM(w:World)(o:Obj)(h:w.heap.size=n):(w.alloc o).heap[n]?=some o:=by
 subst h;exact heap_alloc_new w o
theorem Mp.above{α:Type}{w':World}{k:TypeId}{lit:α->Lit}{g:α->Option Int}(h:Mp w k b lit g n)(hb:Below w.heap.size w w'):Mp w' k b lit g n:=h.keep (Af.Al hb (fun _=>False)) (fun e=>e)
theorem adz(hb:Below w.heap.size w BX)(hT:TL=(tab CU.cells (List.replicate n Qc)).toArray):
  Sb w (((BX.alloc (.map #[] 0)).alloc (.cells TL 129)).alloc (.cells #[.int .i64 (k:Int),.int .i64 1,.map (some BX.heap.size),.slice (some ⟨BX.heap.size+1,0,none⟩) n n,.int .i64 rt,.int .i64 tr,ptr nb] 133)).drew k 1 n nb rt tr (BX.heap.size+1+1) (BX.heap.size+1) BX.heap.size:=by
 have s0:=hb.size;have e1:(BX.alloc (.map #[] 0)).heap.size=BX.heap.size+1:=by simp
 have e2:((BX.alloc (.map #[] 0)).alloc (.cells TL 129)).heap.size=BX.heap.size+1+1:=by simp
 refine⟨?_,by omega,by omega,by omega,?_,?_,?_⟩
 ·exact(((hb.alloc s0 _).alloc (by omega) _).alloc (by omega) _).drew
 ·rw[E0];exact CM _ _ e2
 ·rw[E0,Below.heap_alloc _ _ _ (by omega),<-hT];exact CM _ _ e1
 ·exact(Mp.made BX 3 Kz).above (((((Below.refl _ _).alloc (Nat.le_refl _) _).alloc (by omega) _)).drew)
theorem adA(hb:Below w.heap.size w BX)(hT:TL=(tab CU.cells (List.replicate n Qc)).toArray):
  Sb w (((BX.alloc (.cells TL 129)).alloc (.map #[] 0)).alloc (.cells #[.int .i64 (k:Int),.int .i64 1,.map (some (BX.heap.size+1)),.slice (some ⟨BX.heap.size,0,none⟩) n n,.int .i64 rt,.int .i64 tr,ptr nb] 133)).drew k 1 n nb rt tr (BX.heap.size+1+1) BX.heap.size (BX.heap.size+1):=by
 have s0:=hb.size;have e1:(BX.alloc (.cells TL 129)).heap.size=BX.heap.size+1:=by simp
 have e2:((BX.alloc (.cells TL 129)).alloc (.map #[] 0)).heap.size=BX.heap.size+1+1:=by simp
 refine⟨?_,by omega,by omega,by omega,?_,?_,?_⟩
 ·exact(((hb.alloc s0 _).alloc (by omega) _).alloc (by omega) _).drew
 ·rw[E0];exact CM _ _ e2
 ·rw[E0,Below.heap_alloc _ _ _ (by omega),Below.heap_alloc _ _ _ (by omega),<-hT];exact CM _ _ rfl
 ·have h0:=Mp.made (BX.alloc (.cells TL 129)) 3 Kz;rw[e1]at h0;exact h0.above (((Below.refl _ _).alloc (by omega) _).drew)
theorem SE(w:World)(k n nb:Nat)(a rt tr tb:Int)(hn:1<=n/\n<=3):
  Calls Tryz.prog 47 #[.int .i64 (k:Int),UK a (n:Int) rt tr tb,ptr nb] w fun e w'=>∃cb lb bm,e=.returned (ptr cb)/\Sb w w' k 1 n nb rt tr cb lb bm:=by
 have ag:=TG n hn;have ah:=@run_makeMap Tryz.prog;obtain⟨TL,ac⟩:∃TL,TL=(tab CU.cells (List.replicate n Qc)).toArray:=⟨_,rfl⟩;rw[<-ac]at ag;have ad:=Ac ac;clear ac;obtain⟨BX,aa⟩:∃BX,w.alloc (.cells #[.int .i64 a,.int .i64 (n:Int),.int .i64 rt,.int .i64 tr,.int .i64 tb] 23)=BX:=⟨_,rfl⟩;have HB:Hid (Below w.heap.size w BX):=by
  rw[<-aa];exact(Below.refl _ _).alloc (Nat.le_refl _) _
 have ab:BX.heap[w.heap.size]?=some (.cells #[.int .i64 a,.int .i64 (n:Int),.int .i64 rt,.int .i64 tr,.int .i64 tb] 23 (0,0)):=by
  rw[<-aa];exact heap_alloc_new w _
 have hs:BX.heap.size=w.heap.size+1:=by rw[<-aa];simp
 have c1:BX.cell? ⟨w.heap.size,1,none⟩=some (.int .i64 (n:Int)):=cell_of ab 1 _ rfl;have c2:BX.cell? ⟨w.heap.size,2,none⟩=some (.int .i64 rt):=cell_of ab 2 _ rfl;have c3:BX.cell? ⟨w.heap.size,3,none⟩=some (.int .i64 tr):=cell_of ab 3 _ rfl;have m0:w.heap.size<BX.heap.size:=by omega
 have ae:=Ac aa;have HS:=Ac hs;have af:Hid (∀o1 o2 o3,(((BX.alloc o1).alloc o2).alloc o3).drew.cell? ⟨w.heap.size,1,none⟩=some (.int .i64 (n:Int))/\(((BX.alloc o1).alloc o2).alloc o3).drew.cell? ⟨w.heap.size,2,none⟩=some (.int .i64 rt)/\(((BX.alloc o1).alloc o2).alloc o3).drew.cell? ⟨w.heap.size,3,none⟩=some (.int .i64 tr)):=fun o1 o2 o3=>by
  have hb:Below BX.heap.size BX (((BX.alloc o1).alloc o2).alloc o3).drew:=((((Below.refl _ _).alloc (Nat.le_refl _) _).alloc (by simp) _).alloc (by simp;omega) _).drew;exact⟨(hb.cell (p:=⟨w.heap.size,1,none⟩) m0).trans c1,(hb.cell (p:=⟨w.heap.size,2,none⟩) m0).trans c2,(hb.cell (p:=⟨w.heap.size,3,none⟩) m0).trans c3⟩
 clear aa ab hs;go_enter Tryz.func47,Tryz.ntmps47;go_wp2_with fail
 rw[Aa ae];go_region_held3 (fun w'=>w'.cell? ⟨w.heap.size,1,none⟩=some (.int .i64 (n:Int))/\w'.cell? ⟨w.heap.size,2,none⟩=some (.int .i64 rt)/\w'.cell? ⟨w.heap.size,3,none⟩=some (.int .i64 tr)) (first|exact(Aa af) _ _ _|go_keep) (fail)
 all_goals
  go_wp2;go_returns
 ·exact⟨_,_,_,rfl,adz (Aa HB) (Aa ad)⟩
 ·exact⟨_,_,_,rfl,adA (Aa HB) (Aa ad)⟩
theorem acp:(Tryz.prog.info? 93).map (fun i=>(i.zero,i.size,i.bytes))=some (some (.pointer none),1,8):=by kernel_rfl
def cbs(cb:Nat->Nat)(k:Nat):List Value:=(List.range k).map fun i=>ptr (cb i)
def upd(f:Nat->Nat)(k v:Nat):Nat->Nat:=fun j=>if j=k then v else f j
theorem upd_same(f:Nat->Nat)(k v:Nat):upd f k v k=v:=by simp[upd]
theorem Fb(f:Nat->Nat){v:Nat}(h:j≠k):upd f k v j=f j:=by simp[upd,h]
theorem aan(cb:Nat->Nat)(k v:Nat):cbs (upd cb k v) (k+1)=cbs cb k++[ptr v]:=by
 unfold cbs;rw[List.range_succ,List.map_append,List.map_singleton,upd_same];congr 1;apply List.map_congr_left;intro i hi;rw[Fb _ (by have:=List.mem_range.1 hi;omega)]
def sp0(jc:Nat):SP:=⟨.slice none 0 0,[],fun _=>0,jc⟩
structure NI(w:World)(c:R.Cf)(A n s x nm jc:Nat)(k:Nat)(cb lb bm:Nat->Nat)(K:Value)(wr:World):Prop where
 below:Below w.heap.size w wr
 cA:wr.heap[A]?=some (.cells #[.int .i64 c.Ad,.int .i64 c.lines,.int .i64 c.Ay,.int .i64 c.tries,.int .i64 c.table] 23 (0,0))
 cx:wr.heap[x]?=some (.cells #[ptr n,ptr s,K] 71 (0,0))
 row:wr.ownsRow 0 93 1 K k (cbs cb k)
 cn:wr.heap[n]?=some (.cells #[.slice none 0 0] 110 (0,0))
 cs:wr.heap[s]?=some (.cells (Ce n nm (sp0 jc) c [0,0,0] (List.replicate 9 R.Cs)).toArray 144 (0,0))
 cj:wr.heap[jc]?=some (.chan c.table.toNat #[] false 0 0 false)
 names:Mp wr 9 nm NU (fun _=>none) 0
 lo:w.heap.size<=A/\w.heap.size<=n/\w.heap.size<=s/\w.heap.size<=x/\w.heap.size<=nm/\w.heap.size<=jc
 kb:∀j,K.ownBlock=some j->w.heap.size<=j
 each:∀i,i<k->(w.heap.size<=cb i/\w.heap.size<=lb i/\w.heap.size<=bm i)/\wr.heap[cb i]?=some (.cells #[.int .i64 (i:Int),.int .i64 1,.map (some (bm i)),.slice (some ⟨lb i,0,none⟩) c.lines.toNat c.lines.toNat,.int .i64 c.Ay,.int .i64 c.tries,ptr n] 133 (0,0)) /\
  wr.heap[lb i]?=some (.cells (tab CU.cells (List.replicate c.lines.toNat Qc)).toArray 129 (0,0))/\Mp wr 3 (bm i) Kz (fun _=>none) 0/\bm i≠nm
 inj:∀i j,i<k->j<k->i≠j->lb i≠lb j/\bm i≠bm j/\cb i≠cb j
theorem A7{B:Nat}{e:TypeId}{size:Nat}{v:Value}{xs:List Value}(h:w.ownsRow B e size v n xs){off:Nat}(aa:v.ownBlock≠some b)(u:Value):(w.setCell ⟨b,off,none⟩ u).ownsRow B e size v n xs:=
 Fy h (fun g hg=>Below.heap_setCell _ _ _ _ (fun e=>aa (by rw[hg];exact congrArg some e)))
theorem NI.more{c:R.Cf}{A s x nm jc:Nat}{cb lb bm:Nat->Nat}{K:Value}{wr wz:World}(h:NI w c A n s x nm jc k cb lb bm K wr){ae an ai:Nat}(hn:Sb wr w1 k 1 c.lines.toNat n c.Ay c.tries ae an ai){K':Value}(ah:wz.ownsRow 0 93 1 K' (k+1) (cbs cb k++[ptr ae]))(hg:(w1.alloc (.cells #[ptr ae] 93)).grownBy wz K.ownBlock)(al:K'.ownBlock=K.ownBlock\/K'.ownBlock=some (w1.heap.size+1)):
  NI w c A n s x nm jc (k+1) (upd cb k ae) (upd lb k an) (upd bm k ai) K' (wz.setCell ⟨x,2,none⟩ K'):=by
 have s0:=h.below.size;have s1:=hn.below.size;have hK:Af (fun q=>K.ownBlock=some q\/q=x) wr (wz.setCell ⟨x,2,none⟩ K'):=
  Af.setCell (F:=fun q=>K.ownBlock=some q\/q=x) (((Af.Al hn.below _).alloc _).grown hg (fun q hq=>Or.inl (Or.inl hq))) (p:=⟨x,2,none⟩) (Or.inl (Or.inr rfl)) _
 have aj:Af (fun q=>K.ownBlock=some q\/q=x) w1 (wz.setCell ⟨x,2,none⟩ K'):=
  Af.setCell (F:=fun q=>K.ownBlock=some q\/q=x) (((Af.refl _ _).alloc _).grown hg (fun q hq=>Or.inl (Or.inl hq))) (p:=⟨x,2,none⟩) (Or.inl (Or.inr rfl)) _
 have ak:K.ownBlock≠some x:=AV h.row h.cx (by decide);have au:=lt_of_block h.cx;have at':∀{b:Nat} {ys:Array Value} {t:TypeId} {f:Nat×Nat},wr.heap[b]?=some (.cells ys t f)->t≠71->t≠93->(wz.setCell ⟨x,2,none⟩ K').heap[b]?=some (.cells ys t f):=fun hb h1 h2=>hK.at hb (by
  rintro (e|e)
  ·exact AV h.row hb (fun q=>h2 q.symm) e
  ·exact AZ hb h.cx h1 e)
 have ac:∀{α:Type} {t:TypeId} {b:Nat} {lit:α->Lit} {g:α->Option Int} {m:Nat},Mp wr t b lit g m->Mp (wz.setCell ⟨x,2,none⟩ K') t b lit g m:=fun hm=>by
  obtain⟨es,q,hq⟩:=hm.block;refine hm.keep hK ?_;rintro (e|e)
  ·exact FU h.row hq e
  ·exact(Fv h.cx hq) e.symm
 have ab:∀q,K.ownBlock=some q->q<wr.heap.size:=fun q hq=>(World.ownsRow.lt h.row q hq).2
 have ad:∀{b:Nat} {o:Obj},w1.heap[b]?=some o->wr.heap.size<=b->(wz.setCell ⟨x,2,none⟩ K').heap[b]?=some o:=fun hb hl=>aj.at hb (by
  rintro (e|e)
  ·have:=ab _ e;omega
  ·omega)
 have ag:K'.ownBlock≠some x:=by
  rcases al with e|e
  ·rw[e];exact ak
  ·rw[e];intro q;simp at q;omega
 have ap:¬(K.ownBlock=some jc\/jc=x):=by
  rintro (e|e)
  ·rcases id h.row.2 with ⟨q,_⟩|⟨g,cap,ao,q,_,aq,_⟩
   ·rw[q]at e;cases e
   ·rw[q]at e;cases e;have:=h.cj;rw[aq]at this;cases this
  ·have:=h.cj;rw[e,h.cx]at this;cases this
 refine⟨?_,at' h.cA (by decide) (by decide),?_,?_,at' h.cn (by decide) (by decide),at' h.cs (by decide) (by decide),hK.at h.cj ap,ac h.names,h.lo,fun j hj=>?_,fun i hi=>?_,fun i j hi hj am=>?_⟩
 ·exact h.below.trans (hK.below s0 (fun q hq=>by
   rcases hq with hq|rfl
   ·exact h.kb q hq
   ·exact h.lo.2.2.2.1))
 ·have ar:wz.heap[x]?=some (.cells #[ptr n,ptr s,K] 71 (0,0)):=(hg.block x (by simp;omega) (fun e=>ak e.symm)).trans ((Below.heap_alloc _ _ _ (by omega)).trans ((hn.below.block x au).trans h.cx));exact Ai (cs:=[ptr n,ptr s,K]) (off:=2) ar K'
 ·rw[aan];exact A7 ah ag _
 ·rcases al with e|e
  ·exact h.kb j (e ▸ hj)
  ·rw[e]at hj;simp at hj;omega
 ·by_cases aa:i=k
  ·subst aa;simp only[upd_same];obtain⟨es,q,hq⟩:=hn.map.block;refine⟨⟨by have:=hn.c0;omega,by have:=hn.l0;omega,by have:=hn.b0;omega⟩,ad hn.cell hn.c0,ad hn.lines hn.l0,hn.map.keep aj ?_,?_⟩
   ·rintro (e|e)
    ·have:=ab _ e;have:=hn.b0;omega
    ·have:=hn.b0;omega
   ·have:=h.names.lt;have:=hn.b0;omega
  ·obtain⟨a1,a2,a3,a4,a5⟩:=h.each i (by omega);simp only[Fb _ aa];exact⟨a1,at' a2 (by decide) (by decide),at' a3 (by decide) (by decide),ac a4,a5⟩
 ·by_cases aa:i=k
  ·subst aa;have af:j≠i:=fun e=>am e.symm
   obtain⟨_,a2,a3,a4,_⟩:=h.each j (by omega);have l0:=lt_of_block a2;have l1:=lt_of_block a3;have:=hn.c0;have l2:=a4.lt;simp only[upd_same,Fb _ af];have:=hn.l0;have:=hn.b0;omega
  ·by_cases af:j=k
   ·subst af;obtain⟨_,a2,a3,a4,_⟩:=h.each i (by omega);have l0:=lt_of_block a2;have l1:=lt_of_block a3;have:=hn.c0;have l2:=a4.lt;simp only[upd_same,Fb _ aa];have:=hn.l0;have:=hn.b0;omega
   ·simp only[Fb _ aa,Fb _ af];exact h.inj i j (by omega) (by omega) am
theorem QQ(c:R.Cf)(hc:R.BD c)(w:World):Calls Tryz.prog 45 #[UK c.Ad c.lines c.Ay c.tries c.table] w fun e w'=>e=.returned (.bool true)/\Below w.heap.size w w':=by
 obtain⟨a,b,r,t,e⟩:=c;obtain⟨⟨h1,h2⟩,⟨h3,h4⟩,⟨h5,h6⟩,⟨h7,h8⟩,h9,aa⟩:=hc;simp only at h1 h2 h3 h4 h5 h6 h7 h8 h9 aa ⊢;go_enter Tryz.func45,Tryz.ntmps45;go_wp2_with (first|(go_at_call 81;go_in))
 go_returns;exact⟨rfl,(Below.refl _ _).alloc (Nat.le_refl _) _⟩
def aa4(jc:Nat):Value:=.agg #[.int .i64 0,.int .i64 0,.int .i64 0,.pointer none,.pointer none,.pointer none,.pointer none,.pointer none,.pointer none,.pointer none,.pointer none,.pointer none,.chan (some jc)]
theorem aaU:(Tryz.prog.info? 170).map (fun i=>i.bytes)=some 40:=by kernel_rfl
theorem VA(n:Nat)(hn:n<=9)(W:World):(Instr.makeChan 140 (.int .i64 (n:Int))).run Tryz.prog W=.ok (.chan (some W.heap.size)) (W.alloc (.chan n #[] false 0 0 false)):=by
 have h:=aaU;cases hi:Tryz.prog.info? 170 with
 |none=>rw[hi]at h;cases h
 |some i=>
  rw[hi]at h;simp only[Option.map_some,Option.some.injEq]at h;exact Go.Conc.run_makeChan Tryz.underlying140 hi .i64 n (by omega) (by rw[h];omega)
theorem U3(w:World)(n:Nat)(hn:n<=9):Calls Tryz.prog 82 #[.int .i64 (n:Int)] w fun e w'=>e=.returned (aa4 (w.heap.size+1))/\Below w.heap.size w w'/\w'.heap.size=w.heap.size+1+1/\w'.heap[w.heap.size+1]?=some (.chan n #[] false 0 0 false):=by
 have aa:=VA n hn;unfold aa4;go_enter Tryz.func82,Tryz.ntmps82;go_wp2;go_returns;refine⟨rfl,((Below.refl _ _).alloc (Nat.le_refl _) _).alloc (by simp) _,by simp,?_⟩;exact CM _ _ (by simp)
structure Xy(w w':World)(n:Nat)(c:R.Cf)(s nm jc:Nat):Prop where
 below:Below w.heap.size w w'
 s0:w.heap.size<=s
 n0:w.heap.size<=nm
 j0:w.heap.size<=jc
 cell:w'.heap[s]?=some (.cells (Ce n nm (sp0 jc) c [0,0,0] (List.replicate 9 R.Cs)).toArray 144 (0,0))
 chan:w'.heap[jc]?=some (.chan c.table.toNat #[] false 0 0 false)
 map:Mp w' 9 nm NU (fun _=>none) 0
abbrev T7(a b rt tr tb:Int)(nm jc nb:Nat):Array Value:=#[.int .i64 a,.int .i64 b,.int .i64 rt,.int .i64 tr,.int .i64 tb,.map (some nm),.slice none 0 0,.int .i64 0,.int .i64 0,.int .i64 0,.pointer none,.pointer none,.pointer none,.pointer none,.pointer none,.pointer none,.pointer none,.pointer none,.pointer none,.chan (some jc),ptr nb]
theorem OD(a b rt tr tb:Int)(nm jc nb:Nat):(Ce nb nm (sp0 jc) ⟨a,b,rt,tr,tb⟩ [0,0,0] (List.replicate 9 R.Cs)).toArray=T7 a b rt tr tb nm jc nb:=rfl
theorem aee{b:Int}(hV:Below w.heap.size w V)(hb:Below (V.alloc (.map #[] 0)).heap.size (V.alloc (.map #[] 0)) w1)(hs:w1.heap.size=(V.alloc (.map #[] 0)).heap.size+1+1)(hj:w1.heap[(V.alloc (.map #[] 0)).heap.size+1]?=some (.chan tb #[] false 0 0 false))(ho:o=.cells (T7 a b rt tr tb V.heap.size (V.heap.size+1+1) nb) 144 (0,0)):Xy w (w1.alloc o) nb ⟨a,b,rt,tr,tb⟩ w1.heap.size V.heap.size (V.heap.size+1+1):=by
 subst ho;have s0:=hV.size;have e1:(V.alloc (.map #[] 0)).heap.size=V.heap.size+1:=by simp
 have aa:Below w.heap.size w w1:=(hV.alloc s0 _).trans (hb.mono (by omega));refine⟨aa.alloc (by omega) _,by omega,by omega,by omega,?_,?_,?_⟩
 ·rw[OD];exact CM _ _ rfl
 ·rw[Below.heap_alloc _ _ _ (by omega),<-e1];exact hj
 ·exact((Mp.made V 9 NU).above hb).above ((Below.refl _ _).alloc (Nat.le_refl _) _)
theorem aef{b:Int}(hV:Below w.heap.size w V)(hb:Below V.heap.size V w1)(hs:w1.heap.size=V.heap.size+1+1)(hj:w1.heap[V.heap.size+1]?=some (.chan tb #[] false 0 0 false))(ho:o=.cells (T7 a b rt tr tb w1.heap.size (V.heap.size+1) nb) 144 (0,0)):Xy w ((w1.alloc (.map #[] 0)).alloc o) nb ⟨a,b,rt,tr,tb⟩ (w1.heap.size+1) w1.heap.size (V.heap.size+1):=by
 subst ho;have s0:=hV.size;have e1:(w1.alloc (.map #[] 0)).heap.size=w1.heap.size+1:=by simp
 have aa:Below w.heap.size w w1:=hV.trans (hb.mono (by omega));refine⟨(aa.alloc (by omega) _).alloc (by omega) _,by omega,by omega,by omega,?_,?_,?_⟩
 ·rw[OD];exact CM _ _ e1
 ·rw[Below.heap_alloc _ _ _ (by omega),Below.heap_alloc _ _ _ (by omega)];exact hj
 ·exact(Mp.made w1 9 NU).above ((Below.refl _ _).alloc (Nat.le_refl _) _)
theorem ado:∀args w,(callFunc 82 args).run Tryz.prog w=.ok (.enter 82 args) w:=fun _ _=>rfl
theorem Ud(w:World)(nb tb:Nat)(a b rt tr:Int)(ht:tb<=9):Calls Tryz.prog 46 #[UK a b rt tr (tb:Int),ptr nb] w fun e w'=>∃s nm jc,e=.returned (ptr s)/\Xy w w' nb ⟨a,b,rt,tr,tb⟩ s nm jc:=by
 have ak:=@run_makeMap Tryz.prog;obtain⟨BX,ac⟩:∃BX,w.alloc (.cells #[.int .i64 a,.int .i64 b,.int .i64 rt,.int .i64 tr,.int .i64 (tb:Int)] 23)=BX:=⟨_,rfl⟩;have HB:Hid (Below w.heap.size w BX):=by
  rw[<-ac];exact(Below.refl _ _).alloc (Nat.le_refl _) _
 have ab:BX.heap[w.heap.size]?=some (.cells #[.int .i64 a,.int .i64 b,.int .i64 rt,.int .i64 tr,.int .i64 (tb:Int)] 23 (0,0)):=by
  rw[<-ac];exact heap_alloc_new w _
 have c0:BX.cell? ⟨w.heap.size,0,none⟩=some (.int .i64 a):=cell_of ab 0 _ rfl;have c1:BX.cell? ⟨w.heap.size,1,none⟩=some (.int .i64 b):=cell_of ab 1 _ rfl;have c2:BX.cell? ⟨w.heap.size,2,none⟩=some (.int .i64 rt):=cell_of ab 2 _ rfl;have c3:BX.cell? ⟨w.heap.size,3,none⟩=some (.int .i64 tr):=cell_of ab 3 _ rfl;have c4:BX.cell? ⟨w.heap.size,4,none⟩=some (.int .i64 (tb:Int)):=cell_of ab 4 _ rfl;have m0:=lt_of_block ab;have aj:=Ac ac;have HM:=Ac (fun w=>U3 w tb ht);simp only[aa4]at HM;clear ac ab;go_enter Tryz.func46,Tryz.ntmps46;go_wp2_with fail
 rw[Aa aj];go_region_law (first
  |(refine Av rfl 82 #[.tmp 8] #[3] rfl ado #[.int .i64 (tb:Int)] rfl _ ((Aa HM) _) ?_;rintro e w1 ⟨rfl,ad,ai,ah⟩;have aa:Below BX.heap.size BX w1:=(by first|exact D7 ad|exact(((Below.refl BX.heap.size BX).alloc (Nat.le_refl _) _).drew).trans (ad.mono (by simp)));have g0:w1.cell? ⟨w.heap.size,0,none⟩=some (.int .i64 a):=(aa.cell (p:=⟨w.heap.size,0,none⟩) m0).trans c0;have g1:w1.cell? ⟨w.heap.size,1,none⟩=some (.int .i64 b):=(aa.cell (p:=⟨w.heap.size,1,none⟩) m0).trans c1;have g2:w1.cell? ⟨w.heap.size,2,none⟩=some (.int .i64 rt):=(aa.cell (p:=⟨w.heap.size,2,none⟩) m0).trans c2;have g3:w1.cell? ⟨w.heap.size,3,none⟩=some (.int .i64 tr):=(aa.cell (p:=⟨w.heap.size,3,none⟩) m0).trans c3;have g4:w1.cell? ⟨w.heap.size,4,none⟩=some (.int .i64 (tb:Int)):=(aa.cell (p:=⟨w.heap.size,4,none⟩) m0).trans c4;have l1:w.heap.size<w1.heap.size:=Nat.lt_of_lt_of_le m0 aa.size;have ag:=Ac ai;have ae:=Ac ad;have af:=Ac ah;clear aa ad ai ah;refine⟨_,rfl,?_⟩))
 all_goals
  go_wp2;go_returns;first
   |exact⟨_,_,_,rfl,aee (V:=BX) (Aa HB) (D7 (Aa ae)) (Aa ag) (Aa af) rfl⟩
   |exact⟨_,_,_,rfl,aef (V:=BX) (Aa HB) (D7 (Aa ae)) (Aa ag) (Aa af) rfl⟩
end Go.Proofs.YtblomippkddgiabGreatDoor
