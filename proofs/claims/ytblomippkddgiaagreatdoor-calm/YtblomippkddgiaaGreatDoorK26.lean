import Derived.Test.YtblomippkddgiaaGreatDoorK25
import Derived.Conc.SmallLaws
set_option maxRecDepth 100000
set_option maxHeartbeats 1000000
namespace Go.Proofs.YtblomippkddgiaaGreatDoor
open Go.RowKit
theorem NG(l:List Int)(u:Int):dd (l++[u])=if u∈dd l then dd l else dd l++[u]:=by
 unfold dd;rw[List.foldl_append];rfl
theorem Qp{P:List Int->Prop}(h0:P [])(hs:∀l a,P l->P (l++[a]))(l:List Int):P l:=by
 have h:∀r:List Int,P r.reverse:=fun r=>by
  induction r with
  |nil=>exact h0
  |cons a r ih=>rw[List.reverse_cons];exact hs _ _ ih
 simpa using h l.reverse
theorem Q7(l:List Int):∀u,u∈dd l↔u∈l:=by
 refine Qp (P:=fun l=>∀u,u∈dd l↔u∈l) ?_ ?_ l
 ·simp[dd]
 ·intro l a ih u;rw[NG];split
  ·rename_i h;rw[ih u];simp only[List.mem_append,List.mem_singleton];constructor
   ·exact Or.inl
   ·rintro (q|rfl)
    ·exact q
    ·exact(ih u).1 h
  ·simp[ih u]
theorem V6(l:List Int):(dd l).Nodup:=by
 refine Qp (P:=fun l=>(dd l).Nodup) ?_ ?_ l
 ·simp[dd]
 ·intro l a ih;rw[NG];split
  ·exact ih
  ·rename_i h;rw[List.nodup_append];exact⟨ih,by simp,fun x hx y hy e=>by simp only[List.mem_singleton]at hy;subst hy;exact h (e ▸ hx)⟩
theorem abU:∀(N:Nat) (l:List Int),l.Nodup->(∀u∈l,1<=u/\u<=(N:Int))->l.length<=N
 |0,[],_,_=>Nat.le_refl _
 |0,u :: l,_,h=>by have:=h u (by simp);omega
 |N+1,l,hd,h=>by
  have h1:=abU N (l.erase ((N:Int)+1)) (hd.erase _) (fun u hu=>by
   have hm:=List.mem_of_mem_erase hu;have hne:u≠(N:Int)+1:=fun e=>by subst e;exact hd.not_mem_erase hu
   have:=h u hm;omega)
  have:=List.length_erase_le (a:=(N:Int)+1) (l:=l);by_cases hm:((N:Int)+1)∈l
  ·rw[List.length_erase_of_mem hm]at h1;omega
  ·rw[List.erase_of_not_mem hm]at h1;omega
theorem aaz{l:List Int}{N:Nat}(h:∀u∈l,1<=u/\u<=(N:Int)):(dd l).length<=N:=abU N (dd l) (V6 l) (fun u hu=>h u ((Q7 l u).1 hu))
theorem Ur(w:World)(s nm g m c k:Nat)(S:ByteArray)(kind:Int)(c5:w.cell? ⟨s,5,none⟩=some (.map (some nm)))(c6:w.cell? ⟨s,6,none⟩=some (.slice (some ⟨g,0,none⟩) m c))(hk:k<m)(hm:m<=255)(hkd:w.cell? ⟨g,k*3,none⟩=some (.int .i64 kind))
  (hlook:(Instr.lookup 159 (.map (some nm)) (.string S) true).run Tryz.prog w=.ok (.tuple #[.int .i64 ((k:Int)+1),.bool true]) w):
  Calls Tryz.prog 107 #[ptr s,.string S] w fun e w'=>e=.returned (.tuple #[.int .i64 ((k:Int)+1),.int .i64 kind,.int .i64 0])/\Below w.heap.size w w':=by
 have H72:=Ab (EG w.drew s g k m c c6 hk hm);clear c6;go_enter Tryz.func107,Tryz.ntmps107;go_wp2;go_region_held3 (fun w'=>w'.cell? ⟨g,k*3,none⟩=some (.int .i64 kind)) (go_keep) ((go_at_call 132;refine(Aa H72).mono ?_;rintro e w1 ⟨rfl,hw1⟩;rw[hw1];clear hw1))
 go_wp2;go_returns;exact⟨rfl,(Below.refl _ _).drew⟩
theorem Po(w:World)(x n s cs cn cap cb bm i:Nat)(S:ByteArray)(uid kind:Int)(C:World->Prop)(hx:w.heap[x]?=some (.cells #[ptr n,ptr s,.slice (some ⟨cs,0,none⟩) cn cap] 84 (0,0)))(hi:i<cn)(hcs:w.cell? ⟨cs,i,none⟩=some (ptr cb))(hcb:w.cell? ⟨cb,2,none⟩=some (.map (some bm)))
  (H52:Hid (Calls Tryz.prog 107 #[ptr s,.string S] w fun e w'=>e=.returned (.tuple #[.int .i64 uid,.int .i64 kind,.int .i64 0])/\Below w.heap.size w w'))
  (HPUT:Hid (∀w1,Below w.heap.size w w1->∃w2,(Instr.mapUpdate 131 (.map (some bm)) (.int .i64 uid) (.int .i64 kind)).run Tryz.prog w1=.ok () w2/\C w2)):
  Calls Tryz.prog 62 #[ptr x,.int .i64 (i:Int),.string S] w fun e w'=>e=.returned (.tuple #[.int .i64 uid,.int .i64 kind,.int .i64 0])/\C w':=by
 have q1:(0:Int)<=(i:Int):=by omega
 have q2:(i:Int)<(cn:Int):=by omega
 have c1:w.cell? ⟨x,1,none⟩=some (ptr s):=cell_of hx 1 _ rfl;have c2:w.cell? ⟨x,2,none⟩=some (.slice (some ⟨cs,0,none⟩) cn cap):=cell_of hx 2 _ rfl;have l1:=lt_of_cell c1;have l2:=lt_of_cell hcs;have l3:=lt_of_cell hcb;clear hx;go_enter Tryz.func62,Tryz.ntmps62;go_wp2_with (first|(go_at_call 38;go_in))
 refine(Aa H52).mono ?_;rintro e w1 ⟨rfl,hb⟩;have d2:w1.cell? ⟨x,2,none⟩=some (.slice (some ⟨cs,0,none⟩) cn cap):=(hb.cell (p:=⟨x,2,none⟩) l1).trans c2;have d3:w1.cell? ⟨cs,i,none⟩=some (ptr cb):=(hb.cell (p:=⟨cs,i,none⟩) l2).trans hcs;have d4:w1.cell? ⟨cb,2,none⟩=some (.map (some bm)):=(hb.cell (p:=⟨cb,2,none⟩) l3).trans hcb;obtain⟨w2,hrun,hC⟩:=(Aa HPUT) w1 hb;have HC:=Ab hC;clear hb hC c1 c2 hcs hcb;go_wp2_with (first|(go_at_call 108;go_in))
 go_returns;exact⟨rfl,Aa HC⟩
theorem OZ(w:World)(x n s cs cn cap:Nat)(S:ByteArray)(kind uid er:Int)(C:World->Prop)(hx:w.heap[x]?=some (.cells #[ptr n,ptr s,.slice (some ⟨cs,0,none⟩) cn cap] 84 (0,0)))(H51:Hid (Calls Tryz.prog 106 #[ptr s,.string S,.int .i64 kind] w fun e w'=>e=.returned (.tuple #[.int .i64 uid,.int .i64 er])/\C w')):
  Calls Tryz.prog 60 #[ptr x,.string S,.int .i64 kind] w fun e w'=>e=.returned (.tuple #[.int .i64 uid,.int .i64 er])/\C w':=by
 have c1:w.cell? ⟨x,1,none⟩=some (ptr s):=cell_of hx 1 _ rfl;clear hx;go_enter Tryz.func60,Tryz.ntmps60;go_wp2_with fail
 refine(Aa H51).mono ?_;rintro e w1 ⟨rfl,hC⟩;go_wp2;go_returns;exact⟨rfl,hC⟩
def Bd(G:R.Wd)(i:Nat)(uid:Int):R.Wd:={G with Ad:=G.Ad.modify i fun c=>{c with bound:=c.bound++[uid]}}
theorem Db{G:R.Wd}{i:Nat}{uid:Int}{j:Nat}:(Bd G i uid).Ad[j]?=(G.Ad[j]?).map fun c=>if i=j then {c with bound:=c.bound++[uid]} else c:=by
 simp only[Bd,List.getElem?_modify];by_cases h:i=j<;>simp[h]
theorem Ed{G:R.Wd}{i:Nat}{uid:Int}{j:Nat}{c':R.Cl}(h:(Bd G i uid).Ad[j]?=some c'):∃c0,G.Ad[j]?=some c0/\c'=(if i=j then {c0 with bound:=c0.bound++[uid]} else c0):=by
 rw[Db]at h;cases h0:G.Ad[j]? with
 |none=>rw[h0]at h;cases h
 |some c0=>rw[h0]at h;exact⟨c0,rfl,(Option.some.inj h).symm⟩
theorem Pp{G:R.Wd}(h:R.Wf G){i:Nat}{uid:Int}(hu:1<=uid/\uid<=(G.Ac.length:Int)):R.Wf (Bd G i uid):=by
 refine⟨h.cf,by simpa [Bd] using h.KF,fun j c hc=>?_,h.Ih,h.Hf,h.sv,h.MA,h.nm,h.st,h.nd,h.Ma⟩;obtain⟨c0,h0,rfl⟩:=Ed hc;have q:=h.cl j c0 h0;split
 ·refine⟨q.lines,q.Ag,fun u hu'=>?_,q.line⟩;rcases List.mem_append.1 hu' with hu'|hu'
  ·exact q.bound u hu'
  ·simp only[List.mem_singleton]at hu';subst hu';exact hu
 ·exact⟨q.lines,q.Ag,q.bound,q.line⟩
theorem LW.bind{p:Pl}{F:Aq}{G:R.Wd}{w w1 w2:World}(h:LW p F G w){i:Nat}{c:R.Cl}{uid:Int}(hc:G.Ad[i]?=some c)(hu:1<=uid/\uid<=(G.Ac.length:Int))(hb:Below w.heap.size w w1)(ht:Af (fun k=>k=p.bm i) w1 w2)(hm:Mp w2 3 (p.bm i) Mm (BR G {c with bound:=c.bound++[uid]}) (dd (c.bound++[uid])).length):
  LW p F (Bd G i uid) w2/\Ay F F w w2:=by
 have hi:=(List.getElem?_eq_some_iff.1 hc).1;obtain⟨es,q,hq⟩:=(h.bound i c hc).block;have hkA:Af (fun k=>k=p.bm i) w w2:=(Af.Aj hb _).trans ht;have hav:Avoid w F (fun k=>k=p.bm i):=Avoid.tags (fun b hb=>Or.inr ⟨es,q,by subst hb;exact hq⟩);have hlen:(Bd G i uid).Ad.length=G.Ad.length:=by simp[Bd]
 have at':∀{b:Nat} {ys:Array Value} {t:TypeId} {f:Nat×Nat},w.heap[b]?=some (.cells ys t f)->w2.heap[b]?=some (.cells ys t f):=fun hb=>hkA.at hb (Hr hb hq)
 have rw':∀{K:Value} {e:TypeId} {size n B:Nat} {xs:List Value},w.ownsRow B e size K n xs->w2.ownsRow B e size K n xs:=fun hr=>hkA.row hr (fun j hj e=>Fw hr hq (e ▸ hj))
 refine⟨⟨Pp h.wf hu,h.Eb,?_,?_,?_,?_,?_,fun j c' hj=>?_,fun j c' hj=>?_,fun j c' hj=>?_,h.BM,?_,?_,fun k hf=>Nat.lt_of_lt_of_le (h.lt k hf) hkA.size⟩,⟨hkA.mono (fun k _ e=>by rw[e];exact(h.Gs i hi).2.2.1),fun _ q=>Or.inl q⟩⟩
 ·rw[hlen];exact at' h.bx
 ·rw[hlen];obtain⟨cur,h1,h2⟩:=h.YF;exact⟨cur,at' h1,h2⟩
 ·obtain⟨K,h1,h2,h3⟩:=h.bn;exact⟨K,at' h1,rw' h2,h3⟩
 ·exact h.Co.keep hkA hav (fun _ r=>r)
 ·exact h.names.keep hkA (fun e=>(h.Gs i hi).2.2.2 e.symm)
 ·obtain⟨c0,h0,rfl⟩:=Ed hj;have:=at' (h.cl j c0 h0);split<;>exact this
 ·obtain⟨c0,h0,rfl⟩:=Ed hj;obtain⟨xs,h1,h2,h3⟩:=h.ln j c0 h0;refine⟨xs,at' h1,?_⟩;have h4:=h3.Ea hkA hav.sv (fun _ r=>r);split<;>exact⟨h2,h4⟩
 ·obtain⟨c0,h0,rfl⟩:=Ed hj;by_cases hij:i=j
  ·subst hij;obtain rfl:=Option.some.inj (hc.symm.trans h0);simp only[if_true];exact hm
  ·simp only[hij,if_false];exact(h.bound j c0 h0).keep hkA (fun e=>(h.inj i j hi (List.getElem?_eq_some_iff.1 h0).1 hij).2.1 e.symm)
 ·rw[hlen];exact h.Gs
 ·rw[hlen];exact h.inj
theorem Yf{G:R.Wd}(h:R.Wf G){name:List UInt8}{uid:Int}(hs:Bc G name=some uid):1<=uid/\uid<=(G.Ac.length:Int):=by
 unfold Bc R.Dg at hs;cases hf:G.names.findIdx? (·==name) with
 |none=>rw[hf]at hs;cases hs
 |some k=>
  rw[hf]at hs;simp only[Option.map_some,Option.some.injEq]at hs;have hk:=(List.findIdx?_eq_some_iff_getElem.1 hf).1;have hst:=h.st;subst hs;refine h.Ma _ ?_;rw[List.getD_eq_getElem?_getD,List.getElem?_eq_getElem (by omega)];simp
theorem LW.import{p:Pl}{F:Aq}{G:R.Wd}{w:World}(h:LW p F G w){i:Nat}{c:R.Cl}{name:List UInt8}{uid:Int}(hc:G.Ad[i]?=some c)(hl:name.length<=1000000000000000)(hs:Bc G name=some uid):
  Calls Tryz.prog 62 #[ptr p.x,.int .i64 (i:Int),.string (str name)] w fun e w'=>e=.returned (.tuple #[.int .i64 uid,.int .i64 (kindOf G uid),.int .i64 0])/\LW p F (Bd G i uid) w'/\Ay F F w w':=by
 have hi:=(List.getElem?_eq_some_iff.1 hc).1;have hu:=Yf h.wf hs;have hsv:=h.wf.sv;obtain⟨k,hk⟩:∃k:Nat,uid=(k:Int)+1:=⟨(uid-1).toNat,by omega⟩;have hkl:k<G.Ac.length:=by omega
 have hlook:=Py h.names (s:=name) (by unfold maxLen;omega);rw[hs]at hlook;simp only[Option.getD_some,Option.isSome_some]at hlook;have hgk:G.Ac[k]?=some (G.Ac[k]'hkl):=List.getElem?_eq_getElem hkl;have hkd:kindOf G uid=(G.Ac[k]'hkl).kind:=by
  unfold kindOf;rw[show (uid-1).toNat=k by omega,hgk];rfl
 obtain⟨z,hz,hz1⟩:=Mh h.Co.zs hgk;have hzl:p.t.zs.length=G.Ac.length:=by rw[<-h.Co.zs,List.length_map]
 obtain⟨g,cap,cur,hK,_,_,hcell,_⟩:=h.Co.JR hz;have hz2:z.1.kind=kindOf G uid:=by rw[hz1,hkd]
 rw[hz2]at hcell;rw[hk]at hlook ⊢;have hfd:=Ur w p.s p.nm g p.t.zs.length cap k (str name) (kindOf G uid) (cell_of h.Co.bs 5 _ rfl) (cell_of h.Co.bs 6 _ (by rw[<-hK];rfl)) (by omega) (by omega) hcell hlook;rw[hk]at hfd;refine Po w p.x p.n p.s p.cs G.Ad.length p.cap (p.cb i) (p.bm i) i (str name) ((k:Int)+1) (kindOf G ((k:Int)+1)) (fun w'=>LW p F (Bd G i ((k:Int)+1)) w'/\Ay F F w w') h.bx hi (h.Ug hi) (K3 h hc).a2 hfd ?_;intro w1 hb;have hfew:=aaz (N:=255) (fun u hu'=>by have:=(h.wf.cl i c hc).bound u hu';omega);have hmk:-9223372036854775808<=kindOf G ((k:Int)+1)/\kindOf G ((k:Int)+1)<=9223372036854775807:=by
  rw[hk]at hkd;have:=h.wf.MA _ (List.mem_of_getElem? hgk);omega
 obtain⟨w2,hrun,hm,htn⟩:=ZA ((h.bound i c hc).keep (Af.Aj hb (fun _=>False)) (fun e=>e)) (by omega) (u:=(k:Int)+1) (v:=kindOf G ((k:Int)+1)) (by omega) hmk (BR G {c with bound:=c.bound++[(k:Int)+1]}) (fun x=>⟨fun e=>by subst e;simp[BR],fun e=>by
  unfold BR;simp[e]⟩)
 refine⟨w2,hrun,h.bind hc (by omega) hb (JE htn) ?_⟩;rw[NG];have hbo:(BR G c ((k:Int)+1)).isSome=decide (((k:Int)+1)∈c.bound):=by
  unfold BR;by_cases hq:((k:Int)+1)∈c.bound<;>simp[hq]
 rw[hbo]at hm;by_cases hq:((k:Int)+1)∈c.bound
 ·rw[if_pos ((Q7 _ _).2 hq)];simpa [hq] using hm
 ·rw[if_neg (fun q=>hq ((Q7 _ _).1 q))];simpa [hq] using hm
abbrev Uc(a b c d e:Int):Value:=.agg #[.int .i64 a,.int .i64 b,.int .i64 c,.int .i64 d,.int .i64 e]
def zln:DK:=⟨0,0,.slice none 0 0,0,0,[],0,[],0,0⟩
theorem RG(n:Nat)(hn:1<=n/\n<=3)(W:World):(Instr.makeSlice 132 (.int .i64 (n:Int)) (.int .i64 (n:Int))).run Tryz.prog W=.ok (.slice (some ⟨W.heap.size,0,none⟩) n n) (W.alloc (.cells (tab DK.cells (List.replicate n zln)).toArray 139)):=by
 have h3:n=1\/n=2\/n=3:=by omega
 rcases h3 with rfl|rfl|rfl
 ·show _=_;kernel_rfl
 ·show _=_;kernel_rfl
 ·show _=_;kernel_rfl
structure QH(w w':World)(k:Nat)(Ag:Int)(n nb:Nat)(rt tr:Int)(cb lb bm:Nat):Prop where
 below:Below w.heap.size w w'
 c0:w.heap.size<=cb
 l0:w.heap.size<=lb
 b0:w.heap.size<=bm
 cell:w'.heap[cb]?=some (.cells #[.int .i64 (k:Int),.int .i64 Ag,.map (some bm),.slice (some ⟨lb,0,none⟩) n n,.int .i64 rt,.int .i64 tr,ptr nb] 134 (0,0))
 lines:w'.heap[lb]?=some (.cells (tab DK.cells (List.replicate n zln)).toArray 139 (0,0))
 map:Mp w' 3 bm Mm (fun _=>none) 0
theorem CH(w:World)(o:Obj){n:Nat}(h:w.heap.size=n):(w.alloc o).heap[n]?=some o:=by
 subst h;exact heap_alloc_new w o
theorem Mp.above{α:Type}{w w':World}{k:TypeId}{b:Nat}{lit:α->Lit}{g:α->Option Int}{n:Nat}(h:Mp w k b lit g n)(hb:Below w.heap.size w w'):Mp w' k b lit g n:=h.keep (Af.Aj hb (fun _=>False)) (fun e=>e)
theorem abN{w BX:World}{k n nb:Nat}{rt tr:Int}{TL:Array Value}(hb:Below w.heap.size w BX)(hT:TL=(tab DK.cells (List.replicate n zln)).toArray):
  QH w (((BX.alloc (.map #[] 0)).alloc (.cells TL 139)).alloc (.cells #[.int .i64 (k:Int),.int .i64 1,.map (some BX.heap.size),.slice (some ⟨BX.heap.size+1,0,none⟩) n n,.int .i64 rt,.int .i64 tr,ptr nb] 134)).drew k 1 n nb rt tr (BX.heap.size+1+1) (BX.heap.size+1) BX.heap.size:=by
 have s0:=hb.size;have e1:(BX.alloc (.map #[] 0)).heap.size=BX.heap.size+1:=by simp
 have e2:((BX.alloc (.map #[] 0)).alloc (.cells TL 139)).heap.size=BX.heap.size+1+1:=by simp
 refine⟨?_,by omega,by omega,by omega,?_,?_,?_⟩
 ·exact(((hb.alloc s0 _).alloc (by omega) _).alloc (by omega) _).drew
 ·rw[EO];exact CH _ _ e2
 ·rw[EO,Below.heap_alloc _ _ _ (by omega),<-hT];exact CH _ _ e1
 ·exact(Mp.made BX 3 Mm).above (((((Below.refl _ _).alloc (Nat.le_refl _) _).alloc (by omega) _)).drew)
theorem abO{w BX:World}{k n nb:Nat}{rt tr:Int}{TL:Array Value}(hb:Below w.heap.size w BX)(hT:TL=(tab DK.cells (List.replicate n zln)).toArray):
  QH w (((BX.alloc (.cells TL 139)).alloc (.map #[] 0)).alloc (.cells #[.int .i64 (k:Int),.int .i64 1,.map (some (BX.heap.size+1)),.slice (some ⟨BX.heap.size,0,none⟩) n n,.int .i64 rt,.int .i64 tr,ptr nb] 134)).drew k 1 n nb rt tr (BX.heap.size+1+1) BX.heap.size (BX.heap.size+1):=by
 have s0:=hb.size;have e1:(BX.alloc (.cells TL 139)).heap.size=BX.heap.size+1:=by simp
 have e2:((BX.alloc (.cells TL 139)).alloc (.map #[] 0)).heap.size=BX.heap.size+1+1:=by simp
 refine⟨?_,by omega,by omega,by omega,?_,?_,?_⟩
 ·exact(((hb.alloc s0 _).alloc (by omega) _).alloc (by omega) _).drew
 ·rw[EO];exact CH _ _ e2
 ·rw[EO,Below.heap_alloc _ _ _ (by omega),Below.heap_alloc _ _ _ (by omega),<-hT];exact CH _ _ rfl
 ·have h0:=Mp.made (BX.alloc (.cells TL 139)) 3 Mm;rw[e1]at h0;exact h0.above (((Below.refl _ _).alloc (by omega) _).drew)
theorem Q0(w:World)(k n nb:Nat)(a rt tr tb:Int)(hn:1<=n/\n<=3):
  Calls Tryz.prog 59 #[.int .i64 (k:Int),Uc a (n:Int) rt tr tb,ptr nb] w fun e w'=>∃cb lb bm,e=.returned (ptr cb)/\QH w w' k 1 n nb rt tr cb lb bm:=by
 have hms:=RG n hn;have hmm:=@run_makeMap Tryz.prog;obtain⟨TL,hTL⟩:∃TL,TL=(tab DK.cells (List.replicate n zln)).toArray:=⟨_,rfl⟩;rw[<-hTL]at hms;have HTL:=Ab hTL;clear hTL;obtain⟨BX,hBX⟩:∃BX,w.alloc (.cells #[.int .i64 a,.int .i64 (n:Int),.int .i64 rt,.int .i64 tr,.int .i64 tb] 26)=BX:=⟨_,rfl⟩;have HB:Hid (Below w.heap.size w BX):=by
  rw[<-hBX];exact(Below.refl _ _).alloc (Nat.le_refl _) _
 have hbx:BX.heap[w.heap.size]?=some (.cells #[.int .i64 a,.int .i64 (n:Int),.int .i64 rt,.int .i64 tr,.int .i64 tb] 26 (0,0)):=by
  rw[<-hBX];exact heap_alloc_new w _
 have hs:BX.heap.size=w.heap.size+1:=by rw[<-hBX];simp
 have c1:BX.cell? ⟨w.heap.size,1,none⟩=some (.int .i64 (n:Int)):=cell_of hbx 1 _ rfl;have c2:BX.cell? ⟨w.heap.size,2,none⟩=some (.int .i64 rt):=cell_of hbx 2 _ rfl;have c3:BX.cell? ⟨w.heap.size,3,none⟩=some (.int .i64 tr):=cell_of hbx 3 _ rfl;have m0:w.heap.size<BX.heap.size:=by omega
 have HBX:=Ab hBX;have HS:=Ab hs;have HKP:Hid (∀o1 o2 o3,(((BX.alloc o1).alloc o2).alloc o3).drew.cell? ⟨w.heap.size,1,none⟩=some (.int .i64 (n:Int))/\(((BX.alloc o1).alloc o2).alloc o3).drew.cell? ⟨w.heap.size,2,none⟩=some (.int .i64 rt)/\(((BX.alloc o1).alloc o2).alloc o3).drew.cell? ⟨w.heap.size,3,none⟩=some (.int .i64 tr)):=fun o1 o2 o3=>by
  have hb:Below BX.heap.size BX (((BX.alloc o1).alloc o2).alloc o3).drew:=((((Below.refl _ _).alloc (Nat.le_refl _) _).alloc (by simp) _).alloc (by simp;omega) _).drew;exact⟨(hb.cell (p:=⟨w.heap.size,1,none⟩) m0).trans c1,(hb.cell (p:=⟨w.heap.size,2,none⟩) m0).trans c2,(hb.cell (p:=⟨w.heap.size,3,none⟩) m0).trans c3⟩
 clear hBX hbx hs;go_enter Tryz.func59,Tryz.ntmps59;go_wp2_with fail
 rw[Aa HBX];go_region_held3 (fun w'=>w'.cell? ⟨w.heap.size,1,none⟩=some (.int .i64 (n:Int))/\w'.cell? ⟨w.heap.size,2,none⟩=some (.int .i64 rt)/\w'.cell? ⟨w.heap.size,3,none⟩=some (.int .i64 tr)) (first|exact(Aa HKP) _ _ _|go_keep) (fail)
 all_goals
  go_wp2;go_returns
 ·exact⟨_,_,_,rfl,abN (Aa HB) (Aa HTL)⟩
 ·exact⟨_,_,_,rfl,abO (Aa HB) (Aa HTL)⟩
theorem aaN:(Tryz.prog.info? 89).map (fun i=>(i.zero,i.size,i.bytes))=some (some (.pointer none),1,8):=by kernel_rfl
def Z7(cb:Nat->Nat)(k:Nat):List Value:=(List.range k).map fun i=>ptr (cb i)
def upd(f:Nat->Nat)(k v:Nat):Nat->Nat:=fun j=>if j=k then v else f j
theorem upd_same(f:Nat->Nat)(k v:Nat):upd f k v k=v:=by simp[upd]
theorem EV(f:Nat->Nat){k v j:Nat}(h:j≠k):upd f k v j=f j:=by simp[upd,h]
theorem YJ(cb:Nat->Nat)(k v:Nat):Z7 (upd cb k v) (k+1)=Z7 cb k++[ptr v]:=by
 unfold Z7;rw[List.range_succ,List.map_append,List.map_singleton,upd_same];congr 1;apply List.map_congr_left;intro i hi;rw[EV _ (by have:=List.mem_range.1 hi;omega)]
def sp0(jc:Nat):SP:=⟨.slice none 0 0,[],fun _=>0,jc⟩
structure NI(w:World)(c:R.Cf)(A n s x nm jc:Nat)(k:Nat)(cb lb bm:Nat->Nat)(K:Value)(wr:World):Prop where
 below:Below w.heap.size w wr
 cA:wr.heap[A]?=some (.cells #[.int .i64 c.Ad,.int .i64 c.lines,.int .i64 c.Be,.int .i64 c.tries,.int .i64 c.table] 26 (0,0))
 cx:wr.heap[x]?=some (.cells #[ptr n,ptr s,K] 84 (0,0))
 row:wr.ownsRow 0 89 1 K k (Z7 cb k)
 cn:wr.heap[n]?=some (.cells #[.slice none 0 0] 113 (0,0))
 cs:wr.heap[s]?=some (.cells (Cv n nm (sp0 jc) c [0,0,0] (List.replicate 9 R.De)).toArray 167 (0,0))
 cj:wr.heap[jc]?=some (.chan c.table.toNat #[] false 0 0 false)
 names:Mp wr 9 nm N0 (fun _=>none) 0
 lo:w.heap.size<=A/\w.heap.size<=n/\w.heap.size<=s/\w.heap.size<=x/\w.heap.size<=nm/\w.heap.size<=jc
 kb:∀j,K.ownBlock=some j->w.heap.size<=j
 each:∀i,i<k->(w.heap.size<=cb i/\w.heap.size<=lb i/\w.heap.size<=bm i)/\wr.heap[cb i]?=some (.cells #[.int .i64 (i:Int),.int .i64 1,.map (some (bm i)),.slice (some ⟨lb i,0,none⟩) c.lines.toNat c.lines.toNat,.int .i64 c.Be,.int .i64 c.tries,ptr n] 134 (0,0)) /\
  wr.heap[lb i]?=some (.cells (tab DK.cells (List.replicate c.lines.toNat zln)).toArray 139 (0,0))/\Mp wr 3 (bm i) Mm (fun _=>none) 0/\bm i≠nm
 inj:∀i j,i<k->j<k->i≠j->lb i≠lb j/\bm i≠bm j/\cb i≠cb j
theorem A8{w:World}{B:Nat}{e:TypeId}{size n:Nat}{v:Value}{xs:List Value}(h:w.ownsRow B e size v n xs){b off:Nat}(hne:v.ownBlock≠some b)(u:Value):(w.setCell ⟨b,off,none⟩ u).ownsRow B e size v n xs:=
 F9 h (fun g hg=>Below.heap_setCell _ _ _ _ (fun e=>hne (by rw[hg];exact congrArg some e)))
theorem NI.more{w:World}{c:R.Cf}{A n s x nm jc k:Nat}{cb lb bm:Nat->Nat}{K:Value}{wr w1 wz:World}(h:NI w c A n s x nm jc k cb lb bm K wr){cb' lb' bm':Nat}(hn:QH wr w1 k 1 c.lines.toNat n c.Be c.tries cb' lb' bm'){K':Value}(hown:wz.ownsRow 0 89 1 K' (k+1) (Z7 cb k++[ptr cb']))(hg:(w1.alloc (.cells #[ptr cb'] 89)).grownBy wz K.ownBlock)(hat:K'.ownBlock=K.ownBlock\/K'.ownBlock=some (w1.heap.size+1)):
  NI w c A n s x nm jc (k+1) (upd cb k cb') (upd lb k lb') (upd bm k bm') K' (wz.setCell ⟨x,2,none⟩ K'):=by
 have s0:=h.below.size;have s1:=hn.below.size;have hK:Af (fun q=>K.ownBlock=some q\/q=x) wr (wz.setCell ⟨x,2,none⟩ K'):=
  Af.setCell (F:=fun q=>K.ownBlock=some q\/q=x) (((Af.Aj hn.below _).alloc _).grown hg (fun q hq=>Or.inl (Or.inl hq))) (p:=⟨x,2,none⟩) (Or.inl (Or.inr rfl)) _
 have hK1:Af (fun q=>K.ownBlock=some q\/q=x) w1 (wz.setCell ⟨x,2,none⟩ K'):=
  Af.setCell (F:=fun q=>K.ownBlock=some q\/q=x) (((Af.refl _ _).alloc _).grown hg (fun q hq=>Or.inl (Or.inl hq))) (p:=⟨x,2,none⟩) (Or.inl (Or.inr rfl)) _
 have hKx:K.ownBlock≠some x:=A6 h.row h.cx (by decide);have hlx:=lt_of_block h.cx;have at':∀{b:Nat} {ys:Array Value} {t:TypeId} {f:Nat×Nat},wr.heap[b]?=some (.cells ys t f)->t≠84->t≠89->(wz.setCell ⟨x,2,none⟩ K').heap[b]?=some (.cells ys t f):=fun hb h1 h2=>hK.at hb (by
  rintro (e|e)
  ·exact A6 h.row hb (fun q=>h2 q.symm) e
  ·exact Bi hb h.cx h1 e)
 have map':∀{α:Type} {t:TypeId} {b:Nat} {lit:α->Lit} {g:α->Option Int} {m:Nat},Mp wr t b lit g m->Mp (wz.setCell ⟨x,2,none⟩ K') t b lit g m:=fun hm=>by
  obtain⟨es,q,hq⟩:=hm.block;refine hm.keep hK ?_;rintro (e|e)
  ·exact Fw h.row hq e
  ·exact(Hr h.cx hq) e.symm
 have kolt:∀q,K.ownBlock=some q->q<wr.heap.size:=fun q hq=>(World.ownsRow.lt h.row q hq).2
 have new':∀{b:Nat} {o:Obj},w1.heap[b]?=some o->wr.heap.size<=b->(wz.setCell ⟨x,2,none⟩ K').heap[b]?=some o:=fun hb hl=>hK1.at hb (by
  rintro (e|e)
  ·have:=kolt _ e;omega
  ·omega)
 have hne':K'.ownBlock≠some x:=by
  rcases hat with e|e
  ·rw[e];exact hKx
  ·rw[e];intro q;simp at q;omega
 have hcj:¬(K.ownBlock=some jc\/jc=x):=by
  rintro (e|e)
  ·rcases id h.row.2 with ⟨q,_⟩|⟨g,cap,cur',q,_,hg',_⟩
   ·rw[q]at e;cases e
   ·rw[q]at e;cases e;have:=h.cj;rw[hg']at this;cases this
  ·have:=h.cj;rw[e,h.cx]at this;cases this
 refine⟨?_,at' h.cA (by decide) (by decide),?_,?_,at' h.cn (by decide) (by decide),at' h.cs (by decide) (by decide),hK.at h.cj hcj,map' h.names,h.lo,fun j hj=>?_,fun i hi=>?_,fun i j hi hj hij=>?_⟩
 ·exact h.below.trans (hK.below s0 (fun q hq=>by
   rcases hq with hq|rfl
   ·exact h.kb q hq
   ·exact h.lo.2.2.2.1))
 ·have hgx:wz.heap[x]?=some (.cells #[ptr n,ptr s,K] 84 (0,0)):=(hg.block x (by simp;omega) (fun e=>hKx e.symm)).trans ((Below.heap_alloc _ _ _ (by omega)).trans ((hn.below.block x hlx).trans h.cx));exact Ak (cs:=[ptr n,ptr s,K]) (off:=2) hgx K'
 ·rw[YJ];exact A8 hown hne' _
 ·rcases hat with e|e
  ·exact h.kb j (e ▸ hj)
  ·rw[e]at hj;simp at hj;omega
 ·by_cases hik:i=k
  ·subst hik;simp only[upd_same];obtain⟨es,q,hq⟩:=hn.map.block;refine⟨⟨by have:=hn.c0;omega,by have:=hn.l0;omega,by have:=hn.b0;omega⟩,new' hn.cell hn.c0,new' hn.lines hn.l0,hn.map.keep hK1 ?_,?_⟩
   ·rintro (e|e)
    ·have:=kolt _ e;have:=hn.b0;omega
    ·have:=hn.b0;omega
   ·have:=h.names.lt;have:=hn.b0;omega
  ·obtain⟨a1,a2,a3,a4,a5⟩:=h.each i (by omega);simp only[EV _ hik];exact⟨a1,at' a2 (by decide) (by decide),at' a3 (by decide) (by decide),map' a4,a5⟩
 ·by_cases hik:i=k
  ·subst hik;have hjk:j≠i:=fun e=>hij e.symm
   obtain⟨_,a2,a3,a4,_⟩:=h.each j (by omega);have l0:=lt_of_block a2;have l1:=lt_of_block a3;have:=hn.c0;have l2:=a4.lt;simp only[upd_same,EV _ hjk];have:=hn.l0;have:=hn.b0;omega
  ·by_cases hjk:j=k
   ·subst hjk;obtain⟨_,a2,a3,a4,_⟩:=h.each i (by omega);have l0:=lt_of_block a2;have l1:=lt_of_block a3;have:=hn.c0;have l2:=a4.lt;simp only[upd_same,EV _ hik];have:=hn.l0;have:=hn.b0;omega
   ·simp only[EV _ hik,EV _ hjk];exact h.inj i j (by omega) (by omega) hij
end Go.Proofs.YtblomippkddgiaaGreatDoor
