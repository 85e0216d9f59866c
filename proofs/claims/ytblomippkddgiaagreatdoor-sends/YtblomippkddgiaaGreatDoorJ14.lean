import Derived.Test.YtblomippkddgiaaGreatDoorJ13
import Derived.Laws.CopyOwn
set_option maxRecDepth 100000
set_option maxHeartbeats 1000000
namespace Go.Proofs.YtblomippkddgiaaGreatDoor.V
open Go.RowKit
structure Good(s:ByteArray):Prop where
 size:s.size<=40
 ok:GV s (s.size+1) 0
 DK:Pt.DK (nx s) (s.size+1) 0<=4
theorem KV{s:ByteArray}(h:(Pt.GX (nx s) s.size).1=0):Good s:=by
 unfold Pt.GX at h;split at h
 ·cases h
 ·split at h
  ·rename_i h1 h2;split at h
   ·cases h
   ·split at h
    ·cases h
    ·exact⟨by omega,⟨Nat.zero_le _,by omega,h2⟩,by omega⟩
  ·cases h
def LC(s:ByteArray)(w:World)(e:Ending)(w':World):Prop:=
 (if (Pt.GX (nx s) s.size).1=0 then ∃c0 c1 c2,e=.returned (.agg #[c0,c1,c2])/\EU w' (fun k=>w.heap.size<=k) (nx s) (s.size+1) 0 c0 c1 c2 else e=A5 (Pt.GX (nx s) s.size).1 (Pt.GX (nx s) s.size).2)/\Below w.heap.size w w'
theorem Si(s:ByteArray)(w:World):Calls Tryz.prog 78 #[.string s] w (LC s w):=by
 unfold LC;by_cases hs:s.size<=40
 ·have hn:¬40<s.size:=by omega
  cases hT:(Pt.ty (nx s) (s.size+1) 0).1 with
  |false=>
   have e1:Pt.GX (nx s) s.size=(2,(Pt.ty (nx s) (s.size+1) 0).2):=by simp[Pt.GX,hn,hT]
   rw[e1];exact OH s w hs hT
  |true=>
   obtain⟨_,hb,_⟩:=Pt.agree (g:=nx s) (n:=s.size) (fun p hp=>Gm hp) (s.size+1) 0 0 1 0 [] (by omega) (by omega);obtain⟨q1,q2⟩:=hb hT;by_cases hq:(Pt.ty (nx s) (s.size+1) 0).2<s.size
   ·have e1:Pt.GX (nx s) s.size=(2,(Pt.ty (nx s) (s.size+1) 0).2):=by simp[Pt.GX,hn,hT,hq]
    rw[e1];exact RH s w hs hT hq
   ·have H:=U1 s w hs hT (by omega);by_cases h4:4<Pt.DK (nx s) (s.size+1) 0
    ·have e1:Pt.GX (nx s) s.size=(3,0):=by simp[Pt.GX,hn,hT,hq,h4]
     rw[e1];simp only[h4,if_true]at H;exact H
    ·have e1:Pt.GX (nx s) s.size=(0,0):=by simp[Pt.GX,hn,hT,hq,h4]
     rw[e1];simp only[h4,if_false]at H;exact H
 ·have e1:Pt.GX (nx s) s.size=(1,0):=by
   have:40<s.size:=by omega
   simp[Pt.GX,this]
  rw[e1];exact RG s w hs
def C3(s:ByteArray)(v:List It):Nat×List UInt8:=if (Pt.GX (nx s) s.size).1=0 then Ht (Dk (nx s) (s.size+1) 0 v) v else ((Pt.GX (nx s) s.size).1,[])
theorem Wp{g:Nat->Nat}{f p:Nat}{v:List It}:(vI 0 (Dk g f p v)==(v.length:Int))=(match Dk g f p v with|none=>false|some (_,r)=>r.isEmpty):=by
 cases he:Dk g f p v with
 |none=>simp[vI]
 |some a=>
  obtain⟨ks,r⟩:=a;obtain⟨h1,h2⟩:=Cu g f p v ks r he;have hl:r.length=v.length-ks.length:=by rw[h1,List.length_drop]
  simp only[vI];cases r with
  |nil=>simp at hl ⊢;omega
  |cons y r=>simp at hl ⊢;omega
theorem Ug{ks:List Bool}{v:List It}(h:E6 ks v)(hl:ks.length=v.length):PI ks v:=⟨hl,h⟩
def flat:List It->List Value
 |[]=>[]
 |x :: v=>.int .i64 x.1 :: .string x.2 :: flat v
theorem Cm:∀v:List It,(flat v).length=v.length*2
 |[]=>rfl
 |x :: v=>by simp only[flat,List.length_cons,Cm v];omega
theorem flat_get:∀(v:List It) (j:Nat) (x:It),v[j]?=some x->(flat v)[j*2]?=some (.int .i64 x.1)/\(flat v)[j*2+1]?=some (.string x.2)
 |[],j,x,h=>by simp at h
 |y :: v,0,x,h=>by
  simp at h;subst h;exact⟨rfl,rfl⟩
 |y :: v,j+1,x,h=>by
  have:=flat_get v j x (by simpa using h);rw[show (j+1)*2=j*2+1+1 by omega];simpa [flat] using this
theorem Gz:∀v:List It,∀u∈flat v,u.oneCell'=true
 |[],u,h=>by cases h
 |x :: v,u,h=>by
  simp only[flat,List.mem_cons]at h;rcases h with rfl|rfl|h
  ·rfl
  ·rfl
  ·exact Gz v u h
theorem Ob{w:World}{ad:Addr}{cap:Nat}{v:List It}(h:Items w (.slice (some ad) v.length cap) v):∀j u,(flat v)[j]?=some u->w.cell? (ad.add j)=some u:=by
 obtain⟨a,cap',hV,_,h⟩:=h;cases hV;rcases h with rfl|⟨b,off,ha,hl,hx⟩
 ·intro j u hj;simp[flat]at hj
 ·cases ha;intro j u hj;have hjl:j<v.length*2:=by
   rw[<-Cm];exact(List.getElem?_eq_some_iff.1 hj).1
  obtain⟨x,hx'⟩:∃x,v[j / 2]?=some x:=⟨_,List.getElem?_eq_getElem (by omega)⟩;obtain⟨f0,f1⟩:=flat_get v (j / 2) x hx';obtain⟨c0,c1⟩:=hx (j / 2) x hx';have had:∀o,(⟨b,off,none⟩:Addr).add o=⟨b,off+o,none⟩:=fun o=>by simp[Addr.add]
  rw[had];by_cases hp:j % 2=0
  ·have e:j / 2*2=j:=by omega
   rw[e]at f0 c0;rw[f0]at hj;cases hj;exact c0
  ·have e:j / 2*2+1=j:=by omega
   rw[e]at f1;rw[Nat.add_assoc,e]at c1;rw[f1]at hj;cases hj;exact c1
theorem N6:(Tryz.prog.info? 106).map (fun i=>(i.zero,i.size,i.bytes))=some (some (.agg #[.int .i64 0,.string ⟨#[]⟩]),2,24):=by kernel_rfl
theorem WI:(Tryz.prog.info? 106).map (·.size)=some 2:=by kernel_rfl
theorem RZ{P:Program}(w:World)(dT sT ty elem:TypeId)(g dLen dCap:Nat)(a:Addr)(sLen sCap:Nat)(cur:Array Value)(t:TypeId)(cs:List Value)
  (hu:P.underlying dT=some (.slice elem)) (hs:(P.info? elem).map (·.size)=some 2)
  (hg:w.heap[g]?=some (.cells cur t (0,0))) (hn:cs.length=Nat.min sLen dLen*2)
  (hsrc:∀j v,cs[j]?=some v->w.cell? (a.add j)=some v) (hfit:cs.length<=cur.size) (h1:∀v∈cs,v.oneCell'=true):
  (Builtin.copy_ #[dT,sT] ty #[.slice (some ⟨g,0,none⟩) dLen dCap,.slice (some a) sLen sCap]).run P w =
   .ok (goInt (Nat.min sLen dLen)) (w.setRow g (cs++cur.toList.drop cs.length).toArray):=by
 have hl:=run_loadCells_list (P:=P) w a cs hsrc;have hst:=run_storeCells_at P g 0 t cs 0 cur w hg (by simpa using hfit) h1;cases hq:P.info? elem with
 |none=>simp[hq]at hs
 |some i=>
  have hi:i.size=2:=by simpa [hq] using hs
  have hn':Nat.min sLen dLen*2=cs.length:=hn.symm;simp[Builtin.copy_,run_underlying hu,Builtin.lenOf,Builtin.firstCells,sizeOf,typeInfo,hq,hi,hn',hl,hst]
def Ca:It:=(-77,⟨#[98,101,121,111,110,100]⟩)
abbrev IK(x:It):Value:=.agg #[.int .i64 x.1,.string x.2]
def CG(w:World)(G m k:Nat)(l:List It):Prop:=∃cur:Array Value,w.heap[G]?=some (.cells cur 106 (0,0))/\cur.size=m*2/\∀j x,k<=j->l[j]?=some x->cur[j*2]?=some (.int .i64 x.1)/\cur[j*2+1]?=some (.string x.2)
theorem CG.lt{w:World}{G m k:Nat}{l:List It}(h:CG w G m k l):G<w.heap.size:=by
 obtain⟨cur,hg,_⟩:=h;exact lt_of_block hg
theorem CG.below{w w':World}{G m k:Nat}{l:List It}(h:CG w G m k l)(hb:Below w.heap.size w w'):CG w' G m k l:=by
 have hl:=h.lt;obtain⟨cur,hg,r⟩:=h;exact⟨cur,by rw[hb.block G hl];exact hg,r⟩
theorem CG.at{w:World}{G m k:Nat}{l:List It}(h:CG w G m k l){j:Nat}{x:It}(hk:k<=j)(hx:l[j]?=some x):w.cell? ⟨G,j*2,none⟩=some (.int .i64 x.1)/\w.cell? ⟨G,j*2+1,none⟩=some (.string x.2):=by
 obtain⟨cur,hg,_,r⟩:=h;obtain⟨r0,r1⟩:=r j x hk hx;simp[World.cell?,hg,r0,r1]
theorem CG.has{w:World}{G m k:Nat}{l:List It}(h:CG w G m k l){j:Nat}(hj:j<m):∃a b,w.cell? ⟨G,j*2,none⟩=some a/\w.cell? ⟨G,j*2+1,none⟩=some b:=by
 obtain⟨cur,hg,hs,_⟩:=h;refine⟨cur[j*2]'(by omega),cur[j*2+1]'(by omega),?_,?_⟩
 ·simp[World.cell?,hg,Array.getElem?_eq_getElem (show j*2<cur.size by omega)]
 ·simp[World.cell?,hg,Array.getElem?_eq_getElem (show j*2+1<cur.size by omega)]
theorem CG.thaw{w:World}{G m k:Nat}{l:List It}(h:CG w G m k l)(o:Nat):w.frozen? ⟨G,o,none⟩=false:=by
 obtain⟨cur,hg,_⟩:=h;simp[World.frozen?,hg]
theorem CG.set{w:World}{G m k:Nat}{l:List It}(h:CG w G m k l){j:Nat}(hj:j<m)(x:It):
  CG ((w.setCell ⟨G,j*2,none⟩ (.int .i64 x.1)).setCell ⟨G,j*2+1,none⟩ (.string x.2)) G m k (if j<l.length then l.set j x else l++[x])\/¬j<=l.length:=by
 by_cases hl:j<=l.length
 ·refine Or.inl ?_;obtain⟨cur,hg,hs,r⟩:=h;refine⟨(cur.setIfInBounds (j*2) (.int .i64 x.1)).setIfInBounds (j*2+1) (.string x.2),?_,by simp[hs],fun i y hi hy=>?_⟩
  ·simp only[World.setCell,Array.getElem?_modify,hg];simp
  ·by_cases hij:i=j
   ·subst hij;have:y=x:=by
     by_cases hlt:i<l.length
     ·rw[if_pos hlt,List.getElem?_set_self hlt]at hy;cases hy;rfl
     ·rw[if_neg hlt,show i=l.length by omega]at hy;simp at hy;exact hy.symm
    subst this;have e1:¬i*2+1=i*2:=by omega
    have s1:i*2<cur.size:=by omega
    have s2:i*2+1<cur.size:=by omega
    constructor
    ·rw[Array.getElem?_setIfInBounds_ne (by omega),Array.getElem?_setIfInBounds_self_of_lt s1]
    ·rw[Array.getElem?_setIfInBounds_self_of_lt (by simpa using s2)]
   ·have hy':l[i]?=some y:=by
     by_cases hlt:j<l.length
     ·rw[if_pos hlt,List.getElem?_set_ne (by omega)]at hy;exact hy
     ·rw[if_neg hlt]at hy;by_cases hil:i<l.length
      ·rwa [List.getElem?_append_left hil]at hy
      ·rw[List.getElem?_append_right (by omega)]at hy;have:=(List.getElem?_eq_some_iff.1 hy).1;simp at this;omega
    obtain⟨r0,r1⟩:=r i y hi hy';constructor
    ·rw[Array.getElem?_setIfInBounds_ne (by omega),Array.getElem?_setIfInBounds_ne (by omega)];exact r0
    ·rw[Array.getElem?_setIfInBounds_ne (by omega),Array.getElem?_setIfInBounds_ne (by omega)];exact r1
 ·exact Or.inr hl
theorem CG.snoc{w:World}{G m k:Nat}{l:List It}(h:CG w G m k l)(hj:l.length<m)(x:It):
  CG ((w.setCell ⟨G,l.length*2,none⟩ (.int .i64 x.1)).setCell ⟨G,l.length*2+1,none⟩ (.string x.2)) G m k (l++[x]):=by
 rcases h.set hj x with h|h
 ·rw[if_neg (by omega)]at h;exact h
 ·omega
theorem CG.from{w:World}{G m k:Nat}{l:List It}(h:CG w G m k l)(a b:Value):
  CG ((w.setCell ⟨G,k*2,none⟩ a).setCell ⟨G,k*2+1,none⟩ b) G m (k+1) l:=by
 obtain⟨cur,hg,hs,r⟩:=h;refine⟨(cur.setIfInBounds (k*2) a).setIfInBounds (k*2+1) b,?_,by simp[hs],fun i y hi hy=>?_⟩
 ·simp only[World.setCell,Array.getElem?_modify,hg];simp
 ·obtain⟨r0,r1⟩:=r i y (by omega) hy;constructor
  ·rw[Array.getElem?_setIfInBounds_ne (by omega),Array.getElem?_setIfInBounds_ne (by omega)];exact r0
  ·rw[Array.getElem?_setIfInBounds_ne (by omega),Array.getElem?_setIfInBounds_ne (by omega)];exact r1
theorem CG.items{w:World}{G m:Nat}{l:List It}(h:CG w G m 0 l){v e:List It}(hl:l=v++e)(hm:v.length<=m):Items w (.slice (some ⟨G,0,none⟩) v.length m) v:=by
 refine⟨_,_,rfl,hm,Or.inr ⟨G,0,rfl,h.lt,fun j x hx=>?_⟩⟩;have:=h.at (j:=j) (x:=x) (Nat.zero_le _) (by rw[hl,List.getElem?_append_left (List.getElem?_eq_some_iff.1 hx).1];exact hx);simpa using this
theorem Mg(w:World)(n:Nat)(v:List It)(hv:v.length=n)(z:Array Value):
  CG ((w.alloc (.cells (madeCells z ((n+6)*2)) 106)).setRow w.heap.size (flat v++(madeCells z ((n+6)*2)).toList.drop (flat v).length).toArray) w.heap.size (n+6) 0 v:=by
 refine⟨(flat v++(madeCells z ((n+6)*2)).toList.drop (flat v).length).toArray,?_,?_,fun j x _ hx=>?_⟩
 ·simp only[World.setRow,Array.getElem?_modify,if_true];show Option.map _ ((w.heap.push _)[w.heap.size]?)=_;rw[Array.getElem?_push_size];rfl
 ·simp[size_madeCells,Cm,hv];omega
 ·obtain⟨f0,f1⟩:=flat_get v j x hx;have hj:=(List.getElem?_eq_some_iff.1 hx).1;have hl:=Cm v;constructor
  ·rw[List.getElem?_toArray,List.getElem?_append_left (by omega)];exact f0
  ·rw[List.getElem?_toArray,List.getElem?_append_left (by omega)];exact f1
theorem IL(w:World):Calls Tryz.prog 206 #[] w fun e w'=>e=.returned (IK Ca)/\Below w.heap.size w w':=by
 go_enter Tryz.func206,Tryz.ntmps206;go_wp2;exact bodyPost_ret (v:=IK Ca) (by simp[results,Tryz.results206,go_sem,Ca]) rfl ⟨rfl,(Below.refl _ _).alloc (Nat.le_refl _) _⟩
theorem notNil(ad:Addr)(n cap:Nat)(w:World):(binOp .eql 44 (.slice (some ad) n cap) (.slice none 0 0)).run Tryz.prog w=.ok (.bool false) w:=by kernel_rfl
theorem isNil(n cap:Nat)(w:World):(binOp .eql 44 (.slice none n cap) (.slice none 0 0)).run Tryz.prog w=.ok (.bool true) w:=by kernel_rfl
theorem Jw(v:List It)(k:Nat)(x:It):v++List.replicate k x++[x]=v++List.replicate (k+1) x:=by
 rw[List.append_assoc,List.replicate_succ']
theorem Uh(w:World)(ad:Addr)(cap:Nat)(v:List It)(h:Items w (.slice (some ad) v.length cap) v)(hn:v.length<=9000000000000):
  Calls Tryz.prog 148 #[.slice (some ad) v.length cap] w fun e w'=>e=.returned (.slice (some ⟨w.heap.size,0,none⟩) v.length (v.length+6))/\CG w' w.heap.size (v.length+6) 0 (v++List.replicate 6 Ca)/\Below w.heap.size w w':=by
 obtain⟨n,hvn⟩:∃n,n=v.length:=⟨_,rfl⟩;obtain⟨i0,hi,hz0,hz1,hz2⟩:=info_parts N6;obtain⟨z,hzz⟩:∃z:Array Value,z=(Value.agg #[.int .i64 0,.string ⟨#[]⟩]).cells:=⟨_,rfl⟩;have hmk:∀u:World,(Instr.makeSlice 44 (.int .i64 ((n:Int)+6)) (.int .i64 ((n:Int)+6))).run Tryz.prog u=.ok (.slice (some ⟨u.heap.size,0,none⟩) (n+6) (n+6)) (u.alloc (.cells (madeCells z ((n+6)*2)) 106)):=fun u=>by
  have h:=run_make (P:=Tryz.prog) u 44 106 i0 _ Tryz.underlying44 hi hz0 .i64 .i64 ((n:Int)+6) ((n:Int)+6) (by omega) (Int.le_refl _) (by rw[hz2];omega) (by omega);have e:((n:Int)+6).toNat=n+6:=by omega
  rw[e,hz1,<-hzz]at h;exact h
 have HF:=Ab (Ob h);have HB:=Ab IL;rw[<-hvn];have HVN:=Ab hvn;have hnn:n<=9000000000000:=by omega
 have HL:=Ab (Mg w n v hvn.symm z);have hfl:(flat v).length=n*2:=by rw[Cm,<-hvn]
 have HG:Hid ((w.alloc (.cells (madeCells z ((n+6)*2)) 106)).heap[w.heap.size]?=some (.cells (madeCells z ((n+6)*2)) 106 (0,0))):=by
  show (w.heap.push _)[w.heap.size]?=_;rw[Array.getElem?_push_size]
 have HFS:Hid (∀j u,(flat v)[j]?=some u->(w.alloc (.cells (madeCells z ((n+6)*2)) 106)).cell? (ad.add j)=some u):=by
  intro j u hj;have h1:=(Aa HF) j u hj;exact(World.cell?_of_block (w:=w) (Below.heap_alloc w _ _ (by
   rcases Nat.lt_or_ge (ad.add j).block w.heap.size with hh|hh
   ·exact hh
   ·simp[World.cell?,Array.getElem?_eq_none hh]at h1))).trans h1
 have hnil:=notNil ad n cap;have hmin:Nat.min n (n+6)=n:=Nat.min_eq_left (by omega);have hcp:=RZ (P:=Tryz.prog) (w.alloc (.cells (madeCells z ((n+6)*2)) 106)) 44 44 3 106 w.heap.size (n+6) (n+6) ad n cap (madeCells z ((n+6)*2)) 106 (flat v) Tryz.underlying44 WI (Aa HG) (by rw[hfl,hmin]) (Aa HFS) (by rw[size_madeCells];omega) (Gz v);rw[hmin]at hcp;obtain⟨W1,hW1⟩:∃W1,W1=(w.alloc (.cells (madeCells z ((n+6)*2)) 106)).setRow w.heap.size (flat v++(madeCells z ((n+6)*2)).toList.drop (flat v).length).toArray:=⟨_,rfl⟩;have HBW:Hid (Below w.heap.size w W1):=by
  rw[hW1];exact below_setRow ((Below.refl _ _).alloc (Nat.le_refl _) _) (Nat.le_refl _) _
 rw[<-hW1]at hcp HL;clear hzz h hvn hn hW1;go_enter Tryz.func148,Tryz.ntmps148;go_wp2;go_loopw [5] (fun iv wr=>∃i:Nat,n<=i/\i<=n+6/\iv=.int .i64 i/\CG wr w.heap.size (n+6) 0 (v++List.replicate (i-n) Ca)/\Below w.heap.size w wr) (fun iv _=>n+6-(intOf iv).toNat)
 case atStart=>
  refine⟨n,Nat.le_refl _,by omega,rfl,?_,Aa HBW⟩;rw[Nat.sub_self,List.replicate_zero,List.append_nil];exact Aa HL
 case round=>
  obtain⟨i,hni,hi6,rfl,hL,hb⟩:=hrel;by_cases hlt:i<n+6
  ·have HLL:=Ab hL;have HBB:=Ab hb;clear hL hb;go_wp2_with fail
   refine((Aa HB) _).mono ?_;rintro e w1 ⟨rfl,hb1⟩;have hL1:=(Aa HLL).below hb1;obtain⟨a0,a1,c0,c1⟩:=hL1.has hlt;have z0:=hL1.thaw (i*2);have z1:=hL1.thaw (i*2+1);have hbt:=(Aa HBB).trans (hb1.mono (Aa HBB).size);have hlen:(v++List.replicate (i-n) Ca).length=i:=by rw[List.length_append,List.length_replicate,<-Aa HVN];omega
   have hL2:=hL1.snoc (by rw[hlen];exact hlt) Ca;rw[hlen,Jw,show i-n+1=i+1-n by omega]at hL2;have HL2:=Ab hL2;have HBT:=Ab hbt;clear hL1 hbt hL2 hb1 hlen;go_wp2;go_roundw
   case rel=>exact⟨i+1,by omega,by omega,by go_num,Aa HL2,((Aa HBT).setCell (by simp) _).setCell (by simp) _⟩
   case measure=>simp[intOf];omega
  ·obtain rfl:i=n+6:=by omega
   have HLL:=Ab hL;have HBB:=Ab hb;clear hL hb;go_wp2
   go_ret
   refine⟨rfl,?_,Aa HBB⟩;have:=Aa HLL;rw[show n+6-n=6 by omega]at this;exact this
theorem below_drewN{B:Nat}{u v:World}(h:Below B u v)(n:Nat):Below B u (v.drewN n):=⟨h.os,h.tape,h.output,h.size,h.block⟩
theorem Ui(n cap:Nat)(w:World):Calls Tryz.prog 148 #[.slice none n cap] w fun e w'=>e=.returned (.slice none 0 0)/\w'=w:=by
 have hnil:=isNil n cap;go_enter Tryz.func148,Tryz.ntmps148;go_wp2
 go_ret
 exact⟨rfl,rfl⟩
theorem SZ(O:Value)(n cap:Nat)(w:World):Calls Tryz.prog 150 #[O,.slice none n cap] w fun e w'=>e=.returned (.bool true)/\w'=w:=by
 have hnil:=isNil n cap;go_enter Tryz.func150,Tryz.ntmps150;go_wp2
 go_ret
 exact⟨rfl,rfl⟩
def Zd(x:It)(j:Nat):Value:=if j % 2=0 then .int .i64 x.1 else .string x.2
def marks(x:It)(k:Nat):List Value:=flat (List.replicate k x)
theorem Br(x:It)(k:Nat):(marks x k).length=k*2:=by
 unfold marks;rw[Cm,List.length_replicate]
theorem DT(x:It)(k j:Nat)(h:j<k*2):(marks x k)[j]?=some (Zd x j):=by
 have hr:(List.replicate k x)[j / 2]?=some x:=by
  rw[List.getElem?_replicate,if_pos (by omega)]
 obtain⟨h0,h1⟩:=flat_get _ _ _ hr;unfold marks Zd;by_cases he:j % 2=0
 ·rw[if_pos he];rw[show j / 2*2=j by omega]at h0;exact h0
 ·rw[if_neg he];rw[show j / 2*2+1=j by omega]at h1;exact h1
theorem Rl(x:It)(n m:Nat):marks x n++marks x m=marks x (n+m):=by
 apply List.ext_getElem?;intro j;by_cases h1:j<n*2
 ·rw[List.getElem?_append_left (by rw[Br];exact h1),DT _ _ _ h1,DT _ _ _ (by omega)]
 ·rw[List.getElem?_append_right (by rw[Br];omega),Br];by_cases h2:j<(n+m)*2
  ·rw[DT _ _ _ (by omega),DT _ _ _ h2];unfold Zd;rw[show (j-n*2) % 2=j % 2 by omega]
  ·rw[List.getElem?_eq_none (by rw[Br];omega),List.getElem?_eq_none (by rw[Br];omega)]
def Marks(B:Nat)(x:It)(w:World)(T:Value)(k:Nat):Prop:=w.ownsRow B 106 2 T k (marks x k)
theorem Fi{cur:Array Value}{x:It}{k:Nat}:cur.toList.take (k*2)=marks x k↔∀j,j<k*2->cur[j]?=some (Zd x j):=by
 constructor
 ·intro h j hj;have:=congrArg (·[j]?) h;simp only[List.getElem?_take,if_pos hj]at this;rw[DT _ _ _ hj]at this;simpa using this
 ·intro h;apply List.ext_getElem?;intro j;by_cases hj:j<k*2
  ·rw[List.getElem?_take,if_pos hj,DT _ _ _ hj];simpa using h j hj
  ·rw[List.getElem?_take,if_neg hj,List.getElem?_eq_none (by rw[Br];omega)]
theorem Kd(x:It)(k:Nat):∀u∈marks x k,u.oneCell'=true:=Gz _
theorem Marks.below{B:Nat}{x:It}{w w':World}{T:Value}{k:Nat}(h:Marks B x w T k)(hb:Below w.heap.size w w'):Marks B x w' T k:=Be h hb
theorem more(x:It)(B:Nat)(w:World)(O:Value)(n m c:Nat)(G:Addr)(hO:Marks B x w O n)(hsrc:∀j u,(marks x m)[j]?=some u->w.cell? (G.add j)=some u)(hn:n+m<=1000000)(hB:B<=w.heap.size):
  ∃v' w',(Builtin.append_ #[44,44] 44 #[O,.slice (some G) m c]).run Tryz.prog w=.ok v' w'/\Marks B x w' v' (n+m)/\w.grownBy w' O.ownBlock/\(v'.ownBlock=O.ownBlock\/v'.ownBlock=some w.heap.size) /\
   ∀T k,Marks B x w T k->Marks B x w' T k:=by
 obtain⟨i0,hi,hz0,hz1,hz2⟩:=info_parts N6;obtain⟨v',w',hr,hown,hg,_,hat⟩:=run_append_own_at (P:=Tryz.prog) w B 44 44 106 i0 _ 2 24 Tryz.underlying44 hi hz0 hz1 hz2 rfl (by decide) O n (marks x n) hO G m c (marks x m) (Br x m) hsrc (Kd x m) (by unfold maxLen;omega) (by omega) hB;rw[Rl]at hown;refine⟨v',w',hr,hown,hg,hat,fun T k hT=>?_⟩;obtain⟨hTl,hT2⟩:=id hT;rcases hT2 with hT2|⟨gT,capT,curT,rfl,hbg,hgT,hk,hcm,hcs,htk⟩
 ·exact⟨hTl,Or.inl hT2⟩
 ·have hlt:=lt_of_block hgT;by_cases hsame:some gT=O.ownBlock
  ·rcases hO.2 with ⟨rfl,_⟩|⟨g,cap,cur,rfl,hbg2,hg2,hnc,hcm2,hcs2,htake⟩
   ·cases hsame
   ·have hgg:gT=g:=by simpa [Value.ownBlock] using hsame
    subst hgg;rw[hg2]at hgT;have hcur:curT=cur:=by simpa using hgT.symm
    subst hcur;by_cases hroom:n+m<=cap
    ·have hl:=Br x m;have hr2:=run_append_room (P:=Tryz.prog) w 44 44 106 i0 Tryz.underlying44 hi gT n cap curT hg2 G m c (marks x m) (by rw[hl,hz1]) hsrc (Kd x m) hroom (by rw[hz1,hl,hcs2];omega);rw[hr2]at hr;have hw:w.setRow gT (curT.toList.take (n*i0.size)++marks x m++curT.toList.drop (n*i0.size+(marks x m).length)).toArray=w':=by injection hr
     rw[hz1,hl]at hw;subst hw;refine⟨hTl,Or.inr ⟨gT,capT,_,rfl,hbg,setRow_heap w gT curT _ 106 _ hg2,hk,hcm,?_,?_⟩⟩
     ·simp only[List.size_toArray,List.length_append,List.length_take,List.length_drop,Array.length_toList,hl];omega
     ·have hlen:(curT.toList.take (n*2)).length=n*2:=by
       rw[List.length_take,Array.length_toList];omega
      rw[Fi];intro j hj;rw[List.getElem?_toArray];have hT':=(Fi (x:=x) (k:=k)).1 htk j hj;by_cases h1:j<n*2
      ·have hO':=(Fi (x:=x) (k:=n)).1 htake j h1;rw[List.append_assoc,List.getElem?_append_left (by omega),List.getElem?_take,if_pos h1];simpa using hO'
      ·by_cases h2:j<n*2+m*2
       ·rw[List.getElem?_append_left (by rw[List.length_append,hlen,hl];omega),List.getElem?_append_right (by omega),hlen,DT _ _ _ (by omega)];unfold Zd;rw[show (j-n*2) % 2=j % 2 by omega]
       ·rw[List.getElem?_append_right (by rw[List.length_append,hlen,hl];omega),List.length_append,hlen,hl,List.getElem?_drop,show n*2+m*2+(j-(n*2+m*2))=j by omega];simpa using hT'
    ·have holds:∀j u,(marks x n)[j]?=some u->w.cell? ((⟨gT,0,none⟩:Addr).add j)=some u:=hO.cells (g:=gT) rfl;have hr2:=run_append_grow (P:=Tryz.prog) w 44 44 106 i0 _ Tryz.underlying44 hi hz0 ⟨gT,0,none⟩ n cap (marks x n) (by rw[Br,hz1]) holds G m c (marks x m) (by rw[Br,hz1]) hsrc (by omega) (by omega) (growslice_fits (by omega) (by rw[hz2];omega));rw[hr2]at hr;have hw:=(Result.ok.inj hr).2;subst hw;refine⟨hTl,Or.inr ⟨gT,capT,curT,rfl,hbg,?_,hk,hcm,hcs,htk⟩⟩;rw[Below.heap_alloc w.drew _ gT hlt];exact hg2
  ·exact⟨hTl,Or.inr ⟨gT,capT,curT,rfl,hbg,by rw[hg.block gT hlt hsame];exact hgT,hk,hcm,hcs,htk⟩⟩
theorem wpList_append_run{P:Program}{w:World}{ops:Array Oper}{rest:List Oper}{o:Oper}{a:Act}{Q:Exit->Act->World->Prop}(hgd:o.guard=none)(s x:Operand)(t:TypeId)
  (ho:o.op=.call {callee:=.builtin .append,args:=#[s,x],argTypes:=#[t,t]}) (v xv v':Value) (w':World) (hs:a.eval s=v) (hx:a.eval x=xv)
  (hr:(Builtin.append_ #[t,t] o.type #[v,xv]).run P w=.ok v' w') (h:wpList P ops Q rest (a.put o.dst v') w'):wpList P ops Q (o :: rest) a w:=by
 refine wpList_plain hgd fun K hK=>?_
 unfold Oper.wp execOp;simp only[ho,resolve,invoke,builtin,Sem.run_bind,Sem.run_pure,Result.andThen_ok,List.map_toArray,List.map_cons,List.map_nil,hs,hx,hr];exact hK _ _ h
theorem Kk{w:World}{B:Nat}{O:Value}{v:List It}(h:w.ownsRow B 106 2 O v.length (flat v)):Items w O v:=by
 rcases h.2 with ⟨rfl,h0⟩|⟨g,cap,cur,rfl,_,hg,hnc,_⟩
 ·have:v=[]:=List.eq_nil_of_length_eq_zero h0;subst this;exact⟨none,0,rfl,Nat.le_refl _,Or.inl rfl⟩
 ·refine⟨_,cap,rfl,hnc,Or.inr ⟨g,0,rfl,lt_of_block hg,fun j x hx=>?_⟩⟩;obtain⟨h0,h1⟩:=flat_get v j x hx;have c0:=h.cells (g:=g) rfl _ _ h0;have c1:=h.cells (g:=g) rfl _ _ h1;simp only[Addr.add_lit,Nat.zero_add]at c0 c1 ⊢;exact⟨c0,c1⟩
theorem Vg(w:World)(X Y:Value)(v:List It)(hX:Items w X v)(hY:Items w Y v)(hn:v.length<=1000000):
  Calls Tryz.prog 153 #[X,Y] w fun e w'=>e=.returned (.bool true)/\Below w.heap.size w w':=by
 obtain⟨n,hvn⟩:∃n,n=v.length:=⟨_,rfl⟩;obtain⟨xa,xc,rfl,_,_⟩:=id hX;obtain⟨ya,yc,rfl,_,_⟩:=id hY;have hnn:n<=1000000:=by omega
 have HX:=Ab hX;have HY:=Ab hY;have HVN:=Ab hvn;rw[<-hvn]at HX HY ⊢;clear hvn hn hX hY;go_enter Tryz.func153,Tryz.ntmps153;go_wp2;go_loopw [5] (fun iv wr=>∃i:Nat,i<=n/\iv=.int .i64 i/\Below w.heap.size w wr) (fun iv _=>n-(intOf iv).toNat)
 case atStart=>exact⟨0,Nat.zero_le _,rfl,Below.refl _ _⟩
 case round=>
  obtain⟨i,hin,rfl,hb⟩:=hrel;by_cases hlt:i<n
  ·obtain⟨x,hx⟩:∃x,v[i]?=some x:=⟨_,List.getElem?_eq_getElem (by rw[<-Aa HVN];exact hlt)⟩;obtain⟨b,off,cap',hV,hbl,d0,d1⟩:=((Aa HX).below hb).at hx;obtain⟨b2,off2,cap2,hV2,hbl2,e0,e1⟩:=((Aa HY).below hb).at hx;obtain rfl:xa=some ⟨b,off,none⟩:=by injection hV
   obtain rfl:ya=some ⟨b2,off2,none⟩:=by injection hV2
   have HBB:=Ab hb;clear hb hx hV hV2;go_wp2;go_quiet (fail);go_wp2;go_roundw
   case rel=>exact⟨i+1,by omega,by go_num,below_drewN (Aa HBB) _⟩
   case measure=>simp[intOf];omega
  ·have HBB:=Ab hb;clear hb;go_wp2
   go_ret
   exact⟨rfl,Aa HBB⟩
theorem F4(w:World)(T:Value)(n:Nat)(x:It)(hT:Items w T (List.replicate n x))(hn:n<=1000000):
  Calls Tryz.prog 103 #[T,.int .i64 n,IK x] w fun e w'=>e=.returned (.bool true)/\Below w.heap.size w w':=by
 obtain⟨xa,xc,rfl,_,_⟩:=id hT;have HT:=Ab hT;rw[List.length_replicate]at HT ⊢;clear hT;obtain⟨x0,x1⟩:=x;go_enter Tryz.func103,Tryz.ntmps103;go_wp2;go_loopw [7] (fun iv wr=>∃i:Nat,i<=n/\iv=.int .i64 i/\Below (w.heap.size+1) (w.alloc (.cells #[.int .i64 x0,.string x1] 106)) wr) (fun iv _=>n-(intOf iv).toNat)
 case atStart=>exact⟨0,Nat.zero_le _,rfl,Below.refl _ _⟩
 case round=>
  obtain⟨i,hin,rfl,hb⟩:=hrel;by_cases hlt:i<n
  ·have hx:(List.replicate n (x0,x1))[i]?=some (x0,x1):=by rw[List.getElem?_replicate,if_pos hlt]
   have hb1:Below w.heap.size w wr:=((Below.refl w.heap.size w).alloc (Nat.le_refl _) _).trans (hb.mono (by omega));obtain⟨b,off,cap',hV,hbl,d0,d1⟩:=((Aa HT).below hb1).at hx;obtain rfl:xa=some ⟨b,off,none⟩:=by injection hV
   have m0:wr.cell? ⟨w.heap.size,0,none⟩=some (.int .i64 x0):=(hb.cell (p:=⟨w.heap.size,0,none⟩) (by simp)).trans (by simp[go_sem]);have m1:wr.cell? ⟨w.heap.size,1,none⟩=some (.string x1):=(hb.cell (p:=⟨w.heap.size,1,none⟩) (by simp)).trans (by simp[go_sem]);have HBB:=Ab hb;clear hb hx hV hb1;go_wp2;go_quiet (fail);go_wp2;go_roundw
   case rel=>exact⟨i+1,by omega,by go_num,below_drewN (Aa HBB) _⟩
   case measure=>simp[intOf];omega
  ·have HBB:=Ab hb;clear hb;go_wp2
   go_ret
   exact⟨rfl,((Below.refl w.heap.size w).alloc (Nat.le_refl _) _).trans ((Aa HBB).mono (by omega))⟩
end Go.Proofs.YtblomippkddgiaaGreatDoor.V
