import Derived.Test.YtblomippkddgiaaGreatDoorJ29
import Derived.Test.YtblomippkddgiaaGreatDoorJ19
set_option maxRecDepth 100000
set_option maxHeartbeats 600000
namespace Go.Proofs.YtblomippkddgiaaGreatDoor
open Go.RowKit
def abJ(c:R.Cf):R.Wd:=⟨c,[],[],[],[],List.replicate c.clients.toNat (R.cl0 1 c.lines),[0,0,0],List.replicate 9 R.sn0,[]⟩
theorem abt{c:R.Cf}{i:Nat}{x:R.Cl}(h:(abJ c).clients[i]?=some x):i<c.clients.toNat∧x=R.cl0 1 c.lines:=by
 simp only[abJ,List.getElem?_replicate]at h
 split at h
 ·rename_i hi
  cases h
  exact⟨hi,rfl⟩
 ·cases h
theorem aoC{c:R.Cf}(hc:R.okCf c):R.Wf (abJ c):=by
 have hc':=hc
 unfold R.okCf at hc'
 refine⟨hc,by simp[abJ];omega,fun i x hx=>?_,by simp[abJ],fun f hf=>by simp[abJ]at hf,by simp[abJ],fun s hs=>by simp[abJ]at hs,by simp[abJ],by simp[abJ],by simp[abJ],fun u hu=>by simp[abJ]at hu⟩
 obtain⟨_,rfl⟩:=abt hx
 refine⟨by simp[R.cl0,abJ];omega,by simp[R.cl0],fun u hu=>by simp[R.cl0]at hu,fun k l hl=>?_⟩
 simp only[R.cl0,List.getElem?_replicate]at hl
 split at hl
 ·cases hl
  exact⟨by simp[R.ln0],fun q=>by simp[R.ln0]at q⟩
 ·cases hl
theorem akM{i:Nat}{r:R.Sn}(h:(List.replicate 9 R.sn0)[i]?=some r):r.seq=0:=by
 rw[List.getElem?_replicate]at h
 split at h
 ·cases h
  rfl
 ·cases h
theorem aoB{c:R.Cf}(hc:R.okCf c):R.WsOk (abJ c).c (abJ c).lives (abJ c).seen (abJ c).jobs:=R.ws0 c hc
theorem LW.made{w:World}{c:R.Cf}(hc:R.okCf c){A n s x nm jc:Nat}{cb lb bm:Nat→Nat}{K:Value}{w':World}(h:NI w c A n s x nm jc c.clients.toNat cb lb bm K w') :
  ∃p F,p.x=x∧LW p F (abJ c) w'∧∀k,F k→w.heap.size≤k:=by
 have hc':=hc
 unfold R.okCf at hc'
 rcases h.row.2 with ⟨_,h0⟩|⟨g,cap,cur,rfl,_,hg,hcap,_,hcs,htk⟩
 ·omega
 ·have hlen:(abJ c).clients.length=c.clients.toNat:=by simp[abJ]
  have lo:=h.lo
  refine⟨⟨x,n,s,g,cap,nm,cb,lb,bm,sp0 jc⟩,fun k=>w.heap.size≤k∧k<w'.heap.size,rfl,⟨aoC hc,aoB hc,?_,?_,?_,?_,?_,fun i y hy=>?_,fun i y hy=>?_,fun i y hy=>?_,?_,fun i hi=>?_,fun i j hi hj hij=>?_,fun k hk=>hk.2⟩,fun k hk=>hk.1⟩
  ·rw[hlen];exact h.cx
  ·refine⟨cur,hg,fun i hi=>?_⟩
   rw[hlen]at hi
   have e1:cur.toList[i]?=(cbs cb c.clients.toNat)[i]?:=by
    rw[←htk,List.getElem?_take,if_pos (by omega)]
   simp only[Array.getElem?_toList]at e1
   rw[e1]
   simp[cbs,hi]
  ·exact⟨_,h.cn,World.ownsRow_nil _ _ _ _,fun j hj=>by cases hj⟩
  ·refine⟨h.cs,rfl,World.ownsRow_nil _ _ _ _,fun z hz=>by simp[sp0]at hz,fun i j z y hz=>by simp[sp0]at hz,fun i j z y hz=>by simp[sp0]at hz,fun i r hr hne=>?_,fun i j r r' hr hr' hne=>?_,⟨0,0,h.cj⟩,⟨lo.2.2.1,lt_of_block h.cs⟩,⟨lo.2.2.2.2.2,(Array.getElem?_eq_some_iff.1 h.cj).1⟩,fun j hj=>by cases hj⟩
   ·exact absurd (akM hr) hne
   ·exact absurd (akM hr) hne
  ·exact h.names.congr (fun a=>by simp[aar,R.entryP,abJ])
  ·obtain⟨hi,rfl⟩:=abt hy
   have:=(h.each i hi).2.1
   simpa [anY,R.cl0,abJ] using this
  ·obtain⟨hi,rfl⟩:=abt hy
   refine⟨_,(h.each i hi).2.2.1,⟨by simp[R.cl0],fun k l z hl hz=>?_⟩,fun k l z hl hz=>?_⟩
   simp only[R.cl0,List.getElem?_replicate]at hl hz
   by_cases hk:k<c.lines.toNat
   ·rw[if_pos hk]at hl hz
    cases hl
    cases hz
    exact⟨rfl,rfl,fun _=>rfl,fun q=>by simp[R.ln0]at q,fun q=>by simp[R.ln0]at q⟩
   ·rw[if_neg hk]at hl
    cases hl
   simp only[R.cl0,List.getElem?_replicate]at hl hz
   by_cases hk:k<c.lines.toNat
   ·rw[if_pos hk]at hl hz
    cases hl
    cases hz
    exact aa2.nil _ _
   ·rw[if_neg hk]at hl
    cases hl
  ·obtain⟨hi,rfl⟩:=abt hy
   have:=(h.each i hi).2.2.2.1
   exact this.congr (fun a=>by simp[aaJ,R.cl0])
  ·exact⟨⟨lo.2.2.2.1,lt_of_block h.cx⟩,⟨lo.2.1,lt_of_block h.cn⟩,⟨h.kb g rfl,lt_of_block hg⟩,⟨lo.2.2.2.2.1,h.names.lt⟩⟩
  ·rw[hlen]at hi
   obtain⟨⟨a1,a2,a3⟩,b1,b2,b3,b4⟩:=h.each i hi
   exact⟨⟨a1,lt_of_block b1⟩,⟨a2,lt_of_block b2⟩,⟨a3,b3.lt⟩,b4⟩
  ·rw[hlen]at hi hj
   exact h.inj i j hi hj hij
theorem aoA(w:World)(c:R.Cf)(hc:R.okCf c) :
  Calls Tryz.prog 27 #[cfv c.clients c.lines c.retry c.tries c.table] w fun e w'=>∃p F,e=.returned (.tuple #[ptr p.x,.int .i64 0])∧LW p F (abJ c) w'∧(∀k,F k→w.heap.size≤k)∧Below w.heap.size w w':=by
 refine(am0 w c hc).mono ?_
 rintro e w' ⟨A,n,s,x,nm,jc,cb,lb,bm,K,rfl,h⟩
 obtain⟨p,F,rfl,h1,h2⟩:=LW.made hc h
 exact⟨p,F,rfl,h1,h2,h.below⟩
def abW(c:Int):Prop:=-9223372036854775808≤c∧c≤9223372036854775807
theorem aaH(c:Int)(n:Nat)(hc:abW c)(hn:0<n)(hn2:n≤65536):∃k:Nat,k<n∧∀w,Calls Tryz.prog 11 #[.int .i64 c,.int .i64 n] w fun e w'=>e=.returned (.int .i64 k)∧w'=w:=by
 obtain⟨h1,h2⟩:=hc
 have hn0:¬(n:Int)=0:=by omega
 by_cases hlt:c<0
 ·have h3:=Int.emod_nonneg (-(c+1)) hn0
  have h4:=Int.emod_lt_of_pos (-(c+1)) (show (0:Int)<n by omega)
  refine⟨((-(c+1)) % n).toNat,by omega,fun w=>?_⟩
  have e:(-(c+1)).tmod n=(((-(c+1)) % n).toNat:Int):=by rw[Int.tmod_eq_emod_of_nonneg (by omega)];omega
  rw[Int.neg_tmod]at e
  have HE:=aab e
  clear e h3 h4
  go_enter Tryz.func11,Tryz.ntmps11
  go_wp2
  go_ret
  rw[unhide HE]
  exact⟨rfl,rfl⟩
 ·have h3:=Int.emod_nonneg c hn0
  have h4:=Int.emod_lt_of_pos c (show (0:Int)<n by omega)
  obtain⟨k,hk⟩:∃k:Nat,c % n=(k:Int):=⟨(c % n).toNat,by omega⟩
  refine⟨k,by omega,fun w=>?_⟩
  have HE:=aab hk
  clear hk h3 h4
  go_enter Tryz.func11,Tryz.ntmps11
  go_wp2
  go_ret
  rw[unhide HE]
  exact⟨rfl,rfl⟩
def aaW(k:Nat):List UInt8:=if k=0 then [115,117,109] else if k=1 then [119,97,108,108] else [100,114,97,119,101,114,115]
theorem ah4(k:Nat)(hk:k<3)(w:World):Calls Tryz.prog 61 #[.int .i64 (k:Int)] w fun e w'=>e=.returned (.string (str (aaW k)))∧w'=w:=by
 have h3:k=0∨k=1∨k=2:=by omega
 rcases h3 with rfl|rfl|rfl
 ·go_enter Tryz.func61,Tryz.ntmps61
  go_wp2
  go_returns
  exact⟨rfl,rfl⟩
 ·go_enter Tryz.func61,Tryz.ntmps61
  go_wp2
  go_returns
  exact⟨rfl,rfl⟩
 ·go_enter Tryz.func61,Tryz.ntmps61
  go_wp2
  go_returns
  exact⟨rfl,rfl⟩
theorem aeS(k:Nat):R.namedP (aaW k)=true:=by
 unfold aaW
 split
 ·decide
 ·split <;> decide
theorem am9(k:Nat):(aaW k).length≤8:=by
 unfold aaW
 split
 ·simp
 ·split <;> simp
theorem ana{i j:Nat}(hi:i<3)(hj:j<3)(h:aaW i=aaW j):i=j:=by
 have h3:i=0∨i=1∨i=2:=by omega
 have h4:j=0∨j=1∨j=2:=by omega
 rcases h3 with rfl|rfl|rfl <;> rcases h4 with rfl|rfl|rfl <;> first|rfl|(simp[aaW]at h)
theorem aiV(a b r t tb:Int)(ha:abW a)(hb:abW b)(hr:abW r)(ht:abW t)(htb:abW tb)(w:World) :
  Calls Tryz.prog 9 #[cfv a b r t tb] w fun e w'=>(∃c:R.Cf,R.okCf c∧e=.returned (cfv c.clients c.lines c.retry c.tries c.table))∧Below w.heap.size w w':=by
 obtain⟨a1,a2⟩:=ha
 obtain⟨b1,b2⟩:=hb
 obtain⟨r1,r2⟩:=hr
 obtain⟨t1,t2⟩:=ht
 obtain⟨q1,q2⟩:=htb
 obtain⟨BX,hBX⟩:∃BX,(w.alloc (.cells #[.int .i64 a,.int .i64 b,.int .i64 r,.int .i64 t,.int .i64 tb] 26)).alloc (.cells #[.int .i64 0,.int .i64 0,.int .i64 0,.int .i64 0,.int .i64 0] 26)=BX:=⟨_,rfl⟩
 have HB:Hid (Below w.heap.size w BX):=by
  rw[←hBX]
  exact((Below.refl _ _).alloc (Nat.le_refl _) _).alloc (by simp) _
 have hbx:BX.heap[w.heap.size]?=some (.cells #[.int .i64 a,.int .i64 b,.int .i64 r,.int .i64 t,.int .i64 tb] 26 (0,0)):=by
  rw[←hBX]
  exact(Below.heap_alloc _ _ _ (by simp)).trans (heap_alloc_new w _)
 have hby:BX.heap[w.heap.size+1]?=some (.cells #[.int .i64 0,.int .i64 0,.int .i64 0,.int .i64 0,.int .i64 0] 26 (0,0)):=by
  rw[←hBX]
  exact aaR _ _ (by simp)
 have c0:BX.cell? ⟨w.heap.size,0,none⟩=some (.int .i64 a):=aaa hbx 0 _ rfl
 have c1:BX.cell? ⟨w.heap.size,1,none⟩=some (.int .i64 b):=aaa hbx 1 _ rfl
 have c2:BX.cell? ⟨w.heap.size,2,none⟩=some (.int .i64 r):=aaa hbx 2 _ rfl
 have c3:BX.cell? ⟨w.heap.size,3,none⟩=some (.int .i64 t):=aaa hbx 3 _ rfl
 have c4:BX.cell? ⟨w.heap.size,4,none⟩=some (.int .i64 tb):=aaa hbx 4 _ rfl
 have d0:BX.cell? ⟨w.heap.size+1,0,none⟩=some (.int .i64 0):=aaa hby 0 _ rfl
 have d1:BX.cell? ⟨w.heap.size+1,1,none⟩=some (.int .i64 0):=aaa hby 1 _ rfl
 have d2:BX.cell? ⟨w.heap.size+1,2,none⟩=some (.int .i64 0):=aaa hby 2 _ rfl
 have d3:BX.cell? ⟨w.heap.size+1,3,none⟩=some (.int .i64 0):=aaa hby 3 _ rfl
 have d4:BX.cell? ⟨w.heap.size+1,4,none⟩=some (.int .i64 0):=aaa hby 4 _ rfl
 have z0:BX.frozen? ⟨w.heap.size+1,0,none⟩=false:=aac hby
 have z1:BX.frozen? ⟨w.heap.size+1,1,none⟩=false:=aac hby
 have z2:BX.frozen? ⟨w.heap.size+1,2,none⟩=false:=aac hby
 have z3:BX.frozen? ⟨w.heap.size+1,3,none⟩=false:=aac hby
 have z4:BX.frozen? ⟨w.heap.size+1,4,none⟩=false:=aac hby
 have m0:=lt_of_block hbx
 have m1:=lt_of_block hby
 have HBX:=aab hBX
 obtain⟨k0,hk0,P0⟩:=aaH (IntKind.i64.wrap (a-1)) 3 (by unfold abW;rw[IntKind.wrap_i64];omega) (by omega) (by omega)
 obtain⟨k1,hk1,P1⟩:=aaH (IntKind.i64.wrap (b-1)) 3 (by unfold abW;rw[IntKind.wrap_i64];omega) (by omega) (by omega)
 obtain⟨k2,hk2,P2⟩:=aaH (IntKind.i64.wrap (r-1)) 8 (by unfold abW;rw[IntKind.wrap_i64];omega) (by omega) (by omega)
 obtain⟨k3,hk3,P3⟩:=aaH (IntKind.i64.wrap (t-1)) 6 (by unfold abW;rw[IntKind.wrap_i64];omega) (by omega) (by omega)
 obtain⟨k4,hk4,P4⟩:=aaH (IntKind.i64.wrap (tb-1)) 9 (by unfold abW;rw[IntKind.wrap_i64];omega) (by omega) (by omega)
 have P0':=aab P0
 have P1':=aab P1
 have P2':=aab P2
 have P3':=aab P3
 have P4':=aab P4
 have g0:IntKind.i64.wrap (1+(k0:Int))=1+(k0:Int):=by rw[IntKind.wrap_i64];omega
 have g1:IntKind.i64.wrap (1+(k1:Int))=1+(k1:Int):=by rw[IntKind.wrap_i64];omega
 have g2:IntKind.i64.wrap (1+(k2:Int))=1+(k2:Int):=by rw[IntKind.wrap_i64];omega
 have g3:IntKind.i64.wrap (1+(k3:Int))=1+(k3:Int):=by rw[IntKind.wrap_i64];omega
 have g4:IntKind.i64.wrap (1+(k4:Int))=1+(k4:Int):=by rw[IntKind.wrap_i64];omega
 obtain⟨A,hA⟩:∃A,A=IntKind.i64.wrap (a-1):=⟨_,rfl⟩
 obtain⟨B,hB⟩:∃B,B=IntKind.i64.wrap (b-1):=⟨_,rfl⟩
 obtain⟨C,hC⟩:∃C,C=IntKind.i64.wrap (r-1):=⟨_,rfl⟩
 obtain⟨D,hD⟩:∃D,D=IntKind.i64.wrap (t-1):=⟨_,rfl⟩
 obtain⟨E,hE⟩:∃E,E=IntKind.i64.wrap (tb-1):=⟨_,rfl⟩
 rw[←hA]at P0'
 rw[←hB]at P1'
 rw[←hC]at P2'
 rw[←hD]at P3'
 rw[←hE]at P4'
 have hA':=hA.symm
 have hB':=hB.symm
 have hC':=hC.symm
 have hD':=hD.symm
 have hE':=hE.symm
 clear P0 P1 P2 P3 P4 hA hB hC hD hE hbx hby hBX a1 a2 b1 b2 r1 r2 t1 t2 q1 q2
 go_enter Tryz.func9,Tryz.ntmps9
 go_wp2_with fail
 rw[unhide HBX]
 go_region_held3 (fun w'=>w'.cell? ⟨w.heap.size,0,none⟩=some (.int .i64 a)∧w'.cell? ⟨w.heap.size,1,none⟩=some (.int .i64 b)∧w'.cell? ⟨w.heap.size,2,none⟩=some (.int .i64 r)∧w'.cell? ⟨w.heap.size,3,none⟩=some (.int .i64 t)∧w'.cell? ⟨w.heap.size,4,none⟩=some (.int .i64 tb)) (go_keep)
  (first
   |(go_at_call 11;refine((unhide P0') _).mono ?_;clear P0';rintro e w1 ⟨rfl,hw1⟩;rw[hw1];clear hw1)
   |(go_at_call 11;refine((unhide P1') _).mono ?_;clear P1';rintro e w1 ⟨rfl,hw1⟩;rw[hw1];clear hw1)
   |(go_at_call 11;refine((unhide P2') _).mono ?_;clear P2';rintro e w1 ⟨rfl,hw1⟩;rw[hw1];clear hw1)
   |(go_at_call 11;refine((unhide P3') _).mono ?_;clear P3';rintro e w1 ⟨rfl,hw1⟩;rw[hw1];clear hw1)
   |(go_at_call 11;refine((unhide P4') _).mono ?_;clear P4';rintro e w1 ⟨rfl,hw1⟩;rw[hw1];clear hw1))
 have HW:Hid (∀v0 v1 v2 v3 v4,Below w.heap.size w (((((BX.setCell ⟨w.heap.size+1,0,none⟩ v0).setCell ⟨w.heap.size+1,1,none⟩ v1).setCell ⟨w.heap.size+1,2,none⟩ v2).setCell ⟨w.heap.size+1,3,none⟩ v3).setCell ⟨w.heap.size+1,4,none⟩ v4).drew):=fun v0 v1 v2 v3 v4=>(((((((unhide HB).setCell (by simp) _).setCell (by simp) _).setCell (by simp) _).setCell (by simp) _).setCell (by simp) _)).drew
 go_wp2
 exact bodyPost_ret (v:=cfv (1+(k0:Int)) (1+(k1:Int)) (1+(k2:Int)) (1+(k3:Int)) (1+(k4:Int))) (by simp[results,Tryz.results9,go_sem,d0,d1,d2,d3,d4]) rfl ⟨⟨⟨1+(k0:Int),1+(k1:Int),1+(k2:Int),1+(k3:Int),1+(k4:Int)⟩,by unfold R.okCf;simp only;omega,rfl⟩,(unhide HW) _ _ _ _ _⟩
end Go.Proofs.YtblomippkddgiaaGreatDoor
