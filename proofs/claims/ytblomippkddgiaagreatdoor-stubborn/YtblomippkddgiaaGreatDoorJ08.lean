import Derived.Test.YtblomippkddgiaaGreatDoorJ07
set_option maxRecDepth 100000
namespace Go.Proofs.YtblomippkddgiaaGreatDoor.V
open Go.RowKit
variable {σ:Type}
theorem afn{C:Carrier σ}{r:Option (Int×σ)}{E:Option σ}(hE:E=r.bind fun r=>some r.2){O:Nat→Prop}{c M:Nat}{w w1:World}(h1:Kept O O w w1)(hM:1≤M) :
  ∀e w',Or2 C.er (C.No (r=none)) (fun w'=>∃i x',r=some (i,x')∧C.Lv O (c+1) x' w1 w') e w'→aca C E O (c+M) w e w':=by
 rintro e w' (⟨rfl,hr,hb⟩|⟨rfl,i,x',hr,c',O',hc',hst,hk⟩)
 ·exact Or.inl ⟨rfl,by rw[hE,hr];rfl,hb⟩
 ·exact Or.inr ⟨rfl,x',by rw[hE,hr];rfl,c',O',by omega,hst,h1.trans hk⟩
theorem ahP{C:Carrier σ}{E:Option σ}{O:Nat→Prop}{c c2:Nat}{w w1:World}(h1:Kept O O w w1)(hc:c≤c2) :
  ∀e w',aca C E O c w1 e w'→aca C E O c2 w e w':=by
 rintro e w' (h|⟨rfl,x',hr,c',O',hc',hst,hk⟩)
 ·exact Or.inl h
 ·exact Or.inr ⟨rfl,x',hr,c',O',by omega,hst,h1.trans hk⟩
theorem afS{C:Carrier σ}{E E':Option σ}{O O1:Nat→Prop}{c c2:Nat}{w w1:World}(h1:Kept O O1 w w1)(hE:E'=E)(hc:c≤c2) :
  ∀e w',aca C E O1 c w1 e w'→aca C E' O c2 w e w':=by
 subst hE
 rintro e w' (h|⟨rfl,x',hr,c',O',hc',hst,hk⟩)
 ·exact Or.inl h
 ·exact Or.inr ⟨rfl,x',hr,c',O',by omega,hst,h1.trans hk⟩
theorem ajz{C:Carrier σ}(hC:Carries C){s:ByteArray}{f:Nat}(ih:aep C s f):aep C s (f+1):=by
 intro p S c0 c1 c2 hR hO
 obtain⟨rfl,rfl,va,vc,rfl,hkid⟩:=akt hR
 obtain⟨T,hT⟩:∃T,T=Pt.top ((Pt.kids (nx s) f p).map (Pt.dep (nx s) f)):=⟨_,rfl⟩
 have hM:10 ^ Pt.dep (nx s) (f+1) p=10*10 ^ T:=by rw[Pt.dep,←hT,Nat.pow_succ,Nat.mul_comm]
 have hpos:1≤10 ^ T:=Nat.one_le_pow _ _ (by decide)
 have KK:∀j q,(Pt.kids (nx s) f p)[j]?=some q→Okp s f q→∃gb y0 y1 ya yn yk,va=some ⟨gb,0,none⟩ ∧
   (∀w,Below C.w0.heap.size C.w0 w→w.cell? ⟨gb,j*3,none⟩=some (.int .u8 y0)∧w.cell? ⟨gb,j*3+1,none⟩=some (.int .i64 y1)∧w.cell? ⟨gb,j*3+2,none⟩=some (.slice ya yn yk))∧apm C (.agg #[.int .u8 y0,.int .i64 y1,.slice ya yn yk]) (carryP C.num C.txt (nx s) f q) (10 ^ T):=by
  intro j q hq ho
  obtain⟨gb,y0,y1,ya,yn,yk,hva,hcell,hr⟩:=hkid j q hq
  refine⟨gb,y0,y1,ya,yn,yk,hva,hcell,(ih q S _ _ _ hr ho).mono ?_⟩
  refine Nat.pow_le_pow_right (by decide) ?_
  rw[hT]
  exact anT (List.mem_map.2 ⟨q,List.mem_of_getElem? hq,rfl⟩)
 rw[hM]
 clear hM hkid hR ih
 generalize 10 ^ T=M at *
 clear hT T
 intro w c x O hs hc
 have hbw:=hC.below hs
 have hbo:∀o,Below w.heap.size w (w.alloc o):=fun o=>(Below.refl w.heap.size w).alloc (Nat.le_refl _) o
 have hfr:¬O w.heap.size:=fun h=>by have:=(hC.fresh hs _ h).2;omega
 rcases okp_cases hO with (h|h|h|h)|⟨h,_,hd1,hd2⟩|⟨h,_,hd1,hd2,hok⟩|⟨h,_,hd1,hd2,hok⟩|hl
 ·have e:((nx s p:Nat):Int)=98:=by rw[h];rfl
  rw[e]
  refine(apy C.tid C.fnum C.er C.ptr hC.mnum w _ _ _ _ _ _ (hC.number 0 1 (hC.go hs (hbo _)) (by omega) (Or.inl ⟨rfl,by decide⟩))).mono (afn ?_ (Kept.of_below (hbo _)) (by omega))
  simp[carryP,h,loOf,hiOf]
 ·have e:((nx s p:Nat):Int)=99:=by rw[h];rfl
  rw[e]
  refine(apx C.tid C.fnum C.er C.ptr hC.mnum w _ _ _ _ _ _ (hC.number 0 65535 (hC.go hs (hbo _)) (by omega) (Or.inl ⟨rfl,by decide⟩))).mono (afn ?_ (Kept.of_below (hbo _)) (by omega))
  simp[carryP,h,loOf,hiOf]
 ·have e:((nx s p:Nat):Int)=105:=by rw[h];rfl
  rw[e]
  refine(apv C.tid C.fnum C.er C.ptr hC.mnum w _ _ _ _ _ _ (hC.number (-32768) 32767 (hC.go hs (hbo _)) (by omega) (Or.inr ⟨rfl,rfl⟩))).mono (afn ?_ (Kept.of_below (hbo _)) (by omega))
  simp[carryP,h,loOf,hiOf]
 ·have e:((nx s p:Nat):Int)=115:=by rw[h];rfl
  rw[e]
  have hE:carryP C.num C.txt (nx s) (f+1) p x=C.txt x:=by simp[carryP,h]
  refine(aps C.tid C.ftxt C.er C.ptr hC.mtxt w _ _ _ _ _ _ (hC.text (hC.go hs (hbo _)) (by omega))).mono ?_
  rw[hE]
  exact ahP (Kept.of_below (hbo _)) (by omega)
 ·have e:((nx s p:Nat):Int)=101:=by rw[h];rfl
  have hx1:aat (nx s) p=(nx s (p+1):Int)-48:=by simp[aat,h]
  rw[e,hx1]
  refine(apw C.tid C.fnum C.er C.ptr hC.mnum w _ _ _ _ _ _ (by omega) (hC.number 0 _ (hC.go hs (hbo _)) (by omega) (Or.inl ⟨rfl,by omega⟩))).mono (afn ?_ (Kept.of_below (hbo _)) (by omega))
  simp[carryP,h,loOf,hiOf]
 ·have e:((nx s p:Nat):Int)=97:=by rw[h];rfl
  obtain⟨n,hn⟩:∃n,n=nx s (p+1)-48:=⟨_,rfl⟩
  have hx1:aat (nx s) p=(n:Int):=by simp[aat,h];omega
  have hk:Pt.kids (nx s) f p=[p+2]:=by simp[Pt.kids,h]
  obtain⟨gb,y0,y1,ya,yn,yk,rfl,hcell,hkc⟩:=KK 0 (p+2) (by rw[hk];rfl) hok
  have hE:carryP C.num C.txt (nx s) (f+1) p x=seqC (carryP C.num C.txt (nx s) f) (List.replicate n (p+2)) x:=by simp[carryP,h,hn]
  rw[e,hx1,hE]
  have hbd:∀o,Below w.heap.size w (w.alloc o).drew:=fun o=>(hbo o).drew
  have hf:=fun o=>hcell (w.alloc o) (hbw.trans ((hbo o).mono hbw.size))
  have hnM:n*M≤9*M:=Nat.mul_le_mul_right M (by omega)
  refine(apz C.tid C.er C.ptr w n gb _ _ y0 y1 ya yn yk _ _ (by rw[hk];simp) (fun o=>(hf o).1) (fun o=>(hf o).2.1) (fun o=>(hf o).2.2) (aeF hC hkc n (by omega) (hC.go hs (hbd _)) (by omega))).mono ?_
  exact ahP (Kept.of_below (hbd _)) (by omega)
 ·have e:((nx s p:Nat):Int)=113:=by rw[h];rfl
  obtain⟨m,hm⟩:∃m,m=nx s (p+1)-48:=⟨_,rfl⟩
  have hx1:aat (nx s) p=(m:Int):=by simp[aat,h];omega
  have hk:Pt.kids (nx s) f p=[p+2]:=by simp[Pt.kids,h]
  obtain⟨gb,y0,y1,ya,yn,yk,rfl,hcell,hkc⟩:=KK 0 (p+2) (by rw[hk];rfl) hok
  have hE:carryP C.num C.txt (nx s) (f+1) p x=(C.num 0 m x).bind fun r=>seqC (carryP C.num C.txt (nx s) f) (List.replicate r.1.toNat (p+2)) r.2:=by
   have:((nx s (p+1):Nat):Int)-48=(m:Int):=by omega
   simp[carryP,h,loOf,hiOf,this]
  rw[e,hx1]
  obtain⟨t0,t1,t2,_⟩:=(Tri.new w (.int .u8 113) (.int .i64 m) (.slice (some ⟨gb,0,none⟩) (Pt.kids (nx s) f p).length vc)).facts
  refine apu C.tid C.fnum C.er C.ptr hC.mnum w m gb _ _ y0 y1 ya yn yk (C.No (carryP C.num C.txt (nx s) (f+1) p x=none)) _ (fun i w'=>∃x',C.num 0 m x=some (i,x')∧C.Lv O (c+1) x' (w.alloc (aaz 113 m (some ⟨gb,0,none⟩) (Pt.kids (nx s) f p).length vc)) w') (by rw[hk];simp) ((hC.number 0 m (hC.go hs (hbo _)) (by omega) (Or.inl ⟨rfl,by omega⟩)).mono ?_) ?_
  ·rintro e w' (⟨rfl,hr,hb⟩|h)
   ·exact Or.inl ⟨rfl,by rw[hE,hr];rfl,hb⟩
   ·exact Or.inr h
  ·rintro i w' ⟨x',hx,c',O',hc',hst,hkp⟩
   obtain⟨hi0,hi1⟩:=hC.range hx
   obtain⟨n,rfl⟩:∃n:Nat,i=n:=⟨i.toNat,by omega⟩
   have hlt:w.heap.size<(w.alloc (aaz 113 m (some ⟨gb,0,none⟩) (Pt.kids (nx s) f p).length vc)).heap.size:=by simp
   obtain⟨f0,f1,f2⟩:=hcell w' (hC.below hst)
   have hnM:n*M≤9*M:=Nat.mul_le_mul_right M (by omega)
   refine⟨(hkp.cell hlt hfr).trans t2,f0,f1,f2,(aeF hC hkc n (by omega) hst (by omega)).mono ?_⟩
   refine afS ((Kept.of_below (hbo _)).trans hkp) ?_ (by omega)
   rw[hE,hx]
   simp
 ·rcases hl.here with h|h
  ·have e:((nx s p:Nat):Int)=114:=by rw[h];rfl
   have hE:carryP C.num C.txt (nx s) (f+1) p x=seqC (carryP C.num C.txt (nx s) f) (Pt.kids (nx s) f p) x:=by simp[carryP,h]
   have h6:=acR (nx s) f p
   rw[e,hE]
   refine(apt C.tid C.er C.ptr w _ va _ vc (C.No (seqC (carryP C.num C.txt (nx s) f) (Pt.kids (nx s) f p) x=none)) (aq3 C (carryP C.num C.txt (nx s) f) (Pt.kids (nx s) f p) x c M O (w.alloc (aaz 114 (aat (nx s) p) va (Pt.kids (nx s) f p).length vc))) h6 ⟨x,c,O,rfl,by omega,hC.go hs (hbo _),Kept.refl _ _⟩ ?_).mono ?_
   ·rintro j w' hj ⟨xj,c',O',hF⟩
    obtain⟨q,hq⟩:∃q,(Pt.kids (nx s) f p)[j]?=some q:=⟨_,List.getElem?_eq_getElem hj⟩
    obtain⟨gb,y0,y1,ya,yn,yk,hva,hcell,hkc⟩:=KK j q hq (acP hl q (List.mem_of_getElem? hq)).2
    obtain⟨f0,f1,f2⟩:=hcell w' (hC.below hF.st)
    have hb1:∀o,Below w'.heap.size w' (w'.alloc o):=fun o=>(Below.refl w'.heap.size w').alloc (Nat.le_refl _) o
    refine⟨gb,y0,y1,ya,yn,yk,hva,f0,f1,f2,(hkc _ c' xj O' (hC.go hF.st (hb1 _)) ?_).mono (aif hF hq (Kept.of_below (hb1 _)))⟩
    have e1:(j+1)*M≤6*M:=Nat.mul_le_mul_right M (by omega)
    rw[Nat.add_mul,Nat.one_mul]at e1
    have:=hF.le
    omega
   ·rintro e w' (h|⟨rfl,x',c',O',hF⟩)
    ·exact Or.inl h
    ·have hq:=hF.seq
     rw[List.take_of_length_le (Nat.le_refl _)]at hq
     refine Or.inr ⟨rfl,x',hq,c',O',?_,hF.st,(Kept.of_below (hbo _)).trans hF.kept⟩
     have e1:(Pt.kids (nx s) f p).length*M≤6*M:=Nat.mul_le_mul_right M h6
     have:=hF.le
     omega
  ·have e:((nx s p:Nat):Int)=117:=by rw[h];rfl
   have h6:=acR (nx s) f p
   have hE:carryP C.num C.txt (nx s) (f+1) p x=(C.num 0 (((Pt.kids (nx s) f p).length:Int)-1) x).bind fun r=>carryP C.num C.txt (nx s) f (partOf (Pt.kids (nx s) f p) r.1) r.2:=by simp[carryP,h,loOf,hiOf]
   have hpl:∃q,(Pt.kids (nx s) f p)[0]?=some q:=by simp[Pt.kids,h]
   obtain⟨q0,hq0⟩:=hpl
   obtain⟨gb,_,_,_,_,_,rfl,_,_⟩:=KK 0 q0 hq0 (acP hl q0 (List.mem_of_getElem? hq0)).2
   rw[e]
   obtain⟨t0,t1,t2,_⟩:=(Tri.new w (.int .u8 117) (.int .i64 (aat (nx s) p)) (.slice (some ⟨gb,0,none⟩) (Pt.kids (nx s) f p).length vc)).facts
   refine apr C.tid C.fnum C.er C.ptr hC.mnum w _ gb _ vc (C.No (carryP C.num C.txt (nx s) (f+1) p x=none)) _ (fun j w'=>j<(Pt.kids (nx s) f p).length∧∃x',C.num 0 (((Pt.kids (nx s) f p).length:Int)-1) x=some ((j:Int),x')∧C.Lv O (c+1) x' (w.alloc (aaz 117 (aat (nx s) p) (some ⟨gb,0,none⟩) (Pt.kids (nx s) f p).length vc)) w') h6 ((hC.number 0 _ (hC.go hs (hbo _)) (by omega) (Or.inl ⟨rfl,by omega⟩)).mono ?_) ?_
   ·rintro e w' (⟨rfl,hr,hb⟩|⟨i,rfl,x',hx,hlv⟩)
    ·exact Or.inl ⟨rfl,by rw[hE,hr];rfl,hb⟩
    ·obtain⟨hi0,hi1⟩:=hC.range hx
     obtain⟨n,rfl⟩:∃n:Nat,i=n:=⟨i.toNat,by omega⟩
     exact Or.inr ⟨_,rfl,n,rfl,by omega,by omega,x',hx,hlv⟩
   ·rintro j w' ⟨hj,x',hx,c',O',hc',hst,hkp⟩
    obtain⟨q,hq⟩:∃q,(Pt.kids (nx s) f p)[j]?=some q:=⟨_,List.getElem?_eq_getElem hj⟩
    obtain⟨gb',y0,y1,ya,yn,yk,hva,hcell,hkc⟩:=KK j q hq (acP hl q (List.mem_of_getElem? hq)).2
    cases hva
    obtain⟨f0,f1,f2⟩:=hcell w' (hC.below hst)
    have hlt:w.heap.size<(w.alloc (aaz 117 (aat (nx s) p) (some ⟨gb,0,none⟩) (Pt.kids (nx s) f p).length vc)).heap.size:=by simp
    refine⟨y0,y1,ya,yn,yk,(hkp.cell hlt hfr).trans t2,f0,f1,f2,(hkc w' c' x' O' hst (by omega)).mono ?_⟩
    refine afS ((Kept.of_below (hbo _)).trans hkp) ?_ (by omega)
    rw[hE,hx]
    simp[partOf,hq]
theorem agn{C:Carrier σ}(hC:Carries C)(s:ByteArray):∀f,aep C s f:=by
 intro f
 induction f with
 |zero=>intro p S c0 c1 c2 h;exact h.elim
 |succ f ih=>exact ajz hC ih
abbrev WSt:=List It×List UInt8
def agy(lo hi:Int)(x:WSt):Option (Int×WSt):=match x.1 with
 |[]=>none
 |i :: r=>if i.2.size=0∧lo≤i.1∧i.1≤hi then some (i.1,(r,x.2++two8 i.1)) else none
def aiu(x:WSt):Option WSt:=match x.1 with
 |[]=>none
 |i :: r=>if i.1=0∧i.2.size≤14 then some (r,x.2++enc8 true i) else none
def agE(w0:World)(Ov:Value):Nat→Prop:=fun k=>k=w0.heap.size∨Ov.ownBlock=some k
def aaU(w0:World):Carrier WSt where
 tid:=203
 fnum:=281
 ftxt:=282
 er:=4
 ptr:=⟨w0.heap.size,0,none⟩
 w0:=w0
 St:=fun w c x O=>∃L Ov,WS w0 w L x.1 Ov x.2∧O=agE w0 Ov∧x.1.length≤9000000000000∧x.2.length≤17*c
 num:=agy
 txt:=aiu
theorem Wk.kept{w0 w w':World}{O O':Value}(h:Wk w0.heap.size O O' w w'):Kept (agE w0 O) (agE w0 O') w w':=by
 refine⟨h.size,fun k hk hn=>h.block k hk (fun e=>hn (Or.inl e)) (fun e=>hn (Or.inr e)),fun k hk=>?_⟩
 rcases hk with hk|hk
 ·exact Or.inl (Or.inl hk)
 ·rcases h.row with h1|⟨g,h1,h2⟩
  ·exact Or.inl (Or.inr (h1 ▸ hk))
  ·rw[hk]at h1
   cases h1
   exact Or.inr h2
theorem age(x:It)(h:x.2.size≤14):(enc8 true x).length≤17:=ao0 true x (fun _=>h)
theorem aeq(w0:World):Carries (aaU w0) where
 below:=by
  rintro w c x O ⟨L,Ov,h,_⟩
  exact h.below
 fresh:=by
  rintro w c x O ⟨L,Ov,h,rfl,_⟩ k (rfl|hk)
  ·exact⟨Nat.le_refl _,h.wr.lt⟩
  ·have:=h.row hk
   exact⟨by simp only[aaU];omega,this.2⟩
 go:=by
  rintro w c x O w' ⟨L,Ov,h,r⟩ hb
  exact⟨L,Ov,h.go hb,r⟩
 range:=by
  rintro lo hi ⟨v,out⟩ n x' h
  simp only[aaU,agy]at h
  cases v with
  |nil=>cases h
  |cons i r=>
   simp only at h
   split at h
   ·rename_i hc
    cases h
    exact⟨hc.2.1,hc.2.2⟩
   ·cases h
 mnum:=⟨fun _=>by kernel_rfl,fun _ _=>rfl⟩
 mtxt:=⟨fun _=>by kernel_rfl,fun _ _=>rfl⟩
 number:=by
  rintro w c ⟨v,out⟩ O lo hi ⟨L,Ov,h,rfl,hn,ho⟩ hc _
  simp only at h hn ho
  cases v with
  |nil=>
   refine(ag4 w0 w L Ov out lo hi h).mono ?_
   rintro e w' ⟨rfl,hb⟩
   exact Or.inl ⟨rfl,rfl,hb⟩
  |cons x v=>
   simp only[List.length_cons]at hn
   by_cases hok:x.2.size=0∧lo≤x.1∧x.1≤hi
   ·refine(akK w0 w L Ov x v out lo hi h (by omega) (aeE.2 hok.1) (by omega) (by omega) (by omega)).mono ?_
    rintro e w' ⟨rfl,L',O',hws,hwk⟩
    refine Or.inr ⟨x.1,rfl,(v,out++two8 x.1),by simp[aaU,agy,hok],c+1,agE w0 O',Nat.le_refl _,⟨L',O',hws,rfl,by simp only;omega,?_⟩,hwk.kept⟩
    simp only[List.length_append,two8,List.length_cons,List.length_nil]
    omega
   ·have hno:(aaU w0).num lo hi (x :: v,out)=none:=by simp only[aaU,agy];rw[if_neg hok]
    have fin:∀e w',e=aaf 4 0∧Below w0.heap.size w0 w'→OrN (aaU w0).er ((aaU w0).No ((aaU w0).num lo hi (x :: v,out)=none)) (fun i w'=>∃x',(aaU w0).num lo hi (x :: v,out)=some (i,x')∧(aaU w0).Lv (agE w0 Ov) (c+1) x' w w') e w':=by
     rintro e w' ⟨rfl,hb⟩
     exact Or.inl ⟨rfl,hno,hb⟩
    by_cases hS:x.2.toList=[]
    ·have:=aeE.1 hS
     by_cases hl:x.1<lo
     ·exact(ag6 w0 w L Ov x v out lo hi h (by omega) hS hl).mono fin
     ·exact(ag5 w0 w L Ov x v out lo hi h (by omega) hS hl (by omega)).mono fin
    ·exact(ag7 w0 w L Ov x v out lo hi h (by omega) hS).mono fin
 text:=by
  rintro w c ⟨v,out⟩ O ⟨L,Ov,h,rfl,hn,ho⟩ hc
  simp only at h hn ho
  cases v with
  |nil=>
   refine(ajT w0 w L Ov out h).mono ?_
   rintro e w' ⟨rfl,hb⟩
   exact Or.inl ⟨rfl,rfl,hb⟩
  |cons x v=>
   simp only[List.length_cons]at hn
   by_cases hok:x.1=0∧x.2.size≤14
   ·refine(aoc w0 w L Ov x v out h (by omega) hok.1 hok.2 (by omega)).mono ?_
    rintro e w' ⟨rfl,L',O',hws,hwk⟩
    refine Or.inr ⟨rfl,(v,out++enc8 true x),by simp[aaU,aiu,hok],c+1,agE w0 O',Nat.le_refl _,⟨L',O',hws,rfl,by simp only;omega,?_⟩,hwk.kept⟩
    have:=age x hok.2
    simp only[List.length_append]
    omega
   ·have hno:(aaU w0).txt (x :: v,out)=none:=by simp only[aaU,aiu];rw[if_neg hok]
    have fin:∀e w',e=aaf 4 0∧Below w0.heap.size w0 w'→Or2 (aaU w0).er ((aaU w0).No ((aaU w0).txt (x :: v,out)=none)) (fun w'=>∃x',(aaU w0).txt (x :: v,out)=some x'∧(aaU w0).Lv (agE w0 Ov) (c+1) x' w w') e w':=by
     rintro e w' ⟨rfl,hb⟩
     exact Or.inl ⟨rfl,hno,hb⟩
    by_cases hN:x.1=0
    ·exact(ajU w0 w L Ov x v out h (by omega) (by simp[hN]) (by omega)).mono fin
    ·exact(ajV w0 w L Ov x v out h (by omega) (by simpa using hN)).mono fin
theorem acy:∀(k1 k2:List Bool) (v:List It),k1.length≤v.length→bytesOf (k1++k2) v=bytesOf k1 v++bytesOf k2 (v.drop k1.length):=by
 intro k1
 induction k1 with
 |nil=>intro k2 v _;simp[bytesOf]
 |cons a k1 ih=>
  intro k2 v h
  cases v with
  |nil=>simp at h
  |cons x v=>
   simp only[List.cons_append,bytesOf,List.length_cons,List.drop_succ_cons]
   rw[ih k2 v (by simpa using h),List.append_assoc]
def alT(v:List It)(out:List UInt8)(e:Eaten):Option WSt:=e.map fun a=>(a.2,out++bytesOf a.1 v)
theorem afH{v r:List It}{out:List UInt8}{k0:List Bool}(hr:r=v.drop k0.length)(hk:k0.length≤v.length)(e:Eaten):alT v out (joinE k0 e)=alT r (out++bytesOf k0 v) e:=by
 cases e with
 |none=>rfl
 |some a=>
  simp only[joinE,alT,Option.map_some,Option.some.injEq,Prod.mk.injEq,true_and]
  rw[acy _ _ _ hk,←hr,List.append_assoc]
theorem amp{E:Nat→List It→Eaten}{F:Nat→WSt→Option WSt}:∀(qs:List Nat),(∀q∈qs,ajK (E q))→(∀q∈qs,∀v out,F q (v,out)=alT v out (E q v))→∀v out,seqC F qs (v,out)=alT v out (seqE E qs v):=by
 intro qs
 induction qs with
 |nil=>intro _ _ v out;simp[seqC,seqE,alT,bytesOf]
 |cons q qs ih=>
  intro hH hF v out
  simp only[seqC,seqE]
  rw[hF q (by simp) v out]
  cases hE:E q v with
  |none=>rfl
  |some a=>
   obtain⟨k,r⟩:=a
   obtain⟨h1,h2⟩:=hH q (by simp) v k r hE
   simp only
   rw[afH h1 h2]
   exact ih (fun q hq=>hH q (by simp[hq])) (fun q hq=>hF q (by simp[hq])) r _
theorem aly(g:Nat→Nat):∀f p v out,carryP agy aiu g f p (v,out)=alT v out (eat g f p v):=by
 intro f
 induction f with
 |zero=>intro p v out;rfl
 |succ f ih=>
  intro p v out
  have sq:=fun qs=>amp (E:=eat g f) (F:=carryP agy aiu g f) qs (fun q _=>eat_heads g f q) (fun q _=>ih q)
  by_cases ha:g p=97
  ·have hh:headOf g f p v=some ([],List.replicate (g (p+1)-48) (p+2),v):=by simp[headOf,ha]
   rw[abp hh,acS,←sq]
   simp[carryP,ha]
  by_cases hr:g p=114
  ·have hh:headOf g f p v=some ([],Pt.kids g f p,v):=by simp[headOf,hr]
   rw[abp hh,acS,←sq]
   simp[carryP,hr]
  cases v with
  |nil=>
   have hh:headOf g f p []=none:=by simp[headOf,ha,hr]
   rw[acn hh]
   simp[carryP,ha,hr,aiu,agy,alT]
  |cons x v=>
   by_cases hs:g p=115
   ·by_cases hc:x.1=0∧x.2.size≤14
    ·have hh:headOf g f p (x :: v)=some ([true],[],v):=by simp[headOf,hs,hc]
     rw[abp hh]
     simp[carryP,hs,aiu,hc,seqE,joinE,alT,bytesOf]
    ·have hh:headOf g f p (x :: v)=none:=by simp[headOf,hs,hc]
     rw[acn hh]
     simp[carryP,hs,aiu,hc,alT]
   ·by_cases hc:x.2.size=0∧loOf (g p)≤x.1∧x.1≤hiOf g f p
    ·have hn:agy (loOf (g p)) (hiOf g f p) (x :: v,out)=some (x.1,(v,out++two8 x.1)):=by simp[agy,hc]
     have hb:out++two8 x.1=out++bytesOf [false] (x :: v):=by simp[bytesOf,enc8]
     have hcp:carryP agy aiu g (f+1) p (x :: v,out)=if g p=117 then carryP agy aiu g f (partOf (Pt.kids g f p) x.1) (v,out++two8 x.1) else if g p=113 then seqC (carryP agy aiu g f) (List.replicate x.1.toNat (p+2)) (v,out++two8 x.1) else some (v,out++two8 x.1):=by
      simp only[carryP,if_neg hs,if_neg ha,if_neg hr,hn]
      rfl
     have hh:headOf g f p (x :: v)=some ([false],(if g p=117 then [partOf (Pt.kids g f p) x.1] else if g p=113 then List.replicate x.1.toNat (p+2) else []),v):=by simp[headOf,ha,hr,hs,hc]
     rw[abp hh,afH (k0:=[false]) (v:=x :: v) (r:=v) rfl (by simp),←hb,hcp]
     by_cases hu:g p=117
     ·rw[if_pos hu,if_pos hu,←sq]
      simp only[seqC]
      cases carryP agy aiu g f (partOf (Pt.kids g f p) x.1) (v,out++two8 x.1) <;> rfl
     ·rw[if_neg hu,if_neg hu]
      by_cases hq:g p=113
      ·rw[if_pos hq,if_pos hq,←sq]
      ·rw[if_neg hq,if_neg hq,←sq]
       rfl
    ·have hn:agy (loOf (g p)) (hiOf g f p) (x :: v,out)=none:=by simp only[agy];rw[if_neg hc]
     have hh:headOf g f p (x :: v)=none:=by simp only[headOf,if_neg ha,if_neg hr,if_neg hs,if_neg hc]
     rw[acn hh]
     simp only[carryP,if_neg hs,if_neg ha,if_neg hr,hn]
     rfl
def abh(ks:List Bool)(v:List It):Prop:=∀(i:Nat) (k:Bool) (x:It),ks[i]?=some k→v[i]?=some x→(k=true→x.2.size≤14)∧(k=false→-32768≤x.1∧x.1≤65535)
theorem aeV{k1 k2:List Bool}{v r:List It}(hr:r=v.drop k1.length)(h1:abh k1 v)(h2:abh k2 r):abh (k1++k2) v:=by
 intro i k x hk hx
 by_cases hi:i<k1.length
 ·rw[List.getElem?_append_left hi]at hk
  exact h1 i k x hk hx
 ·rw[List.getElem?_append_right (by omega)]at hk
  refine h2 (i-k1.length) k x hk ?_
  rw[hr,List.getElem?_drop,show k1.length+(i-k1.length)=i by omega]
  exact hx
def alO(E:List It→Eaten)(M:Nat):Prop:=∀v ks r,E v=some (ks,r)→ks.length≤M∧abh ks v
theorem aka{E:Nat→List It→Eaten}{M:Nat}:∀qs:List Nat,(∀q∈qs,ajK (E q))→(∀q∈qs,alO (E q) M)→alO (seqE E qs) (qs.length*M):=by
 intro qs
 induction qs with
 |nil=>intro _ _ v ks r h;simp[seqE]at h;obtain⟨rfl,rfl⟩:=h;exact⟨by simp,fun i k x hk=>by simp at hk⟩
 |cons a qs ih=>
  intro hH hS v ks r h
  simp only[seqE]at h
  cases ha:E a v with
  |none=>rw[ha]at h;cases h
  |some e=>
   obtain⟨k,r1⟩:=e
   rw[ha]at h
   simp only at h
   obtain⟨h1,h2⟩:=hH a (by simp) v k r1 ha
   obtain⟨s1,s2⟩:=hS a (by simp) v k r1 ha
   cases hs:seqE E qs r1 with
   |none=>rw[hs]at h;cases h
   |some e'=>
    obtain⟨k',r2⟩:=e'
    rw[hs]at h
    simp only[joinE,Option.some.injEq,Prod.mk.injEq]at h
    obtain⟨rfl,rfl⟩:=h
    obtain⟨s3,s4⟩:=ih (fun q hq=>hH q (by simp[hq])) (fun q hq=>hS q (by simp[hq])) r1 k' r2 hs
    refine⟨?_,aeV h1 s2 s4⟩
    simp only[List.length_append,List.length_cons]
    rw[Nat.add_mul,Nat.one_mul]
    omega
theorem aqL{s:ByteArray}{f p:Nat}(h:Okp s (f+1) p):hiOf (nx s) f p≤65535:=by
 have h6:=acR (nx s) f p
 rcases okp_cases h with (h|h|h|h)|⟨h,_,hd1,hd2⟩|⟨h,_,hd1,hd2,hok⟩|⟨h,_,hd1,hd2,hok⟩|hl
 ·simp[hiOf,h]
 ·simp[hiOf,h]
 ·simp[hiOf,h]
 ·simp[hiOf,h];omega
 ·simp[hiOf,h];omega
 ·simp[hiOf,h];omega
 ·simp[hiOf,h];omega
 ·rcases hl.here with h|h
  ·simp[hiOf,h];omega
  ·simp[hiOf,h];omega
theorem aqE(c:Nat):-32768≤loOf c∧loOf c≤0:=by
 unfold loOf
 split
 ·exact⟨by decide,by decide⟩
 ·exact⟨by decide,by decide⟩
theorem ajh{s:ByteArray}{f p:Nat}(h:Okp s (f+1) p){v:List It}{k0:List Bool}{qs:List Nat}{r:List It}(hh:headOf (nx s) f p v=some (k0,qs,r)) :
  k0.length≤1∧abh k0 v∧k0.length+qs.length≤10∧∀q∈qs,q∈Pt.kids (nx s) f p∧Okp s f q:=by
 have hhi:=aqL h
 have hlo:=aqE (nx s p)
 have h6:=acR (nx s) f p
 have nilK:abh [] v:=fun i k x hk=>by simp at hk
 unfold headOf at hh
 split at hh
 ·rename_i ha
  cases hh
  rcases okp_cases h with (h|h|h|h)|⟨h,_,hd1,hd2⟩|⟨h,_,hd1,hd2,hok⟩|⟨h,_,hd1,hd2,hok⟩|hl
  ·omega
  ·omega
  ·omega
  ·omega
  ·omega
  ·refine⟨by simp,nilK,by simp;omega,fun q hq=>?_⟩
   obtain⟨_,rfl⟩:=List.mem_replicate.1 hq
   exact⟨by simp[Pt.kids,h],hok⟩
  ·omega
  ·have:=hl.here;omega
 ·rename_i ha
  split at hh
  ·rename_i hr
   cases hh
   have hl:Okl s f p:=⟨Or.inl hr,h⟩
   exact⟨by simp,nilK,by simp;omega,fun q hq=>⟨hq,(acP hl q hq).2⟩⟩
  ·rename_i hr
   cases v with
   |nil=>cases hh
   |cons x v=>
    simp only at hh
    split at hh
    ·split at hh
     ·rename_i hc
      cases hh
      refine⟨by simp,?_,by simp,fun q hq=>by simp at hq⟩
      intro i k y hk hy
      match i,hk,hy with
      |0,hk,hy=>
       simp at hk hy
       subst hk hy
       exact⟨fun _=>hc.2,fun h=>by cases h⟩
      |i+1,hk,_=>simp at hk
     ·cases hh
    ·rename_i hs
     split at hh
     ·rename_i hc
      cases hh
      refine⟨by simp,?_,?_,?_⟩
      ·intro i k y hk hy
       match i,hk,hy with
       |0,hk,hy=>
        simp at hk hy
        subst hk hy
        exact⟨fun h=>(by cases h),fun _=>by omega⟩
       |i+1,hk,_=>simp at hk
      ·split
       ·simp
       ·split
        ·rename_i hq
         have:hiOf (nx s) f p≤9:=by
          rcases okp_cases h with (h|h|h|h)|⟨h,_,hd1,hd2⟩|⟨h,_,hd1,hd2,hok⟩|⟨h,_,hd1,hd2,hok⟩|hl
          ·omega
          ·omega
          ·omega
          ·omega
          ·omega
          ·omega
          ·simp[hiOf,h];omega
          ·have:=hl.here;omega
         simp
         omega
        ·simp
      ·split
       ·rename_i hu
        have hl:Okl s f p:=⟨Or.inr hu,h⟩
        intro q hq
        simp at hq
        subst hq
        have hx0:0≤x.1:=by
         have:loOf (nx s p)=0:=by simp[loOf,hu]
         omega
        have hx1:x.1≤((Pt.kids (nx s) f p).length:Int)-1:=by
         have:hiOf (nx s) f p=((Pt.kids (nx s) f p).length:Int)-1:=by simp[hiOf,hu]
         omega
        have hlt:x.1.toNat<(Pt.kids (nx s) f p).length:=by omega
        have hm:partOf (Pt.kids (nx s) f p) x.1∈Pt.kids (nx s) f p:=by
         unfold partOf
         rw[if_pos hx0,List.getElem?_eq_getElem hlt]
         exact List.getElem_mem hlt
        exact⟨hm,(acP hl _ hm).2⟩
       ·split
        ·rename_i hq
         intro q hqm
         obtain⟨_,rfl⟩:=List.mem_replicate.1 hqm
         rcases okp_cases h with (h|h|h|h)|⟨h,_,hd1,hd2⟩|⟨h,_,hd1,hd2,hok⟩|⟨h,_,hd1,hd2,hok⟩|hl
         ·omega
         ·omega
         ·omega
         ·omega
         ·omega
         ·omega
         ·exact⟨by simp[Pt.kids,h],hok⟩
         ·have:=hl.here;omega
        ·intro q hq;simp at hq
     ·cases hh
theorem alh(s:ByteArray):∀f p,Okp s f p→alO (eat (nx s) f p) (10 ^ Pt.dep (nx s) f p):=by
 intro f
 induction f with
 |zero=>intro p _ v ks r h;cases h
 |succ f ih=>
  intro p ho v ks r h
  obtain⟨T,hT⟩:∃T,T=Pt.top ((Pt.kids (nx s) f p).map (Pt.dep (nx s) f)):=⟨_,rfl⟩
  have hM:10 ^ Pt.dep (nx s) (f+1) p=10*10 ^ T:=by rw[Pt.dep,←hT,Nat.pow_succ,Nat.mul_comm]
  have hpos:1≤10 ^ T:=Nat.one_le_pow _ _ (by decide)
  rw[hM]
  cases hh:headOf (nx s) f p v with
  |none=>rw[acn hh]at h;cases h
  |some a=>
   obtain⟨k0,qs,r0⟩:=a
   rw[abp hh]at h
   obtain⟨h1,h2⟩:=adr hh
   obtain⟨g1,g2,g3,g4⟩:=ajh ho hh
   cases hs:seqE (eat (nx s) f) qs r0 with
   |none=>rw[hs]at h;cases h
   |some e'=>
    obtain⟨k',r2⟩:=e'
    rw[hs]at h
    simp only[joinE,Option.some.injEq,Prod.mk.injEq]at h
    obtain⟨rfl,rfl⟩:=h
    obtain⟨s1,s2⟩:=aka (M:=10 ^ T) qs (fun q _=>eat_heads _ f q) (fun q hq v ks r he=>by
     obtain⟨hm,hok⟩:=g4 q hq
     obtain⟨t1,t2⟩:=ih q hok v ks r he
     refine⟨Nat.le_trans t1 (Nat.pow_le_pow_right (by decide) ?_),t2⟩
     rw[hT]
     exact anT (List.mem_map.2 ⟨q,hm,rfl⟩)) r0 k' r2 hs
    refine⟨?_,aeV h1 g2 s2⟩
    generalize 10 ^ T=M at *
    rw[List.length_append]
    have e1:(k0.length+qs.length)*M≤10*M:=Nat.mul_le_mul_right M g3
    rw[Nat.add_mul]at e1
    have e2:k0.length≤k0.length*M:=Nat.le_mul_of_pos_right _ hpos
    omega
end Go.Proofs.YtblomippkddgiaaGreatDoor.V
