import Derived.Test.YtblomippkddgiaaGreatDoorK05
set_option maxRecDepth 100000
namespace Go.Proofs.YtblomippkddgiaaGreatDoor.V
open Go.RowKit
variable {σ:Type}
theorem KH{C:BI σ}{r:Option (Int×σ)}{E:Option σ}(hE:E=r.bind fun r=>some r.2){O:Nat->Prop}{c M:Nat}{w w1:World}(h1:Kept O O w w1)(hM:1<=M):
  ∀e w',KB C.er (C.No (r=none)) (fun w'=>∃i x',r=some (i,x')/\C.Lv O (c+1) x' w1 w') e w'->Ff C E O (c+M) w e w':=by
 rintro e w' (⟨rfl,hr,hb⟩|⟨rfl,i,x',hr,c',O',hc',hst,hk⟩)
 ·exact Or.inl ⟨rfl,by rw[hE,hr];rfl,hb⟩
 ·exact Or.inr ⟨rfl,x',by rw[hE,hr];rfl,c',O',by omega,hst,h1.trans hk⟩
theorem Qk{C:BI σ}{E:Option σ}{O:Nat->Prop}{c c2:Nat}{w w1:World}(h1:Kept O O w w1)(hc:c<=c2):
  ∀e w',Ff C E O c w1 e w'->Ff C E O c2 w e w':=by
 rintro e w' (h|⟨rfl,x',hr,c',O',hc',hst,hk⟩)
 ·exact Or.inl h
 ·exact Or.inr ⟨rfl,x',hr,c',O',by omega,hst,h1.trans hk⟩
theorem Nb{C:BI σ}{E E':Option σ}{O O1:Nat->Prop}{c c2:Nat}{w w1:World}(h1:Kept O O1 w w1)(hE:E'=E)(hc:c<=c2):
  ∀e w',Ff C E O1 c w1 e w'->Ff C E' O c2 w e w':=by
 subst hE;rintro e w' (h|⟨rfl,x',hr,c',O',hc',hst,hk⟩)
 ·exact Or.inl h
 ·exact Or.inr ⟨rfl,x',hr,c',O',by omega,hst,h1.trans hk⟩
theorem QY{C:BI σ}(hC:I8 C){s:ByteArray}{f:Nat}(ih:JH C s f):JH C s (f+1):=by
 intro p S c0 c1 c2 hR hO;obtain⟨rfl,rfl,va,vc,rfl,hkid⟩:=UX hR;obtain⟨T,hT⟩:∃T,T=Pt.top ((Pt.kids (nx s) f p).map (Pt.Eh (nx s) f)):=⟨_,rfl⟩;have hM:10 ^ Pt.Eh (nx s) (f+1) p=10*10 ^ T:=by rw[Pt.Eh,<-hT,Nat.pow_succ,Nat.mul_comm]
 have hpos:1<=10 ^ T:=Nat.one_le_pow _ _ (by decide);have KK:∀j q,(Pt.kids (nx s) f p)[j]?=some q->Mi s f q->∃gb y0 y1 ya yn yk,va=some ⟨gb,0,none⟩ /\
   (∀w,Below C.w0.heap.size C.w0 w->w.cell? ⟨gb,j*3,none⟩=some (.int .u8 y0)/\w.cell? ⟨gb,j*3+1,none⟩=some (.int .i64 y1)/\w.cell? ⟨gb,j*3+2,none⟩=some (.slice ya yn yk))/\TM C (.agg #[.int .u8 y0,.int .i64 y1,.slice ya yn yk]) (Aw C.num C.txt (nx s) f q) (10 ^ T):=by
  intro j q hq ho;obtain⟨gb,y0,y1,ya,yn,yk,hva,hcell,hr⟩:=hkid j q hq;refine⟨gb,y0,y1,ya,yn,yk,hva,hcell,(ih q S _ _ _ hr ho).mono ?_⟩;refine Nat.pow_le_pow_right (by decide) ?_;rw[hT];exact le_top (List.mem_map.2 ⟨q,List.mem_of_getElem? hq,rfl⟩)
 rw[hM];clear hM hkid hR ih;generalize 10 ^ T=M at *;clear hT T;intro w c x O hs hc;have hbw:=hC.below hs;have hbo:∀o,Below w.heap.size w (w.alloc o):=fun o=>(Below.refl w.heap.size w).alloc (Nat.le_refl _) o
 have hfr:¬O w.heap.size:=fun h=>by have:=(hC.fresh hs _ h).2;omega
 rcases FX hO with (h|h|h|h)|⟨h,_,hd1,hd2⟩|⟨h,_,hd1,hd2,hok⟩|⟨h,_,hd1,hd2,hok⟩|hl
 ·have e:((nx s p:Nat):Int)=98:=by rw[h];rfl
  rw[e];refine(abj C.tid C.Ml C.er C.ptr hC.PI w _ _ _ _ _ _ (hC.number 0 1 (hC.go hs (hbo _)) (by omega) (Or.inl ⟨rfl,by decide⟩))).mono (KH ?_ (Kept.of_below (hbo _)) (by omega));simp[Aw,h,CG,BO]
 ·have e:((nx s p:Nat):Int)=99:=by rw[h];rfl
  rw[e];refine(abk C.tid C.Ml C.er C.ptr hC.PI w _ _ _ _ _ _ (hC.number 0 65535 (hC.go hs (hbo _)) (by omega) (Or.inl ⟨rfl,by decide⟩))).mono (KH ?_ (Kept.of_below (hbo _)) (by omega));simp[Aw,h,CG,BO]
 ·have e:((nx s p:Nat):Int)=105:=by rw[h];rfl
  rw[e];refine(abm C.tid C.Ml C.er C.ptr hC.PI w _ _ _ _ _ _ (hC.number (-32768) 32767 (hC.go hs (hbo _)) (by omega) (Or.inr ⟨rfl,rfl⟩))).mono (KH ?_ (Kept.of_below (hbo _)) (by omega));simp[Aw,h,CG,BO]
 ·have e:((nx s p:Nat):Int)=115:=by rw[h];rfl
  rw[e];have hE:Aw C.num C.txt (nx s) (f+1) p x=C.txt x:=by simp[Aw,h]
  refine(abp C.tid C.Wq C.er C.ptr hC.aaT w _ _ _ _ _ _ (hC.text (hC.go hs (hbo _)) (by omega))).mono ?_;rw[hE];exact Qk (Kept.of_below (hbo _)) (by omega)
 ·have e:((nx s p:Nat):Int)=101:=by rw[h];rfl
  have hx1:Bl (nx s) p=(nx s (p+1):Int)-48:=by simp[Bl,h]
  rw[e,hx1];refine(abl C.tid C.Ml C.er C.ptr hC.PI w _ _ _ _ _ _ (by omega) (hC.number 0 _ (hC.go hs (hbo _)) (by omega) (Or.inl ⟨rfl,by omega⟩))).mono (KH ?_ (Kept.of_below (hbo _)) (by omega));simp[Aw,h,CG,BO]
 ·have e:((nx s p:Nat):Int)=97:=by rw[h];rfl
  obtain⟨n,hn⟩:∃n,n=nx s (p+1)-48:=⟨_,rfl⟩;have hx1:Bl (nx s) p=(n:Int):=by simp[Bl,h];omega
  have hk:Pt.kids (nx s) f p=[p+2]:=by simp[Pt.kids,h]
  obtain⟨gb,y0,y1,ya,yn,yk,rfl,hcell,hkc⟩:=KK 0 (p+2) (by rw[hk];rfl) hok;have hE:Aw C.num C.txt (nx s) (f+1) p x=CV (Aw C.num C.txt (nx s) f) (List.replicate n (p+2)) x:=by simp[Aw,h,hn]
  rw[e,hx1,hE];have hbd:∀o,Below w.heap.size w (w.alloc o).drew:=fun o=>(hbo o).drew
  have hf:=fun o=>hcell (w.alloc o) (hbw.trans ((hbo o).mono hbw.size))
  have hnM:n*M<=9*M:=Nat.mul_le_mul_right M (by omega);refine(abh C.tid C.er C.ptr w n gb _ _ y0 y1 ya yn yk _ _ (by rw[hk];simp) (fun o=>(hf o).1) (fun o=>(hf o).2.1) (fun o=>(hf o).2.2) (Mb hC hkc n (by omega) (hC.go hs (hbd _)) (by omega))).mono ?_;exact Qk (Kept.of_below (hbd _)) (by omega)
 ·have e:((nx s p:Nat):Int)=113:=by rw[h];rfl
  obtain⟨m,hm⟩:∃m,m=nx s (p+1)-48:=⟨_,rfl⟩;have hx1:Bl (nx s) p=(m:Int):=by simp[Bl,h];omega
  have hk:Pt.kids (nx s) f p=[p+2]:=by simp[Pt.kids,h]
  obtain⟨gb,y0,y1,ya,yn,yk,rfl,hcell,hkc⟩:=KK 0 (p+2) (by rw[hk];rfl) hok;have hE:Aw C.num C.txt (nx s) (f+1) p x=(C.num 0 m x).bind fun r=>CV (Aw C.num C.txt (nx s) f) (List.replicate r.1.toNat (p+2)) r.2:=by
   have:((nx s (p+1):Nat):Int)-48=(m:Int):=by omega
   simp[Aw,h,CG,BO,this]
  rw[e,hx1];obtain⟨t0,t1,t2,_⟩:=(Fe.new w (.int .u8 113) (.int .i64 m) (.slice (some ⟨gb,0,none⟩) (Pt.kids (nx s) f p).length vc)).facts;refine abn C.tid C.Ml C.er C.ptr hC.PI w m gb _ _ y0 y1 ya yn yk (C.No (Aw C.num C.txt (nx s) (f+1) p x=none)) _ (fun i w'=>∃x',C.num 0 m x=some (i,x')/\C.Lv O (c+1) x' (w.alloc (Bh 113 m (some ⟨gb,0,none⟩) (Pt.kids (nx s) f p).length vc)) w') (by rw[hk];simp) ((hC.number 0 m (hC.go hs (hbo _)) (by omega) (Or.inl ⟨rfl,by omega⟩)).mono ?_) ?_
  ·rintro e w' (⟨rfl,hr,hb⟩|h)
   ·exact Or.inl ⟨rfl,by rw[hE,hr];rfl,hb⟩
   ·exact Or.inr h
  ·rintro i w' ⟨x',hx,c',O',hc',hst,hkp⟩;obtain⟨hi0,hi1⟩:=hC.range hx;obtain⟨n,rfl⟩:∃n:Nat,i=n:=⟨i.toNat,by omega⟩;have hlt:w.heap.size<(w.alloc (Bh 113 m (some ⟨gb,0,none⟩) (Pt.kids (nx s) f p).length vc)).heap.size:=by simp
   obtain⟨f0,f1,f2⟩:=hcell w' (hC.below hst);have hnM:n*M<=9*M:=Nat.mul_le_mul_right M (by omega);refine⟨(hkp.cell hlt hfr).trans t2,f0,f1,f2,(Mb hC hkc n (by omega) hst (by omega)).mono ?_⟩;refine Nb ((Kept.of_below (hbo _)).trans hkp) ?_ (by omega);rw[hE,hx];simp
 ·rcases hl.here with h|h
  ·have e:((nx s p:Nat):Int)=114:=by rw[h];rfl
   have hE:Aw C.num C.txt (nx s) (f+1) p x=CV (Aw C.num C.txt (nx s) f) (Pt.kids (nx s) f p) x:=by simp[Aw,h]
   have h6:=Hm (nx s) f p;rw[e,hE];refine(abo C.tid C.er C.ptr w _ va _ vc (C.No (CV (Aw C.num C.txt (nx s) f) (Pt.kids (nx s) f p) x=none)) (aal C (Aw C.num C.txt (nx s) f) (Pt.kids (nx s) f p) x c M O (w.alloc (Bh 114 (Bl (nx s) p) va (Pt.kids (nx s) f p).length vc))) h6 ⟨x,c,O,rfl,by omega,hC.go hs (hbo _),Kept.refl _ _⟩ ?_).mono ?_
   ·rintro j w' hj ⟨xj,c',O',hF⟩;obtain⟨q,hq⟩:∃q,(Pt.kids (nx s) f p)[j]?=some q:=⟨_,List.getElem?_eq_getElem hj⟩;obtain⟨gb,y0,y1,ya,yn,yk,hva,hcell,hkc⟩:=KK j q hq (Hs hl q (List.mem_of_getElem? hq)).2;obtain⟨f0,f1,f2⟩:=hcell w' (hC.below hF.st);have hb1:∀o,Below w'.heap.size w' (w'.alloc o):=fun o=>(Below.refl w'.heap.size w').alloc (Nat.le_refl _) o
    refine⟨gb,y0,y1,ya,yn,yk,hva,f0,f1,f2,(hkc _ c' xj O' (hC.go hF.st (hb1 _)) ?_).mono (O9 hF hq (Kept.of_below (hb1 _)))⟩;have e1:(j+1)*M<=6*M:=Nat.mul_le_mul_right M (by omega);rw[Nat.add_mul,Nat.one_mul]at e1;have:=hF.le;omega
   ·rintro e w' (h|⟨rfl,x',c',O',hF⟩)
    ·exact Or.inl h
    ·have hq:=hF.seq;rw[List.take_of_length_le (Nat.le_refl _)]at hq;refine Or.inr ⟨rfl,x',hq,c',O',?_,hF.st,(Kept.of_below (hbo _)).trans hF.kept⟩;have e1:(Pt.kids (nx s) f p).length*M<=6*M:=Nat.mul_le_mul_right M h6;have:=hF.le;omega
  ·have e:((nx s p:Nat):Int)=117:=by rw[h];rfl
   have h6:=Hm (nx s) f p;have hE:Aw C.num C.txt (nx s) (f+1) p x=(C.num 0 (((Pt.kids (nx s) f p).length:Int)-1) x).bind fun r=>Aw C.num C.txt (nx s) f (partOf (Pt.kids (nx s) f p) r.1) r.2:=by simp[Aw,h,CG,BO]
   have hpl:∃q,(Pt.kids (nx s) f p)[0]?=some q:=by simp[Pt.kids,h]
   obtain⟨q0,hq0⟩:=hpl;obtain⟨gb,_,_,_,_,_,rfl,_,_⟩:=KK 0 q0 hq0 (Hs hl q0 (List.mem_of_getElem? hq0)).2;rw[e];obtain⟨t0,t1,t2,_⟩:=(Fe.new w (.int .u8 117) (.int .i64 (Bl (nx s) p)) (.slice (some ⟨gb,0,none⟩) (Pt.kids (nx s) f p).length vc)).facts;refine abq C.tid C.Ml C.er C.ptr hC.PI w _ gb _ vc (C.No (Aw C.num C.txt (nx s) (f+1) p x=none)) _ (fun j w'=>j<(Pt.kids (nx s) f p).length/\∃x',C.num 0 (((Pt.kids (nx s) f p).length:Int)-1) x=some ((j:Int),x')/\C.Lv O (c+1) x' (w.alloc (Bh 117 (Bl (nx s) p) (some ⟨gb,0,none⟩) (Pt.kids (nx s) f p).length vc)) w') h6 ((hC.number 0 _ (hC.go hs (hbo _)) (by omega) (Or.inl ⟨rfl,by omega⟩)).mono ?_) ?_
   ·rintro e w' (⟨rfl,hr,hb⟩|⟨i,rfl,x',hx,hlv⟩)
    ·exact Or.inl ⟨rfl,by rw[hE,hr];rfl,hb⟩
    ·obtain⟨hi0,hi1⟩:=hC.range hx;obtain⟨n,rfl⟩:∃n:Nat,i=n:=⟨i.toNat,by omega⟩;exact Or.inr ⟨_,rfl,n,rfl,by omega,by omega,x',hx,hlv⟩
   ·rintro j w' ⟨hj,x',hx,c',O',hc',hst,hkp⟩;obtain⟨q,hq⟩:∃q,(Pt.kids (nx s) f p)[j]?=some q:=⟨_,List.getElem?_eq_getElem hj⟩;obtain⟨gb',y0,y1,ya,yn,yk,hva,hcell,hkc⟩:=KK j q hq (Hs hl q (List.mem_of_getElem? hq)).2;cases hva;obtain⟨f0,f1,f2⟩:=hcell w' (hC.below hst);have hlt:w.heap.size<(w.alloc (Bh 117 (Bl (nx s) p) (some ⟨gb,0,none⟩) (Pt.kids (nx s) f p).length vc)).heap.size:=by simp
    refine⟨y0,y1,ya,yn,yk,(hkp.cell hlt hfr).trans t2,f0,f1,f2,(hkc w' c' x' O' hst (by omega)).mono ?_⟩;refine Nb ((Kept.of_below (hbo _)).trans hkp) ?_ (by omega);rw[hE,hx];simp[partOf,hq]
theorem MK{C:BI σ}(hC:I8 C)(s:ByteArray):∀f,JH C s f:=by
 intro f;induction f with
 |zero=>intro p S c0 c1 c2 h;exact h.elim
 |succ f ih=>exact QY hC ih
abbrev Z1:=List It×List UInt8
def Ix(lo hi:Int)(x:Z1):Option (Int×Z1):=match x.1 with
 |[]=>none
 |i :: r=>if i.2.size=0/\lo<=i.1/\i.1<=hi then some (i.1,(r,x.2++AX i.1)) else none
def J2(x:Z1):Option Z1:=match x.1 with
 |[]=>none
 |i :: r=>if i.1=0/\i.2.size<=14 then some (r,x.2++El true i) else none
def I6(w0:World)(Ov:Value):Nat->Prop:=fun k=>k=w0.heap.size\/Ov.ownBlock=some k
def writer(w0:World):BI Z1 where
 tid:=203
 Ml:=281
 Wq:=282
 er:=4
 ptr:=⟨w0.heap.size,0,none⟩
 w0:=w0
 St:=fun w c x O=>∃L Ov,WS w0 w L x.1 Ov x.2/\O=I6 w0 Ov/\x.1.length<=9000000000000/\x.2.length<=17*c
 num:=Ix
 txt:=J2
theorem Wk.kept{w0 w w':World}{O O':Value}(h:Wk w0.heap.size O O' w w'):Kept (I6 w0 O) (I6 w0 O') w w':=by
 refine⟨h.size,fun k hk hn=>h.block k hk (fun e=>hn (Or.inl e)) (fun e=>hn (Or.inr e)),fun k hk=>?_⟩;rcases hk with hk|hk
 ·exact Or.inl (Or.inl hk)
 ·rcases h.row with h1|⟨g,h1,h2⟩
  ·exact Or.inl (Or.inr (h1 ▸ hk))
  ·rw[hk]at h1;cases h1;exact Or.inr h2
theorem NM(x:It)(h:x.2.size<=14):(El true x).length<=17:=YX true x (fun _=>h)
theorem Mg(w0:World):I8 (writer w0) where
 below:=by
  rintro w c x O ⟨L,Ov,h,_⟩;exact h.below
 fresh:=by
  rintro w c x O ⟨L,Ov,h,rfl,_⟩ k (rfl|hk)
  ·exact⟨Nat.le_refl _,h.wr.lt⟩
  ·have:=h.row hk;exact⟨by simp only[writer];omega,this.2⟩
 go:=by
  rintro w c x O w' ⟨L,Ov,h,r⟩ hb;exact⟨L,Ov,h.go hb,r⟩
 range:=by
  rintro lo hi ⟨v,out⟩ n x' h;simp only[writer,Ix]at h;cases v with
  |nil=>cases h
  |cons i r=>
   simp only at h;split at h
   ·rename_i hc;cases h;exact⟨hc.2.1,hc.2.2⟩
   ·cases h
 PI:=⟨fun _=>by kernel_rfl,fun _ _=>rfl⟩
 aaT:=⟨fun _=>by kernel_rfl,fun _ _=>rfl⟩
 number:=by
  rintro w c ⟨v,out⟩ O lo hi ⟨L,Ov,h,rfl,hn,ho⟩ hc _;simp only at h hn ho;cases v with
  |nil=>
   refine(PT w0 w L Ov out lo hi h).mono ?_;rintro e w' ⟨rfl,hb⟩;exact Or.inl ⟨rfl,rfl,hb⟩
  |cons x v=>
   simp only[List.length_cons]at hn;by_cases hok:x.2.size=0/\lo<=x.1/\x.1<=hi
   ·refine(UI w0 w L Ov x v out lo hi h (by omega) (toList_nil.2 hok.1) (by omega) (by omega) (by omega)).mono ?_;rintro e w' ⟨rfl,L',O',hws,hwk⟩;refine Or.inr ⟨x.1,rfl,(v,out++AX x.1),by simp[writer,Ix,hok],c+1,I6 w0 O',Nat.le_refl _,⟨L',O',hws,rfl,by simp only;omega,?_⟩,hwk.kept⟩;simp only[List.length_append,AX,List.length_cons,List.length_nil];omega
   ·have hno:(writer w0).num lo hi (x :: v,out)=none:=by simp only[writer,Ix];rw[if_neg hok]
    have fin:∀e w',e=Ax 4 0/\Below w0.heap.size w0 w'->YA (writer w0).er ((writer w0).No ((writer w0).num lo hi (x :: v,out)=none)) (fun i w'=>∃x',(writer w0).num lo hi (x :: v,out)=some (i,x')/\(writer w0).Lv (I6 w0 Ov) (c+1) x' w w') e w':=by
     rintro e w' ⟨rfl,hb⟩;exact Or.inl ⟨rfl,hno,hb⟩
    by_cases hS:x.2.toList=[]
    ·have:=toList_nil.1 hS;by_cases hl:x.1<lo
     ·exact(PR w0 w L Ov x v out lo hi h (by omega) hS hl).mono fin
     ·exact(PS w0 w L Ov x v out lo hi h (by omega) hS hl (by omega)).mono fin
    ·exact(PQ w0 w L Ov x v out lo hi h (by omega) hS).mono fin
 text:=by
  rintro w c ⟨v,out⟩ O ⟨L,Ov,h,rfl,hn,ho⟩ hc;simp only at h hn ho;cases v with
  |nil=>
   refine(Vr w0 w L Ov out h).mono ?_;rintro e w' ⟨rfl,hb⟩;exact Or.inl ⟨rfl,rfl,hb⟩
  |cons x v=>
   simp only[List.length_cons]at hn;by_cases hok:x.1=0/\x.2.size<=14
   ·refine(ZP w0 w L Ov x v out h (by omega) hok.1 hok.2 (by omega)).mono ?_;rintro e w' ⟨rfl,L',O',hws,hwk⟩;refine Or.inr ⟨rfl,(v,out++El true x),by simp[writer,J2,hok],c+1,I6 w0 O',Nat.le_refl _,⟨L',O',hws,rfl,by simp only;omega,?_⟩,hwk.kept⟩;have:=NM x hok.2;simp only[List.length_append];omega
   ·have hno:(writer w0).txt (x :: v,out)=none:=by simp only[writer,J2];rw[if_neg hok]
    have fin:∀e w',e=Ax 4 0/\Below w0.heap.size w0 w'->KB (writer w0).er ((writer w0).No ((writer w0).txt (x :: v,out)=none)) (fun w'=>∃x',(writer w0).txt (x :: v,out)=some x'/\(writer w0).Lv (I6 w0 Ov) (c+1) x' w w') e w':=by
     rintro e w' ⟨rfl,hb⟩;exact Or.inl ⟨rfl,hno,hb⟩
    by_cases hN:x.1=0
    ·exact(Vq w0 w L Ov x v out h (by omega) (by simp[hN]) (by omega)).mono fin
    ·exact(Vp w0 w L Ov x v out h (by omega) (by simpa using hN)).mono fin
theorem G4:∀(k1 k2:List Bool) (v:List It),k1.length<=v.length->bytesOf (k1++k2) v=bytesOf k1 v++bytesOf k2 (v.drop k1.length):=by
 intro k1;induction k1 with
 |nil=>intro k2 v _;simp[bytesOf]
 |cons a k1 ih=>
  intro k2 v h;cases v with
  |nil=>simp at h
  |cons x v=>
   simp only[List.cons_append,bytesOf,List.length_cons,List.drop_succ_cons];rw[ih k2 v (by simpa using h),List.append_assoc]
def MB(v:List It)(out:List UInt8)(e:Dn):Option Z1:=e.map fun a=>(a.2,out++bytesOf a.1 v)
theorem Np{v r:List It}{out:List UInt8}{k0:List Bool}(hr:r=v.drop k0.length)(hk:k0.length<=v.length)(e:Dn):MB v out (BS k0 e)=MB r (out++bytesOf k0 v) e:=by
 cases e with
 |none=>rfl
 |some a=>
  simp only[BS,MB,Option.map_some,Option.some.injEq,Prod.mk.injEq,true_and];rw[G4 _ _ _ hk,<-hr,List.append_assoc]
theorem X3{E:Nat->List It->Dn}{F:Nat->Z1->Option Z1}:∀(qs:List Nat),(∀q∈qs,ME (E q))->(∀q∈qs,∀v out,F q (v,out)=MB v out (E q v))->∀v out,CV F qs (v,out)=MB v out (BG E qs v):=by
 intro qs;induction qs with
 |nil=>intro _ _ v out;simp[CV,BG,MB,bytesOf]
 |cons q qs ih=>
  intro hH hF v out;simp only[CV,BG];rw[hF q (by simp) v out];cases hE:E q v with
  |none=>rfl
  |some a=>
   obtain⟨k,r⟩:=a;obtain⟨h1,h2⟩:=hH q (by simp) v k r hE;simp only;rw[Np h1 h2];exact ih (fun q hq=>hH q (by simp[hq])) (fun q hq=>hF q (by simp[hq])) r _
theorem Ub(g:Nat->Nat):∀f p v out,Aw Ix J2 g f p (v,out)=MB v out (Ct g f p v):=by
 intro f;induction f with
 |zero=>intro p v out;rfl
 |succ f ih=>
  intro p v out;have sq:=fun qs=>X3 (E:=Ct g f) (F:=Aw Ix J2 g f) qs (fun q _=>FM g f q) (fun q _=>ih q)
  by_cases ha:g p=97
  ·have hh:AF g f p v=some ([],List.replicate (g (p+1)-48) (p+2),v):=by simp[AF,ha]
   rw[Ec hh,Ii,<-sq];simp[Aw,ha]
  by_cases hr:g p=114
  ·have hh:AF g f p v=some ([],Pt.kids g f p,v):=by simp[AF,hr]
   rw[Ec hh,Ii,<-sq];simp[Aw,hr]
  cases v with
  |nil=>
   have hh:AF g f p []=none:=by simp[AF,ha,hr]
   rw[FN hh];simp[Aw,ha,hr,J2,Ix,MB]
  |cons x v=>
   by_cases hs:g p=115
   ·by_cases hc:x.1=0/\x.2.size<=14
    ·have hh:AF g f p (x :: v)=some ([true],[],v):=by simp[AF,hs,hc]
     rw[Ec hh];simp[Aw,hs,J2,hc,BG,BS,MB,bytesOf]
    ·have hh:AF g f p (x :: v)=none:=by simp[AF,hs,hc]
     rw[FN hh];simp[Aw,hs,J2,hc,MB]
   ·by_cases hc:x.2.size=0/\CG (g p)<=x.1/\x.1<=BO g f p
    ·have hn:Ix (CG (g p)) (BO g f p) (x :: v,out)=some (x.1,(v,out++AX x.1)):=by simp[Ix,hc]
     have hb:out++AX x.1=out++bytesOf [false] (x :: v):=by simp[bytesOf,El]
     have hcp:Aw Ix J2 g (f+1) p (x :: v,out)=if g p=117 then Aw Ix J2 g f (partOf (Pt.kids g f p) x.1) (v,out++AX x.1) else if g p=113 then CV (Aw Ix J2 g f) (List.replicate x.1.toNat (p+2)) (v,out++AX x.1) else some (v,out++AX x.1):=by
      simp only[Aw,if_neg hs,if_neg ha,if_neg hr,hn];rfl
     have hh:AF g f p (x :: v)=some ([false],(if g p=117 then [partOf (Pt.kids g f p) x.1] else if g p=113 then List.replicate x.1.toNat (p+2) else []),v):=by simp[AF,ha,hr,hs,hc]
     rw[Ec hh,Np (k0:=[false]) (v:=x :: v) (r:=v) rfl (by simp),<-hb,hcp];by_cases hu:g p=117
     ·rw[if_pos hu,if_pos hu,<-sq];simp only[CV];cases Aw Ix J2 g f (partOf (Pt.kids g f p) x.1) (v,out++AX x.1)<;>rfl
     ·rw[if_neg hu,if_neg hu];by_cases hq:g p=113
      ·rw[if_pos hq,if_pos hq,<-sq]
      ·rw[if_neg hq,if_neg hq,<-sq];rfl
    ·have hn:Ix (CG (g p)) (BO g f p) (x :: v,out)=none:=by simp only[Ix];rw[if_neg hc]
     have hh:AF g f p (x :: v)=none:=by simp only[AF,if_neg ha,if_neg hr,if_neg hs,if_neg hc]
     rw[FN hh];simp only[Aw,if_neg hs,if_neg ha,if_neg hr,hn];rfl
def Dy(ks:List Bool)(v:List It):Prop:=∀(i:Nat) (k:Bool) (x:It),ks[i]?=some k->v[i]?=some x->(k=true->x.2.size<=14)/\(k=false->-32768<=x.1/\x.1<=65535)
theorem Ll{k1 k2:List Bool}{v r:List It}(hr:r=v.drop k1.length)(h1:Dy k1 v)(h2:Dy k2 r):Dy (k1++k2) v:=by
 intro i k x hk hx;by_cases hi:i<k1.length
 ·rw[List.getElem?_append_left hi]at hk;exact h1 i k x hk hx
 ·rw[List.getElem?_append_right (by omega)]at hk;refine h2 (i-k1.length) k x hk ?_;rw[hr,List.getElem?_drop,show k1.length+(i-k1.length)=i by omega];exact hx
def QL(E:List It->Dn)(M:Nat):Prop:=∀v ks r,E v=some (ks,r)->ks.length<=M/\Dy ks v
theorem Vb{E:Nat->List It->Dn}{M:Nat}:∀qs:List Nat,(∀q∈qs,ME (E q))->(∀q∈qs,QL (E q) M)->QL (BG E qs) (qs.length*M):=by
 intro qs;induction qs with
 |nil=>intro _ _ v ks r h;simp[BG]at h;obtain⟨rfl,rfl⟩:=h;exact⟨by simp,fun i k x hk=>by simp at hk⟩
 |cons a qs ih=>
  intro hH hS v ks r h;simp only[BG]at h;cases ha:E a v with
  |none=>rw[ha]at h;cases h
  |some e=>
   obtain⟨k,r1⟩:=e;rw[ha]at h;simp only at h;obtain⟨h1,h2⟩:=hH a (by simp) v k r1 ha;obtain⟨s1,s2⟩:=hS a (by simp) v k r1 ha;cases hs:BG E qs r1 with
   |none=>rw[hs]at h;cases h
   |some e'=>
    obtain⟨k',r2⟩:=e';rw[hs]at h;simp only[BS,Option.some.injEq,Prod.mk.injEq]at h;obtain⟨rfl,rfl⟩:=h;obtain⟨s3,s4⟩:=ih (fun q hq=>hH q (by simp[hq])) (fun q hq=>hS q (by simp[hq])) r1 k' r2 hs;refine⟨?_,Ll h1 s2 s4⟩;simp only[List.length_append,List.length_cons];rw[Nat.add_mul,Nat.one_mul];omega
theorem ab0{s:ByteArray}{f p:Nat}(h:Mi s (f+1) p):BO (nx s) f p<=65535:=by
 have h6:=Hm (nx s) f p;rcases FX h with (h|h|h|h)|⟨h,_,hd1,hd2⟩|⟨h,_,hd1,hd2,hok⟩|⟨h,_,hd1,hd2,hok⟩|hl
 ·simp[BO,h]
 ·simp[BO,h]
 ·simp[BO,h]
 ·simp[BO,h];omega
 ·simp[BO,h];omega
 ·simp[BO,h];omega
 ·simp[BO,h];omega
 ·rcases hl.here with h|h
  ·simp[BO,h];omega
  ·simp[BO,h];omega
theorem ab6(c:Nat):-32768<=CG c/\CG c<=0:=by
 unfold CG;split
 ·exact⟨by decide,by decide⟩
 ·exact⟨by decide,by decide⟩
theorem Rr{s:ByteArray}{f p:Nat}(h:Mi s (f+1) p){v:List It}{k0:List Bool}{qs:List Nat}{r:List It}(hh:AF (nx s) f p v=some (k0,qs,r)):
  k0.length<=1/\Dy k0 v/\k0.length+qs.length<=10/\∀q∈qs,q∈Pt.kids (nx s) f p/\Mi s f q:=by
 have hhi:=ab0 h;have hlo:=ab6 (nx s p);have h6:=Hm (nx s) f p;have nilK:Dy [] v:=fun i k x hk=>by simp at hk
 unfold AF at hh;split at hh
 ·rename_i ha;cases hh;rcases FX h with (h|h|h|h)|⟨h,_,hd1,hd2⟩|⟨h,_,hd1,hd2,hok⟩|⟨h,_,hd1,hd2,hok⟩|hl
  ·omega
  ·omega
  ·omega
  ·omega
  ·omega
  ·refine⟨by simp,nilK,by simp;omega,fun q hq=>?_⟩;obtain⟨_,rfl⟩:=List.mem_replicate.1 hq;exact⟨by simp[Pt.kids,h],hok⟩
  ·omega
  ·have:=hl.here;omega
 ·rename_i ha;split at hh
  ·rename_i hr;cases hh;have hl:Okl s f p:=⟨Or.inl hr,h⟩;exact⟨by simp,nilK,by simp;omega,fun q hq=>⟨hq,(Hs hl q hq).2⟩⟩
  ·rename_i hr;cases v with
   |nil=>cases hh
   |cons x v=>
    simp only at hh;split at hh
    ·split at hh
     ·rename_i hc;cases hh;refine⟨by simp,?_,by simp,fun q hq=>by simp at hq⟩;intro i k y hk hy;match i,hk,hy with
      |0,hk,hy=>
       simp at hk hy;subst hk hy;exact⟨fun _=>hc.2,fun h=>by cases h⟩
      |i+1,hk,_=>simp at hk
     ·cases hh
    ·rename_i hs;split at hh
     ·rename_i hc;cases hh;refine⟨by simp,?_,?_,?_⟩
      ·intro i k y hk hy;match i,hk,hy with
       |0,hk,hy=>
        simp at hk hy;subst hk hy;exact⟨fun h=>(by cases h),fun _=>by omega⟩
       |i+1,hk,_=>simp at hk
      ·split
       ·simp
       ·split
        ·rename_i hq;have:BO (nx s) f p<=9:=by
          rcases FX h with (h|h|h|h)|⟨h,_,hd1,hd2⟩|⟨h,_,hd1,hd2,hok⟩|⟨h,_,hd1,hd2,hok⟩|hl
          ·omega
          ·omega
          ·omega
          ·omega
          ·omega
          ·omega
          ·simp[BO,h];omega
          ·have:=hl.here;omega
         simp;omega
        ·simp
      ·split
       ·rename_i hu;have hl:Okl s f p:=⟨Or.inr hu,h⟩;intro q hq;simp at hq;subst hq;have hx0:0<=x.1:=by
         have:CG (nx s p)=0:=by simp[CG,hu]
         omega
        have hx1:x.1<=((Pt.kids (nx s) f p).length:Int)-1:=by
         have:BO (nx s) f p=((Pt.kids (nx s) f p).length:Int)-1:=by simp[BO,hu]
         omega
        have hlt:x.1.toNat<(Pt.kids (nx s) f p).length:=by omega
        have hm:partOf (Pt.kids (nx s) f p) x.1∈Pt.kids (nx s) f p:=by
         unfold partOf;rw[if_pos hx0,List.getElem?_eq_getElem hlt];exact List.getElem_mem hlt
        exact⟨hm,(Hs hl _ hm).2⟩
       ·split
        ·rename_i hq;intro q hqm;obtain⟨_,rfl⟩:=List.mem_replicate.1 hqm;rcases FX h with (h|h|h|h)|⟨h,_,hd1,hd2⟩|⟨h,_,hd1,hd2,hok⟩|⟨h,_,hd1,hd2,hok⟩|hl
         ·omega
         ·omega
         ·omega
         ·omega
         ·omega
         ·omega
         ·exact⟨by simp[Pt.kids,h],hok⟩
         ·have:=hl.here;omega
        ·intro q hq;simp at hq
     ·cases hh
theorem Un(s:ByteArray):∀f p,Mi s f p->QL (Ct (nx s) f p) (10 ^ Pt.Eh (nx s) f p):=by
 intro f;induction f with
 |zero=>intro p _ v ks r h;cases h
 |succ f ih=>
  intro p ho v ks r h;obtain⟨T,hT⟩:∃T,T=Pt.top ((Pt.kids (nx s) f p).map (Pt.Eh (nx s) f)):=⟨_,rfl⟩;have hM:10 ^ Pt.Eh (nx s) (f+1) p=10*10 ^ T:=by rw[Pt.Eh,<-hT,Nat.pow_succ,Nat.mul_comm]
  have hpos:1<=10 ^ T:=Nat.one_le_pow _ _ (by decide);rw[hM];cases hh:AF (nx s) f p v with
  |none=>rw[FN hh]at h;cases h
  |some a=>
   obtain⟨k0,qs,r0⟩:=a;rw[Ec hh]at h;obtain⟨h1,h2⟩:=Jo hh;obtain⟨g1,g2,g3,g4⟩:=Rr ho hh;cases hs:BG (Ct (nx s) f) qs r0 with
   |none=>rw[hs]at h;cases h
   |some e'=>
    obtain⟨k',r2⟩:=e';rw[hs]at h;simp only[BS,Option.some.injEq,Prod.mk.injEq]at h;obtain⟨rfl,rfl⟩:=h;obtain⟨s1,s2⟩:=Vb (M:=10 ^ T) qs (fun q _=>FM _ f q) (fun q hq v ks r he=>by
     obtain⟨hm,hok⟩:=g4 q hq;obtain⟨t1,t2⟩:=ih q hok v ks r he;refine⟨Nat.le_trans t1 (Nat.pow_le_pow_right (by decide) ?_),t2⟩;rw[hT];exact le_top (List.mem_map.2 ⟨q,hm,rfl⟩)) r0 k' r2 hs
    refine⟨?_,Ll h1 g2 s2⟩;generalize 10 ^ T=M at *;rw[List.length_append];have e1:(k0.length+qs.length)*M<=10*M:=Nat.mul_le_mul_right M g3;rw[Nat.add_mul]at e1;have e2:k0.length<=k0.length*M:=Nat.le_mul_of_pos_right _ hpos;omega
end Go.Proofs.YtblomippkddgiaaGreatDoor.V
