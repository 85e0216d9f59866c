import Derived.Test.YtblomippkddgiabGreatDoorJ05
set_option maxRecDepth 100000
namespace Go.Proofs.YtblomippkddgiabGreatDoor.V
open Go.RowKit
variable {s:ByteArray}{k0:List Bool}{r v:List It}{M c c2 f p:Nat}{O:Nat→Prop}{w w1:World}
variable {σ:Type}
theorem LZ{C:B6 σ}{r:Option (Int×σ)}{E:Option σ}(hE:E=r.bind fun r=>some r.2)(h1:Kept O O w w1)(hM:1<=M):
  ∀e w',LM C.er (C.No (r=none)) (fun w'=>∃i x',r=some (i,x')/\C.Lv O (c+1) x' w1 w') e w'->FH C E O (c+M) w e w':=by
 rintro e w' (⟨rfl,hr,hb⟩|⟨rfl,i,x',hr,c',O',hc',hst,hk⟩)
 ·exact afJ ⟨rfl,by rw[hE,hr];rfl,hb⟩
 ·exact afM ⟨rfl,x',by rw[hE,hr];rfl,c',O',by omega,hst,h1.trans hk⟩
theorem RE{C:B6 σ}{E:Option σ}(h1:Kept O O w w1)(hc:c<=c2):
  ∀e w',FH C E O c w1 e w'->FH C E O c2 w e w':=by
 rintro e w' (h|⟨rfl,x',hr,c',O',hc',hst,hk⟩)
 ·exact afJ h
 ·exact afM ⟨rfl,x',hr,c',O',by omega,hst,h1.trans hk⟩
theorem OG{C:B6 σ}{E E':Option σ}{O1:Nat->Prop}(h1:Kept O O1 w w1)(hE:E'=E)(hc:c<=c2):
  ∀e w',FH C E O1 c w1 e w'->FH C E' O c2 w e w':=by
 subst hE;rintro e w' (h|⟨rfl,x',hr,c',O',hc',hst,hk⟩)
 ·exact afJ h
 ·exact afM ⟨rfl,x',hr,c',O',by omega,hst,h1.trans hk⟩
theorem Sz{C:B6 σ}(hC:JE C)(ih:Km C s f):Km C s (f+1):=by
 intro p S c0 c1 c2 hR hO;obtain⟨rfl,rfl,va,vc,rfl,ad⟩:=Wx hR;obtain⟨T,hT⟩:∃T,T=Pt.top ((Pt.kids (nx s) f p).map (Pt.EC (nx s) f)):=⟨_,rfl⟩;have hM:10 ^ Pt.EC (nx s) (f+1) p=10*10 ^ T:=by rw[Pt.EC,<-hT,Nat.pow_succ,agF]
 have av:1<=10 ^ T:=Nat.one_le_pow _ _ (by decide);have KK:∀j q,(Pt.kids (nx s) f p)[j]?=some q->NM s f q->∃gb y0 y1 ya yn yk,va=some ⟨gb,0,none⟩ /\
   (∀w,Below C.w0.heap.size C.w0 w->w.cell? ⟨gb,j*3,none⟩=some (.int .u8 y0)/\w.cell? ⟨gb,j*3+1,none⟩=some (.int .i64 y1)/\w.cell? ⟨gb,j*3+2,none⟩=some (.slice ya yn yk))/\Vm C (.agg #[.int .u8 y0,.int .i64 y1,.slice ya yn yk]) (Aw C.num C.txt (nx s) f q) (10 ^ T):=by
  intro j q hq ho;obtain⟨gb,y0,y1,ya,yn,yk,ag,aa,hr⟩:=ad j q hq;refine⟨gb,y0,y1,ya,yn,yk,ag,aa,(ih q S _ _ _ hr ho).mono ?_⟩;refine ag7 (by decide) ?_;rw[hT];exact le_top (agE.2 ⟨q,afU hq,rfl⟩)
 rw[hM];clear hM ad hR ih;generalize 10 ^ T=M at *;clear hT T;intro w c x O hs hc;have al:=hC.below hs;have ab:∀o,Below w.heap.size w (w.alloc o):=fun o=>(Below.refl w.heap.size w).alloc (afI _) o
 have am:¬O w.heap.size:=fun h=>by have:=(hC.fresh hs _ h).2;omega
 rcases Gu hO with (h|h|h|h)|⟨h,_,hd1,hd2⟩|⟨h,_,hd1,hd2,hok⟩|⟨h,_,hd1,hd2,hok⟩|hl
 ·have e:((nx s p:Nat):Int)=98:=by rw[h];rfl
  rw[e];refine(acX C.tid C.NT C.er C.ptr hC.QX w _ _ _ _ _ _ (hC.number 0 1 (hC.go hs (ab _)) (by omega) (afJ ⟨rfl,by decide⟩))).mono (LZ ?_ (Kept.of_below (ab _)) (by omega));simp[Aw,h,CG,Ci]
 ·have e:((nx s p:Nat):Int)=99:=by rw[h];rfl
  rw[e];refine(acY C.tid C.NT C.er C.ptr hC.QX w _ _ _ _ _ _ (hC.number 0 65535 (hC.go hs (ab _)) (by omega) (afJ ⟨rfl,by decide⟩))).mono (LZ ?_ (Kept.of_below (ab _)) (by omega));simp[Aw,h,CG,Ci]
 ·have e:((nx s p:Nat):Int)=105:=by rw[h];rfl
  rw[e];refine(ac0 C.tid C.NT C.er C.ptr hC.QX w _ _ _ _ _ _ (hC.number (-32768) 32767 (hC.go hs (ab _)) (by omega) (afM ⟨rfl,rfl⟩))).mono (LZ ?_ (Kept.of_below (ab _)) (by omega));simp[Aw,h,CG,Ci]
 ·have e:((nx s p:Nat):Int)=115:=by rw[h];rfl
  rw[e];have hE:Aw C.num C.txt (nx s) (f+1) p x=C.txt x:=by simp[Aw,h]
  refine(ac3 C.tid C.Ye C.er C.ptr hC.acw w _ _ _ _ _ _ (hC.text (hC.go hs (ab _)) (by omega))).mono ?_;rw[hE];exact RE (Kept.of_below (ab _)) (by omega)
 ·have e:((nx s p:Nat):Int)=101:=by rw[h];rfl
  have ah:Bi (nx s) p=(nx s (p+1):Int)-48:=by simp[Bi,h]
  rw[e,ah];refine(acZ C.tid C.NT C.er C.ptr hC.QX w _ _ _ _ _ _ (by omega) (hC.number 0 _ (hC.go hs (ab _)) (by omega) (afJ ⟨rfl,by omega⟩))).mono (LZ ?_ (Kept.of_below (ab _)) (by omega));simp[Aw,h,CG,Ci]
 ·have e:((nx s p:Nat):Int)=97:=by rw[h];rfl
  obtain⟨n,hn⟩:∃n,n=nx s (p+1)-48:=⟨_,rfl⟩;have ah:Bi (nx s) p=(n:Int):=by simp[Bi,h];omega
  have hk:Pt.kids (nx s) f p=[p+2]:=by simp[Pt.kids,h]
  obtain⟨gb,y0,y1,ya,yn,yk,rfl,aa,ac⟩:=KK 0 (p+2) (by rw[hk];rfl) hok;have hE:Aw C.num C.txt (nx s) (f+1) p x=C5 (Aw C.num C.txt (nx s) f) (List.replicate n (p+2)) x:=by simp[Aw,h,hn]
  rw[e,ah,hE];have ak:∀o,Below w.heap.size w (w.alloc o).drew:=fun o=>(ab o).drew
  have hf:=fun o=>aa (w.alloc o) (al.trans ((ab o).mono al.size))
  have ar:n*M<=9*M:=agB M (by omega);refine(acW C.tid C.er C.ptr w n gb _ _ y0 y1 ya yn yk _ _ (by rw[hk];simp) (fun o=>(hf o).1) (fun o=>(hf o).2.1) (fun o=>(hf o).2.2) (NE hC ac n (by omega) (hC.go hs (ak _)) (by omega))).mono ?_;exact RE (Kept.of_below (ak _)) (by omega)
 ·have e:((nx s p:Nat):Int)=113:=by rw[h];rfl
  obtain⟨m,hm⟩:∃m,m=nx s (p+1)-48:=⟨_,rfl⟩;have ah:Bi (nx s) p=(m:Int):=by simp[Bi,h];omega
  have hk:Pt.kids (nx s) f p=[p+2]:=by simp[Pt.kids,h]
  obtain⟨gb,y0,y1,ya,yn,yk,rfl,aa,ac⟩:=KK 0 (p+2) (by rw[hk];rfl) hok;have hE:Aw C.num C.txt (nx s) (f+1) p x=(C.num 0 m x).bind fun r=>C5 (Aw C.num C.txt (nx s) f) (List.replicate r.1.toNat (p+2)) r.2:=by
   have:((nx s (p+1):Nat):Int)-48=(m:Int):=by omega
   simp[Aw,h,CG,Ci,this]
  rw[e,ah];obtain⟨t0,t1,t2,_⟩:=(FE.new w (.int .u8 113) (.int .i64 m) (.slice (some ⟨gb,0,none⟩) (Pt.kids (nx s) f p).length vc)).facts;refine ac1 C.tid C.NT C.er C.ptr hC.QX w m gb _ _ y0 y1 ya yn yk (C.No (Aw C.num C.txt (nx s) (f+1) p x=none)) _ (fun i w'=>∃x',C.num 0 m x=some (i,x')/\C.Lv O (c+1) x' (w.alloc (Bf 113 m (some ⟨gb,0,none⟩) (Pt.kids (nx s) f p).length vc)) w') (by rw[hk];simp) ((hC.number 0 m (hC.go hs (ab _)) (by omega) (afJ ⟨rfl,by omega⟩)).mono ?_) ?_
  ·rintro e w' (⟨rfl,hr,hb⟩|h)
   ·exact afJ ⟨rfl,by rw[hE,hr];rfl,hb⟩
   ·exact afM h
  ·rintro i w' ⟨x',hx,c',O',ao,af,ae⟩;obtain⟨ap,aq⟩:=hC.range hx;obtain⟨n,rfl⟩:∃n:Nat,i=n:=⟨i.toNat,by omega⟩;have ai:w.heap.size<(w.alloc (Bf 113 m (some ⟨gb,0,none⟩) (Pt.kids (nx s) f p).length vc)).heap.size:=by simp
   obtain⟨f0,f1,f2⟩:=aa w' (hC.below af);have ar:n*M<=9*M:=agB M (by omega);refine⟨(ae.cell ai am).trans t2,f0,f1,f2,(NE hC ac n (by omega) af (by omega)).mono ?_⟩;refine OG ((Kept.of_below (ab _)).trans ae) ?_ (by omega);rw[hE,hx];simp
 ·rcases hl.here with h|h
  ·have e:((nx s p:Nat):Int)=114:=by rw[h];rfl
   have hE:Aw C.num C.txt (nx s) (f+1) p x=C5 (Aw C.num C.txt (nx s) f) (Pt.kids (nx s) f p) x:=by simp[Aw,h]
   have h6:=Im (nx s) f p;rw[e,hE];refine(ac2 C.tid C.er C.ptr w _ va _ vc (C.No (C5 (Aw C.num C.txt (nx s) f) (Pt.kids (nx s) f p) x=none)) (abY C (Aw C.num C.txt (nx s) f) (Pt.kids (nx s) f p) x c M O (w.alloc (Bf 114 (Bi (nx s) p) va (Pt.kids (nx s) f p).length vc))) h6 ⟨x,c,O,rfl,by omega,hC.go hs (ab _),Kept.refl _ _⟩ ?_).mono ?_
   ·rintro j w' hj ⟨xj,c',O',hF⟩;obtain⟨q,hq⟩:∃q,(Pt.kids (nx s) f p)[j]?=some q:=⟨_,afH hj⟩;obtain⟨gb,y0,y1,ya,yn,yk,ag,aa,ac⟩:=KK j q hq (Iu hl q (afU hq)).2;obtain⟨f0,f1,f2⟩:=aa w' (hC.below hF.st);have aj:∀o,Below w'.heap.size w' (w'.alloc o):=fun o=>(Below.refl w'.heap.size w').alloc (afI _) o
    refine⟨gb,y0,y1,ya,yn,yk,ag,f0,f1,f2,(ac _ c' xj O' (hC.go hF.st (aj _)) ?_).mono (QH hF hq (Kept.of_below (aj _)))⟩;have e1:(j+1)*M<=6*M:=agB M (by omega);rw[Nat.add_mul,Nat.one_mul]at e1;have:=hF.le;omega
   ·rintro e w' (h|⟨rfl,x',c',O',hF⟩)
    ·exact afJ h
    ·have hq:=hF.seq;rw[af6 (afI _)]at hq;refine afM ⟨rfl,x',hq,c',O',?_,hF.st,(Kept.of_below (ab _)).trans hF.kept⟩;have e1:(Pt.kids (nx s) f p).length*M<=6*M:=agB M h6;have:=hF.le;omega
  ·have e:((nx s p:Nat):Int)=117:=by rw[h];rfl
   have h6:=Im (nx s) f p;have hE:Aw C.num C.txt (nx s) (f+1) p x=(C.num 0 (((Pt.kids (nx s) f p).length:Int)-1) x).bind fun r=>Aw C.num C.txt (nx s) f (partOf (Pt.kids (nx s) f p) r.1) r.2:=by simp[Aw,h,CG,Ci]
   have au:∃q,(Pt.kids (nx s) f p)[0]?=some q:=by simp[Pt.kids,h]
   obtain⟨q0,an⟩:=au;obtain⟨gb,_,_,_,_,_,rfl,_,_⟩:=KK 0 q0 an (Iu hl q0 (afU an)).2;rw[e];obtain⟨t0,t1,t2,_⟩:=(FE.new w (.int .u8 117) (.int .i64 (Bi (nx s) p)) (.slice (some ⟨gb,0,none⟩) (Pt.kids (nx s) f p).length vc)).facts;refine ac4 C.tid C.NT C.er C.ptr hC.QX w _ gb _ vc (C.No (Aw C.num C.txt (nx s) (f+1) p x=none)) _ (fun j w'=>j<(Pt.kids (nx s) f p).length/\∃x',C.num 0 (((Pt.kids (nx s) f p).length:Int)-1) x=some ((j:Int),x')/\C.Lv O (c+1) x' (w.alloc (Bf 117 (Bi (nx s) p) (some ⟨gb,0,none⟩) (Pt.kids (nx s) f p).length vc)) w') h6 ((hC.number 0 _ (hC.go hs (ab _)) (by omega) (afJ ⟨rfl,by omega⟩)).mono ?_) ?_
   ·rintro e w' (⟨rfl,hr,hb⟩|⟨i,rfl,x',hx,hlv⟩)
    ·exact afJ ⟨rfl,by rw[hE,hr];rfl,hb⟩
    ·obtain⟨ap,aq⟩:=hC.range hx;obtain⟨n,rfl⟩:∃n:Nat,i=n:=⟨i.toNat,by omega⟩;exact afM ⟨_,rfl,n,rfl,by omega,by omega,x',hx,hlv⟩
   ·rintro j w' ⟨hj,x',hx,c',O',ao,af,ae⟩;obtain⟨q,hq⟩:∃q,(Pt.kids (nx s) f p)[j]?=some q:=⟨_,afH hj⟩;obtain⟨aw,y0,y1,ya,yn,yk,ag,aa,ac⟩:=KK j q hq (Iu hl q (afU hq)).2;cases ag;obtain⟨f0,f1,f2⟩:=aa w' (hC.below af);have ai:w.heap.size<(w.alloc (Bf 117 (Bi (nx s) p) (some ⟨gb,0,none⟩) (Pt.kids (nx s) f p).length vc)).heap.size:=by simp
    refine⟨y0,y1,ya,yn,yk,(ae.cell ai am).trans t2,f0,f1,f2,(ac w' c' x' O' af (by omega)).mono ?_⟩;refine OG ((Kept.of_below (ab _)).trans ae) ?_ (by omega);rw[hE,hx];simp[partOf,hq]
theorem Od{C:B6 σ}(hC:JE C)(s:ByteArray):∀f,Km C s f:=by
 intro f;induction f with
 |zero=>intro p S c0 c1 c2 h;exact h.elim
 |succ f ih=>exact Sz hC ih
abbrev WSt:=List It×List UInt8
def I6(lo hi:Int)(x:WSt):Option (Int×WSt):=match x.1 with
 |[]=>none
 |i :: r=>if i.2.size=0/\lo<=i.1/\i.1<=hi then some (i.1,(r,x.2++A5 i.1)) else none
def KQ(x:WSt):Option WSt:=match x.1 with
 |[]=>none
 |i :: r=>if i.1=0/\i.2.size<=14 then some (r,x.2++EE true i) else none
def Jz(w0:World)(Ov:Value):Nat->Prop:=fun k=>k=w0.heap.size\/Ov.ownBlock=some k
def writer(w0:World):B6 WSt where
 tid:=302
 NT:=281
 Ye:=282
 er:=4
 ptr:=⟨w0.heap.size,0,none⟩
 w0:=w0
 St:=fun w c x O=>∃L Ov,WS w0 w L x.1 Ov x.2/\O=Jz w0 Ov/\x.1.length<=9000000000000/\x.2.length<=17*c
 num:=I6
 txt:=KQ
theorem Wk.kept{w0 w':World}{O O':Value}(h:Wk w0.heap.size O O' w w'):Kept (Jz w0 O) (Jz w0 O') w w':=by
 refine⟨h.size,fun k hk hn=>h.block k hk (fun e=>hn (afJ e)) (fun e=>hn (afM e)),fun k hk=>?_⟩;rcases hk with hk|hk
 ·exact afJ (afJ hk)
 ·rcases h.row with h1|⟨g,h1,h2⟩
  ·exact afJ (afM (h1 ▸ hk))
  ·rw[hk]at h1;cases h1;exact afM h2
theorem Po(x:It)(h:x.2.size<=14):(EE true x).length<=17:=aaF true x (fun _=>h)
theorem NK(w0:World):JE (writer w0) where
 below:=by
  rintro w c x O ⟨L,Ov,h,_⟩;exact h.below
 fresh:=by
  rintro w c x O ⟨L,Ov,h,rfl,_⟩ k (rfl|hk)
  ·exact⟨afI _,h.wr.lt⟩
  ·have:=h.row hk;exact⟨by simp only[writer];omega,this.2⟩
 go:=by
  rintro w c x O w' ⟨L,Ov,h,r⟩ hb;exact⟨L,Ov,h.go hb,r⟩
 range:=by
  rintro lo hi ⟨v,out⟩ n x' h;simp only[writer,I6]at h;cases v with
  |nil=>cases h
  |cons i r=>
   simp only at h;split at h
   ·rename_i hc;cases h;exact⟨hc.2.1,hc.2.2⟩
   ·cases h
 QX:=⟨fun _=>by kernel_rfl,fun _ _=>rfl⟩
 acw:=⟨fun _=>by kernel_rfl,fun _ _=>rfl⟩
 number:=by
  rintro w c ⟨v,out⟩ O lo hi ⟨L,Ov,h,rfl,hn,ho⟩ hc _;simp only at h hn ho;cases v with
  |nil=>
   refine(Rb w0 w L Ov out lo hi h).mono ?_;rintro e w' ⟨rfl,hb⟩;exact afJ ⟨rfl,rfl,hb⟩
  |cons x v=>
   simp only[af1]at hn;by_cases aa:x.2.size=0/\lo<=x.1/\x.1<=hi
   ·refine(Wl w0 w L Ov x v out lo hi h (by omega) (toList_nil.2 aa.1) (by omega) (by omega) (by omega)).mono ?_;rintro e w' ⟨rfl,L',O',ad,ac⟩;refine afM ⟨x.1,rfl,(v,out++A5 x.1),by simp[writer,I6,aa],c+1,Jz w0 O',afI _,⟨L',O',ad,rfl,by simp only;omega,?_⟩,ac.kept⟩;simp only[afS,A5,af1,List.length_nil];omega
   ·have ab:(writer w0).num lo hi (x :: v,out)=none:=by simp only[writer,I6];rw[if_neg aa]
    have fin:∀e w',e=Az 4 0/\Below w0.heap.size w0 w'->OrN (writer w0).er ((writer w0).No ((writer w0).num lo hi (x :: v,out)=none)) (fun i w'=>∃x',(writer w0).num lo hi (x :: v,out)=some (i,x')/\(writer w0).Lv (Jz w0 Ov) (c+1) x' w w') e w':=by
     rintro e w' ⟨rfl,hb⟩;exact afJ ⟨rfl,ab,hb⟩
    by_cases hS:x.2.toList=[]
    ·have:=toList_nil.1 hS;by_cases hl:x.1<lo
     ·exact(Q9 w0 w L Ov x v out lo hi h (by omega) hS hl).mono fin
     ·exact(Ra w0 w L Ov x v out lo hi h (by omega) hS hl (by omega)).mono fin
    ·exact(Q8 w0 w L Ov x v out lo hi h (by omega) hS).mono fin
 text:=by
  rintro w c ⟨v,out⟩ O ⟨L,Ov,h,rfl,hn,ho⟩ hc;simp only at h hn ho;cases v with
  |nil=>
   refine(Xg w0 w L Ov out h).mono ?_;rintro e w' ⟨rfl,hb⟩;exact afJ ⟨rfl,rfl,hb⟩
  |cons x v=>
   simp only[af1]at hn;by_cases aa:x.1=0/\x.2.size<=14
   ·refine(aby w0 w L Ov x v out h (by omega) aa.1 aa.2 (by omega)).mono ?_;rintro e w' ⟨rfl,L',O',ad,ac⟩;refine afM ⟨rfl,(v,out++EE true x),by simp[writer,KQ,aa],c+1,Jz w0 O',afI _,⟨L',O',ad,rfl,by simp only;omega,?_⟩,ac.kept⟩;have:=Po x aa.2;simp only[afS];omega
   ·have ab:(writer w0).txt (x :: v,out)=none:=by simp only[writer,KQ];rw[if_neg aa]
    have fin:∀e w',e=Az 4 0/\Below w0.heap.size w0 w'->LM (writer w0).er ((writer w0).No ((writer w0).txt (x :: v,out)=none)) (fun w'=>∃x',(writer w0).txt (x :: v,out)=some x'/\(writer w0).Lv (Jz w0 Ov) (c+1) x' w w') e w':=by
     rintro e w' ⟨rfl,hb⟩;exact afJ ⟨rfl,ab,hb⟩
    by_cases hN:x.1=0
    ·exact(Xf w0 w L Ov x v out h (by omega) (by simp[hN]) (by omega)).mono fin
    ·exact(Xe w0 w L Ov x v out h (by omega) (by simpa using hN)).mono fin
theorem Ia:∀(k1 k2:List Bool) (v:List It),k1.length<=v.length->bytesOf (k1++k2) v=bytesOf k1 v++bytesOf k2 (v.drop k1.length):=by
 intro k1;induction k1 with
 |nil=>intro k2 v _;simp[bytesOf]
 |cons a k1 ih=>
  intro k2 v h;cases v with
  |nil=>simp at h
  |cons x v=>
   simp only[agz,bytesOf,af1,List.drop_succ_cons];rw[ih k2 v (by simpa using h),agk]
def N5(v:List It)(out:List UInt8)(e:DZ):Option WSt:=e.map fun a=>(a.2,out++bytesOf a.1 v)
theorem OT{out:List UInt8}(hr:r=v.drop k0.length)(hk:k0.length<=v.length)(e:DZ):N5 v out (Ck k0 e)=N5 r (out++bytesOf k0 v) e:=by
 cases e with
 |none=>rfl
 |some a=>
  simp only[Ck,N5,af9,Option.some.injEq,Prod.mk.injEq,true_and];rw[Ia _ _ _ hk,<-hr,agk]
theorem ZF{E:Nat->List It->DZ}{F:Nat->WSt->Option WSt}:∀(qs:List Nat),(∀q∈qs,N7 (E q))->(∀q∈qs,∀v out,F q (v,out)=N5 v out (E q v))->∀v out,C5 F qs (v,out)=N5 v out (BU E qs v):=by
 intro qs;induction qs with
 |nil=>intro _ _ v out;simp[C5,BU,N5,bytesOf]
 |cons q qs ih=>
  intro hH hF v out;simp only[C5,BU];rw[hF q (by simp) v out];cases hE:E q v with
  |none=>rfl
  |some a=>
   obtain⟨k,r⟩:=a;obtain⟨h1,h2⟩:=hH q (by simp) v k r hE;simp only;rw[OT h1 h2];exact ih (fun q hq=>hH q (by simp[hq])) (fun q hq=>hF q (by simp[hq])) r _
theorem Vz(g:Nat->Nat):∀f p v out,Aw I6 KQ g f p (v,out)=N5 v out (CF g f p v):=by
 intro f;induction f with
 |zero=>intro p v out;rfl
 |succ f ih=>
  intro p v out;have sq:=fun qs=>ZF (E:=CF g f) (F:=Aw I6 KQ g f) qs (fun q _=>Gp g f q) (fun q _=>ih q)
  by_cases ha:g p=97
  ·have hh:AO g f p v=some ([],List.replicate (g (p+1)-48) (p+2),v):=by simp[AO,ha]
   rw[Eu hh,II,<-sq];simp[Aw,ha]
  by_cases hr:g p=114
  ·have hh:AO g f p v=some ([],Pt.kids g f p,v):=by simp[AO,hr]
   rw[Eu hh,II,<-sq];simp[Aw,hr]
  cases v with
  |nil=>
   have hh:AO g f p []=none:=by simp[AO,ha,hr]
   rw[Gq hh];simp[Aw,ha,hr,KQ,I6,N5]
  |cons x v=>
   by_cases hs:g p=115
   ·by_cases hc:x.1=0/\x.2.size<=14
    ·have hh:AO g f p (x :: v)=some ([true],[],v):=by simp[AO,hs,hc]
     rw[Eu hh];simp[Aw,hs,KQ,hc,BU,Ck,N5,bytesOf]
    ·have hh:AO g f p (x :: v)=none:=by simp[AO,hs,hc]
     rw[Gq hh];simp[Aw,hs,KQ,hc,N5]
   ·by_cases hc:x.2.size=0/\CG (g p)<=x.1/\x.1<=Ci g f p
    ·have hn:I6 (CG (g p)) (Ci g f p) (x :: v,out)=some (x.1,(v,out++A5 x.1)):=by simp[I6,hc]
     have hb:out++A5 x.1=out++bytesOf [false] (x :: v):=by simp[bytesOf,EE]
     have aa:Aw I6 KQ g (f+1) p (x :: v,out)=if g p=117 then Aw I6 KQ g f (partOf (Pt.kids g f p) x.1) (v,out++A5 x.1) else if g p=113 then C5 (Aw I6 KQ g f) (List.replicate x.1.toNat (p+2)) (v,out++A5 x.1) else some (v,out++A5 x.1):=by
      simp only[Aw,if_neg hs,if_neg ha,if_neg hr,hn];rfl
     have hh:AO g f p (x :: v)=some ([false],(if g p=117 then [partOf (Pt.kids g f p) x.1] else if g p=113 then List.replicate x.1.toNat (p+2) else []),v):=by simp[AO,ha,hr,hs,hc]
     rw[Eu hh,OT (k0:=[false]) (v:=x :: v) (r:=v) rfl (by simp),<-hb,aa];by_cases hu:g p=117
     ·rw[if_pos hu,if_pos hu,<-sq];simp only[C5];cases Aw I6 KQ g f (partOf (Pt.kids g f p) x.1) (v,out++A5 x.1)<;>rfl
     ·rw[if_neg hu,if_neg hu];by_cases hq:g p=113
      ·rw[if_pos hq,if_pos hq,<-sq]
      ·rw[if_neg hq,if_neg hq,<-sq];rfl
    ·have hn:I6 (CG (g p)) (Ci g f p) (x :: v,out)=none:=by simp only[I6];rw[if_neg hc]
     have hh:AO g f p (x :: v)=none:=by simp only[AO,if_neg ha,if_neg hr,if_neg hs,if_neg hc]
     rw[Gq hh];simp only[Aw,if_neg hs,if_neg ha,if_neg hr,hn];rfl
def DU(ks:List Bool)(v:List It):Prop:=∀(i:Nat) (k:Bool) (x:It),ks[i]?=some k->v[i]?=some x->(k=true->x.2.size<=14)/\(k=false->-32768<=x.1/\x.1<=65535)
theorem M0{k1 k2:List Bool}(hr:r=v.drop k1.length)(h1:DU k1 v)(h2:DU k2 r):DU (k1++k2) v:=by
 intro i k x hk hx;by_cases hi:i<k1.length
 ·rw[af4 hi]at hk;exact h1 i k x hk hx
 ·rw[agh (by omega)]at hk;refine h2 (i-k1.length) k x hk ?_;rw[hr,agP,show k1.length+(i-k1.length)=i by omega];exact hx
def Sf(E:List It->DZ)(M:Nat):Prop:=∀v ks r,E v=some (ks,r)->ks.length<=M/\DU ks v
theorem WR{E:Nat->List It->DZ}:∀qs:List Nat,(∀q∈qs,N7 (E q))->(∀q∈qs,Sf (E q) M)->Sf (BU E qs) (qs.length*M):=by
 intro qs;induction qs with
 |nil=>intro _ _ v ks r h;simp[BU]at h;obtain⟨rfl,rfl⟩:=h;exact⟨by simp,fun i k x hk=>by simp at hk⟩
 |cons a qs ih=>
  intro hH hS v ks r h;simp only[BU]at h;cases ha:E a v with
  |none=>rw[ha]at h;cases h
  |some e=>
   obtain⟨k,r1⟩:=e;rw[ha]at h;simp only at h;obtain⟨h1,h2⟩:=hH a (by simp) v k r1 ha;obtain⟨s1,s2⟩:=hS a (by simp) v k r1 ha;cases hs:BU E qs r1 with
   |none=>rw[hs]at h;cases h
   |some e'=>
    obtain⟨k',r2⟩:=e';rw[hs]at h;simp only[Ck,Option.some.injEq,Prod.mk.injEq]at h;obtain⟨rfl,rfl⟩:=h;obtain⟨s3,s4⟩:=ih (fun q hq=>hH q (by simp[hq])) (fun q hq=>hS q (by simp[hq])) r1 k' r2 hs;refine⟨?_,M0 h1 s2 s4⟩;simp only[afS,af1];rw[Nat.add_mul,Nat.one_mul];omega
theorem adP(h:NM s (f+1) p):Ci (nx s) f p<=65535:=by
 have h6:=Im (nx s) f p;rcases Gu h with (h|h|h|h)|⟨h,_,hd1,hd2⟩|⟨h,_,hd1,hd2,hok⟩|⟨h,_,hd1,hd2,hok⟩|hl
 ·simp[Ci,h]
 ·simp[Ci,h]
 ·simp[Ci,h]
 ·simp[Ci,h];omega
 ·simp[Ci,h];omega
 ·simp[Ci,h];omega
 ·simp[Ci,h];omega
 ·rcases hl.here with h|h
  ·simp[Ci,h];omega
  ·simp[Ci,h];omega
theorem adV(c:Nat):-32768<=CG c/\CG c<=0:=by
 unfold CG;split
 ·exact⟨by decide,by decide⟩
 ·exact⟨by decide,by decide⟩
theorem Tt(h:NM s (f+1) p){qs:List Nat}(hh:AO (nx s) f p v=some (k0,qs,r)):
  k0.length<=1/\DU k0 v/\k0.length+qs.length<=10/\∀q∈qs,q∈Pt.kids (nx s) f p/\NM s f q:=by
 have ae:=adP h;have af:=adV (nx s p);have h6:=Im (nx s) f p;have aa:DU [] v:=fun i k x hk=>by simp at hk
 unfold AO at hh;split at hh
 ·rename_i ha;cases hh;rcases Gu h with (h|h|h|h)|⟨h,_,hd1,hd2⟩|⟨h,_,hd1,hd2,hok⟩|⟨h,_,hd1,hd2,hok⟩|hl
  ·omega
  ·omega
  ·omega
  ·omega
  ·omega
  ·refine⟨by simp,aa,by simp;omega,fun q hq=>?_⟩;obtain⟨_,rfl⟩:=List.mem_replicate.1 hq;exact⟨by simp[Pt.kids,h],hok⟩
  ·omega
  ·have:=hl.here;omega
 ·rename_i ha;split at hh
  ·rename_i hr;cases hh;have hl:Okl s f p:=⟨afJ hr,h⟩;exact⟨by simp,aa,by simp;omega,fun q hq=>⟨hq,(Iu hl q hq).2⟩⟩
  ·rename_i hr;cases v with
   |nil=>cases hh
   |cons x v=>
    simp only at hh;split at hh
    ·split at hh
     ·rename_i hc;cases hh;refine⟨by simp,?_,by simp,fun q hq=>by simp at hq⟩;intro i k y hk hy;match i,hk,hy with
      |0,hk,hy=>
       simp at hk hy;subst hk hy;exact⟨fun _=>hc.2,fun h=>by cases h⟩
      |i+1,hk,_=>simp at hk
     ·cases hh
    ·rename_i hs;split at hh
     ·rename_i hc;cases hh;refine⟨by simp,?_,?_,?_⟩
      ·intro i k y hk hy;match i,hk,hy with
       |0,hk,hy=>
        simp at hk hy;subst hk hy;exact⟨fun h=>(by cases h),fun _=>by omega⟩
       |i+1,hk,_=>simp at hk
      ·split
       ·simp
       ·split
        ·rename_i hq;have:Ci (nx s) f p<=9:=by
          rcases Gu h with (h|h|h|h)|⟨h,_,hd1,hd2⟩|⟨h,_,hd1,hd2,hok⟩|⟨h,_,hd1,hd2,hok⟩|hl
          ·omega
          ·omega
          ·omega
          ·omega
          ·omega
          ·omega
          ·simp[Ci,h];omega
          ·have:=hl.here;omega
         simp;omega
        ·simp
      ·split
       ·rename_i hu;have hl:Okl s f p:=⟨afM hu,h⟩;intro q hq;simp at hq;subst hq;have ad:0<=x.1:=by
         have:CG (nx s p)=0:=by simp[CG,hu]
         omega
        have ag:x.1<=((Pt.kids (nx s) f p).length:Int)-1:=by
         have:Ci (nx s) f p=((Pt.kids (nx s) f p).length:Int)-1:=by simp[Ci,hu]
         omega
        have ab:x.1.toNat<(Pt.kids (nx s) f p).length:=by omega
        have hm:partOf (Pt.kids (nx s) f p) x.1∈Pt.kids (nx s) f p:=by
         unfold partOf;rw[if_pos ad,afH ab];exact agr ab
        exact⟨hm,(Iu hl _ hm).2⟩
       ·split
        ·rename_i hq;intro q ac;obtain⟨_,rfl⟩:=List.mem_replicate.1 ac;rcases Gu h with (h|h|h|h)|⟨h,_,hd1,hd2⟩|⟨h,_,hd1,hd2,hok⟩|⟨h,_,hd1,hd2,hok⟩|hl
         ·omega
         ·omega
         ·omega
         ·omega
         ·omega
         ·omega
         ·exact⟨by simp[Pt.kids,h],hok⟩
         ·have:=hl.here;omega
        ·intro q hq;simp at hq
     ·cases hh
theorem VM(s:ByteArray):∀f p,NM s f p->Sf (CF (nx s) f p) (10 ^ Pt.EC (nx s) f p):=by
 intro f;induction f with
 |zero=>intro p _ v ks r h;cases h
 |succ f ih=>
  intro p ho v ks r h;obtain⟨T,hT⟩:∃T,T=Pt.top ((Pt.kids (nx s) f p).map (Pt.EC (nx s) f)):=⟨_,rfl⟩;have hM:10 ^ Pt.EC (nx s) (f+1) p=10*10 ^ T:=by rw[Pt.EC,<-hT,Nat.pow_succ,agF]
  have aa:1<=10 ^ T:=Nat.one_le_pow _ _ (by decide);rw[hM];cases hh:AO (nx s) f p v with
  |none=>rw[Gq hh]at h;cases h
  |some a=>
   obtain⟨k0,qs,r0⟩:=a;rw[Eu hh]at h;obtain⟨h1,h2⟩:=J0 hh;obtain⟨g1,g2,g3,g4⟩:=Tt ho hh;cases hs:BU (CF (nx s) f) qs r0 with
   |none=>rw[hs]at h;cases h
   |some e'=>
    obtain⟨k',r2⟩:=e';rw[hs]at h;simp only[Ck,Option.some.injEq,Prod.mk.injEq]at h;obtain⟨rfl,rfl⟩:=h;obtain⟨s1,s2⟩:=WR (M:=10 ^ T) qs (fun q _=>Gp _ f q) (fun q hq v ks r he=>by
     obtain⟨hm,ab⟩:=g4 q hq;obtain⟨t1,t2⟩:=ih q ab v ks r he;refine⟨agM t1 (ag7 (by decide) ?_),t2⟩;rw[hT];exact le_top (agE.2 ⟨q,hm,rfl⟩)) r0 k' r2 hs
    refine⟨?_,M0 h1 g2 s2⟩;generalize 10 ^ T=M at *;rw[afS];have e1:(k0.length+qs.length)*M<=10*M:=agB M g3;rw[Nat.add_mul]at e1;have e2:k0.length<=k0.length*M:=Nat.le_mul_of_pos_right _ aa;omega
end Go.Proofs.YtblomippkddgiabGreatDoor.V
