import Derived.Test.YtblomippkddgiaaGreatDoorK21
import Derived.StringKeys
set_option maxRecDepth 100000
set_option maxHeartbeats 2000000
namespace Go.Proofs.YtblomippkddgiaaGreatDoor
open Go.RowKit
theorem J5(k p:Int)(f t:ByteArray)(h:R.CO k p=some (f,t))(X:Value)(v:List V.It)(w:World)(ht:DU w)(hI:V.Items w X v)(hn:v.length<=9000000000000):Calls Tryz.prog 136 #[.int .i64 k,.int .i64 p,X] w (J4 t v w):=by
 obtain⟨_,_,htt,_,_⟩:=E9 h;have HS:=Ab (GI k p f t h w ht);have HW:Hid (∀w' c0 c1 c2 S,V.EN w' S (V.nx t) (t.size+1) 0 c0 c1 c2->Below w.heap.size w w'->Calls Tryz.prog 77 #[.agg #[c0,c1,c2],X] w' (J4 t v w')):=fun w' c0 c1 c2 S hR hb=>Md t htt S c0 c1 c2 X v w' hR (hI.below hb) hn
 unfold J4 at HW ⊢;generalize V.Cn t v=r at *;clear hI hn ht;go_enter Tryz.func136,Tryz.ntmps136;go_wp2_with fail
 refine(Aa HS).mono ?_;rintro e w1 ⟨⟨a0,a1,a2,b0,b1,b2,rfl,⟨S1,hR1⟩,⟨S2,hR2⟩⟩,hb1⟩;obtain⟨⟨x0,rfl⟩,⟨x1,rfl⟩,⟨ea,en,ec,rfl⟩⟩:=V.Bp hR1;obtain⟨⟨y0,rfl⟩,⟨y1,rfl⟩,⟨fa,fn,fc,rfl⟩⟩:=V.Bp hR2;have HB1:Hid (Below w.heap.size w ((w1.alloc (GN x0 x1 ea en ec)).alloc (GN y0 y1 fa fn fc))):=(hb1.alloc hb1.size _).alloc (by have:=hb1.size;simp;omega) _;have HBB:Hid (Below w1.heap.size w1 ((w1.alloc (GN x0 x1 ea en ec)).alloc (GN y0 y1 fa fn fc))):=((Below.refl _ _).alloc (Nat.le_refl _) _).alloc (by simp) _;have HR2:=Ab (F7 hR2 (Aa HBB));have HC:=Ab ((Aa HW) _ _ _ _ _ (Aa HR2) (Aa HB1));clear hR1 hR2 hb1 HS HBB;go_wp2_with fail
 refine(Aa HC).mono ?_;rintro e w3 ⟨⟨h0,rfl⟩|⟨h0,rfl⟩,hb3⟩
 ·have HB3:=Ab ((Aa HB1).trans (hb3.mono (Aa HB1).size));clear hb3;have H0:=Ab h0;clear h0;go_wp2;go_returns;exact⟨Or.inl ⟨Aa H0,rfl⟩,Aa HB3⟩
 ·have HB3:=Ab ((Aa HB1).trans (hb3.mono (Aa HB1).size));have H0:=Ab h0;clear h0 hb3;go_wp2;exact⟨rfl,Or.inr ⟨Aa H0,rfl⟩,Aa HB3⟩
theorem Qz(T:ByteArray)(hT:(V.Pt.G8 (V.nx T) T.size).1=0)(S:Nat->Prop)(c0 c1 c2:Value)(l:List UInt8)(v:List V.It)(hu:V.D3 T l=(0,v))(w:World)(hR:V.EN w S (V.nx T) (T.size+1) 0 c0 c1 c2):Calls Tryz.prog 197 #[.agg #[c0,c1,c2],.string (str l)] w fun e w'=>(∃O,e=.returned O/\V.Row w' w.heap.size O v)/\Below w.heap.size w w':=by
 have hG:=V.KD hT;refine(V.Vv T S c0 c1 c2 l w hR hG.ok hG.Eh).mono ?_;rintro e w' ⟨h1,h2⟩;have e1:V.J0 (V.Aw V.Dm V.C9 (V.nx T) (T.size+1) 0 (l,[])) l=V.D3 T l:=by unfold V.D3;rw[if_pos hT]
 rw[e1,hu]at h1;exact⟨h1,h2⟩
theorem Kv(k p:Int)(f t:ByteArray)(h:R.CO k p=some (f,t))(l:List UInt8)(v:List V.It)(hu:V.D3 t l=(0,v))(w:World)(ht:DU w):Calls Tryz.prog 203 #[.int .i64 k,.int .i64 p,.string (str l)] w fun e w'=>(∃O,e=.returned O/\V.Row w' w.heap.size O v)/\Below w.heap.size w w':=by
 obtain⟨_,_,htt,_,_⟩:=E9 h;have HS:=Ab (GI k p f t h w ht);have HW:Hid (∀w' c0 c1 c2 S,V.EN w' S (V.nx t) (t.size+1) 0 c0 c1 c2->Calls Tryz.prog 197 #[.agg #[c0,c1,c2],.string (str l)] w' fun e w''=>(∃O,e=.returned O/\V.Row w'' w'.heap.size O v)/\Below w'.heap.size w' w''):=fun w' c0 c1 c2 S hR=>Qz t htt S c0 c1 c2 l v hu w' hR
 generalize str l=SL at *;clear ht hu;go_enter Tryz.func203,Tryz.ntmps203;go_wp2_with fail
 refine(Aa HS).mono ?_;rintro e w1 ⟨⟨a0,a1,a2,b0,b1,b2,rfl,⟨S1,hR1⟩,⟨S2,hR2⟩⟩,hb1⟩;obtain⟨⟨x0,rfl⟩,⟨x1,rfl⟩,⟨ea,en,ec,rfl⟩⟩:=V.Bp hR1;obtain⟨⟨y0,rfl⟩,⟨y1,rfl⟩,⟨fa,fn,fc,rfl⟩⟩:=V.Bp hR2;have HB1:Hid (Below w.heap.size w ((w1.alloc (GN x0 x1 ea en ec)).alloc (GN y0 y1 fa fn fc))):=(hb1.alloc hb1.size _).alloc (by have:=hb1.size;simp;omega) _;have HBB:Hid (Below w1.heap.size w1 ((w1.alloc (GN x0 x1 ea en ec)).alloc (GN y0 y1 fa fn fc))):=((Below.refl _ _).alloc (Nat.le_refl _) _).alloc (by simp) _;have HR2:=Ab (F7 hR2 (Aa HBB));have HC:=Ab ((Aa HW) _ _ _ _ _ (Aa HR2));clear hR1 hR2 hb1 HS HBB;go_wp2_with fail
 refine(Aa HC).mono ?_;rintro e w3 ⟨⟨O,rfl,hrow⟩,hb3⟩;have HB3:=Ab ((Aa HB1).trans (hb3.mono (Aa HB1).size));obtain⟨oa,on,oc,hsh⟩:=Ar hrow;subst hsh;have HRW:=Ab (V.EF hrow (Aa HB1).size);clear hb3 hrow;go_wp2
 go_ret
 exact⟨⟨_,rfl,Aa HRW⟩,Aa HB3⟩
theorem abe(b:Nat)(l:List UInt8)(n:Nat)(w:World)(h1:w.cell? ⟨b,0,none⟩=some (.string (str l)))(h2:w.frozen? ⟨b,0,none⟩=false)(hn:n<=l.length)(hl:l.length<=1000):
  Calls Tryz.prog 190 #[ptr b,.int .i64 n] w fun e w'=>e=.returned (.string (str (l.take n)))/\w'=w.setCell ⟨b,0,none⟩ (.string (str (l.drop n))):=by
 have hsz:=Az l;have e1:(str l).extract 0 n=str (l.take n):=by rw[CJ];simp
 have e2:(str l).extract n (str l).size=str (l.drop n):=by
  rw[CJ,Az,List.take_of_length_le (by rw[List.length_drop];omega)]
 generalize hS:str l=S at *;generalize hA:str (l.take n)=A at *;generalize hB:str (l.drop n)=B at *;clear hS hA hB;generalize l.length=m at *;subst hsz;have hlt:¬((S.size:Int)<(n:Int)):=by omega
 go_enter Tryz.func190,Tryz.ntmps190;go_wp2
 go_ret
 exact⟨rfl,rfl⟩
theorem VX(b:Nat)(c:UInt8)(r:List UInt8)(w:World)(h1:w.cell? ⟨b,0,none⟩=some (.string (str (c :: r))))(h2:w.frozen? ⟨b,0,none⟩=false)(hl:r.length<=900):Calls Tryz.prog 113 #[ptr b] w fun e w'=>e=.returned (.int .i64 (c.toNat:Int))/\w'=w.setCell ⟨b,0,none⟩ (.string (str r)):=by
 have H:=Ab (abe b (c :: r) 1 w h1 h2 (by simp) (by simp;omega));rw[show (c :: r).take 1=[c] from rfl,show (c :: r).drop 1=r from rfl]at H;have i0:(str [c])[0]'(by rw[Az];simp)=c:=rfl;have hc:=c.toNat_lt;have hw:wrap64 (c.toNat:Int)=(c.toNat:Int):=by unfold wrap64;omega
 clear h1 h2;go_enter Tryz.func113,Tryz.ntmps113;go_wp2_with fail
 refine(Aa H).mono ?_;rintro e w1 ⟨rfl,rfl⟩;go_wp2
 go_ret
 exact⟨rfl,rfl⟩
theorem acx(b:Nat)(a c:UInt8)(r:List UInt8)(w:World)(h1:w.cell? ⟨b,0,none⟩=some (.string (str (a :: c :: r))))(h2:w.frozen? ⟨b,0,none⟩=false)(hl:r.length<=500):
  Calls Tryz.prog 114 #[ptr b] w fun e w'=>e=.returned (.int .i64 (V.BK a c))/\w'=(w.setCell ⟨b,0,none⟩ (.string (str (c :: r)))).setCell ⟨b,0,none⟩ (.string (str r)):=by
 have H:=Ab (VX b a (c :: r) w h1 h2 (by simp;omega));have hlb:=lt_of_cell h1;have H2:=Ab (VX b c r (w.setCell ⟨b,0,none⟩ (.string (str (c :: r)))) (by simp[go_sem,h1]) (by simp[go_sem,h2]) (by omega));have ha:=a.toNat_lt;have hc:=c.toNat_lt;have hw:wrap64 ((a.toNat:Int)*256)=(a.toNat:Int)*256:=by unfold wrap64;omega
 have ho:bits .or .i64 ((a.toNat:Int)*256) (c.toNat:Int)=((V.BK a c:Nat):Int):=by
  have:=V.N7 a.toNat c.toNat (by omega) (by omega);rw[show ((a.toNat*256:Nat):Int)=(a.toNat:Int)*256 by omega]at this;exact this
 clear h1 h2;generalize str (c :: r)=S1 at *;generalize str r=S2 at *;go_enter Tryz.func114,Tryz.ntmps114;go_wp2_with fail
 refine(Aa H).mono ?_;rintro e w1 ⟨rfl,rfl⟩;go_wp2_with fail
 refine(Aa H2).mono ?_;rintro e w2 ⟨rfl,rfl⟩;go_wp2
 go_ret
 exact⟨rfl,rfl⟩
theorem Mt(k p:Int)(f t:ByteArray)(h:R.CO k p=some (f,t))(l:List UInt8)(hl:l.length<=500)(v:List V.It)(hu:V.D3 f l=(0,v))(w:World)(ht:DU w):Calls Tryz.prog 133 #[.int .i64 k,.string (str (AX p++l))] w fun e w'=>(∃O,e=.returned (.tuple #[.int .i64 p,O])/\V.Row w' w.heap.size O v)/\Below w.heap.size w w':=by
 obtain⟨_,hf,_,hp,_⟩:=E9 h;obtain⟨BX,hBX⟩:∃BX,w.alloc (.cells #[.string (str (AX p++l)),.int .i64 6] 125)=BX:=⟨_,rfl⟩;have hb0:Below w.heap.size w BX:=by
  rw[<-hBX];exact(Below.refl _ _).alloc (Nat.le_refl _) _
 have hbx:BX.heap[w.heap.size]?=some (.cells #[.string (str (AX p++l)),.int .i64 6] 125 (0,0)):=by
  rw[<-hBX];exact heap_alloc_new w _
 have hn2:((V.BK (b8 (p / 256)) (b8 (p % 256)):Nat):Int)=p:=by
  have h1:=Bn (n:=p / 256) (by omega) (by omega);have h2:=Bn (n:=p % 256) (by omega) (by omega);unfold V.BK;omega
 have H2:=Ab (acx w.heap.size (b8 (p / 256)) (b8 (p % 256)) l BX (cell_of hbx 0 _ rfl) (open_list hbx) hl);rw[hn2]at H2;obtain⟨W,hW⟩:∃W,W=(BX.setCell ⟨w.heap.size,0,none⟩ (.string (str (b8 (p % 256) :: l)))).setCell ⟨w.heap.size,0,none⟩ (.string (str l)):=⟨_,rfl⟩;rw[<-hW]at H2;have hbW:Below w.heap.size w W:=by
  rw[hW];exact(hb0.setCell (by simp) _).setCell (by simp) _
 have hWx:W.heap[w.heap.size]?=some (.cells #[.string (str l),.int .i64 6] 125 (0,0)):=by
  rw[hW];have e1:=Ak (cs:=[.string (str (AX p++l)),.int .i64 6]) (off:=0) hbx (.string (str (b8 (p % 256) :: l)));exact Ak (cs:=[.string (str (b8 (p % 256) :: l)),.int .i64 6]) (off:=0) e1 (.string (str l))
 have HS:=Ab (GI k p f t h W (ht.below hbW));have HW:Hid (∀w' c0 c1 c2 S,V.EN w' S (V.nx f) (f.size+1) 0 c0 c1 c2->Calls Tryz.prog 197 #[.agg #[c0,c1,c2],.string (str l)] w' fun e w''=>(∃O,e=.returned O/\V.Row w'' w'.heap.size O v)/\Below w'.heap.size w' w''):=fun w' c0 c1 c2 S hR=>Qz f hf S c0 c1 c2 l v hu w' hR
 have HBX:=Ab hBX;have HBW:=Ab hbW;have HWX:=Ab hWx;clear hW hbW hWx hb0 hbx ht hu hBX;generalize str l=SL at *;generalize str (AX p++l)=SM at *;go_enter Tryz.func133,Tryz.ntmps133;go_wp2_with fail
 rw[Aa HBX];refine(Aa H2).mono ?_;rintro e w0 ⟨rfl,hw0⟩;rw[hw0];clear hw0;go_wp2_with fail
 refine(Aa HS).mono ?_;rintro e w1 ⟨⟨a0,a1,a2,b0,b1,b2,rfl,⟨S1,hR1⟩,⟨S2,hR2⟩⟩,hb1⟩;obtain⟨⟨x0,rfl⟩,⟨x1,rfl⟩,⟨ea,en,ec,rfl⟩⟩:=V.Bp hR1;obtain⟨⟨y0,rfl⟩,⟨y1,rfl⟩,⟨fa,fn,fc,rfl⟩⟩:=V.Bp hR2;have hw1:Below w.heap.size w w1:=(Aa HBW).trans (hb1.mono (Aa HBW).size);have HB1:Hid (Below w.heap.size w ((w1.alloc (GN x0 x1 ea en ec)).alloc (GN y0 y1 fa fn fc))):=(hw1.alloc hw1.size _).alloc (by have:=hw1.size;simp;omega) _;have HBB:Hid (Below w1.heap.size w1 ((w1.alloc (GN x0 x1 ea en ec)).alloc (GN y0 y1 fa fn fc))):=((Below.refl _ _).alloc (Nat.le_refl _) _).alloc (by simp) _;have HR1:=Ab (F7 hR1 (Aa HBB));have HC:=Ab ((Aa HW) _ _ _ _ _ (Aa HR1));have k1:=(hb1.block w.heap.size (lt_of_block (Aa HWX))).trans (Aa HWX);have c0:w1.cell? ⟨w.heap.size,0,none⟩=some (.string SL):=cell_of k1 0 _ rfl;have hl1:=lt_of_block k1;clear hR1 hR2 hb1 HS HBB hw1 k1;go_wp2_with fail
 refine(Aa HC).mono ?_;rintro e w3 ⟨⟨O,rfl,hrow⟩,hb3⟩;have HB3:=Ab ((Aa HB1).trans (hb3.mono (Aa HB1).size));obtain⟨oa,on,oc,hsh⟩:=Ar hrow;subst hsh;have HRW:=Ab (V.EF hrow (Aa HB1).size);clear hb3 hrow;go_wp2
 go_ret2
 exact⟨⟨_,rfl,Aa HRW⟩,Aa HB3⟩
end Go.Proofs.YtblomippkddgiaaGreatDoor
namespace Go.Proofs.YtblomippkddgiaaGreatDoor.V
def Ji(s:ByteArray)(v:List It):Option (List UInt8):=match Ct (nx s) (s.size+1) 0 v with
 |some (ks,[])=>some (bytesOf ks v)
 |_=>none
theorem Lb{g:Nat->Nat}{f p:Nat}{v r:List It}{ks:List Bool}(h:Ct g (f+1) p v=some (ks,r))(h97:g p≠97)(h114:g p≠114)(h115:g p≠115)(h117:g p≠117)(h113:g p≠113):ks=[false]:=by
 unfold Ct AF at h;rw[if_neg h97,if_neg h114]at h;cases v with
 |nil=>cases h
 |cons x v=>
  simp only at h;rw[if_neg h115]at h;split at h
  ·cases h
  ·rename_i k0 qs r0 hh;split at hh
   ·cases hh;simp only[BG,BS]at h;cases h;rfl
   ·cases hh
theorem YW{g:Nat->Nat}{f p:Nat}{v r:List It}{ks:List Bool}(h:Ct g (f+1) p v=some (ks,r))(h115:g p=115):ks=[true]/\∃x,v=x :: r/\x.2.size<=14:=by
 unfold Ct AF at h;rw[if_neg (by omega),if_neg (by omega)]at h;cases v with
 |nil=>cases h
 |cons x v=>
  simp only at h;rw[if_pos h115]at h;split at h
  ·cases h
  ·rename_i k0 qs r0 hh;split at hh
   ·rename_i hx;cases hh;simp only[BG,BS]at h;cases h;exact⟨rfl,x,rfl,hx.2⟩
   ·cases hh
theorem Ql{E:Nat->List It->Dn}{q:Nat}(hE:∀v ks r,E q v=some (ks,r)->ks=[false]):∀(k:Nat) (v r:List It) (ks:List Bool),BG E (List.replicate k q) v=some (ks,r)->ks=List.replicate k false
 |0,v,r,ks,h=>by
  simp only[List.replicate_zero,BG]at h;cases h;rfl
 |k+1,v,r,ks,h=>by
  rw[List.replicate_succ,BG]at h;cases he:E q v with
  |none=>rw[he]at h;cases h
  |some x=>
   obtain⟨k1,r1⟩:=x;rw[he]at h;simp only at h;cases hs:BG E (List.replicate k q) r1 with
   |none=>rw[hs]at h;cases h
   |some y=>
    obtain⟨k2,r2⟩:=y;rw[hs]at h;simp only[BS]at h;cases h;rw[hE v k1 r1 he,Ql hE k r1 _ _ hs,List.replicate_succ];rfl
theorem IK:∀(k:Nat) (v:List It),(bytesOf (List.replicate k false) v).length<=2*k
 |0,v=>by simp[bytesOf]
 |k+1,[]=>by simp[List.replicate_succ,bytesOf]
 |k+1,x :: v=>by
  have:=IK k v;rw[List.replicate_succ,bytesOf,List.length_append];simp only[El,AX];simp;omega
theorem IQ{s:ByteArray}{v:List It}{out:List UInt8}(h:Ji s v=some out)(h97:nx s 0≠97)(h114:nx s 0≠114)(h115:nx s 0≠115)(h117:nx s 0≠117)(h113:nx s 0≠113):out.length<=70:=by
 unfold Ji at h;split at h
 ·rename_i ks he;cases h;rw[Lb he h97 h114 h115 h117 h113];have:=IK 1 v;simp only[List.replicate_one]at this;omega
 ·cases h
theorem Uo{s:ByteArray}{v:List It}{out:List UInt8}(h:Ji s v=some out)(h115:nx s 0=115):out.length<=70:=by
 unfold Ji at h;split at h
 ·rename_i ks he;cases h;obtain⟨h1,x,h2,h3⟩:=YW he h115;rw[h1,h2];have e0:x.2.data.toList.length=x.2.size:=Array.length_toList;have e1:(if x.2.size % 2=1 then [(0:UInt8)] else []).length<=1:=by split<;>simp
  have e2:(bytesOf [true] (x :: [])).length=(AX x.2.size).length+(x.2.data.toList.length+(if x.2.size % 2=1 then [(0:UInt8)] else []).length):=by
   simp only[bytesOf,El,if_true,List.append_nil,List.length_append]
  have e3:(AX x.2.size).length=2:=rfl;omega
 ·cases h
def Cr:ByteArray:={data:=#[114,40,101,51,113,51,105,41]}
theorem Um:Pt.kids (nx Cr) 8 0=[2,4]:=by decide +kernel
theorem YP:nx Cr 0=114/\nx Cr 2=101/\nx Cr 4=113/\nx Cr 6=105:=by decide +kernel
theorem YR:BO (nx Cr) 7 4=3:=by decide +kernel
theorem Rj{v:List It}{out:List UInt8}(h:Ji Cr v=some out):out.length<=70:=by
 unfold Ji at h;obtain⟨a0,a2,a4,a6⟩:=YP;split at h
 ·rename_i ks he;cases h;rw[show Cr.size+1=8+1 from rfl]at he;unfold Ct AF at he;rw[if_neg (by omega),if_pos a0,Um]at he;simp only[BG]at he;cases h1:Ct (nx Cr) 8 2 v with
  |none=>rw[h1]at he;cases he
  |some x1=>
   obtain⟨k1,r1⟩:=x1;rw[h1]at he;simp only at he;have e1:=Lb (f:=7) h1 (by omega) (by omega) (by omega) (by omega) (by omega);cases h2:Ct (nx Cr) 8 4 r1 with
   |none=>rw[h2]at he;cases he
   |some x2=>
    obtain⟨k2,r2⟩:=x2;rw[h2]at he;simp only[BS]at he;cases he;have e2:∃n,n<=4/\k2=List.replicate n false:=by
     rw[show (8:Nat)=7+1 from rfl]at h2;unfold Ct AF at h2;rw[if_neg (by omega),if_neg (by omega)]at h2;cases r1 with
     |nil=>cases h2
     |cons x r1=>
      simp only at h2;rw[if_neg (show ¬nx Cr 4=115 by omega)]at h2;split at h2
      ·cases h2
      ·rename_i k0 qs r0 hh;split at hh
       ·rename_i hx;rw[if_neg (by omega)]at hh;cases hh;cases hs:BG (Ct (nx Cr) 7) (List.replicate x.1.toNat 6) r1 with
        |none=>rw[hs]at h2;cases h2
        |some y=>
         obtain⟨k3,r3⟩:=y;rw[hs]at h2;simp only[BS]at h2;cases h2;have e3:=Ql (E:=Ct (nx Cr) 7) (q:=6) (fun v ks r hq=>Lb (f:=6) hq (by omega) (by omega) (by omega) (by omega) (by omega)) x.1.toNat r1 _ _ hs;have hhi:=hx.2.2;rw[YR]at hhi;exact⟨x.1.toNat+1,by omega,by rw[e3,List.replicate_succ];rfl⟩
       ·cases hh
    obtain⟨n,hn,e2⟩:=e2;subst e1 e2;have:=IK (n+1) v;rw[List.replicate_succ]at this;simp only[List.append_nil,List.singleton_append,List.nil_append];omega
 ·cases h
theorem UG{s:ByteArray}{v:List It}(hc:(Pt.G8 (nx s) s.size).1=0)(hb:∀out,Ji s v=some out->out.length<=70)(h:¬(Cn s v).1=0):(Cn s v).1=4:=by
 have hm:Cn s v=H9 (Ct (nx s) (s.size+1) 0 v) v:=by unfold Cn;rw[if_pos hc]
 rw[hm]at h ⊢;unfold Ji at hb;cases he:Ct (nx s) (s.size+1) 0 v with
 |none=>rfl
 |some x=>
  obtain⟨ks,r⟩:=x;rw[he]at h hb;cases r with
  |nil=>
   have:=hb _ rfl;have hn:¬70<(bytesOf ks v).length:=by omega
   simp[H9,hn]at h
  |cons y r=>rfl
end Go.Proofs.YtblomippkddgiaaGreatDoor.V
namespace Go.Proofs.YtblomippkddgiaaGreatDoor
open Go.RowKit Go.Maps
open Go.RowKit
theorem aaj(w:World):(zeroValue 3).run Tryz.prog w=.ok (.int .i64 0) w:=by kernel_rfl
theorem Vx{u:Int}(h:-9223372036854775808<=u/\u<=9223372036854775807):(Lit.int .i64 u).wf=true:=by
 simp[Lit.wf,IntKind.min,IntKind.max,IntKind.bits,IntKind.signed];omega
section
variable {α:Type} {w:World} {k t:TypeId} {b n:Nat} {lit:α->Lit} {g:α->Option Int}
theorem Mp.look(h:Mp w k b lit g n)(K:Keyed Tryz.prog k)(ht:Tryz.prog.underlying t=some (.map k 3)){key:Value}{a:α}(hkey:keyOf Tryz.prog k key=some (lit a)):(Instr.lookup t (.map (some b)) key true).run Tryz.prog w=.ok (.tuple #[.int .i64 ((g a).getD 0),.bool (g a).isSome]) w:=by
 obtain⟨D,h1,h2,h3⟩:=h;obtain⟨v,ps,hrun,hv⟩:=h1.look_ok K ht (aaj w) (plainElem_int Tryz.underlying3 (Vx (by omega))) hkey;obtain⟨c,rfl,hc,_⟩:=plainElem_int_inv Tryz.underlying3 hv;simp only[Prod.mk.injEq]at hc;rw[hrun,(h3 a).1];cases hg:g a with
 |some x=>
  have:=(h3 a).2 x hg;rw[hc.1]at this;cases this;rfl
 |none=>
  have hn:=(h3 a).1;rw[hg]at hn;have:=atKey_of_not_has hn (.lit (.int .i64 0));rw[hc.1]at this;cases this;rfl
theorem Mp.put(h:Mp w k b lit g n)(K:Keyed Tryz.prog k)(ht:Tryz.prog.underlying t=some (.map k 3))(hn:n<1000){key:Value}{a:α}(hkey:keyOf Tryz.prog k key=some (lit a))(hl:∀x y,lit x=lit y->x=y)(hil:WideAt.IsKeyLit (lit a)){v:Int}(hv:-9223372036854775808<=v/\v<=9223372036854775807)(g':α->Option Int)(hg':∀x,(x=a->g' x=some v)/\(¬x=a->g' x=g x)):
  ∃w',(Instr.mapUpdate t (.map (some b)) key (.int .i64 v)).run Tryz.prog w=.ok () w'/\Mp w' k b lit g' (if (g a).isSome then n else n+1)/\w.mapTurned w' b:=by
 obtain⟨D,h1,h2,h3⟩:=h;obtain⟨w',hrun,h4,h5⟩:=h1.store K ht (by unfold maxLen;omega) hkey (plainElem_int Tryz.underlying3 (Vx hv));have hs:=size_put (k:=lit a) (h1.tidy K) (.lit (.int .i64 v));rw[(h3 a).1,h2]at hs;refine⟨w',hrun,⟨_,?_,hs,fun x=>?_⟩,h5⟩
 ·obtain⟨es,cl,q1,q2,q3,q4⟩:=h4;refine⟨es,cl,q1,q2,?_,q4⟩;rw[<-hs,q4];simp[Maps.size,length_sorted]
 ·by_cases hx:x=a
  ·subst hx;rw[(hg' x).1 rfl];refine⟨has_put_same h1.isMap hil _,fun y hy=>?_⟩;cases hy;exact atKey_put_same h1.isMap hil _ _
  ·have hne:lit x≠lit a:=fun e=>hx (hl _ _ e)
   rw[(hg' x).2 hx,has_put_other hne];refine⟨(h3 x).1,fun y hy=>?_⟩;rw[atKey_put_other hne];exact(h3 x).2 y hy
theorem Mp.len(h:Mp w k b lit g n)(ht:Tryz.prog.underlying t=some (.map k 3))(ty:TypeId):(Builtin.len_ #[t] ty #[.map (some b)]).run Tryz.prog w=.ok (.int .i64 (n:Int)) w:=by
 obtain⟨D,h1,h2,h3⟩:=h;rw[h1.len ht ty,h2]
end
theorem Mp.made(w:World)(k:TypeId){α:Type}(lit:α->Lit):Mp (w.alloc (.map #[] 0)) k w.heap.size lit (fun _=>none) 0:=
 ⟨.map [],World.ownsMap_made w _ _ _,rfl,fun _=>⟨rfl,fun _ h=>by cases h⟩⟩
theorem WQ{w:World}{b n:Nat}{g:Int->Option Int}(h:Mp w 3 b Mm g n){u:Int}(hu:-9223372036854775808<=u/\u<=9223372036854775807):(Instr.lookup 131 (.map (some b)) (.int .i64 u) true).run Tryz.prog w=.ok (.tuple #[.int .i64 ((g u).getD 0),.bool (g u).isSome]) w:=
 h.look (int_keyed Tryz.underlying3) Tryz.underlying131 (keyOf_int_mk Tryz.underlying3 (Vx hu))
theorem Py{w:World}{b n:Nat}{g:List UInt8->Option Int}(h:Mp w 9 b N0 g n){s:List UInt8}(hs:s.length<=maxLen):(Instr.lookup 159 (.map (some b)) (.string (str s)) true).run Tryz.prog w=.ok (.tuple #[.int .i64 ((g s).getD 0),.bool (g s).isSome]) w:=
 h.look (string_keyed Tryz.underlying9) Tryz.underlying159 (by rw[Go.WideMaps.keyOf_string_mk Tryz.underlying9 (by rw[Az];exact hs)])
theorem ZA{w:World}{b n:Nat}{g:Int->Option Int}(h:Mp w 3 b Mm g n)(hn:n<1000){u v:Int}(hu:-9223372036854775808<=u/\u<=9223372036854775807)(hv:-9223372036854775808<=v/\v<=9223372036854775807)(g':Int->Option Int)(hg':∀x,(x=u->g' x=some v)/\(¬x=u->g' x=g x)):
  ∃w',(Instr.mapUpdate 131 (.map (some b)) (.int .i64 u) (.int .i64 v)).run Tryz.prog w=.ok () w'/\Mp w' 3 b Mm g' (if (g u).isSome then n else n+1)/\w.mapTurned w' b:=
 h.put (int_keyed Tryz.underlying3) Tryz.underlying131 hn (keyOf_int_mk Tryz.underlying3 (Vx hu)) (fun x y e=>by cases e;rfl) trivial hv g' hg'
theorem ZB{w:World}{b n:Nat}{g:List UInt8->Option Int}(h:Mp w 9 b N0 g n)(hn:n<1000){s:List UInt8}(hs:s.length<=maxLen){v:Int}(hv:-9223372036854775808<=v/\v<=9223372036854775807)(g':List UInt8->Option Int)(hg':∀x,(x=s->g' x=some v)/\(¬x=s->g' x=g x)):
  ∃w',(Instr.mapUpdate 159 (.map (some b)) (.string (str s)) (.int .i64 v)).run Tryz.prog w=.ok () w'/\Mp w' 9 b N0 g' (if (g s).isSome then n else n+1)/\w.mapTurned w' b:=
 h.put (string_keyed Tryz.underlying9) Tryz.underlying159 hn (by rw[Go.WideMaps.keyOf_string_mk Tryz.underlying9 (by rw[Az];exact hs)]) (fun x y e=>by cases e;rfl) trivial hv g' hg'
theorem JE{w w':World}{b:Nat}(h:w.mapTurned w' b):Af (fun k=>k=b) w w':=by
 have hg:=h.grown;exact⟨hg.os,hg.tape,hg.output,hg.size,fun k hk hne=>hg.block k hk (fun e=>hne (by cases e;rfl))⟩
theorem EO(w:World)(b:Nat):w.drew.heap[b]?=w.heap[b]?:=rfl
abbrev R0(w:World)(b k:Nat)(st sq u pc:Int)(S:ByteArray)(a:Int)(S2:ByteArray)(wt tr:Int):World:=(((((((((w.setCell ⟨b,k*10,none⟩ (.int .i64 st)).setCell ⟨b,k*10+1,none⟩ (.int .i64 sq)).setCell ⟨b,k*10+2,none⟩ (.slice none 0 0)).setCell ⟨b,k*10+3,none⟩ (.int .i64 u)).setCell ⟨b,k*10+4,none⟩ (.int .i64 pc)).setCell ⟨b,k*10+5,none⟩ (.string S)).setCell ⟨b,k*10+6,none⟩ (.int .i64 a)).setCell ⟨b,k*10+7,none⟩ (.string S2)).setCell ⟨b,k*10+8,none⟩ (.int .i64 wt)).setCell ⟨b,k*10+9,none⟩ (.int .i64 tr)
theorem UM(w:World)(b k:Nat)(st sq u pc:Int)(m:List UInt8)(a wt tr:Int):R0 w b k st sq u pc (str m) a ⟨#[]⟩ wt tr=M7 w b k ⟨st,sq,.slice none 0 0,u,pc,m,a,[],wt,tr⟩:=rfl
theorem TW(w:World)(b k:Nat)(u pc:Int)(m:List UInt8)(xs:List DK)(x:DK)(hrv:∃a n c,x.rv=.slice a n c)(h:w.heap[b]?=some (.cells (tab DK.cells xs).toArray 139 (0,0)))(hx:xs[k]?=some x)(hs:0<=x.seq/\x.seq<=1000):
  Calls Tryz.prog 110 #[.pointer (some ⟨b,k*10,none⟩),.agg #[.int .i64 u,.int .i64 pc,.string (str m),.int .i64 0,.string ⟨#[]⟩,.int .i64 0,.int .i64 0]] w fun e w'=>e=.returned (.tuple #[])/\w'.heap[b]?=some (.cells (tab DK.cells (xs.set k ⟨1,x.seq+1,.slice none 0 0,u,pc,m,0,[],0,0⟩)).toArray 139 (0,0))/\Af (fun q=>q=b) w w':=by
 have hlt:=lt_of_block h;obtain⟨BX,hBX⟩:∃BX,w.alloc (.cells #[.int .i64 u,.int .i64 pc,.string (str m),.int .i64 0,.string ⟨#[]⟩,.int .i64 0,.int .i64 0] 137)=BX:=⟨_,rfl⟩;have hb:Below w.heap.size w BX:=by
  rw[<-hBX];exact(Below.refl _ _).alloc (Nat.le_refl _) _
 have hbx:BX.heap[w.heap.size]?=some (.cells #[.int .i64 u,.int .i64 pc,.string (str m),.int .i64 0,.string ⟨#[]⟩,.int .i64 0,.int .i64 0] 137 (0,0)):=by
  rw[<-hBX];exact heap_alloc_new w _
 have h':=(hb.block b hlt).trans h;obtain⟨a0,a1,a2,a3,a4,a5,a6,a7,a8,a9⟩:=AQ h' hx;obtain⟨ra,rn,rc,hrv⟩:=hrv;rw[hrv]at a2;have z0:=open_list (off:=k*10) h';have z1:=open_list (off:=k*10+1) h';have z2:=open_list (off:=k*10+2) h';have z3:=open_list (off:=k*10+3) h';have z4:=open_list (off:=k*10+4) h';have z5:=open_list (off:=k*10+5) h';have z6:=open_list (off:=k*10+6) h';have z7:=open_list (off:=k*10+7) h';have z8:=open_list (off:=k*10+8) h';have z9:=open_list (off:=k*10+9) h';obtain⟨XS,hXS⟩:∃XS,XS=xs.set k ⟨1,x.seq+1,.slice none 0 0,u,pc,m,0,[],0,0⟩:=⟨_,rfl⟩;rw[<-hXS];have HP:Hid ((R0 BX b k 1 (x.seq+1) u pc (str m) 0 ⟨#[]⟩ 0 0).drew.heap[b]?=some (.cells (tab DK.cells XS).toArray 139 (0,0))/\Af (fun q=>q=b) w (R0 BX b k 1 (x.seq+1) u pc (str m) 0 ⟨#[]⟩ 0 0).drew):=by
  have q:=TB (w:=BX) h' hx ⟨1,x.seq+1,.slice none 0 0,u,pc,m,0,[],0,0⟩;rw[hXS,UM];generalize M7 BX b k ⟨1,x.seq+1,.slice none 0 0,u,pc,m,0,[],0,0⟩=W8 at q ⊢;rw[EO];exact⟨q.1,((Af.Aj hb _).trans q.2).drew⟩
 clear hXS;generalize str m=SM at *;have c0:BX.cell? ⟨w.heap.size,0,none⟩=some (.int .i64 u):=cell_of hbx 0 _ rfl;have c1:BX.cell? ⟨w.heap.size,1,none⟩=some (.int .i64 pc):=cell_of hbx 1 _ rfl;have c2:BX.cell? ⟨w.heap.size,2,none⟩=some (.string SM):=cell_of hbx 2 _ rfl;have c3:BX.cell? ⟨w.heap.size,3,none⟩=some (.int .i64 0):=cell_of hbx 3 _ rfl;have c4:BX.cell? ⟨w.heap.size,4,none⟩=some (.string ⟨#[]⟩):=cell_of hbx 4 _ rfl;have c5:BX.cell? ⟨w.heap.size,5,none⟩=some (.int .i64 0):=cell_of hbx 5 _ rfl;have c6:BX.cell? ⟨w.heap.size,6,none⟩=some (.int .i64 0):=cell_of hbx 6 _ rfl;have e1:IntKind.i64.wrap (x.seq+1)=x.seq+1:=by rw[IntKind.wrap_i64];omega
 have HBX:=Ab hBX;have hlb:=lt_of_block h';generalize x.seq=sq at *;clear h hx hBX hb hbx h' hrv;go_enter Tryz.func110,Tryz.ntmps110;go_wp2_with fail
 rw[Aa HBX]
 go_region
 all_goals
  go_wp2;go_returns;exact⟨rfl,Aa HP⟩
theorem Qe(w:World)(cb b k:Nat)(rt tr:Int)(xs:List DK)(x:DK)(h:w.heap[b]?=some (.cells (tab DK.cells xs).toArray 139 (0,0)))(hx:xs[k]?=some x)(b4:w.cell? ⟨cb,4,none⟩=some (.int .i64 rt))(b5:w.cell? ⟨cb,5,none⟩=some (.int .i64 tr))(hne:¬cb=b):
  Calls Tryz.prog 111 #[ptr cb,.pointer (some ⟨b,k*10,none⟩)] w fun e w'=>e=.returned (.tuple #[])/\w'.heap[b]?=some (.cells (tab DK.cells (xs.set k {x with wait:=rt,tries:=tr})).toArray 139 (0,0))/\Af (fun q=>q=b) w w':=by
 obtain⟨a0,a1,a2,a3,a4,a5,a6,a7,a8,a9⟩:=AQ h hx;have z6:=open_list (off:=k*10+8) h;have z7:=open_list (off:=k*10+9) h;have e1:=Ca (j:=8) (x':={x with wait:=rt}) (v:=.int .i64 rt) h hx (by omega) rfl;have e2:=Ca (j:=9) (x':={x with wait:=rt,tries:=tr}) (v:=.int .i64 tr) e1.1 e1.2 (by omega) rfl;simp only[List.set_set]at e2;have hl1:=lt_of_cell b4;have hl2:=lt_of_block h;have hne':¬b=cb:=fun e=>hne e.symm
 have HP:=Ab e2.1;clear e1 e2 h hx a0 a1 a2 a3 a4 a5 a6 a7;go_enter Tryz.func111,Tryz.ntmps111;go_wp2;go_returns;exact⟨rfl,Aa HP,(Am _).trans (Am _)⟩
end Go.Proofs.YtblomippkddgiaaGreatDoor
