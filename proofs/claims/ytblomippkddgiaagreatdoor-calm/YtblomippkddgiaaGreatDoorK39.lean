import Derived.Test.YtblomippkddgiaaGreatDoorK38
import Derived.Test.YtblomippkddgiaaGreatDoorK29
set_option maxRecDepth 100000
set_option maxHeartbeats 2000000
namespace Go.Proofs.YtblomippkddgiaaGreatDoor
open Go.RowKit
structure JJ(w:World)(b:Nat)(K:Value)(ps:List ByteArray)(O:Value)(w':World):Prop where
 row:V.Row w' w.heap.size O [((ps.length:Int),⟨#[]⟩)]
 cell:∃K',w'.heap[b]?=some (.cells #[K'] 333 (0,0))/\w'.ownsRow 0 9 1 K' ps.length (strs ps)/\(K'.ownBlock=K.ownBlock\/∃j,K'.ownBlock=some j/\w.heap.size<=j/\j<w'.heap.size)
 keep:Af (fun k=>k=b\/K.ownBlock=some k) w w'
theorem P6{w wz:World}{b m va0:Nat}{K K':Value}{ps:List ByteArray}{T:ByteArray}(h:w.heap[b]?=some (.cells #[K] 333 (0,0)))(hrow:w.ownsRow 0 9 1 K m (strs ps))(hg:(w.alloc (.cells #[.string T] 9)).grownBy wz K.ownBlock)(hown:wz.ownsRow 0 9 1 K' (m+1) (strs ps++[.string T]))(hat:K'.ownBlock=K.ownBlock\/K'.ownBlock=some va0)(hva:w.heap.size<=va0):
  wz.heap[b]?=some (.cells #[K] 333 (0,0))/\(wz.setCell ⟨b,0,none⟩ K').heap[b]?=some (.cells #[K'] 333 (0,0))/\(wz.setCell ⟨b,0,none⟩ K').ownsRow 0 9 1 K' (m+1) (strs (ps++[T]))/\Af (fun k=>k=b\/K.ownBlock=some k) w (wz.setCell ⟨b,0,none⟩ K')/\K'.ownBlock≠some b:=by
 have hl:=lt_of_block h;have hnK:K.ownBlock≠some b:=A6 hrow h (by decide);have hnK':K'.ownBlock≠some b:=by
  rcases hat with e|e
  ·rw[e];exact hnK
  ·rw[e];intro q;cases q;omega
 have hzb:wz.heap[b]?=some (.cells #[K] 333 (0,0)):=by
  rw[hg.block b (by simp;omega) (fun e=>hnK e.symm)];exact(Below.heap_alloc _ _ _ hl).trans h
 have hs:strs (ps++[T])=strs ps++[.string T]:=by simp[strs]
 refine⟨hzb,Ak (cs:=[K]) (off:=0) hzb K',?_,?_,hnK'⟩
 ·rw[hs];exact F9 hown (fun g hg'=>Below.heap_setCell _ _ _ _ (fun e=>hnK' (by rw[hg'];exact congrArg some e)))
 ·have hk0:Af (fun k=>k=b\/K.ownBlock=some k) w (w.alloc (.cells #[.string T] 9)):=(Af.refl _ w).alloc _;exact(hk0.grown hg (fun k hk=>Or.inl (Or.inr hk))).setCell (p:=⟨b,0,none⟩) (Or.inl (Or.inl rfl)) _
theorem PV(w:World)(T:ByteArray)(j:Nat)(u:Value)(h:([.string T]:List Value)[j]?=some u):(w.alloc (.cells #[.string T] 9)).cell? ((⟨w.heap.size,0,none⟩:Addr).add j)=some u:=by
 rw[Addr.add_lit,Nat.zero_add,World.cell?_alloc_new w _ _ j,<-List.getElem?_toArray]at *;exact h
theorem row_in(w U:World)(hU:w.heap.size<=U.heap.size)(n:Int)(s:ByteArray):V.Row (U.alloc (.cells #[.int .i64 n,.string s] 106)) w.heap.size (.slice (some ⟨U.heap.size,0,none⟩) 1 1) [(n,s)]:=
 ⟨rfl,Or.inr ⟨U.heap.size,1,#[.int .i64 n,.string s],rfl,hU,heap_alloc_new U _,Nat.le_refl _,by decide,rfl,rfl⟩⟩
theorem XF(w:World)(b c:Nat)(a:Option Addr)(ps:List ByteArray)(T:ByteArray)(h4:ps.length<4)(h:w.heap[b]?=some (.cells #[.slice a ps.length c] 333 (0,0)))(hrow:w.ownsRow 0 9 1 (.slice a ps.length c) ps.length (strs ps)):
  Calls Tryz.prog 291 #[ptr b,.string T] w fun e w'=>∃O,e=.returned O/\JJ w b (.slice a ps.length c) (ps++[T]) O w':=by
 obtain⟨i0,hi,hz0,hz1,hz2⟩:=info_parts Wx;have c0:w.cell? ⟨b,0,none⟩=some (.slice a ps.length c):=cell_of h 0 _ rfl;have z0:w.frozen? ⟨b,0,none⟩=false:=open_list h;have hl:=lt_of_block h;have HP:Hid (∀{wz:World} {K':Value} {va0:Nat},(w.alloc (.cells #[.string T] 9)).grownBy wz (Value.slice a ps.length c).ownBlock->wz.ownsRow 0 9 1 K' (ps.length+1) (strs ps++[.string T])->(K'.ownBlock=(Value.slice a ps.length c).ownBlock\/K'.ownBlock=some va0)->w.heap.size<=va0->wz.cell? ⟨b,0,none⟩=some (.slice a ps.length c)/\wz.frozen? ⟨b,0,none⟩=false/\b<wz.heap.size/\JJ w b (.slice a ps.length c) (ps++[T]) (.slice (some ⟨wz.heap.size,0,none⟩) 1 1) ((wz.setCell ⟨b,0,none⟩ K').alloc (.cells #[.int .i64 ((ps.length:Int)+1),.string ⟨#[]⟩] 106))):=fun {wz K' va0} hg hown hat hva=>by
  obtain⟨r1,r2,r3,r4,r5⟩:=P6 h hrow hg hown hat hva;have hsz:(wz.setCell ⟨b,0,none⟩ K').heap.size=wz.heap.size:=by simp
  have hgs:=hg.size;simp only[World.size_alloc]at hgs;have hlen:(ps++[T]).length=ps.length+1:=by simp
  refine⟨cell_of r1 0 _ rfl,open_list r1,lt_of_block r1,?_,⟨K',(Below.heap_alloc _ _ _ (by rw[hsz];exact lt_of_block r1)).trans r2,by rw[hlen];exact r3.alloc _,?_⟩,r4.alloc _⟩
  ·have:=row_in w (wz.setCell ⟨b,0,none⟩ K') (by rw[hsz];omega) ((ps.length:Int)+1) ⟨#[]⟩;rw[hsz]at this;rw[hlen];exact this
  ·rcases hat with e|e
   ·exact Or.inl e
   ·refine Or.inr ⟨va0,e,hva,?_⟩;have:=(World.ownsRow.lt hown va0 e).2;simp;omega
 have hg4:¬(4:Int)<((ps.length+1:Nat):Int):=by omega
 have e4:decide (((ps.length+1:Nat):Int) > 4)=false:=by simp;omega
 have HRW:=Ab hrow;clear h hrow;go_enter Tryz.func291,Tryz.ntmps291;go_wp2_with (at_builtin;go_must (refine wpList_append_own_at _ rfl (.tmp 9) (.tmp 11) 222 rfl 0 9 i0 (.string ⟨#[]⟩) 1 16 Tryz.underlying222 hi hz0 hz1 hz2 rfl (by decide) (.slice a ps.length c) ps.length (strs ps) rfl ((Aa HRW).alloc _) ⟨w.heap.size,0,none⟩ 1 1 [.string T] rfl rfl (PV w T) (by simp[Value.oneCell']) (by unfold maxLen;omega) (by omega) (by omega) ?_))
 intro v' wz hown hgrow hnil hat;obtain⟨p1,p2,p3,p4⟩:=(Aa HP) hgrow hown hat (by omega);rcases hown.2 with ⟨q,_⟩|⟨g,cap,cur,hv,_⟩
 ·exact absurd q hnil
 subst hv;have HQ:=Ab p4;clear p4 hown hgrow hat HP HRW c0 z0 hl hnil hi hz0 hz1 hz2;go_wp2;go_returns;exact⟨_,rfl,Aa HQ⟩
theorem XE{w wz:World}{b g cap:Nat}{K:Value}{ps:List ByteArray}{T:ByteArray}(h4:ps.length=4)(h:w.heap[b]?=some (.cells #[K] 333 (0,0)))(hrow:w.ownsRow 0 9 1 K 4 (strs ps))(hg:(w.alloc (.cells #[.string T] 9)).grownBy wz K.ownBlock)(hown:wz.ownsRow 0 9 1 (.slice (some ⟨g,0,none⟩) 5 cap) 5 (strs ps++[.string T]))(hat:some g=K.ownBlock\/some g=some (w.heap.size+1)):
  wz.cell? ⟨b,0,none⟩=some K/\wz.frozen? ⟨b,0,none⟩=false/\b<wz.heap.size/\Calls Tryz.prog 293 #[.slice (some ⟨g,0,none⟩) 5 cap,.int .i64 0,.int .i64 1] (wz.setCell ⟨b,0,none⟩ (.slice (some ⟨g,0,none⟩) 5 cap)) fun e w'=>e=.returned (.slice (some ⟨g,0,none⟩) 4 cap)/\w'.cell? ⟨b,0,none⟩=some (.slice (some ⟨g,0,none⟩) 5 cap)/\w'.frozen? ⟨b,0,none⟩=false/\b<w'.heap.size/\JJ w b K ((ps++[T]).drop 1) (.slice (some ⟨w'.heap.size,0,none⟩) 1 1) ((w'.setCell ⟨b,0,none⟩ (.slice (some ⟨g,0,none⟩) 4 cap)).alloc (.cells #[.int .i64 4,.string ⟨#[]⟩] 106)):=by
 obtain⟨r1,r2,r3,r4,r5⟩:=P6 (m:=4) (va0:=w.heap.size+1) (K':=.slice (some ⟨g,0,none⟩) 5 cap) h hrow hg hown hat (by omega);have hgb:g≠b:=fun e=>r5 (congrArg some e)
 have hgs:=hg.size;simp only[World.size_alloc]at hgs;have hsz:(wz.setCell ⟨b,0,none⟩ (.slice (some ⟨g,0,none⟩) 5 cap)).heap.size=wz.heap.size:=by simp
 refine⟨cell_of r1 0 _ rfl,open_list r1,lt_of_block r1,?_⟩;rcases r3 with ⟨hl3,⟨q,_⟩|⟨g',cap',cur,hv,_,hc,hle,hmx,hcs,htk⟩⟩
 ·cases q
 cases hv;have hlen:(ps++[T]).length=5:=by simp[h4]
 refine(VR _ g cap cur (ps++[T]) hc hlen (by omega) hmx (by omega) htk).mono ?_;rintro e w' ⟨rfl,⟨cur',hc',hs',ht'⟩,hk⟩;have hwb:w'.heap[b]?=some (.cells #[.slice (some ⟨g,0,none⟩) 5 cap] 333 (0,0)):=by
  rw[hk.block b (lt_of_block r2) (fun e=>hgb e.symm)];exact r2
 have hks:=hk.size;rw[hsz]at hks;have hl4:((ps++[T]).drop 1).length=4:=by simp[h4]
 have hsz2:(w'.setCell ⟨b,0,none⟩ (.slice (some ⟨g,0,none⟩) 4 cap)).heap.size=w'.heap.size:=by simp
 have hlb:=lt_of_block hwb;have hlg:=lt_of_block hc';refine⟨rfl,cell_of hwb 0 _ rfl,open_list hwb,hlb,⟨?_,⟨.slice (some ⟨g,0,none⟩) 4 cap,?_,?_,?_⟩,?_⟩⟩
 ·have:=row_in w (w'.setCell ⟨b,0,none⟩ (.slice (some ⟨g,0,none⟩) 4 cap)) (by rw[hsz2];omega) 4 ⟨#[]⟩;rw[hsz2]at this;rw[hl4];exact this
 ·exact(Below.heap_alloc _ _ _ (by rw[hsz2];exact hlb)).trans (Ak (cs:=[.slice (some ⟨g,0,none⟩) 5 cap]) (off:=0) hwb _)
 ·rw[hl4];refine⟨by simp[strs,h4],Or.inr ⟨g,cap,cur',rfl,Nat.zero_le _,?_,by omega,hmx,by omega,by simpa using ht'⟩⟩;exact((Below.heap_alloc _ _ _ (by rw[hsz2];exact hlg)).trans (Below.heap_setCell _ _ _ _ hgb)).trans hc'
 ·rcases hat with e|e
  ·exact Or.inl e
  ·cases e;exact Or.inr ⟨w.heap.size+1,rfl,by omega,by simp;omega⟩
 ·have hk2:Af (fun k=>k=b\/K.ownBlock=some k) w w':=⟨hk.os.trans r4.os,hk.tape.trans r4.tape,hk.output.trans r4.output,Nat.le_trans r4.size hk.size,fun k hk1 hk2=>by
   have hkg:k≠g:=fun e=>by
    subst e;rcases hat with q|q
    ·exact hk2 (Or.inr q.symm)
    ·cases q;omega
   rw[hk.block k (Nat.lt_of_lt_of_le hk1 r4.size) hkg];exact r4.block k hk1 hk2⟩
  exact(hk2.setCell (p:=⟨b,0,none⟩) (Or.inl (Or.inl rfl)) _).alloc _
theorem ac1:∀args w,(callFunc 293 args).run Tryz.prog w=.ok (.enter 293 args) w:=fun _ _=>rfl
theorem UL(w:World)(b c:Nat)(a:Option Addr)(ps:List ByteArray)(T:ByteArray)(h4:ps.length=4)(h:w.heap[b]?=some (.cells #[.slice a 4 c] 333 (0,0)))(hrow:w.ownsRow 0 9 1 (.slice a 4 c) 4 (strs ps)):
  Calls Tryz.prog 291 #[ptr b,.string T] w fun e w'=>∃O,e=.returned O/\JJ w b (.slice a 4 c) ((ps++[T]).drop 1) O w':=by
 obtain⟨i0,hi,hz0,hz1,hz2⟩:=info_parts Wx;have c0:w.cell? ⟨b,0,none⟩=some (.slice a 4 c):=cell_of h 0 _ rfl;have z0:w.frozen? ⟨b,0,none⟩=false:=open_list h;have hl:=lt_of_block h;have H4:=Ab h4;have hn1:4+1<=maxLen:=by decide
 have H0:=Ab h;have HRW:=Ab hrow;clear h hrow h4;go_enter Tryz.func291,Tryz.ntmps291;go_wp2_with (at_builtin;go_must (refine wpList_append_own_at _ rfl (.tmp 9) (.tmp 11) 222 rfl 0 9 i0 (.string ⟨#[]⟩) 1 16 Tryz.underlying222 hi hz0 hz1 hz2 rfl (by decide) (.slice a 4 c) 4 (strs ps) rfl ((Aa HRW).alloc _) ⟨w.heap.size,0,none⟩ 1 1 [.string T] rfl rfl (PV w T) (by simp[Value.oneCell']) (by unfold maxLen;omega) (by omega) (by omega) ?_))
 intro v' wz hown hgrow hnil hat;rcases hown.2 with ⟨q,_⟩|⟨g,cap,cur,hv,_⟩
 ·exact absurd q hnil
 subst hv;obtain⟨p1,p2,p3,p4⟩:=XE (Aa H4) (Aa H0) (Aa HRW) hgrow hown hat;have HQ:=Ab p4;clear p4 hown hgrow hat HRW c0 z0 hl hnil hi hz0 hz1 hz2 H0;go_wp2_with (go_at_call 293;refine(Aa HQ).mono ?_;rintro e w3 ⟨rfl,d0,z0,hl,hp⟩;have HQ2:=Ab hp;clear hp HQ p1 p2 p3)
 go_returns;exact⟨_,rfl,Aa HQ2⟩
def BP(n:Nat)(ps:List ByteArray)(i:Nat):List V.It:=((n:Int),⟨#[]⟩) :: (ps.take i).map fun s=>(0,s)
theorem Ko(n:Nat)(ps:List ByteArray)(i:Nat)(s:ByteArray)(h:ps[i]?=some s):BP n ps (i+1)=BP n ps i++[(0,s)]:=by
 unfold BP;rw[List.take_add_one,h];simp
theorem LV(n:Nat)(ps:List ByteArray)(i:Nat)(h:i<=ps.length):(BP n ps i).length=i+1:=by simp[BP,h]
theorem Jm:∀v:List V.It,V.flat v=tab Dh v
 |[]=>rfl
 |x :: v=>by
  have:=Jm v;simp only[tab,List.flatMap_cons]at this ⊢;rw[V.flat,this];rfl
theorem PW(w:World)(T:ByteArray)(j:Nat)(u:Value)(h:([.int .i64 0,.string T]:List Value)[j]?=some u):(w.alloc (.cells #[.int .i64 0,.string T] 106)).cell? ((⟨w.heap.size,0,none⟩:Addr).add j)=some u:=by
 rw[Addr.add_lit,Nat.zero_add,World.cell?_alloc_new w _ _ j,<-List.getElem?_toArray]at *;exact h
theorem Vg(w:World)(b g cap L n:Nat)(ps:List ByteArray)(hL:ps.length=L)(h5:L<=4)(hLc:L<=cap)(hnL:n<=L)(c0:w.cell? ⟨b,0,none⟩=some (.slice (some ⟨g,0,none⟩) L cap))(hg:g<w.heap.size)(hcs:∀i s,ps[i]?=some s->w.cell? ⟨g,i,none⟩=some (.string s)):
  Calls Tryz.prog 292 #[ptr b,.int .i64 (n:Int)] w fun e w'=>∃O,e=.returned O/\V.Row w' w.heap.size O (BP n ps n)/\Below w.heap.size w w':=by
 obtain⟨i0,hi,hz0,hz1,hz2⟩:=info_parts Ru;have HCS:=Ab hcs;have HL:=Ab hL;have hl:=lt_of_cell c0;have e1:¬(L:Int)<(n:Int):=by omega
 have g1:(n:Int)<=(cap:Int):=by omega
 have g2:(0:Int)<=(n:Int):=by omega
 have HS:Hid ((w.alloc (.cells #[.int .i64 (n:Int),.string ⟨#[]⟩] 106)).ownsRow w.heap.size 106 2 (.slice (some ⟨w.heap.size,0,none⟩) 1 1) (0+1) (tab Dh (BP n ps 0))):=
  World.ownsRow_lit (base:=w.heap.size) (e:=106) (size:=2) w #[.int .i64 (n:Int),.string ⟨#[]⟩] 1 (Nat.le_refl _) (by unfold maxLen;omega) rfl
 have HB:Hid (Below w.heap.size w (w.alloc (.cells #[.int .i64 (n:Int),.string ⟨#[]⟩] 106))):=(Below.refl _ _).alloc (Nat.le_refl _) _;clear hcs hL;go_enter Tryz.func292,Tryz.ntmps292;go_wp2;go_loopw [6,26] (fun lv iv wr=>∃i:Nat,i<=n/\iv=.int .i64 i/\wr.ownsRow w.heap.size 106 2 lv (i+1) (tab Dh (BP n ps i))/\Below w.heap.size w wr) (fun _ iv _=>n-(intOf iv).toNat)
 case atStart=>exact⟨0,Nat.zero_le _,rfl,Aa HS,Aa HB⟩
 case round=>
  obtain⟨i,hin,rfl,hrow,hbl⟩:=hrel;by_cases hlt:i<n
  ·have hsz:=hbl.size;obtain⟨s,hs⟩:∃s,ps[i]?=some s:=⟨ps[i]'(by have:=Aa HL;omega),List.getElem?_eq_getElem _⟩;have d0:wr.cell? ⟨g,i,none⟩=some (.string s):=(hbl.cell (p:=⟨g,i,none⟩) hg).trans ((Aa HCS) i s hs);have hlts:=fun q=>World.ownsRow.lt hrow q
   obtain⟨la,lc,hls⟩:=Bg hrow;subst hls;have HRW:=Ab hrow;have HBL:=Ab hbl;have HLT:=Ab hlts;have HSS:=Ab hs;clear hrow hbl hlts hs;go_wp2_with (at_builtin;go_must (refine wpList_append_own_at _ rfl (.tmp 30) (.tmp 33) 44 rfl w.heap.size 106 i0 (.agg #[.int .i64 0,.string ⟨#[]⟩]) 2 24 Tryz.underlying44 hi hz0 hz1 hz2 rfl (by decide) (.slice la (i+1) lc) (i+1) (tab Dh (BP n ps i)) rfl (by exact(Aa HRW).alloc _) ⟨_,0,none⟩ 1 1 [.int .i64 0,.string s] rfl rfl (by exact PW _ _) (by simp[Value.oneCell']) (by unfold maxLen;omega) (by omega) (by simp;omega) ?_;intro v' wz hown hgrow hnil hat))
   have HRN:Hid (wz.ownsRow w.heap.size 106 2 v' (i+1+1) (tab Dh (BP n ps (i+1)))):=by
    rw[Ko n ps i s (Aa HSS),Fa];exact hown
   have HBN:=Ab (((Aa HBL).alloc hsz _).grown hgrow (by simp;omega) (fun q hq=>((Aa HLT) q hq).1));clear hown hgrow hat;go_wp2;go_roundw
   case rel=>exact⟨i+1,by omega,by go_num,Aa HRN,Aa HBN⟩
   case measure=>simp[intOf];omega
  ·obtain rfl:i=n:=by omega
   obtain⟨la,lc,hls⟩:=Bg hrow;have HI:Hid (V.Row wr w.heap.size u6 (BP i ps i)):=by
    unfold V.Row;rw[LV i ps i (by have:=Aa HL;omega),Jm];exact hrow
   have HBL:=Ab hbl;subst hls;clear hrow hbl;go_wp2;go_returns;exact⟨_,rfl,Aa HI,Aa HBL⟩
theorem X8(w:World)(b g cap L n:Nat)(most:Int)(ps:List ByteArray)(hL:ps.length=L)(h5:L<=4)(hLc:L<=cap)(hn:(L:Int)<most)(hnL:n=L)(c0:w.cell? ⟨b,0,none⟩=some (.slice (some ⟨g,0,none⟩) L cap))(hg:g<w.heap.size)(hcs:∀i s,ps[i]?=some s->w.cell? ⟨g,i,none⟩=some (.string s)):
  Calls Tryz.prog 292 #[ptr b,.int .i64 most] w fun e w'=>∃O,e=.returned O/\V.Row w' w.heap.size O (BP n ps n)/\Below w.heap.size w w':=by
 obtain⟨i0,hi,hz0,hz1,hz2⟩:=info_parts Ru;subst hnL;have HCS:=Ab hcs;have HL:=Ab hL;have hl:=lt_of_cell c0;have g1:(n:Int)<=(cap:Int):=by omega
 have g2:(0:Int)<=(n:Int):=by omega
 have HS:Hid ((w.alloc (.cells #[.int .i64 (n:Int),.string ⟨#[]⟩] 106)).ownsRow w.heap.size 106 2 (.slice (some ⟨w.heap.size,0,none⟩) 1 1) (0+1) (tab Dh (BP n ps 0))):=
  World.ownsRow_lit (base:=w.heap.size) (e:=106) (size:=2) w #[.int .i64 (n:Int),.string ⟨#[]⟩] 1 (Nat.le_refl _) (by unfold maxLen;omega) rfl
 have HB:Hid (Below w.heap.size w (w.alloc (.cells #[.int .i64 (n:Int),.string ⟨#[]⟩] 106))):=(Below.refl _ _).alloc (Nat.le_refl _) _;clear hcs hL;go_enter Tryz.func292,Tryz.ntmps292;go_wp2;go_loopw [6,26] (fun lv iv wr=>∃i:Nat,i<=n/\iv=.int .i64 i/\wr.ownsRow w.heap.size 106 2 lv (i+1) (tab Dh (BP n ps i))/\Below w.heap.size w wr) (fun _ iv _=>n-(intOf iv).toNat)
 case atStart=>exact⟨0,Nat.zero_le _,rfl,Aa HS,Aa HB⟩
 case round=>
  obtain⟨i,hin,rfl,hrow,hbl⟩:=hrel;by_cases hlt:i<n
  ·have hsz:=hbl.size;obtain⟨s,hs⟩:∃s,ps[i]?=some s:=⟨ps[i]'(by have:=Aa HL;omega),List.getElem?_eq_getElem _⟩;have d0:wr.cell? ⟨g,i,none⟩=some (.string s):=(hbl.cell (p:=⟨g,i,none⟩) hg).trans ((Aa HCS) i s hs);have hlts:=fun q=>World.ownsRow.lt hrow q
   obtain⟨la,lc,hls⟩:=Bg hrow;subst hls;have HRW:=Ab hrow;have HBL:=Ab hbl;have HLT:=Ab hlts;have HSS:=Ab hs;clear hrow hbl hlts hs;go_wp2_with (at_builtin;go_must (refine wpList_append_own_at _ rfl (.tmp 30) (.tmp 33) 44 rfl w.heap.size 106 i0 (.agg #[.int .i64 0,.string ⟨#[]⟩]) 2 24 Tryz.underlying44 hi hz0 hz1 hz2 rfl (by decide) (.slice la (i+1) lc) (i+1) (tab Dh (BP n ps i)) rfl (by exact(Aa HRW).alloc _) ⟨_,0,none⟩ 1 1 [.int .i64 0,.string s] rfl rfl (by exact PW _ _) (by simp[Value.oneCell']) (by unfold maxLen;omega) (by omega) (by simp;omega) ?_;intro v' wz hown hgrow hnil hat))
   have HRN:Hid (wz.ownsRow w.heap.size 106 2 v' (i+1+1) (tab Dh (BP n ps (i+1)))):=by
    rw[Ko n ps i s (Aa HSS),Fa];exact hown
   have HBN:=Ab (((Aa HBL).alloc hsz _).grown hgrow (by simp;omega) (fun q hq=>((Aa HLT) q hq).1));clear hown hgrow hat;go_wp2;go_roundw
   case rel=>exact⟨i+1,by omega,by go_num,Aa HRN,Aa HBN⟩
   case measure=>simp[intOf];omega
  ·obtain rfl:i=n:=by omega
   obtain⟨la,lc,hls⟩:=Bg hrow;have HI:Hid (V.Row wr w.heap.size u6 (BP i ps i)):=by
    unfold V.Row;rw[LV i ps i (by have:=Aa HL;omega),Jm];exact hrow
   have HBL:=Ab hbl;subst hls;clear hrow hbl;go_wp2;go_returns;exact⟨_,rfl,Aa HI,Aa HBL⟩
theorem X9(w:World)(b:Nat)(most:Int)(hm:0<=most)(c0:w.cell? ⟨b,0,none⟩=some (.slice none 0 0)):
  Calls Tryz.prog 292 #[ptr b,.int .i64 most] w fun e w'=>∃O,e=.returned O/\V.Row w' w.heap.size O (BP 0 [] 0)/\Below w.heap.size w w':=by
 have hl:=lt_of_cell c0;have HB:Hid (Below w.heap.size w (w.alloc (.cells #[.int .i64 0,.string ⟨#[]⟩] 106))):=(Below.refl _ _).alloc (Nat.le_refl _) _;have HI:Hid (V.Row (w.alloc (.cells #[.int .i64 0,.string ⟨#[]⟩] 106)) w.heap.size (.slice (some ⟨w.heap.size,0,none⟩) 1 1) (BP 0 [] 0)):=row_in w w (Nat.le_refl _) 0 ⟨#[]⟩;by_cases h0:most=0
 ·subst h0;go_enter Tryz.func292,Tryz.ntmps292;go_wp2;go_loopw [6,26] (fun lv iv wr=>lv=.slice (some ⟨w.heap.size,0,none⟩) 1 1/\iv=.int .i64 0/\wr=w.alloc (.cells #[.int .i64 0,.string ⟨#[]⟩] 106)) (fun _ _ _=>0)
  case atStart=>exact⟨rfl,rfl,rfl⟩
  case round=>
   obtain⟨rfl,rfl,rfl⟩:=hrel;go_wp2;go_returns;exact⟨_,rfl,Aa HI,Aa HB⟩
 ·have h1:(0:Int)<most:=by omega
  go_enter Tryz.func292,Tryz.ntmps292;go_wp2;go_loopw [6,26] (fun lv iv wr=>lv=.slice (some ⟨w.heap.size,0,none⟩) 1 1/\iv=.int .i64 0/\wr=w.alloc (.cells #[.int .i64 0,.string ⟨#[]⟩] 106)) (fun _ _ _=>0)
  case atStart=>exact⟨rfl,rfl,rfl⟩
  case round=>
   obtain⟨rfl,rfl,rfl⟩:=hrel;go_wp2;go_returns;exact⟨_,rfl,Aa HI,Aa HB⟩
theorem Ya(w:World)(b:Nat)(most:Int)(K:Value)(ps:List ByteArray)(hm:0<=most)(h4:ps.length<=4)(h:w.heap[b]?=some (.cells #[K] 333 (0,0)))(hrow:w.ownsRow 0 9 1 K ps.length (strs ps)):
  Calls Tryz.prog 292 #[ptr b,.int .i64 most] w fun e w'=>∃O,e=.returned O/\V.Row w' w.heap.size O (BP (ps.take most.toNat).length ps most.toNat)/\Below w.heap.size w w':=by
 have c0:w.cell? ⟨b,0,none⟩=some K:=cell_of h 0 _ rfl;rcases hrow.2 with ⟨rfl,h0⟩|⟨g,cap,cur,rfl,_,hc,hle,hmx,hcs,htk⟩
 ·obtain rfl:=List.eq_nil_of_length_eq_zero h0;have:=X9 w b most hm c0;unfold BP at this ⊢;simpa using this
 ·have hget:∀i s,ps[i]?=some s->w.cell? ⟨g,i,none⟩=some (.string s):=fun i s hs=>by
   have hil:=(List.getElem?_eq_some_iff.1 hs).1;have e1:(strs ps)[i]?=some (.string s):=by simp[strs,hs]
   rw[<-htk,List.getElem?_take,if_pos (by omega)]at e1;simp[World.cell?,hc];simpa using e1
  by_cases hq:(ps.length:Int)<most
  ·have:=X8 w b g cap ps.length ps.length most ps rfl h4 hle hq rfl c0 (lt_of_block hc) hget;have e2:ps.take most.toNat=ps:=List.take_of_length_le (by omega);have e3:BP (ps.take most.toNat).length ps most.toNat=BP ps.length ps ps.length:=by
    unfold BP;rw[e2,List.take_length]
   rw[e3];exact this
  ·obtain⟨n,rfl⟩:∃n:Nat,most=(n:Int):=⟨most.toNat,by omega⟩;have:=Vg w b g cap ps.length n ps rfl h4 hle (by omega) c0 (lt_of_block hc) hget;have e3:(ps.take n).length=n:=by rw[List.length_take];omega
   simp only[Int.toNat_natCast,e3];exact this
theorem OD(w:World)(F:Aq)(log:List R.En)(en:R.En)(b:Nat)(K W:Value)(h:Works w F log b K 1 W){X:Value}(hX:V.Items w X en.arg)(ha:∃x,en.arg=[x]/\(en.proc=1->0<=x.1))(hp:en.proc=0\/en.proc=1):
  Calls Tryz.prog 290 #[ptr b,.int .i64 en.proc,X] w fun e w'=>∃O,e=.returned O/\Did w F log en b K 1 W O (R.Cs 1 log en.proc en.arg) w':=by
 obtain⟨x,hx,hx0⟩:=ha;rw[hx]at hX;obtain⟨a,cap,rfl,hcap,hc⟩:=hX;rcases hc with h0|⟨bb,off,rfl,hlt',hc⟩
 ·simp at h0
 obtain⟨c0,c1⟩:=hc 0 x rfl;simp only[Nat.zero_mul,Nat.add_zero]at c0 c1;have q1:(0:Int)<((1:Nat):Int):=by omega
 generalize hk0:(1:Int)=kd at h;cases h with
 |counter=>cases hk0
 |IP=>cases hk0
 |Fh hF hb hK hKF=>
  have h4:=R.IX log;have hsn:=P7 log en;have hargS:R.TT en.arg 0=x.2:=by rw[hx];rfl
  have hargN:R.Iv en.arg 0=x.1:=by rw[hx];rfl
  rw[hargS]at hsn;rcases hp with hp|hp
  ·have e1:(en.proc==0)=true:=by simpa using hp
   rw[if_pos hp]at hsn;have HC:Hid (Calls Tryz.prog 291 #[ptr b,.string x.2] w fun e w'=>∃O,e=.returned O/\JJ w b K (R.Br (log++[en])) O w'):=by
    obtain⟨a,c,rfl⟩:=Bg hK;by_cases hq:(R.Br log).length<4
    ·rw[hsn,if_pos hq];exact XF w b c a _ x.2 hq hb hK
    ·rw[hsn,if_neg hq];have e4:(R.Br log).length=4:=by omega
     rw[e4]at hb hK ⊢;exact UL w b c a _ x.2 e4 hb hK
   have HF:Hid (∀O w',JJ w b K (R.Br (log++[en])) O w'->Did w F log en b K 1 (.iface 331 (ptr b)) O (R.Cs 1 log en.proc en.arg) w'):=fun O w' hP=>by
    have hd:R.Cs 1 log en.proc en.arg=[(((R.Br (log++[en])).length:Int),⟨#[]⟩)]:=by
     unfold R.Cs;rw[if_neg (by decide),if_pos rfl,if_pos hp,hsn];unfold R.num;congr 2;by_cases hq:(R.Br log).length<4
     ·rw[if_pos hq];simp;omega
     ·rw[if_neg hq];simp;omega
    rw[hd];obtain⟨K',k1,k2,k3⟩:=hP.cell;refine⟨hP.row,hP.keep,K',.Fh (Or.inl hF) k1 k2 (fun j hj=>?_),?_⟩
    ·rcases k3 with k3|⟨j',hj',q1,q2⟩
     ·exact Or.inl (hKF j (k3 ▸ hj))
     ·rw[hj']at hj;cases hj;exact Or.inr ⟨q1,q2⟩
    ·rcases k3 with k3|⟨j',hj',q1,q2⟩
     ·exact Or.inl k3
     ·exact Or.inr ⟨j',hj',q1⟩
   clear hb hsn hp hK hx0;go_enter Tryz.func290,Tryz.ntmps290;go_wp2_with (first|(go_at_call 291;refine(Aa HC).mono ?_;rintro e w1 ⟨O,rfl,hw1⟩;have HW:=Ab hw1;clear hw1))
   go_returns;exact⟨_,rfl,(Aa HF) _ _ (Aa HW)⟩
  ·have e1:(en.proc==0)=false:=by simp[hp]
   rw[if_neg (by omega)]at hsn;have hlb:=lt_of_block hb;have HC:=Ab (Ya w b x.1 K (R.Br log) (hx0 hp) h4 hb hK);have HF:Hid (∀O w',V.Row w' w.heap.size O (BP ((R.Br log).take x.1.toNat).length (R.Br log) x.1.toNat)->Below w.heap.size w w'->Did w F log en b K 1 (.iface 331 (ptr b)) O (R.Cs 1 log en.proc en.arg) w'):=fun O w' hR hB=>by
    have hd:R.Cs 1 log en.proc en.arg=BP ((R.Br log).take x.1.toNat).length (R.Br log) x.1.toNat:=by
     unfold R.Cs;rw[if_neg (by decide),if_pos rfl,if_neg (by omega),hargN];rfl
    rw[hd];refine⟨hR,Af.Aj hB _,K,.Fh (Or.inl hF) ?_ ?_ (fun j hj=>Or.inl (hKF j hj)),Or.inl rfl⟩
    ·rw[hB.block b hlb];exact hb
    ·rw[hsn];exact Bu hK hB
   clear hb hsn hp hK hx0;go_enter Tryz.func290,Tryz.ntmps290;go_wp2_with (first|(go_at_call 292;refine(Aa HC).mono ?_;rintro e w1 ⟨O,rfl,hw1,hw2⟩;have HW:=Ab hw1;have HW2:=Ab hw2;clear hw1 hw2))
   go_returns;exact⟨_,rfl,(Aa HF) _ _ (Aa HW) (Aa HW2)⟩
theorem He(w:World)(c0 c1 c2 c3 c4 pr:Int)(a1 a2:Option Addr)(n1 k1 n2 k2:Nat):
  Calls Tryz.prog 134 #[.agg #[.int .i64 c0,.int .i64 c1,.int .i64 c2,.int .i64 c3,.int .i64 c4],.int .i64 pr,.slice a1 n1 k1,.slice a2 n2 k2] w fun e w'=>e=.returned (.agg #[.int .i64 c0,.int .i64 c1,.int .i64 c2,.int .i64 c3,.int .i64 pr,.slice a1 n1 k1,.slice a2 n2 k2])/\Below w.heap.size w w':=by
 have HB:Hid (∀o1 o2,Below w.heap.size w ((w.alloc o1).alloc o2)):=fun o1 o2=>((Below.refl _ _).alloc (Nat.le_refl _) _).alloc (by simp) _
 go_enter Tryz.func134,Tryz.ntmps134;go_wp2;go_returns;exact⟨rfl,(Aa HB) _ _⟩
def YE(y:Ku)(r:List UInt8):Ku:={y with state:=2,asked:=[],answer:=r,at':=0,wait:=0,tries:=0}
theorem Rl(w:World)(b:Nat)(y:Ku)(r:List UInt8)(h:w.heap[b]?=some (.cells y.cells.toArray 147 (0,0))):
  Calls Tryz.prog 135 #[ptr b,.string (str r)] w fun e w'=>e=.returned (.tuple #[])/\w'.heap[b]?=some (.cells (YE y r).cells.toArray 147 (0,0))/\Af (fun k=>k=b) w w':=by
 obtain⟨a0,a1,a2,a3,a4,a5,a6,a7,a8,a9,YD⟩:=TK h;have z:∀j,w.frozen? ⟨b,j,none⟩=false:=fun j=>open_list h
 have hl:=lt_of_block h;have HE:Hid (∀W,W=((((((((((w.setCell ⟨b,0,none⟩ (.int .i64 y.client)).setCell ⟨b,1,none⟩ (.int .i64 y.Ag)).setCell ⟨b,2,none⟩ (.int .i64 y.line)).setCell ⟨b,3,none⟩ (.int .i64 y.seq)).setCell ⟨b,4,none⟩ (.int .i64 y.uid)).setCell ⟨b,5,none⟩ (.int .i64 2)).setCell ⟨b,6,none⟩ (.string ⟨#[]⟩)).setCell ⟨b,7,none⟩ (.string (str r))).setCell ⟨b,8,none⟩ (.int .i64 0)).setCell ⟨b,9,none⟩ (.int .i64 0)).setCell ⟨b,10,none⟩ (.int .i64 0)->W.heap[b]?=some (.cells (YE y r).cells.toArray 147 (0,0))/\Af (fun k=>k=b) w W):=fun W hW=>by
  subst hW;refine⟨?_,((((((((((Am _).trans (Am _)).trans (Am _)).trans (Am _)).trans (Am _)).trans (Am _)).trans (Am _)).trans (Am _)).trans (Am _)).trans (Am _)).trans (Am _)⟩;have e0:=Ak (off:=0) h (.int .i64 y.client);have e1:=Ak (off:=1) e0 (.int .i64 y.Ag);have e2:=Ak (off:=2) e1 (.int .i64 y.line);have e3:=Ak (off:=3) e2 (.int .i64 y.seq);have e4:=Ak (off:=4) e3 (.int .i64 y.uid);have e5:=Ak (off:=5) e4 (.int .i64 2);have e6:=Ak (off:=6) e5 (.string ⟨#[]⟩);have e7:=Ak (off:=7) e6 (.string (str r));have e8:=Ak (off:=8) e7 (.int .i64 0);have e9:=Ak (off:=9) e8 (.int .i64 0);exact Ak (off:=10) e9 (.int .i64 0)
 clear h;go_enter Tryz.func135,Tryz.ntmps135;go_wp2;go_returns;exact⟨rfl,(Aa HE) _ rfl⟩
end Go.Proofs.YtblomippkddgiaaGreatDoor
