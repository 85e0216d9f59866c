import Derived.Test.YtblomippkddgiaaGreatDoorK00
set_option maxRecDepth 100000
set_option maxHeartbeats 4000000
namespace Go.Proofs.YtblomippkddgiaaGreatDoor
open Go.RowKit
theorem N7(a c:Nat)(ha:a<256)(hc:c<256):bits .or .i64 ((a:Int)*256) (c:Int)=(a:Int)*256+(c:Int):=by
 have e:a*256 ||| c=a*256+c:=by
  have h:=Nat.two_pow_add_eq_or_of_lt (i:=8) (b:=c) (by omega) a;rw[show 2 ^ 8*a=a*256 by omega]at h;exact h.symm
 have e0:(a:Int)*256=((a*256:Nat):Int):=by omega
 rw[e0];have n1:(BitVec.ofInt 64 ((a*256:Nat):Int)).toNat=a*256:=by
  rw[BitVec.ofInt_natCast,BitVec.toNat_ofNat];omega
 have n2:(BitVec.ofInt 64 (c:Int)).toNat=c:=by
  rw[BitVec.ofInt_natCast,BitVec.toNat_ofNat];omega
 show IntKind.i64.wrap ((BitVec.ofInt 64 ((a*256:Nat):Int) ||| BitVec.ofInt 64 (c:Int)).toNat:Int)=_;rw[BitVec.toNat_or,n1,n2,e,IntKind.wrap_i64];omega
def acX(b:Nat)(l:List UInt8)(w:World)(e:Ending)(w':World):Prop:=DW b w w'/\((l.length<2/\e=Ax 7 0)\/∃a c r,l=a :: c :: r/\e=.returned (.int .i64 (BK a c))/\Rd w' b r)
theorem TH(b:Nat)(l:List UInt8)(w:World)(h:Rd w b l)(hl:l.length<=9223372036854775807):Calls Tryz.prog 114 #[.pointer (some ⟨b,0,none⟩)] w (acX b l w):=by
 have H1:=Ab (G3 b l w h hl);have H2:=Ab (fun (r:List UInt8) (w:World) (h:Rd w b r) (hl:r.length<=9223372036854775807)=>G3 b r w h hl);clear h;go_enter Tryz.func114,Tryz.ntmps114;go_wp2_with fail
 refine(Aa H1).mono ?_;rintro e w1 ⟨hk1,⟨rfl,rfl⟩|⟨a,r,rfl,rfl,hr1⟩⟩
 ·go_wp2;exact⟨rfl,hk1,Or.inl ⟨by simp,rfl⟩⟩
 ·have H3:=Ab ((Aa H2) r w1 hr1 (by simp at hl;omega));clear H2 hr1;have ha:=a.toNat_lt;have hw:wrap64 ((a.toNat:Int)*256)=(a.toNat:Int)*256:=by unfold wrap64;omega
  go_wp2_with fail
  refine(Aa H3).mono ?_;rintro e w2 ⟨hk2,⟨rfl,rfl⟩|⟨c,r,rfl,rfl,hr2⟩⟩
  ·go_wp2;exact⟨rfl,hk1.trans hk2,Or.inl ⟨by simp,rfl⟩⟩
  ·have hc:=c.toNat_lt;have ho:=N7 a.toNat c.toNat (by omega) (by omega);have HR:=Ab hr2;clear hr2;go_wp2
   go_ret
   exact⟨hk1.trans hk2,Or.inr ⟨a,c,r,rfl,rfl,Aa HR⟩⟩
theorem YY(b:Nat)(l:List UInt8)(w:World)(h:Rd w b l)(hl:l.length<=9223372036854775807):Calls Tryz.prog 69 #[.pointer (some ⟨b,0,none⟩)] w fun e w'=>w'=w/\e=if l=[] then .returned (.tuple #[]) else Ax 7 0:=by
 have H:=Ab (B6 b l w h);have h1:=h.left;have hsz:=Az l;by_cases h0:l=[]
 ·subst h0;clear h;go_enter Tryz.func69,Tryz.ntmps69;go_wp2
  go_end0
  exact⟨rfl,rfl⟩
 ·have hp:=List.length_pos_iff.2 h0;rw[if_neg h0];have hgt:(0:Int)<((str l).size:Int):=by omega
  generalize str l=S at *;clear h h0;go_enter Tryz.func69,Tryz.ntmps69;go_wp2_with fail
  refine(Aa H).mono ?_;rintro e w1 ⟨rfl,rfl⟩;go_wp2;exact⟨rfl,rfl,rfl⟩
def abV(b:Nat)(l:List UInt8)(w:World)(e:Ending)(w':World):Prop:=DW b w w'/\(((∀f r,l=f :: r->¬f.toNat<=1)/\e=Ax 7 0)\/∃f r,l=f :: r/\f.toNat<=1/\e=.returned (.bool ((f.toNat:Int)==1))/\Rd w' b r)
theorem Wp(b:Nat)(l:List UInt8)(w:World)(h:Rd w b l)(hl:l.length<=9223372036854775807):Calls Tryz.prog 115 #[.pointer (some ⟨b,0,none⟩)] w (abV b l w):=by
 have H1:=Ab (G3 b l w h hl);have H2:=Ab (fun (r:List UInt8) (w:World) (h:Rd w b r)=>B6 b r w h);clear h;go_enter Tryz.func115,Tryz.ntmps115;go_wp2_with fail
 refine(Aa H1).mono ?_;rintro e w1 ⟨hk1,⟨rfl,rfl⟩|⟨a,r,rfl,rfl,hr1⟩⟩
 ·go_wp2;exact⟨rfl,hk1,Or.inl ⟨fun f r h=>(by cases h),rfl⟩⟩
 ·by_cases h1:(1:Int)<(a.toNat:Int)
  ·have H3:=Ab ((Aa H2) r w1 hr1);clear H2 hr1;go_wp2_with fail
   refine(Aa H3).mono ?_;rintro e w2 ⟨rfl,rfl⟩;go_wp2;refine⟨rfl,hk1,Or.inl ⟨fun f r h=>?_,rfl⟩⟩;cases h;omega
  ·have HR:=Ab hr1;clear hr1 H2;go_wp2
   go_ret
   exact⟨hk1,Or.inr ⟨a,r,rfl,by omega,rfl,Aa HR⟩⟩
def abB(b:Nat)(l:List UInt8)(w:World)(e:Ending)(w':World):Prop:=DW b w w'/\(((∀L r,l=L :: r->¬L.toNat<=r.length)/\e=Ax 7 0)\/∃L r,l=L :: r/\L.toNat<=r.length/\e=.returned (.string (str (r.take L.toNat)))/\Rd w' b (r.drop L.toNat))
theorem VU(b:Nat)(l:List UInt8)(w:World)(h:Rd w b l)(hl:l.length<=9223372036854775807):Calls Tryz.prog 116 #[.pointer (some ⟨b,0,none⟩)] w (abB b l w):=by
 have H1:=Ab (G3 b l w h hl);clear h;go_enter Tryz.func116,Tryz.ntmps116;go_wp2_with fail
 refine(Aa H1).mono ?_;rintro e w1 ⟨hk1,⟨rfl,rfl⟩|⟨L,r,rfl,rfl,hr1⟩⟩
 ·go_wp2;exact⟨rfl,hk1,Or.inl ⟨fun f r h=>(by cases h),rfl⟩⟩
 ·have hL:=L.toNat_lt;have hrl:r.length<=9223372036854775807:=by simp at hl;omega
  by_cases h1:L.toNat<=r.length
  ·have H2:=Ab (Fx b r L.toNat w1 hr1 h1 hrl);have hset:=hr1.set (r.drop L.toNat);have H3:=Ab (Ek (r.take L.toNat) (w1.setCell ⟨b,0,none⟩ (.string (str (r.drop L.toNat)))) (by rw[List.length_take];omega));have HO:=Ab (DW.set b 0 w1 (.string (str (r.drop L.toNat))));have HS:=Ab hset;have hsl:=hset.lt;clear hset hr1;generalize hA:str (r.take L.toNat)=A at *;generalize hB:w1.setCell ⟨b,0,none⟩ (.string (str (r.drop L.toNat)))=W at *;go_wp2_with fail
   refine(Aa H2).mono ?_;rintro e w2 ⟨rfl,rfl⟩;go_wp2_with fail
   refine(Aa H3).mono ?_;rintro e w3 ⟨rfl,hb3⟩;go_wp2
   go_ret
   refine⟨(hk1.trans (Aa HO)).trans (DW.of_below hb3 (by omega)),Or.inr ⟨L,r,rfl,h1,by rw[hA];rfl,(Aa HS).below hb3 hsl⟩⟩
  ·have H2:=Ab (JD b r L.toNat w1 hr1 h1);clear hr1;go_wp2_with fail
   refine(Aa H2).mono ?_;rintro e w2 ⟨rfl,rfl⟩;go_wp2;refine⟨rfl,hk1,Or.inl ⟨fun f r h=>?_,rfl⟩⟩;cases h;exact h1
abbrev pv(p:Pk):Value:=.agg #[.int .i64 p.kind,.int .i64 p.client,.int .i64 p.Ag,.int .i64 p.line,.int .i64 p.seq,.int .i64 p.uid,.int .i64 p.part,.int .i64 p.off,.bool p.please,.string (str p.body)]
abbrev Yz:Value:=.agg #[.int .i64 0,.int .i64 0,.int .i64 0,.int .i64 0,.int .i64 0,.int .i64 0,.int .i64 0,.int .i64 0,.bool false,.string ⟨#[]⟩]
abbrev zeroCells:Array Value:=#[.int .i64 0,.int .i64 0,.int .i64 0,.int .i64 0,.int .i64 0,.int .i64 0,.int .i64 0,.int .i64 0,.bool false,.string ⟨#[]⟩]
structure St(b:Nat)(w W:World)(l:List UInt8):Prop where
 only:DW b w W
 rd:Rd W b l
 len:l.length<=9223372036854775807
theorem Tb{b:Nat}{w W:World}{l:List UInt8}(h:St b w W l):Calls Tryz.prog 113 #[.pointer (some ⟨b,0,none⟩)] W fun e W'=>(l=[]/\e=Ax 7 0/\DW b w W')\/∃c r,l=c :: r/\e=.returned (.int .i64 (c.toNat:Int))/\St b w W' r:=by
 refine(G3 b l W h.rd h.len).mono ?_;rintro e w1 ⟨hk1,⟨h1,h2⟩|⟨a,r,h1,h2,hr1⟩⟩
 ·exact Or.inl ⟨h1,h2,h.only.trans hk1⟩
 ·refine Or.inr ⟨a,r,h1,h2,h.only.trans hk1,hr1,?_⟩;have:=h.len;rw[h1,List.length_cons]at this;omega
theorem abg{b:Nat}{w W:World}{l:List UInt8}(h:St b w W l):Calls Tryz.prog 114 #[.pointer (some ⟨b,0,none⟩)] W fun e W'=>(l.length<2/\e=Ax 7 0/\DW b w W')\/∃a c r,l=a :: c :: r/\e=.returned (.int .i64 (BK a c))/\St b w W' r:=by
 refine(TH b l W h.rd h.len).mono ?_;rintro e w1 ⟨hk1,⟨h1,h2⟩|⟨a,c,r,h1,h2,hr1⟩⟩
 ·exact Or.inl ⟨h1,h2,h.only.trans hk1⟩
 ·refine Or.inr ⟨a,c,r,h1,h2,h.only.trans hk1,hr1,?_⟩;have:=h.len;rw[h1,List.length_cons,List.length_cons]at this;omega
theorem Y8{b:Nat}{w W:World}{l:List UInt8}(h:St b w W l):Calls Tryz.prog 115 #[.pointer (some ⟨b,0,none⟩)] W fun e W'=>((∀f r,l=f :: r->¬f.toNat<=1)/\e=Ax 7 0/\DW b w W')\/∃f r,l=f :: r/\Hid (f.toNat<=1)/\e=.returned (.bool ((f.toNat:Int)==1))/\St b w W' r:=by
 refine(Wp b l W h.rd h.len).mono ?_;rintro e w1 ⟨hk1,⟨h1,h2⟩|⟨a,r,h1,h3,h2,hr1⟩⟩
 ·exact Or.inl ⟨h1,h2,h.only.trans hk1⟩
 ·refine Or.inr ⟨a,r,h1,h3,h2,h.only.trans hk1,hr1,?_⟩;have:=h.len;rw[h1,List.length_cons]at this;omega
theorem YG{b:Nat}{w W:World}{l:List UInt8}(h:St b w W l):Calls Tryz.prog 116 #[.pointer (some ⟨b,0,none⟩)] W fun e W'=>((∀L r,l=L :: r->¬L.toNat<=r.length)/\e=Ax 7 0/\DW b w W')\/∃L r,l=L :: r/\Hid (L.toNat<=r.length)/\e=.returned (.string (str (r.take L.toNat)))/\St b w W' (r.drop L.toNat):=by
 refine(VU b l W h.rd h.len).mono ?_;rintro e w1 ⟨hk1,⟨h1,h2⟩|⟨a,r,h1,h3,h2,hr1⟩⟩
 ·exact Or.inl ⟨h1,h2,h.only.trans hk1⟩
 ·refine Or.inr ⟨a,r,h1,h3,h2,h.only.trans hk1,hr1,?_⟩;have:=h.len;rw[h1,List.length_cons]at this;rw[List.length_drop];omega
theorem cell_of{w:World}{s:Nat}{xs:Array Value}{t:TypeId}(h:w.heap[s]?=some (.cells xs t (0,0)))(o:Nat)(v:Value)(hv:xs[o]?=some v):w.cell? ⟨s,o,none⟩=some v:=by
 simp[World.cell?,h,hv]
theorem D4{w:World}{s:Nat}{xs:Array Value}{t:TypeId}(h:w.heap[s]?=some (.cells xs t (0,0)))(o:Nat):w.frozen? ⟨s,o,none⟩=false:=by
 simp[World.frozen?,h]
theorem DW.put{b s o:Nat}{w w1:World}(h:DW b w w1)(hs:w.heap.size<=s)(hb:b<s)(x:Value):DW b w (w1.setCell ⟨s,o,none⟩ x):=
 ⟨h.below.setCell (by simp;omega) _,by simpa using h.size,fun k hk hkb=>(Below.heap_setCell _ _ _ _ (by simp;omega)).trans (h.block k hk hkb)⟩
theorem Rd.other{w:World}{b s o:Nat}{l:List UInt8}(h:Rd w b l)(hb:b<s)(x:Value):Rd (w.setCell ⟨s,o,none⟩ x) b l:=by
 unfold Rd at h ⊢;rw[Below.heap_setCell _ _ _ _ (by simp;omega)];exact h
abbrev TE(w:World)(s:Nat)(x0 x1 x2 x3 x4 x5 x6 x7 x8 x9:Value):World:=(((((((((w.setCell ⟨s,0,none⟩ x0).setCell ⟨s,1,none⟩ x1).setCell ⟨s,2,none⟩ x2).setCell ⟨s,3,none⟩ x3).setCell ⟨s,4,none⟩ x4).setCell ⟨s,5,none⟩ x5).setCell ⟨s,6,none⟩ x6).setCell ⟨s,7,none⟩ x7).setCell ⟨s,8,none⟩ x8).setCell ⟨s,9,none⟩ x9
theorem aaV{b s:Nat}{w w1:World}(h:DW b w w1)(hs:w.heap.size<=s)(hb:b<s)(x0 x1 x2 x3 x4 x5 x6 x7 x8 x9:Value):DW b w (TE w1 s x0 x1 x2 x3 x4 x5 x6 x7 x8 x9):=
 (((((((((h.put hs hb _).put hs hb _).put hs hb _).put hs hb _).put hs hb _).put hs hb _).put hs hb _).put hs hb _).put hs hb _).put hs hb _
theorem acR{w:World}{b s:Nat}{l:List UInt8}(h:Rd w b l)(hb:b<s)(x0 x1 x2 x3 x4 x5 x6 x7 x8 x9:Value):Rd (TE w s x0 x1 x2 x3 x4 x5 x6 x7 x8 x9) b l:=
 (((((((((h.other hb _).other hb _).other hb _).other hb _).other hb _).other hb _).other hb _).other hb _).other hb _).other hb _
def Rm(b:Nat)(l:List UInt8)(w:World)(e:Ending)(w':World):Prop:=DW b w w'/\((BJ l=none/\e=Ax 7 0)\/∃p r,BJ l=some (p,r)/\e=.returned (pv p)/\Rd w' b r)
theorem few(l:List UInt8)(h:l.length<11):BJ l=none:=by
 unfold BJ;split
 ·simp only[List.length_cons]at h;omega
 ·rfl
theorem acL{k c li ln s1 s2 u pa o:UInt8}{l:List UInt8}(h:∀f r,l=f :: r->¬f.toNat<=1):BJ (k :: c :: li :: ln :: s1 :: s2 :: u :: pa :: o :: l)=none:=by
 unfold BJ;split
 ·rename_i he;simp only[List.cons.injEq]at he;obtain⟨_,_,_,_,_,_,_,_,_,he⟩:=he;rw[if_neg (fun hh=>h _ _ he hh.1)]
 ·rfl
theorem abT{k c li ln s1 s2 u pa o f:UInt8}{l:List UInt8}(h:∀L r,l=L :: r->¬L.toNat<=r.length):BJ (k :: c :: li :: ln :: s1 :: s2 :: u :: pa :: o :: f :: l)=none:=by
 unfold BJ;split
 ·rename_i he;simp only[List.cons.injEq]at he;obtain⟨_,_,_,_,_,_,_,_,_,_,he⟩:=he;rw[if_neg (fun hh=>h _ _ he hh.2)]
 ·rfl
theorem abz{k c li ln s1 s2 u pa o f L:UInt8}{r:List UInt8}(h1:f.toNat<=1)(h2:L.toNat<=r.length):BJ (k :: c :: li :: ln :: s1 :: s2 :: u :: pa :: o :: f :: L :: r)=some (⟨k.toNat,c.toNat,li.toNat,ln.toNat,BK s1 s2,u.toNat,pa.toNat,o.toNat,(f.toNat:Int)==1,r.take L.toNat⟩,r.drop L.toNat):=by
 show (if f.toNat<=1/\L.toNat<=r.length then _ else _)=_;rw[if_pos ⟨h1,h2⟩]
theorem Rn(b:Nat)(l:List UInt8)(w:World)(h:Rd w b l)(hl:l.length<=9223372036854775807):Calls Tryz.prog 66 #[.pointer (some ⟨b,0,none⟩)] w (Rm b l w):=by
 have hbl:=h.lt;have hB0:DW b w ((w.alloc (.cells zeroCells 41)).drew):=⟨((Below.refl _ _).alloc (by omega) _).drew,by simp,fun k hk _=>Below.heap_alloc _ _ _ hk⟩;have h0:Rd ((w.alloc (.cells zeroCells 41)).drew) b l:=by
  unfold Rd at h ⊢;show (w.alloc _).heap[b]?=_;rw[Below.heap_alloc _ _ _ hbl];exact h
 obtain⟨W,hW⟩:∃W,W=(w.alloc (.cells zeroCells 41)).drew:=⟨_,rfl⟩;have hz0:W.heap[w.heap.size]?=some (.cells zeroCells 41 (0,0)):=by
  rw[hW];show (w.heap.push _)[w.heap.size]?=_;rw[Array.getElem?_push_size]
 have hst:St b W W l:=⟨DW.refl _ _,hW ▸ h0,hl⟩;rw[<-hW]at hB0;have hWs:w.heap.size<W.heap.size:=lt_of_block hz0;clear h h0 hl;go_enter Tryz.func66,Tryz.ntmps66;go_wp2;go_region_with (first
  |(go_at_call 113;refine(Tb (by rw[<-hW];exact hst)).mono ?_;rintro e w1 (⟨rfl,rfl,hbw⟩|⟨c,r,rfl,rfl,hst⟩);(exact⟨rfl,hB0.trans hbw,Or.inl ⟨few _ (by simp),rfl⟩⟩))
  |(go_at_call 113;refine(Tb (by assumption)).mono ?_;rintro e w1 (⟨rfl,rfl,hbw⟩|⟨c,r,rfl,rfl,hst⟩);(exact⟨rfl,hB0.trans hbw,Or.inl ⟨few _ (by simp),rfl⟩⟩))
  |(go_at_call 114;refine(abg (by assumption)).mono ?_;rintro e w1 (⟨hlt,rfl,hbw⟩|⟨c,d,r,rfl,rfl,hst⟩);(exact⟨rfl,hB0.trans hbw,Or.inl ⟨few _ (by simp only[List.length_cons];omega),rfl⟩⟩))
  |(go_at_call 115;refine(Y8 (by assumption)).mono ?_;rintro e w1 (⟨hlt,rfl,hbw⟩|⟨f,r,rfl,hf1,rfl,hst⟩);(exact⟨rfl,hB0.trans hbw,Or.inl ⟨acL hlt,rfl⟩⟩))
  |(go_at_call 116;refine(YG (by assumption)).mono ?_;rintro e w1 (⟨hlt,rfl,hbw⟩|⟨L,r,rfl,hL1,rfl,hst⟩);(exact⟨rfl,hB0.trans hbw,Or.inl ⟨abT hlt,rfl⟩⟩);have hzz:=(hst.only.block _ hWs (by omega)).trans hz0;have c0:=cell_of hzz 0 _ rfl;have c1:=cell_of hzz 1 _ rfl;have c2:=cell_of hzz 2 _ rfl;have c3:=cell_of hzz 3 _ rfl;have c4:=cell_of hzz 4 _ rfl;have c5:=cell_of hzz 5 _ rfl;have c6:=cell_of hzz 6 _ rfl;have c7:=cell_of hzz 7 _ rfl;have c8:=cell_of hzz 8 _ rfl;have c9:=cell_of hzz 9 _ rfl;have cz:=D4 hzz;clear hzz))
 have FO:=Ab (hB0.trans hst.only);have FR:=Ab hst.rd;clear hst;go_wp2;refine bodyPost_ret (v:=pv ⟨_,_,_,_,_,_,_,_,_,_⟩) (by simp[results,Tryz.results66,go_sem,c0,c1,c2,c3,c4,c5,c6,c7,c8,c9]) rfl ⟨aaV (Aa FO) (Nat.le_refl _) hbl _ _ _ _ _ _ _ _ _ _,Or.inr ⟨_,_,abz (Aa hf1) (Aa hL1),rfl,acR (Aa FR) hbl _ _ _ _ _ _ _ _ _ _⟩⟩
def ZV(n lo hi:Int)(w:World)(e:Ending)(w':World):Prop:=w'=w/\(((lo<=n/\n<=hi)/\e=.returned (.tuple #[]))\/(¬(lo<=n/\n<=hi)/\e=Ax 7 0))
theorem SS(n lo hi:Int)(w:World):Calls Tryz.prog 117 #[.int .i64 n,.int .i64 lo,.int .i64 hi] w (ZV n lo hi w):=by
 by_cases h1:n<lo
 ·go_enter Tryz.func117,Tryz.ntmps117;go_wp2;exact⟨rfl,rfl,Or.inr ⟨by omega,rfl⟩⟩
 ·by_cases h2:hi<n
  ·go_enter Tryz.func117,Tryz.ntmps117;go_wp2;exact⟨rfl,rfl,Or.inr ⟨by omega,rfl⟩⟩
  ·go_enter Tryz.func117,Tryz.ntmps117;go_wp2
   go_end0
   exact⟨rfl,Or.inl ⟨⟨by omega,by omega⟩,rfl⟩⟩
def Cx(kind part off:Int):Int×Int:=if kind=1\/kind=5 then (if part<off-1 then (8,8) else (0,8)) else (0,0)
theorem MI(p:Pk):((Cx p.kind p.part p.off).1<=(p.body.length:Int)/\(p.body.length:Int)<=(Cx p.kind p.part p.off).2)↔C5 p:=by
 unfold Cx C5;split
 ·split<;>simp<;>omega
 ·simp
abbrev Ms(k c li ln sq u pa o:Int)(pl:Bool)(S:ByteArray):Value:=.agg #[.int .i64 k,.int .i64 c,.int .i64 li,.int .i64 ln,.int .i64 sq,.int .i64 u,.int .i64 pa,.int .i64 o,.bool pl,.string S]
theorem QU(k c li ln sq u pa o:Int)(pl:Bool)(S:ByteArray)(w:World)(ho:1<=o/\o<=9):
  Calls Tryz.prog 118 #[Ms k c li ln sq u pa o pl S] w fun e w'=>e=.returned (.tuple #[.int .i64 (Cx k pa o).1,.int .i64 (Cx k pa o).2])/\Below w.heap.size w w':=by
 have hw:wrap64 (o-1)=o-1:=by unfold wrap64;omega
 have HB:=Ab ((Below.refl w.heap.size w).alloc (Nat.le_refl _) (.cells #[.int .i64 k,.int .i64 c,.int .i64 li,.int .i64 ln,.int .i64 sq,.int .i64 u,.int .i64 pa,.int .i64 o,.bool pl,.string S] 41));by_cases h1:k=1
 ·subst h1;by_cases h2:pa<o-1
  ·have e:Cx 1 pa o=(8,8):=by simp[Cx,h2]
   rw[e];go_enter Tryz.func118,Tryz.ntmps118;go_wp2;exact bodyPost_ret (v:=.tuple #[.int .i64 8,.int .i64 8]) (by simp[results,Tryz.results118,go_sem]) rfl ⟨rfl,Aa HB⟩
  ·have e:Cx 1 pa o=(0,8):=by simp[Cx,h2]
   rw[e];go_enter Tryz.func118,Tryz.ntmps118;go_wp2;exact bodyPost_ret (v:=.tuple #[.int .i64 0,.int .i64 8]) (by simp[results,Tryz.results118,go_sem]) rfl ⟨rfl,Aa HB⟩
 ·have hk:(k != 1)=true:=by simpa using h1
  by_cases h5:k=5
  ·subst h5;by_cases h2:pa<o-1
   ·have e:Cx 5 pa o=(8,8):=by simp[Cx,h2]
    rw[e];go_enter Tryz.func118,Tryz.ntmps118;go_wp2;exact bodyPost_ret (v:=.tuple #[.int .i64 8,.int .i64 8]) (by simp[results,Tryz.results118,go_sem]) rfl ⟨rfl,Aa HB⟩
   ·have e:Cx 5 pa o=(0,8):=by simp[Cx,h2]
    rw[e];go_enter Tryz.func118,Tryz.ntmps118;go_wp2;exact bodyPost_ret (v:=.tuple #[.int .i64 0,.int .i64 8]) (by simp[results,Tryz.results118,go_sem]) rfl ⟨rfl,Aa HB⟩
  ·have hk5:(k != 5)=true:=by simpa using h5
   have e:Cx k pa o=(0,0):=by simp[Cx,h1,h5]
   rw[e];clear h1 h5;go_enter Tryz.func118,Tryz.ntmps118;go_wp2;exact bodyPost_ret (v:=.tuple #[.int .i64 0,.int .i64 0]) (by simp[results,Tryz.results118,go_sem]) rfl ⟨rfl,Aa HB⟩
def M8(p:Pk)(w:World)(e:Ending)(w':World):Prop:=Below w.heap.size w w'/\((AJ p/\e=.returned (.tuple #[]))\/(¬AJ p/\e=Ax 7 0))
theorem UZ{k c li ln sq u pa o:Int}{pl:Bool}{body:List UInt8}(h:AJ ⟨k,c,li,ln,sq,u,pa,o,pl,body⟩):((1<=k/\k<=7)/\(0<=c/\c<=2)/\(1<=li/\li<=255)/\(0<=ln/\ln<=2)/\(1<=sq/\sq<=999)/\(1<=u/\u<=255)/\(1<=o/\o<=9)/\(0<=pa/\pa<=o-1))/\((Cx k pa o).1<=(body.length:Int)/\(body.length:Int)<=(Cx k pa o).2):=by
 obtain⟨h1,h2,h3,h4,h5,h6,h7,h8,h9⟩:=h;exact⟨⟨h1,h2,h3,h4,h5,h6,h7,h8⟩,(MI _).2 h9⟩
theorem M9(p:Pk)(w:World):Calls Tryz.prog 67 #[pv p] w (M8 p w):=by
 have HW:=Ab SS;have HBD:=Ab QU;obtain⟨k,c,li,ln,sq,u,pa,o,pl,body⟩:=p;have hsz:=Az body;obtain⟨S,hS⟩:∃S,S=str body:=⟨_,rfl⟩;have HB:=Ab ((Below.refl w.heap.size w).alloc (Nat.le_refl _) (.cells #[.int .i64 k,.int .i64 c,.int .i64 li,.int .i64 ln,.int .i64 sq,.int .i64 u,.int .i64 pa,.int .i64 o,.bool pl,.string S] 41));have HWH:Hid (AJ ⟨k,c,li,ln,sq,u,pa,o,pl,body⟩->_):=UZ;have HOK:=Ab (MI ⟨k,c,li,ln,sq,u,pa,o,pl,body⟩);obtain⟨post,hpost⟩:∃post,post=M8 ⟨k,c,li,ln,sq,u,pa,o,pl,body⟩ w:=⟨_,rfl⟩;have HNO:Hid (∀w',Below w.heap.size w w'->¬AJ ⟨k,c,li,ln,sq,u,pa,o,pl,body⟩->post (Ax 7 0) w'):=by
  rw[hpost];exact fun w' hb hr=>⟨hb,Or.inr ⟨hr,rfl⟩⟩
 have HYES:Hid (∀w',Below w.heap.size w w'->AJ ⟨k,c,li,ln,sq,u,pa,o,pl,body⟩->post (.returned (.tuple #[])) w'):=by
  rw[hpost];exact fun w' hb hr=>⟨hb,Or.inl ⟨hr,rfl⟩⟩
 show Calls Tryz.prog 67 #[Ms k c li ln sq u pa o pl (str body)] w _;rw[<-hS,<-hpost];have hsz2:(S.size:Int)=(body.length:Int):=by rw[hS,hsz]
 clear hsz hS hpost;go_enter Tryz.func67,Tryz.ntmps67;go_wp2_with (first
  |(go_at_call 117;refine((Aa HW) _ _ _ _).mono ?_;rintro e w1 ⟨rfl,⟨hin,rfl⟩|⟨hout,rfl⟩⟩;rotate_left;(exact⟨rfl,(Aa HNO) _ (Aa HB) (fun h=>by have hh:=((Aa HWH) h).1;omega)⟩);have ⟨hin1,hin2⟩:=hin))
 refine((Aa HBD) _ _ _ _ _ _ _ _ _ _ _ (by omega)).mono ?_;rintro e w2 ⟨rfl,hb2⟩;have hbw:=Ab ((Aa HB).trans (hb2.mono (by simp)));have c9:w2.cell? ⟨w.heap.size,9,none⟩=some (.string S):=(hb2.cell (p:=⟨w.heap.size,9,none⟩) (by simp)).trans (by simp[go_sem]);generalize Cx k pa o=B at *;obtain⟨b1,b2⟩:=B;go_wp2_with fail
 refine((Aa HW) _ _ _ _).mono ?_;rintro e w1 ⟨rfl,⟨hin,rfl⟩|⟨hout,rfl⟩⟩
 ·go_wp2
  go_end0
  refine(Aa HYES) _ (Aa hbw) ?_;exact⟨by omega,by omega,by omega,by omega,by omega,by omega,by omega,by omega,(Aa HOK).1 hin⟩
 ·go_wp2;exact⟨rfl,(Aa HNO) _ (Aa hbw) (fun h=>hout ((Aa HWH) h).2)⟩
def ZK(b:Nat)(l r:List UInt8)(w:World)(e:Ending)(w':World):Prop:=DW b w w'/\((Kz l r=none/\e=Ax 7 0)\/∃t,Kz l r=some t/\e=.returned (.tuple #[])/\Rd w' b t)
theorem ZM{l r:List UInt8}(h:r.length<2):Kz l r=none:=by
 unfold Kz;split
 ·simp at h;omega
 ·rfl
theorem ZL(b:Nat)(m r:List UInt8)(w:World)(h:Rd w b r)(hm:m.length<=1000)(hl:(m++r).length<=9223372036854775807):
  Calls Tryz.prog 68 #[.pointer (some ⟨b,0,none⟩),.string (str (m++r))] w (ZK b (m++r) r w):=by
 have hr:r.length<=9223372036854775807:=by rw[List.length_append]at hl;omega
 have H2:=Ab (TH b r w h hr);have H6:=Ab (fun w=>Kp m w (by omega));have HRF:=Ab (fun (r:List UInt8) (w:World) (h:Rd w b r)=>B6 b r w h);have h1:=h.left;have s1:=Az (m++r);have s2:=Az r;have ex:(str (m++r)).extract 0 m.length=str m:=by rw[CJ];simp
 have hw:wrap64 (((str (m++r)).size:Int)-((str r).size:Int))=(m.length:Int):=by
  rw[s1,s2,List.length_append];unfold wrap64;rw[List.length_append]at hl;omega
 have hle:(m.length:Int)<=((str (m++r)).size:Int):=by rw[s1,List.length_append];omega
 have HT:=Ab (JZ m r);have hcr:=NF m;have hcd:((crc m).toNat:Int)=FD m:=rfl;rw[hcd]at H6;generalize hC:FD m=C at *;generalize hS:str (m++r)=S at *;generalize hR:str r=R at *;generalize hM:str m=M at *;generalize m.length=n at *;clear h s1 s2 hR hcd;go_enter Tryz.func68,Tryz.ntmps68;go_wp2_with fail
 refine(Aa H2).mono ?_;rintro e w1 ⟨hk1,⟨hlt,rfl⟩|⟨a,c,t,rfl,rfl,hr1⟩⟩
 ·go_wp2;exact⟨rfl,hk1,Or.inl ⟨ZM hlt,rfl⟩⟩
 ·by_cases hne:BK a c=C
  ·have hb:(BK a c != C)=false:=by simpa using hne
   have HR:=Ab hr1;clear hr1 HRF;have HN:=Ab hne;clear hne;go_wp2_with fail
   refine((Aa H6) _).mono ?_;rintro e w2 ⟨rfl,rfl⟩;go_wp2
   go_end0
   refine⟨hk1,Or.inr ⟨t,?_,rfl,Aa HR⟩⟩;show (if BK a c=FD ((m++a :: c :: t).take ((m++a :: c :: t).length-(a :: c :: t).length)) then some t else none)=some t;rw[Aa HT,hC,if_pos (Aa HN)]
  ·have hb:(BK a c != C)=true:=by simpa using hne
   have HX:=Ab ((Aa HRF) t w1 hr1);clear hr1 HRF;have HN:=Ab hne;clear hne;go_wp2_with fail
   refine((Aa H6) _).mono ?_;rintro e w2 ⟨rfl,rfl⟩;go_wp2_with fail
   refine(Aa HX).mono ?_;rintro e w3 ⟨rfl,rfl⟩;go_wp2;refine⟨rfl,hk1,Or.inl ⟨?_,rfl⟩⟩;show (if BK a c=FD ((m++a :: c :: t).take ((m++a :: c :: t).length-(a :: c :: t).length)) then some t else none)=none;rw[Aa HT,hC,if_neg (Aa HN)]
def Qa(l:List UInt8)(w:World)(e:Ending)(w':World):Prop:=Below w.heap.size w w'/\((Dk l=none/\e=Ax 7 0)\/∃p,Dk l=some p/\e=.returned (pv p))
theorem Ro{l:List UInt8}{p:Pk}{r:List UInt8}(h:BJ l=some (p,r)):p.body.length<=255:=by
 unfold BJ at h;split at h
 ·split at h
  ·rename_i L t hc;cases h;simp only[List.length_take];have:=L.toNat_lt;omega
  ·cases h
 ·cases h
theorem XL{l:List UInt8}(h:BJ l=none):Dk l=none:=by
 unfold Dk;rw[h]
theorem XM{l r:List UInt8}{p:Pk}(h:BJ l=some (p,r))(hr:¬AJ p):Dk l=none:=by
 unfold Dk;rw[h];simp only;rw[if_neg hr]
theorem XN{l r:List UInt8}{p:Pk}(h:BJ l=some (p,r))(hs:Kz l r=none):Dk l=none:=by
 unfold Dk;rw[h];simp only;split
 ·rw[hs]
 ·rfl
theorem XO{l r t:List UInt8}{p:Pk}(h:BJ l=some (p,r))(hs:Kz l r=some t)(ht:t≠[]):Dk l=none:=by
 unfold Dk;rw[h];simp only;split
 ·rw[hs];cases t with
  |nil=>exact absurd rfl ht
  |cons _ _=>rfl
 ·rfl
theorem XP{l r:List UInt8}{p:Pk}(h:BJ l=some (p,r))(hr:AJ p)(hs:Kz l r=some []):Dk l=some p:=by
 unfold Dk;rw[h];simp only;rw[if_pos hr,hs]
theorem ZN{l r t:List UInt8}(h:Kz l r=some t):t.length<=r.length:=by
 unfold Kz at h;split at h
 ·split at h
  ·cases h;simp;omega
  ·cases h
 ·cases h
abbrev rdW(w:World)(l:List UInt8):World:=(w.alloc (.cells zeroCells 41)).alloc (.cells #[.string (str l),.int .i64 7] 127)
theorem aaX(w:World)(l:List UInt8):Rd (rdW w l) (w.heap.size+1) l:=by
 unfold Rd;have:=heap_alloc_new (w.alloc (.cells zeroCells 41)) (.cells #[.string (str l),.int .i64 7] 127);rw[show (w.alloc (.cells zeroCells 41)).heap.size=w.heap.size+1 by simp]at this;exact this
theorem XH(w:World)(l:List UInt8):(rdW w l).heap[w.heap.size]?=some (.cells zeroCells 41 (0,0)):=by
 rw[Below.heap_alloc _ _ _ (by simp)];exact heap_alloc_new w _
theorem UQ(w:World)(l:List UInt8):Below w.heap.size w (rdW w l):=((Below.refl _ _).alloc (Nat.le_refl _) _).alloc (by simp) _
theorem XI(l:List UInt8)(w:World)(hl:l.length<=9223372036854775807):Calls Tryz.prog 35 #[.string (str l)] w (Qa l w):=by
 have HF:=Ab (Rn (w.heap.size+1) l (rdW w l) (aaX w l) hl);have hW0:(rdW w l).heap.size=w.heap.size+2:=by simp
 obtain⟨post,hpost⟩:∃post,post=Qa l w:=⟨_,rfl⟩;have HNO:Hid (∀w',Below w.heap.size w w'->Dk l=none->post (Ax 7 0) w'):=by
  rw[hpost];exact fun w' hb hr=>⟨hb,Or.inl ⟨hr,rfl⟩⟩
 have HYES:Hid (∀w' p,Below w.heap.size w w'->Dk l=some p->post (.returned (pv p)) w'):=by
  rw[hpost];exact fun w' p hb hr=>⟨hb,Or.inr ⟨p,hr,rfl⟩⟩
 have HZ:=Ab (XH w l);have HB0:=Ab (UQ w l);rw[<-hpost];clear hpost;go_enter Tryz.func35,Tryz.ntmps35;go_wp2_with fail
 refine(Aa HF).mono ?_;rintro e w1 ⟨hk1,⟨hn,rfl⟩|⟨p,r,hp,rfl,hr1⟩⟩
 ·go_wp2;exact⟨rfl,(Aa HNO) _ ((Aa HB0).trans (hk1.below.mono (by omega))) (XL hn)⟩
 ·have hs1:=hk1.size;have HB1:=Ab ((Aa HB0).trans (hk1.below.mono (by omega:w.heap.size<=w.heap.size+1)));have HZ1:=Ab ((hk1.block _ (by omega) (by omega)).trans (Aa HZ));have HLEN:=Ab (Ro hp);have HHD:=Ab (Kc hp);have HP:=Ab hp;have HR1:=Ab hr1;have hlt1:=hr1.lt;clear hp hr1 hk1 HF;have HRT:=Ab (fun w=>M9 p w);obtain⟨k,c,li,ln,sq,u,pa,o,pl,body⟩:=p;go_wp2_with fail
  refine((Aa HRT) _).mono ?_;rintro e w3 ⟨hb3,⟨hrt,rfl⟩|⟨hnr,rfl⟩⟩
  ·have hs3:=hb3.size;have HB3:=Ab (((Aa HB1).alloc (by omega) (.cells #[.int .i64 k,.int .i64 c,.int .i64 li,.int .i64 ln,.int .i64 sq,.int .i64 u,.int .i64 pa,.int .i64 o,.bool pl,.string (str body)] 41)).trans (hb3.mono (by simp;omega)));have hk3:=(hb3.block w1.heap.size (by simp)).trans (heap_alloc_new w1 _);have hz3:=(hb3.block w.heap.size (by simp;omega)).trans ((Below.heap_alloc w1 _ _ (by omega)).trans (Aa HZ1));have hr3:Rd w3 (w.heap.size+1) r:=by
    have h:=Aa HR1;unfold Rd at h ⊢;rw[hb3.block _ (by simp;omega),Below.heap_alloc _ _ _ hlt1];exact h
   have hlr:r.length<=9223372036854775807:=by
    have:=congrArg List.length (Aa HHD);rw[List.length_append]at this;omega
   have hsum:=ZL (w.heap.size+1) (Da ⟨k,c,li,ln,sq,u,pa,o,pl,body⟩) r w3 hr3 (by have:=Jn ⟨k,c,li,ln,sq,u,pa,o,pl,body⟩;have h2:=Aa HLEN;simp only at this;omega) (by rw[<-Aa HHD];exact hl);rw[<-Aa HHD]at hsum;have HS:=Ab hsum;have HRT':=Ab hrt;simp at hs3;clear hsum hr3 hb3 hrt HRT HR1 HZ1 HZ HB0;go_wp2_with fail
   refine(Aa HS).mono ?_;rintro e w4 ⟨hk4,⟨hs,rfl⟩|⟨t,hs,rfl,hr4⟩⟩
   ·go_wp2;exact⟨rfl,(Aa HNO) _ ((Aa HB3).trans (hk4.below.mono (by omega))) (XN (Aa HP) hs)⟩
   ·have HE:=Ab (YY (w.heap.size+1) t w4 hr4 (by have:=ZN hs;omega));have HB4:=Ab ((Aa HB3).trans (hk4.below.mono (by omega:w.heap.size<=w.heap.size+1)));have hk:=(hk4.block _ (by omega) (by omega)).trans hk3;have hz:=(hk4.block _ (by omega) (by omega)).trans hz3;have HSS:=Ab hs;clear hs hk4 hr4 hk3 hz3 HS HB3;by_cases ht:t=[]
    ·subst ht;have e0:=cell_of hk 0 _ rfl;have e1:=cell_of hk 1 _ rfl;have e2:=cell_of hk 2 _ rfl;have e3:=cell_of hk 3 _ rfl;have e4:=cell_of hk 4 _ rfl;have e5:=cell_of hk 5 _ rfl;have e6:=cell_of hk 6 _ rfl;have e7:=cell_of hk 7 _ rfl;have e8:=cell_of hk 8 _ rfl;have e9:=cell_of hk 9 _ rfl;have c0:=cell_of hz 0 _ rfl;have c1:=cell_of hz 1 _ rfl;have c2:=cell_of hz 2 _ rfl;have c3:=cell_of hz 3 _ rfl;have c4:=cell_of hz 4 _ rfl;have c5:=cell_of hz 5 _ rfl;have c6:=cell_of hz 6 _ rfl;have c7:=cell_of hz 7 _ rfl;have c8:=cell_of hz 8 _ rfl;have c9:=cell_of hz 9 _ rfl;have cz:=D4 hz;clear hk hz;go_wp2_with fail
     refine(Aa HE).mono ?_;rintro e w5 ⟨rfl,rfl⟩;go_wp2;refine bodyPost_ret (v:=pv ⟨k,c,li,ln,sq,u,pa,o,pl,body⟩) (by simp[results,Tryz.results35,go_sem,c0,c1,c2,c3,c4,c5,c6,c7,c8,c9]) rfl ((Aa HYES) _ _ ?_ (XP (Aa HP) (Aa HRT') (Aa HSS)));exact((((((((((Aa HB4).setCell (by simp) _).setCell (by simp) _).setCell (by simp) _).setCell (by simp) _).setCell (by simp) _).setCell (by simp) _).setCell (by simp) _).setCell (by simp) _).setCell (by simp) _).setCell (by simp) _
    ·have HE2:=HE;rw[if_neg ht]at HE2;clear HE hk hz;go_wp2_with fail
     refine(Aa HE2).mono ?_;rintro e w5 ⟨rfl,rfl⟩;go_wp2;exact⟨rfl,(Aa HNO) _ (Aa HB4) (XO (Aa HP) (Aa HSS) ht)⟩
  ·go_wp2;exact⟨rfl,(Aa HNO) _ (((Aa HB1).alloc (by omega) _).trans (hb3.mono (by simp;omega))) (XM (Aa HP) hnr)⟩
end Go.Proofs.YtblomippkddgiaaGreatDoor
