import Derived.Test.YtblomippkddgiaaGreatDoorJ01
set_option maxHeartbeats 1000000
namespace Go.Proofs.YtblomippkddgiaaGreatDoor.V
open Go.RowKit
theorem Ab{p:Prop}(h:p):Hid p:=h
theorem Aa{p:Prop}(h:Hid p):p:=h
def Kids(w:World)(S:Nat->Prop)(g:Nat->Nat)(f:Nat)(ks:List Nat)(v:Value):Prop:=∃xs:List Value,JN w S v ks.length xs /\
   ∀(i q:Nat),ks[i]?=some q->∃d0 d1 d2,xs[3*i]?=some d0/\xs[3*i+1]?=some d1/\xs[3*i+2]?=some d2/\EU w S g f q d0 d1 d2
theorem Lb{w:World}{S:Nat->Prop}{f p:Nat}{g:Nat->Nat}{c0 c1 v:Value}(h0:c0=.int .u8 (g p))(h1:c1=.int .i64 (A7 g p))(hk:Kids w S g f (Pt.kids g f p) v):EU w S g (f+1) p c0 c1 v:=⟨h0,h1,hk⟩
theorem Ja{w w':World}{S:Nat->Prop}{f:Nat}{g:Nat->Nat}{ks:List Nat}{v:Value}(h:Kids w S g f ks v)(hk:BQ S w w'):Kids w' S g f ks v:=by
 obtain⟨xs,ho,hi⟩:=h;refine⟨xs,Fe ho hk,fun i q hq=>?_⟩;obtain⟨d0,d1,d2,a0,a1,a2,hr⟩:=hi i q hq;exact⟨d0,d1,d2,a0,a1,a2,Bj hk hr⟩
theorem Kc{w:World}{S S':Nat->Prop}{f:Nat}{g:Nat->Nat}{ks:List Nat}{v:Value}(h:Kids w S g f ks v)(hb:∀k,S k->k<w.heap.size->S' k):Kids w S' g f ks v:=by
 obtain⟨xs,ho,hi⟩:=h;refine⟨xs,FV ho hb,fun i q hq=>?_⟩;obtain⟨d0,d1,d2,a0,a1,a2,hr⟩:=hi i q hq;exact⟨d0,d1,d2,a0,a1,a2,CO hb hr⟩
theorem Mf{w:World}{S:Nat->Prop}{f q:Nat}{g:Nat->Nat}{v d0 d1 d2:Value}(ho:JN w S v 1 [d0,d1,d2])(hr:EU w S g f q d0 d1 d2):Kids w S g f [q] v:=by
 refine⟨[d0,d1,d2],ho,fun i q' hq=>?_⟩;match i,hq with
 |0,hq=>
  simp at hq;subst hq;exact⟨d0,d1,d2,rfl,rfl,rfl,hr⟩
theorem UI(b p:Nat)(s:ByteArray)(w:World)(h:At w b s p)(hp:p<s.size)(hs:s.size<=40)(hx:nx s p=101)(hd:¬(48+1<=nx s (p+1)/\nx s (p+1)<=57)):
  Calls Tryz.prog 128 #[.pointer (some ⟨b,0,none⟩)] w fun e w'=>e=Bp (p+1)/\Ae b w w':=by
 have HL:=BR b p s (w.alloc AZ) 101 (h.alloc _) (by omega) hs hx (by omega);clear hx h;have HD:Hid (¬(48+1<=nx s (p+1)/\nx s (p+1)<=57)):=hd;clear hd;go_enter Tryz.func128,Tryz.ntmps128;go_wp2_with fail
 refine HL.mono ?_;rintro e w1 ⟨rfl,hk,ha⟩;clear HL;go_wp2_with fail
 refine(I1 b (p+1) s _ _ 1 (ha.alloc _) (by omega) hs rfl HD.out).mono ?_;rintro e w2 ⟨rfl,hk2⟩;go_wp2;exact⟨rfl,rfl,(((Ae.refl b w).alloc AZ).trans hk).trans (((Ae.refl b w1).alloc _).trans hk2)⟩
theorem UG(b p:Nat)(s:ByteArray)(w:World)(h:At w b s p)(hp:p<s.size)(hs:s.size<=40)(hx:nx s p=97)(hd:¬(48+1<=nx s (p+1)/\nx s (p+1)<=57)):
  Calls Tryz.prog 128 #[.pointer (some ⟨b,0,none⟩)] w fun e w'=>e=Bp (p+1)/\Ae b w w':=by
 have HL:=BR b p s (w.alloc AZ) 97 (h.alloc _) (by omega) hs hx (by omega);clear hx h;have HD:Hid (¬(48+1<=nx s (p+1)/\nx s (p+1)<=57)):=hd;clear hd;go_enter Tryz.func128,Tryz.ntmps128;go_wp2_with fail
 refine HL.mono ?_;rintro e w1 ⟨rfl,hk,ha⟩;clear HL;go_wp2_with fail
 refine(I1 b (p+1) s _ _ 1 (ha.alloc _) (by omega) hs rfl HD.out).mono ?_;rintro e w2 ⟨rfl,hk2⟩;go_wp2;exact⟨rfl,rfl,(((Ae.refl b w).alloc AZ).trans hk).trans (((Ae.refl b w1).alloc _).trans hk2)⟩
theorem UM(b p:Nat)(s:ByteArray)(w:World)(h:At w b s p)(hp:p<s.size)(hs:s.size<=40)(hx:nx s p=113)(hd:¬(48+0<=nx s (p+1)/\nx s (p+1)<=57)):
  Calls Tryz.prog 128 #[.pointer (some ⟨b,0,none⟩)] w fun e w'=>e=Bp (p+1)/\Ae b w w':=by
 have HL:=BR b p s (w.alloc AZ) 113 (h.alloc _) (by omega) hs hx (by omega);clear hx h;have HD:Hid (¬(48+0<=nx s (p+1)/\nx s (p+1)<=57)):=hd;clear hd;go_enter Tryz.func128,Tryz.ntmps128;go_wp2_with fail
 refine HL.mono ?_;rintro e w1 ⟨rfl,hk,ha⟩;clear HL;go_wp2_with fail
 refine(I1 b (p+1) s _ _ 0 (ha.alloc _) (by omega) hs rfl HD.out).mono ?_;rintro e w2 ⟨rfl,hk2⟩;go_wp2;exact⟨rfl,rfl,(((Ae.refl b w).alloc AZ).trans hk).trans (((Ae.refl b w1).alloc _).trans hk2)⟩
theorem UF(b p:Nat)(s:ByteArray)(w:World)(q:Nat)(h:At w b s p)(hp:p<s.size)(hs:s.size<=40)(hx:nx s p=97)(hd:48+1<=nx s (p+1)/\nx s (p+1)<=57)
  (hch:∀w,At w b s (p+2)->Calls Tryz.prog 128 #[.pointer (some ⟨b,0,none⟩)] w fun e w'=>e=Bp q/\Ae b w w'):
  Calls Tryz.prog 128 #[.pointer (some ⟨b,0,none⟩)] w fun e w'=>e=Bp q/\Ae b w w':=by
 have hlt:=h.lt;have HL:=BR b p s (w.alloc AZ) 97 (h.alloc _) (by omega) hs hx (by omega);clear h;have HXC:Hid (nx s p=97):=hx;clear hx;have hne:¬w.heap.size=b:=by omega
 have HD:Hid (48+1<=nx s (p+1)/\nx s (p+1)<=57):=hd;clear hd;have HC:=Ab hch;clear hch;go_enter Tryz.func128,Tryz.ntmps128;go_wp2_with fail
 refine HL.mono ?_;rintro e w1 ⟨rfl,hk,ha⟩;have T:=(EB.new w (.int .u8 0) (.int .i64 0) (.slice none 0 0)).keeps hk hne;have hz:w.heap.size<w1.heap.size:=T.lt;have hb1:¬w1.heap.size=b:=by have:=ha.lt;omega
 have hmm:¬w.heap.size=w1.heap.size:=by omega
 clear HL;go_wp2_with fail
 refine(FF b (p+1) s _ _ 1 (ha.alloc _) (by omega) hs rfl HD.out).mono ?_;rintro e w2 ⟨rfl,hk2,ha2⟩;have T1:=(EB.new w1 (.int .u8 97) (.int .i64 0) (.slice none 0 0)).keeps hk2 hb1;have T2:=(T.alloc (.cells #[.int .u8 97,.int .i64 0,.slice none 0 0] 153)).keeps hk2 hne;have hk0:=(((Ae.refl b w).alloc AZ).trans hk).trans (((Ae.refl b w1).alloc _).trans hk2);obtain⟨c2,hc2⟩:∃c2:Int,c2=(nx s (p+1):Int)-48:=⟨_,rfl⟩;rw[<-hc2];have HC2:=Ab hc2;clear hc2;obtain⟨x0,x1,x2,y0,y1,y2⟩:=T1.facts;have hz2:=T1.lt;clear T hk hk2 ha;go_wp2_with fail
 refine((Aa HC) _ (ha2.other (by simpa using hb1) _)).mono ?_;rintro e w3 ⟨rfl,hk3⟩;go_wp2;exact⟨rfl,rfl,(hk0.setCell (by simp;omega) _).trans hk3⟩
theorem UH(b p f:Nat)(s:ByteArray)(w:World)(q:Nat)(h:At w b s p)(hp:p<s.size)(hs:s.size<=40)(hx:nx s p=97)(hd:48+1<=nx s (p+1)/\nx s (p+1)<=57)
  (hch:∀w,At w b s (p+2)->Calls Tryz.prog 128 #[.pointer (some ⟨b,0,none⟩)] w fun e w'=>∃d0 d1 d2,e=.returned (.agg #[d0,d1,d2])/\Ae b w w'/\At w' b s q/\EU w' (fun k=>w.heap.size<=k) (nx s) f (p+2) d0 d1 d2):
  Calls Tryz.prog 128 #[.pointer (some ⟨b,0,none⟩)] w fun e w'=>∃c0 c1 c2,e=.returned (.agg #[c0,c1,c2])/\Ae b w w'/\At w' b s q/\EU w' (fun k=>w.heap.size<=k) (nx s) (f+1) p c0 c1 c2:=by
 have hlt:=h.lt;have HL:=BR b p s (w.alloc AZ) 97 (h.alloc _) (by omega) hs hx (by omega);clear h;have HXC:Hid (nx s p=97):=hx;clear hx;have hne:¬w.heap.size=b:=by omega
 have HD:Hid (48+1<=nx s (p+1)/\nx s (p+1)<=57):=hd;clear hd;have HC:=Ab hch;clear hch;go_enter Tryz.func128,Tryz.ntmps128;go_wp2_with fail
 refine HL.mono ?_;rintro e w1 ⟨rfl,hk,ha⟩;have T:=(EB.new w (.int .u8 0) (.int .i64 0) (.slice none 0 0)).keeps hk hne;have hz:w.heap.size<w1.heap.size:=T.lt;have hb1:¬w1.heap.size=b:=by have:=ha.lt;omega
 have hmm:¬w.heap.size=w1.heap.size:=by omega
 clear HL;go_wp2_with fail
 refine(FF b (p+1) s _ _ 1 (ha.alloc _) (by omega) hs rfl HD.out).mono ?_;rintro e w2 ⟨rfl,hk2,ha2⟩;have T1:=(EB.new w1 (.int .u8 97) (.int .i64 0) (.slice none 0 0)).keeps hk2 hb1;have T2:=(T.alloc (.cells #[.int .u8 97,.int .i64 0,.slice none 0 0] 153)).keeps hk2 hne;have hk0:=(((Ae.refl b w).alloc AZ).trans hk).trans (((Ae.refl b w1).alloc _).trans hk2);obtain⟨c2,hc2⟩:∃c2:Int,c2=(nx s (p+1):Int)-48:=⟨_,rfl⟩;rw[<-hc2];have HC2:=Ab hc2;clear hc2;obtain⟨x0,x1,x2,y0,y1,y2⟩:=T1.facts;have hz2:=T1.lt;clear T hk hk2 ha;go_wp2_with fail
 refine((Aa HC) _ (ha2.other (by simpa using hb1) _)).mono ?_;rintro e w3 ⟨d0,d1,d2,rfl,hk3,ha3,hr3⟩;have T3:=((T1.set1 (.int .i64 c2)).keeps hk3 hb1).alloc (.cells #[d0,d1,d2] 153);have T4:=((T2.other (a:=⟨w1.heap.size,1,none⟩) (by simp;omega) (.int .i64 c2)).keeps hk3 hne).alloc (.cells #[d0,d1,d2] 153);have hz3:w2.heap.size<=w3.heap.size:=by have:=hk3.size;simpa using this
 obtain⟨x0,x1,x2,y0,y1,y2⟩:=T3.facts;obtain⟨u0,u1,u2,v0,v1,v2⟩:=T4.facts;have hka:=(hk0.setCell (p:=⟨w1.heap.size,1,none⟩) (by simp;omega) (.int .i64 c2)).trans hk3;clear T1 T2 T3 T4 hk3 ha2;go_wp2;have hr3:EU w3 (fun k=>w2.heap.size<=k) (nx s) f (p+2) d0 d1 d2:=by simpa using hr3
 refine bodyPost_ret (v:=.agg #[.int .u8 97,.int .i64 c2,.slice (some ⟨w3.heap.size,0,none⟩) 1 1]) (by simp[results,Tryz.results128,go_sem,u0,u1,u2]) rfl ⟨_,_,_,rfl,?_,?_,?_⟩
 ·exact((((hka.alloc _).setCell (by simp;omega) _).setCell (by simp) _).setCell (by simp) _).setCell (by simp) _
 ·exact((((ha3.alloc _).other (by simpa using hb1) _).other (by simpa using hne) _).other (by simpa using hne) _).other (by simpa using hne) _
 ·refine Lb (by rw[HXC.out];rfl) (by rw[HC2.out];unfold A7;rw[if_pos (by rw[HXC.out];omega)]) ?_;have hks:Pt.kids (nx s) f p=[p+2]:=by simp[Pt.kids,HXC.out]
  rw[hks];refine Mf (FV (Fe (Jm w3 rfl) ?_) (fun k hk _=>by omega)) (CO (fun k hk _=>by omega) (Bj ?_ hr3))
  ·exact((((BQ.refl _ _).setCell (by simp;omega) _).setCell (by simp;omega) _).setCell (by simp;omega) _).setCell (by simp;omega) _
  ·exact(((((BQ.refl _ _).alloc _).setCell (by simp;omega) _).setCell (by simp;omega) _).setCell (by simp;omega) _).setCell (by simp;omega) _
theorem UL(b p:Nat)(s:ByteArray)(w:World)(q:Nat)(h:At w b s p)(hp:p<s.size)(hs:s.size<=40)(hx:nx s p=113)(hd:48+0<=nx s (p+1)/\nx s (p+1)<=57)
  (hch:∀w,At w b s (p+2)->Calls Tryz.prog 128 #[.pointer (some ⟨b,0,none⟩)] w fun e w'=>e=Bp q/\Ae b w w'):
  Calls Tryz.prog 128 #[.pointer (some ⟨b,0,none⟩)] w fun e w'=>e=Bp q/\Ae b w w':=by
 have hlt:=h.lt;have HL:=BR b p s (w.alloc AZ) 113 (h.alloc _) (by omega) hs hx (by omega);clear h;have HXC:Hid (nx s p=113):=hx;clear hx;have hne:¬w.heap.size=b:=by omega
 have HD:Hid (48+0<=nx s (p+1)/\nx s (p+1)<=57):=hd;clear hd;have HC:=Ab hch;clear hch;go_enter Tryz.func128,Tryz.ntmps128;go_wp2_with fail
 refine HL.mono ?_;rintro e w1 ⟨rfl,hk,ha⟩;have T:=(EB.new w (.int .u8 0) (.int .i64 0) (.slice none 0 0)).keeps hk hne;have hz:w.heap.size<w1.heap.size:=T.lt;have hb1:¬w1.heap.size=b:=by have:=ha.lt;omega
 have hmm:¬w.heap.size=w1.heap.size:=by omega
 clear HL;go_wp2_with fail
 refine(FF b (p+1) s _ _ 0 (ha.alloc _) (by omega) hs rfl HD.out).mono ?_;rintro e w2 ⟨rfl,hk2,ha2⟩;have T1:=(EB.new w1 (.int .u8 113) (.int .i64 0) (.slice none 0 0)).keeps hk2 hb1;have T2:=(T.alloc (.cells #[.int .u8 113,.int .i64 0,.slice none 0 0] 153)).keeps hk2 hne;have hk0:=(((Ae.refl b w).alloc AZ).trans hk).trans (((Ae.refl b w1).alloc _).trans hk2);obtain⟨c2,hc2⟩:∃c2:Int,c2=(nx s (p+1):Int)-48:=⟨_,rfl⟩;rw[<-hc2];have HC2:=Ab hc2;clear hc2;obtain⟨x0,x1,x2,y0,y1,y2⟩:=T1.facts;have hz2:=T1.lt;clear T hk hk2 ha;go_wp2_with fail
 refine((Aa HC) _ (ha2.other (by simpa using hb1) _)).mono ?_;rintro e w3 ⟨rfl,hk3⟩;go_wp2;exact⟨rfl,rfl,(hk0.setCell (by simp;omega) _).trans hk3⟩
theorem UN(b p f:Nat)(s:ByteArray)(w:World)(q:Nat)(h:At w b s p)(hp:p<s.size)(hs:s.size<=40)(hx:nx s p=113)(hd:48+0<=nx s (p+1)/\nx s (p+1)<=57)
  (hch:∀w,At w b s (p+2)->Calls Tryz.prog 128 #[.pointer (some ⟨b,0,none⟩)] w fun e w'=>∃d0 d1 d2,e=.returned (.agg #[d0,d1,d2])/\Ae b w w'/\At w' b s q/\EU w' (fun k=>w.heap.size<=k) (nx s) f (p+2) d0 d1 d2):
  Calls Tryz.prog 128 #[.pointer (some ⟨b,0,none⟩)] w fun e w'=>∃c0 c1 c2,e=.returned (.agg #[c0,c1,c2])/\Ae b w w'/\At w' b s q/\EU w' (fun k=>w.heap.size<=k) (nx s) (f+1) p c0 c1 c2:=by
 have hlt:=h.lt;have HL:=BR b p s (w.alloc AZ) 113 (h.alloc _) (by omega) hs hx (by omega);clear h;have HXC:Hid (nx s p=113):=hx;clear hx;have hne:¬w.heap.size=b:=by omega
 have HD:Hid (48+0<=nx s (p+1)/\nx s (p+1)<=57):=hd;clear hd;have HC:=Ab hch;clear hch;go_enter Tryz.func128,Tryz.ntmps128;go_wp2_with fail
 refine HL.mono ?_;rintro e w1 ⟨rfl,hk,ha⟩;have T:=(EB.new w (.int .u8 0) (.int .i64 0) (.slice none 0 0)).keeps hk hne;have hz:w.heap.size<w1.heap.size:=T.lt;have hb1:¬w1.heap.size=b:=by have:=ha.lt;omega
 have hmm:¬w.heap.size=w1.heap.size:=by omega
 clear HL;go_wp2_with fail
 refine(FF b (p+1) s _ _ 0 (ha.alloc _) (by omega) hs rfl HD.out).mono ?_;rintro e w2 ⟨rfl,hk2,ha2⟩;have T1:=(EB.new w1 (.int .u8 113) (.int .i64 0) (.slice none 0 0)).keeps hk2 hb1;have T2:=(T.alloc (.cells #[.int .u8 113,.int .i64 0,.slice none 0 0] 153)).keeps hk2 hne;have hk0:=(((Ae.refl b w).alloc AZ).trans hk).trans (((Ae.refl b w1).alloc _).trans hk2);obtain⟨c2,hc2⟩:∃c2:Int,c2=(nx s (p+1):Int)-48:=⟨_,rfl⟩;rw[<-hc2];have HC2:=Ab hc2;clear hc2;obtain⟨x0,x1,x2,y0,y1,y2⟩:=T1.facts;have hz2:=T1.lt;clear T hk hk2 ha;go_wp2_with fail
 refine((Aa HC) _ (ha2.other (by simpa using hb1) _)).mono ?_;rintro e w3 ⟨d0,d1,d2,rfl,hk3,ha3,hr3⟩;have T3:=((T1.set1 (.int .i64 c2)).keeps hk3 hb1).alloc (.cells #[d0,d1,d2] 153);have T4:=((T2.other (a:=⟨w1.heap.size,1,none⟩) (by simp;omega) (.int .i64 c2)).keeps hk3 hne).alloc (.cells #[d0,d1,d2] 153);have hz3:w2.heap.size<=w3.heap.size:=by have:=hk3.size;simpa using this
 obtain⟨x0,x1,x2,y0,y1,y2⟩:=T3.facts;obtain⟨u0,u1,u2,v0,v1,v2⟩:=T4.facts;have hka:=(hk0.setCell (p:=⟨w1.heap.size,1,none⟩) (by simp;omega) (.int .i64 c2)).trans hk3;clear T1 T2 T3 T4 hk3 ha2;go_wp2;have hr3:EU w3 (fun k=>w2.heap.size<=k) (nx s) f (p+2) d0 d1 d2:=by simpa using hr3
 refine bodyPost_ret (v:=.agg #[.int .u8 113,.int .i64 c2,.slice (some ⟨w3.heap.size,0,none⟩) 1 1]) (by simp[results,Tryz.results128,go_sem,u0,u1,u2]) rfl ⟨_,_,_,rfl,?_,?_,?_⟩
 ·exact((((hka.alloc _).setCell (by simp;omega) _).setCell (by simp) _).setCell (by simp) _).setCell (by simp) _
 ·exact((((ha3.alloc _).other (by simpa using hb1) _).other (by simpa using hne) _).other (by simpa using hne) _).other (by simpa using hne) _
 ·refine Lb (by rw[HXC.out];rfl) (by rw[HC2.out];unfold A7;rw[if_pos (by rw[HXC.out];omega)]) ?_;have hks:Pt.kids (nx s) f p=[p+2]:=by simp[Pt.kids,HXC.out]
  rw[hks];refine Mf (FV (Fe (Jm w3 rfl) ?_) (fun k hk _=>by omega)) (CO (fun k hk _=>by omega) (Bj ?_ hr3))
  ·exact((((BQ.refl _ _).setCell (by simp;omega) _).setCell (by simp;omega) _).setCell (by simp;omega) _).setCell (by simp;omega) _
  ·exact(((((BQ.refl _ _).alloc _).setCell (by simp;omega) _).setCell (by simp;omega) _).setCell (by simp;omega) _).setCell (by simp;omega) _
theorem Jj(b p:Nat)(s:ByteArray)(w:World)(q:Nat)(h:At w b s p)(hp:p<s.size)(hs:s.size<=40)(hx:nx s p=114)
  (hch:∀w,At w b s (p+1)->Calls Tryz.prog 196 #[.pointer (some ⟨b,0,none⟩)] w fun e w'=>e=Bp q/\Ae b w w'):
  Calls Tryz.prog 128 #[.pointer (some ⟨b,0,none⟩)] w fun e w'=>e=Bp q/\Ae b w w':=by
 have hlt:=h.lt;have HL:=BR b p s (w.alloc AZ) 114 (h.alloc _) (by omega) hs hx (by omega);clear h;have HXC:Hid (nx s p=114):=hx;clear hx;have hne:¬w.heap.size=b:=by omega
 have HC:=Ab hch;clear hch;go_enter Tryz.func128,Tryz.ntmps128;go_wp2_with fail
 refine HL.mono ?_;rintro e w1 ⟨rfl,hk,ha⟩;have T:=(EB.new w (.int .u8 0) (.int .i64 0) (.slice none 0 0)).keeps hk hne;have hz:w.heap.size<w1.heap.size:=T.lt;have hb1:¬w1.heap.size=b:=by have:=ha.lt;omega
 have hmm:¬w.heap.size=w1.heap.size:=by omega
 clear HL;go_wp2_with fail
 refine((Aa HC) _ (ha.alloc _)).mono ?_;rintro e w3 ⟨rfl,hk3⟩;go_wp2;exact⟨rfl,rfl,(((Ae.refl b w).alloc AZ).trans hk).trans (((Ae.refl b w1).alloc _).trans hk3)⟩
theorem UO(b p f:Nat)(s:ByteArray)(w:World)(q:Nat)(h:At w b s p)(hp:p<s.size)(hs:s.size<=40)(hx:nx s p=114)
  (hch:∀w,At w b s (p+1)->Calls Tryz.prog 196 #[.pointer (some ⟨b,0,none⟩)] w fun e w'=>∃v,e=.returned v/\Ae b w w'/\At w' b s q/\Kids w' (fun k=>w.heap.size<=k) (nx s) f (Pt.kids (nx s) f p) v):
  Calls Tryz.prog 128 #[.pointer (some ⟨b,0,none⟩)] w fun e w'=>∃c0 c1 c2,e=.returned (.agg #[c0,c1,c2])/\Ae b w w'/\At w' b s q/\EU w' (fun k=>w.heap.size<=k) (nx s) (f+1) p c0 c1 c2:=by
 have hlt:=h.lt;have HL:=BR b p s (w.alloc AZ) 114 (h.alloc _) (by omega) hs hx (by omega);clear h;have HXC:Hid (nx s p=114):=hx;clear hx;have hne:¬w.heap.size=b:=by omega
 have HC:=Ab hch;clear hch;go_enter Tryz.func128,Tryz.ntmps128;go_wp2_with fail
 refine HL.mono ?_;rintro e w1 ⟨rfl,hk,ha⟩;have T:=(EB.new w (.int .u8 0) (.int .i64 0) (.slice none 0 0)).keeps hk hne;have hz:w.heap.size<w1.heap.size:=T.lt;have hb1:¬w1.heap.size=b:=by have:=ha.lt;omega
 have hmm:¬w.heap.size=w1.heap.size:=by omega
 clear HL;go_wp2_with fail
 refine((Aa HC) _ (ha.alloc _)).mono ?_;rintro e w3 ⟨v,rfl,hk3,ha3,hr3⟩;obtain⟨va,vn,vc,hv⟩:∃a n c,v=.slice a n c:=by
  obtain⟨xs,⟨⟨_,ho⟩,_⟩,_⟩:=hr3;rcases ho with ⟨rfl,_⟩|⟨g,cap,cur,rfl,_⟩
  ·exact⟨_,_,_,rfl⟩
  ·exact⟨_,_,_,rfl⟩
 subst hv;have T1:=(EB.new w1 (.int .u8 114) (.int .i64 0) (.slice none 0 0)).keeps hk3 hb1;have T2:=(T.alloc (.cells #[.int .u8 114,.int .i64 0,.slice none 0 0] 153)).keeps hk3 hne;have hka:=(((Ae.refl b w).alloc AZ).trans hk).trans (((Ae.refl b w1).alloc _).trans hk3);have hz3:=T1.lt;obtain⟨x0,x1,x2,y0,y1,y2⟩:=T1.facts;obtain⟨u0,u1,u2,v0,v1,v2⟩:=T2.facts;clear T T1 T2 hk hk3 ha;go_wp2;have hr3:Kids w3 (fun k=>w1.heap.size+1<=k) (nx s) f (Pt.kids (nx s) f p) (.slice va vn vc):=by simpa using hr3
 refine bodyPost_ret (v:=.agg #[.int .u8 114,.int .i64 0,.slice va vn vc]) (by simp[results,Tryz.results128,go_sem,u0,u1,u2]) rfl ⟨_,_,_,rfl,?_,?_,?_⟩
 ·repeat (first|exact hka|refine Ae.setCell ?_ (by simp;try omega) _)
 ·repeat (first|exact ha3|refine At.other ?_ (by first|simpa using hne|simpa using hb1) _)
 ·refine Lb (by rw[HXC.out];rfl) (by unfold A7;rw[if_neg (by rw[HXC.out];omega)]) ?_;refine Kc (Ja hr3 ?_) (fun k hk _=>by omega);repeat (first|exact BQ.refl _ _|refine BQ.setCell ?_ (by simp;try omega) _)
theorem Jk(b p:Nat)(s:ByteArray)(w:World)(q:Nat)(h:At w b s p)(hp:p<s.size)(hs:s.size<=40)(hx:nx s p=117)
  (hch:∀w,At w b s (p+1)->Calls Tryz.prog 196 #[.pointer (some ⟨b,0,none⟩)] w fun e w'=>e=Bp q/\Ae b w w'):
  Calls Tryz.prog 128 #[.pointer (some ⟨b,0,none⟩)] w fun e w'=>e=Bp q/\Ae b w w':=by
 have hlt:=h.lt;have HL:=BR b p s (w.alloc AZ) 117 (h.alloc _) (by omega) hs hx (by omega);clear h;have HXC:Hid (nx s p=117):=hx;clear hx;have hne:¬w.heap.size=b:=by omega
 have HC:=Ab hch;clear hch;go_enter Tryz.func128,Tryz.ntmps128;go_wp2_with fail
 refine HL.mono ?_;rintro e w1 ⟨rfl,hk,ha⟩;have T:=(EB.new w (.int .u8 0) (.int .i64 0) (.slice none 0 0)).keeps hk hne;have hz:w.heap.size<w1.heap.size:=T.lt;have hb1:¬w1.heap.size=b:=by have:=ha.lt;omega
 have hmm:¬w.heap.size=w1.heap.size:=by omega
 clear HL;go_wp2_with fail
 refine((Aa HC) _ (ha.alloc _)).mono ?_;rintro e w3 ⟨rfl,hk3⟩;go_wp2;exact⟨rfl,rfl,(((Ae.refl b w).alloc AZ).trans hk).trans (((Ae.refl b w1).alloc _).trans hk3)⟩
theorem UR(b p f:Nat)(s:ByteArray)(w:World)(q:Nat)(h:At w b s p)(hp:p<s.size)(hs:s.size<=40)(hx:nx s p=117)
  (hch:∀w,At w b s (p+1)->Calls Tryz.prog 196 #[.pointer (some ⟨b,0,none⟩)] w fun e w'=>∃v,e=.returned v/\Ae b w w'/\At w' b s q/\Kids w' (fun k=>w.heap.size<=k) (nx s) f (Pt.kids (nx s) f p) v):
  Calls Tryz.prog 128 #[.pointer (some ⟨b,0,none⟩)] w fun e w'=>∃c0 c1 c2,e=.returned (.agg #[c0,c1,c2])/\Ae b w w'/\At w' b s q/\EU w' (fun k=>w.heap.size<=k) (nx s) (f+1) p c0 c1 c2:=by
 have hlt:=h.lt;have HL:=BR b p s (w.alloc AZ) 117 (h.alloc _) (by omega) hs hx (by omega);clear h;have HXC:Hid (nx s p=117):=hx;clear hx;have hne:¬w.heap.size=b:=by omega
 have HC:=Ab hch;clear hch;go_enter Tryz.func128,Tryz.ntmps128;go_wp2_with fail
 refine HL.mono ?_;rintro e w1 ⟨rfl,hk,ha⟩;have T:=(EB.new w (.int .u8 0) (.int .i64 0) (.slice none 0 0)).keeps hk hne;have hz:w.heap.size<w1.heap.size:=T.lt;have hb1:¬w1.heap.size=b:=by have:=ha.lt;omega
 have hmm:¬w.heap.size=w1.heap.size:=by omega
 clear HL;go_wp2_with fail
 refine((Aa HC) _ (ha.alloc _)).mono ?_;rintro e w3 ⟨v,rfl,hk3,ha3,hr3⟩;obtain⟨va,vn,vc,hv⟩:∃a n c,v=.slice a n c:=by
  obtain⟨xs,⟨⟨_,ho⟩,_⟩,_⟩:=hr3;rcases ho with ⟨rfl,_⟩|⟨g,cap,cur,rfl,_⟩
  ·exact⟨_,_,_,rfl⟩
  ·exact⟨_,_,_,rfl⟩
 subst hv;have T1:=(EB.new w1 (.int .u8 117) (.int .i64 0) (.slice none 0 0)).keeps hk3 hb1;have T2:=(T.alloc (.cells #[.int .u8 117,.int .i64 0,.slice none 0 0] 153)).keeps hk3 hne;have hka:=(((Ae.refl b w).alloc AZ).trans hk).trans (((Ae.refl b w1).alloc _).trans hk3);have hz3:=T1.lt;obtain⟨x0,x1,x2,y0,y1,y2⟩:=T1.facts;obtain⟨u0,u1,u2,v0,v1,v2⟩:=T2.facts;clear T T1 T2 hk hk3 ha;go_wp2;have hr3:Kids w3 (fun k=>w1.heap.size+1<=k) (nx s) f (Pt.kids (nx s) f p) (.slice va vn vc):=by simpa using hr3
 refine bodyPost_ret (v:=.agg #[.int .u8 117,.int .i64 0,.slice va vn vc]) (by simp[results,Tryz.results128,go_sem,u0,u1,u2]) rfl ⟨_,_,_,rfl,?_,?_,?_⟩
 ·repeat (first|exact hka|refine Ae.setCell ?_ (by simp;try omega) _)
 ·repeat (first|exact ha3|refine At.other ?_ (by first|simpa using hne|simpa using hb1) _)
 ·refine Lb (by rw[HXC.out];rfl) (by unfold A7;rw[if_neg (by rw[HXC.out];omega)]) ?_;refine Kc (Ja hr3 ?_) (fun k hk _=>by omega);repeat (first|exact BQ.refl _ _|refine BQ.setCell ?_ (by simp;try omega) _)
end Go.Proofs.YtblomippkddgiaaGreatDoor.V
