import Derived.Test.YtblomippkddgiabGreatDoorJ01
set_option maxHeartbeats 1000000
namespace Go.Proofs.YtblomippkddgiabGreatDoor.V
open Go.RowKit
variable {s:ByteArray}{ks:List Nat}{xs:List Value}{B b f j k n p:Nat}{g:Nat→Nat}{S:Nat→Prop}{c0 c1 d0 d1 d2 v:Value}{w w' w2 wr:World}
theorem Ac{p:Prop}(h:p):Hid p:=h
theorem Aa{p:Prop}(h:Hid p):p:=h
def Kids(w:World)(S:Nat->Prop)(g:Nat->Nat)(f:Nat)(ks:List Nat)(v:Value):Prop:=∃xs:List Value,NN w S v ks.length xs /\
   ∀(i q:Nat),ks[i]?=some q->∃d0 d1 d2,xs[3*i]?=some d0/\xs[3*i+1]?=some d1/\xs[3*i+2]?=some d2/\Fe w S g f q d0 d1 d2
theorem PV(h0:c0=.int .u8 (g p))(h1:c1=.int .i64 (Bi g p))(hk:Kids w S g f (Pt.kids g f p) v):Fe w S g (f+1) p c0 c1 v:=⟨h0,h1,hk⟩
theorem MZ(h:Kids w S g f ks v)(hk:Ct S w w'):Kids w' S g f ks v:=by
 obtain⟨xs,ho,hi⟩:=h;refine⟨xs,GY ho hk,fun i q hq=>?_⟩;obtain⟨d0,d1,d2,a0,a1,a2,hr⟩:=hi i q hq;exact⟨d0,d1,d2,a0,a1,a2,Bw hk hr⟩
theorem Ot{S':Nat->Prop}(h:Kids w S g f ks v)(hb:∀k,S k->k<w.heap.size->S' k):Kids w S' g f ks v:=by
 obtain⟨xs,ho,hi⟩:=h;refine⟨xs,IL ho hb,fun i q hq=>?_⟩;obtain⟨d0,d1,d2,a0,a1,a2,hr⟩:=hi i q hq;exact⟨d0,d1,d2,a0,a1,a2,DN hb hr⟩
theorem QR{q:Nat}(ho:NN w S v 1 [d0,d1,d2])(hr:Fe w S g f q d0 d1 d2):Kids w S g f [q] v:=by
 refine⟨[d0,d1,d2],ho,fun i q' hq=>?_⟩;match i,hq with
 |0,hq=>
  simp at hq;subst hq;exact⟨d0,d1,d2,rfl,rfl,rfl,hr⟩
theorem Y5(b p:Nat)(s:ByteArray)(w:World)(h:At w b s p)(hp:p<s.size)(hs:s.size<=40)(hx:nx s p=101)(hd:¬(48+1<=nx s (p+1)/\nx s (p+1)<=57)):
  Calls Tryz.prog 221 #[.pointer (some ⟨b,0,none⟩)] w fun e w'=>e=BO (p+1)/\Af b w w':=by
 have HL:=Cv b p s (w.alloc Bh) 101 (h.alloc _) (by omega) hs hx (by omega);clear hx h;have HD:Hid (¬(48+1<=nx s (p+1)/\nx s (p+1)<=57)):=hd;clear hd;go_enter Tryz.func221,Tryz.ntmps221;go_wp2_with fail
 refine HL.mono ?_;rintro e w1 ⟨rfl,hk,ha⟩;clear HL;go_wp2_with fail
 refine(MI b (p+1) s _ _ 1 (ha.alloc _) (by omega) hs rfl HD.out).mono ?_;rintro e w2 ⟨rfl,aa⟩;go_wp2;exact⟨rfl,rfl,(((Af.refl b w).alloc Bh).trans hk).trans (((Af.refl b w1).alloc _).trans aa)⟩
theorem Y3(b p:Nat)(s:ByteArray)(w:World)(h:At w b s p)(hp:p<s.size)(hs:s.size<=40)(hx:nx s p=97)(hd:¬(48+1<=nx s (p+1)/\nx s (p+1)<=57)):
  Calls Tryz.prog 221 #[.pointer (some ⟨b,0,none⟩)] w fun e w'=>e=BO (p+1)/\Af b w w':=by
 have HL:=Cv b p s (w.alloc Bh) 97 (h.alloc _) (by omega) hs hx (by omega);clear hx h;have HD:Hid (¬(48+1<=nx s (p+1)/\nx s (p+1)<=57)):=hd;clear hd;go_enter Tryz.func221,Tryz.ntmps221;go_wp2_with fail
 refine HL.mono ?_;rintro e w1 ⟨rfl,hk,ha⟩;clear HL;go_wp2_with fail
 refine(MI b (p+1) s _ _ 1 (ha.alloc _) (by omega) hs rfl HD.out).mono ?_;rintro e w2 ⟨rfl,aa⟩;go_wp2;exact⟨rfl,rfl,(((Af.refl b w).alloc Bh).trans hk).trans (((Af.refl b w1).alloc _).trans aa)⟩
theorem Zb(b p:Nat)(s:ByteArray)(w:World)(h:At w b s p)(hp:p<s.size)(hs:s.size<=40)(hx:nx s p=113)(hd:¬(48+0<=nx s (p+1)/\nx s (p+1)<=57)):
  Calls Tryz.prog 221 #[.pointer (some ⟨b,0,none⟩)] w fun e w'=>e=BO (p+1)/\Af b w w':=by
 have HL:=Cv b p s (w.alloc Bh) 113 (h.alloc _) (by omega) hs hx (by omega);clear hx h;have HD:Hid (¬(48+0<=nx s (p+1)/\nx s (p+1)<=57)):=hd;clear hd;go_enter Tryz.func221,Tryz.ntmps221;go_wp2_with fail
 refine HL.mono ?_;rintro e w1 ⟨rfl,hk,ha⟩;clear HL;go_wp2_with fail
 refine(MI b (p+1) s _ _ 0 (ha.alloc _) (by omega) hs rfl HD.out).mono ?_;rintro e w2 ⟨rfl,aa⟩;go_wp2;exact⟨rfl,rfl,(((Af.refl b w).alloc Bh).trans hk).trans (((Af.refl b w1).alloc _).trans aa)⟩
theorem Y2(b p:Nat)(s:ByteArray)(w:World)(q:Nat)(h:At w b s p)(hp:p<s.size)(hs:s.size<=40)(hx:nx s p=97)(hd:48+1<=nx s (p+1)/\nx s (p+1)<=57)
  (ad:∀w,At w b s (p+2)->Calls Tryz.prog 221 #[.pointer (some ⟨b,0,none⟩)] w fun e w'=>e=BO q/\Af b w w'):
  Calls Tryz.prog 221 #[.pointer (some ⟨b,0,none⟩)] w fun e w'=>e=BO q/\Af b w w':=by
 have ak:=h.lt;have HL:=Cv b p s (w.alloc Bh) 97 (h.alloc _) (by omega) hs hx (by omega);clear h;have aj:Hid (nx s p=97):=hx;clear hx;have ae:¬w.heap.size=b:=by omega
 have HD:Hid (48+1<=nx s (p+1)/\nx s (p+1)<=57):=hd;clear hd;have HC:=Ac ad;clear ad;go_enter Tryz.func221,Tryz.ntmps221;go_wp2_with fail
 refine HL.mono ?_;rintro e w1 ⟨rfl,hk,ha⟩;have T:=(FE.new w (.int .u8 0) (.int .i64 0) (.slice none 0 0)).keeps hk ae;have hz:w.heap.size<w1.heap.size:=T.lt;have ac:¬w1.heap.size=b:=by have:=ha.lt;omega
 have al:¬w.heap.size=w1.heap.size:=by omega
 clear HL;go_wp2_with fail
 refine(Ie b (p+1) s _ _ 1 (ha.alloc _) (by omega) hs rfl HD.out).mono ?_;rintro e w2 ⟨rfl,aa,af⟩;have T1:=(FE.new w1 (.int .u8 97) (.int .i64 0) (.slice none 0 0)).keeps aa ac;have T2:=(T.alloc (.cells #[.int .u8 97,.int .i64 0,.slice none 0 0] 262)).keeps aa ae;have ag:=(((Af.refl b w).alloc Bh).trans hk).trans (((Af.refl b w1).alloc _).trans aa);obtain⟨c2,ab⟩:∃c2:Int,c2=(nx s (p+1):Int)-48:=⟨_,rfl⟩;rw[<-ab];have ai:=Ac ab;clear ab;obtain⟨x0,x1,x2,y0,y1,y2⟩:=T1.facts;have am:=T1.lt;clear T hk aa ha;go_wp2_with fail
 refine((Aa HC) _ (af.other (by simpa using ac) _)).mono ?_;rintro e w3 ⟨rfl,ah⟩;go_wp2;exact⟨rfl,rfl,(ag.setCell (by simp;omega) _).trans ah⟩
theorem Y4(b p f:Nat)(s:ByteArray)(w:World)(q:Nat)(h:At w b s p)(hp:p<s.size)(hs:s.size<=40)(hx:nx s p=97)(hd:48+1<=nx s (p+1)/\nx s (p+1)<=57)
  (ai:∀w,At w b s (p+2)->Calls Tryz.prog 221 #[.pointer (some ⟨b,0,none⟩)] w fun e w'=>∃d0 d1 d2,e=.returned (.agg #[d0,d1,d2])/\Af b w w'/\At w' b s q/\Fe w' (fun k=>w.heap.size<=k) (nx s) f (p+2) d0 d1 d2):
  Calls Tryz.prog 221 #[.pointer (some ⟨b,0,none⟩)] w fun e w'=>∃c0 c1 c2,e=.returned (.agg #[c0,c1,c2])/\Af b w w'/\At w' b s q/\Fe w' (fun k=>w.heap.size<=k) (nx s) (f+1) p c0 c1 c2:=by
 have ao:=h.lt;have HL:=Cv b p s (w.alloc Bh) 97 (h.alloc _) (by omega) hs hx (by omega);clear h;have ae:Hid (nx s p=97):=hx;clear hx;have aa:¬w.heap.size=b:=by omega
 have HD:Hid (48+1<=nx s (p+1)/\nx s (p+1)<=57):=hd;clear hd;have HC:=Ac ai;clear ai;go_enter Tryz.func221,Tryz.ntmps221;go_wp2_with fail
 refine HL.mono ?_;rintro e w1 ⟨rfl,hk,ha⟩;have T:=(FE.new w (.int .u8 0) (.int .i64 0) (.slice none 0 0)).keeps hk aa;have hz:w.heap.size<w1.heap.size:=T.lt;have ac:¬w1.heap.size=b:=by have:=ha.lt;omega
 have ap:¬w.heap.size=w1.heap.size:=by omega
 clear HL;go_wp2_with fail
 refine(Ie b (p+1) s _ _ 1 (ha.alloc _) (by omega) hs rfl HD.out).mono ?_;rintro e w2 ⟨rfl,ad,ah⟩;have T1:=(FE.new w1 (.int .u8 97) (.int .i64 0) (.slice none 0 0)).keeps ad ac;have T2:=(T.alloc (.cells #[.int .u8 97,.int .i64 0,.slice none 0 0] 262)).keeps ad aa;have al:=(((Af.refl b w).alloc Bh).trans hk).trans (((Af.refl b w1).alloc _).trans ad);obtain⟨c2,af⟩:∃c2:Int,c2=(nx s (p+1):Int)-48:=⟨_,rfl⟩;rw[<-af];have aj:=Ac af;clear af;obtain⟨x0,x1,x2,y0,y1,y2⟩:=T1.facts;have aq:=T1.lt;clear T hk ad ha;go_wp2_with fail
 refine((Aa HC) _ (ah.other (by simpa using ac) _)).mono ?_;rintro e w3 ⟨d0,d1,d2,rfl,ab,ak,ag⟩;have T3:=((T1.set1 (.int .i64 c2)).keeps ab ac).alloc (.cells #[d0,d1,d2] 262);have T4:=((T2.other (a:=⟨w1.heap.size,1,none⟩) (by simp;omega) (.int .i64 c2)).keeps ab aa).alloc (.cells #[d0,d1,d2] 262);have ar:w2.heap.size<=w3.heap.size:=by have:=ab.size;simpa using this
 obtain⟨x0,x1,x2,y0,y1,y2⟩:=T3.facts;obtain⟨u0,u1,u2,v0,v1,v2⟩:=T4.facts;have am:=(al.setCell (p:=⟨w1.heap.size,1,none⟩) (by simp;omega) (.int .i64 c2)).trans ab;clear T1 T2 T3 T4 ab ah;go_wp2;have ag:Fe w3 (fun k=>w2.heap.size<=k) (nx s) f (p+2) d0 d1 d2:=by simpa using ag
 refine bodyPost_ret (v:=.agg #[.int .u8 97,.int .i64 c2,.slice (some ⟨w3.heap.size,0,none⟩) 1 1]) (by simp[results,Tryz.results221,go_sem,u0,u1,u2]) rfl ⟨_,_,_,rfl,?_,?_,?_⟩
 ·exact((((am.alloc _).setCell (by simp;omega) _).setCell (by simp) _).setCell (by simp) _).setCell (by simp) _
 ·exact((((ak.alloc _).other (by simpa using ac) _).other (by simpa using aa) _).other (by simpa using aa) _).other (by simpa using aa) _
 ·refine PV (by rw[ae.out];rfl) (by rw[aj.out];unfold Bi;rw[if_pos (by rw[ae.out];omega)]) ?_;have an:Pt.kids (nx s) f p=[p+2]:=by simp[Pt.kids,ae.out]
  rw[an];refine QR (IL (GY (Nf w3 rfl) ?_) (fun k hk _=>by omega)) (DN (fun k hk _=>by omega) (Bw ?_ ag))
  ·exact((((Ct.refl _ _).setCell (by simp;omega) _).setCell (by simp;omega) _).setCell (by simp;omega) _).setCell (by simp;omega) _
  ·exact(((((Ct.refl _ _).alloc _).setCell (by simp;omega) _).setCell (by simp;omega) _).setCell (by simp;omega) _).setCell (by simp;omega) _
theorem Za(b p:Nat)(s:ByteArray)(w:World)(q:Nat)(h:At w b s p)(hp:p<s.size)(hs:s.size<=40)(hx:nx s p=113)(hd:48+0<=nx s (p+1)/\nx s (p+1)<=57)
  (ad:∀w,At w b s (p+2)->Calls Tryz.prog 221 #[.pointer (some ⟨b,0,none⟩)] w fun e w'=>e=BO q/\Af b w w'):
  Calls Tryz.prog 221 #[.pointer (some ⟨b,0,none⟩)] w fun e w'=>e=BO q/\Af b w w':=by
 have ak:=h.lt;have HL:=Cv b p s (w.alloc Bh) 113 (h.alloc _) (by omega) hs hx (by omega);clear h;have aj:Hid (nx s p=113):=hx;clear hx;have ae:¬w.heap.size=b:=by omega
 have HD:Hid (48+0<=nx s (p+1)/\nx s (p+1)<=57):=hd;clear hd;have HC:=Ac ad;clear ad;go_enter Tryz.func221,Tryz.ntmps221;go_wp2_with fail
 refine HL.mono ?_;rintro e w1 ⟨rfl,hk,ha⟩;have T:=(FE.new w (.int .u8 0) (.int .i64 0) (.slice none 0 0)).keeps hk ae;have hz:w.heap.size<w1.heap.size:=T.lt;have ac:¬w1.heap.size=b:=by have:=ha.lt;omega
 have al:¬w.heap.size=w1.heap.size:=by omega
 clear HL;go_wp2_with fail
 refine(Ie b (p+1) s _ _ 0 (ha.alloc _) (by omega) hs rfl HD.out).mono ?_;rintro e w2 ⟨rfl,aa,af⟩;have T1:=(FE.new w1 (.int .u8 113) (.int .i64 0) (.slice none 0 0)).keeps aa ac;have T2:=(T.alloc (.cells #[.int .u8 113,.int .i64 0,.slice none 0 0] 262)).keeps aa ae;have ag:=(((Af.refl b w).alloc Bh).trans hk).trans (((Af.refl b w1).alloc _).trans aa);obtain⟨c2,ab⟩:∃c2:Int,c2=(nx s (p+1):Int)-48:=⟨_,rfl⟩;rw[<-ab];have ai:=Ac ab;clear ab;obtain⟨x0,x1,x2,y0,y1,y2⟩:=T1.facts;have am:=T1.lt;clear T hk aa ha;go_wp2_with fail
 refine((Aa HC) _ (af.other (by simpa using ac) _)).mono ?_;rintro e w3 ⟨rfl,ah⟩;go_wp2;exact⟨rfl,rfl,(ag.setCell (by simp;omega) _).trans ah⟩
theorem Zc(b p f:Nat)(s:ByteArray)(w:World)(q:Nat)(h:At w b s p)(hp:p<s.size)(hs:s.size<=40)(hx:nx s p=113)(hd:48+0<=nx s (p+1)/\nx s (p+1)<=57)
  (ai:∀w,At w b s (p+2)->Calls Tryz.prog 221 #[.pointer (some ⟨b,0,none⟩)] w fun e w'=>∃d0 d1 d2,e=.returned (.agg #[d0,d1,d2])/\Af b w w'/\At w' b s q/\Fe w' (fun k=>w.heap.size<=k) (nx s) f (p+2) d0 d1 d2):
  Calls Tryz.prog 221 #[.pointer (some ⟨b,0,none⟩)] w fun e w'=>∃c0 c1 c2,e=.returned (.agg #[c0,c1,c2])/\Af b w w'/\At w' b s q/\Fe w' (fun k=>w.heap.size<=k) (nx s) (f+1) p c0 c1 c2:=by
 have ao:=h.lt;have HL:=Cv b p s (w.alloc Bh) 113 (h.alloc _) (by omega) hs hx (by omega);clear h;have ae:Hid (nx s p=113):=hx;clear hx;have aa:¬w.heap.size=b:=by omega
 have HD:Hid (48+0<=nx s (p+1)/\nx s (p+1)<=57):=hd;clear hd;have HC:=Ac ai;clear ai;go_enter Tryz.func221,Tryz.ntmps221;go_wp2_with fail
 refine HL.mono ?_;rintro e w1 ⟨rfl,hk,ha⟩;have T:=(FE.new w (.int .u8 0) (.int .i64 0) (.slice none 0 0)).keeps hk aa;have hz:w.heap.size<w1.heap.size:=T.lt;have ac:¬w1.heap.size=b:=by have:=ha.lt;omega
 have ap:¬w.heap.size=w1.heap.size:=by omega
 clear HL;go_wp2_with fail
 refine(Ie b (p+1) s _ _ 0 (ha.alloc _) (by omega) hs rfl HD.out).mono ?_;rintro e w2 ⟨rfl,ad,ah⟩;have T1:=(FE.new w1 (.int .u8 113) (.int .i64 0) (.slice none 0 0)).keeps ad ac;have T2:=(T.alloc (.cells #[.int .u8 113,.int .i64 0,.slice none 0 0] 262)).keeps ad aa;have al:=(((Af.refl b w).alloc Bh).trans hk).trans (((Af.refl b w1).alloc _).trans ad);obtain⟨c2,af⟩:∃c2:Int,c2=(nx s (p+1):Int)-48:=⟨_,rfl⟩;rw[<-af];have aj:=Ac af;clear af;obtain⟨x0,x1,x2,y0,y1,y2⟩:=T1.facts;have aq:=T1.lt;clear T hk ad ha;go_wp2_with fail
 refine((Aa HC) _ (ah.other (by simpa using ac) _)).mono ?_;rintro e w3 ⟨d0,d1,d2,rfl,ab,ak,ag⟩;have T3:=((T1.set1 (.int .i64 c2)).keeps ab ac).alloc (.cells #[d0,d1,d2] 262);have T4:=((T2.other (a:=⟨w1.heap.size,1,none⟩) (by simp;omega) (.int .i64 c2)).keeps ab aa).alloc (.cells #[d0,d1,d2] 262);have ar:w2.heap.size<=w3.heap.size:=by have:=ab.size;simpa using this
 obtain⟨x0,x1,x2,y0,y1,y2⟩:=T3.facts;obtain⟨u0,u1,u2,v0,v1,v2⟩:=T4.facts;have am:=(al.setCell (p:=⟨w1.heap.size,1,none⟩) (by simp;omega) (.int .i64 c2)).trans ab;clear T1 T2 T3 T4 ab ah;go_wp2;have ag:Fe w3 (fun k=>w2.heap.size<=k) (nx s) f (p+2) d0 d1 d2:=by simpa using ag
 refine bodyPost_ret (v:=.agg #[.int .u8 113,.int .i64 c2,.slice (some ⟨w3.heap.size,0,none⟩) 1 1]) (by simp[results,Tryz.results221,go_sem,u0,u1,u2]) rfl ⟨_,_,_,rfl,?_,?_,?_⟩
 ·exact((((am.alloc _).setCell (by simp;omega) _).setCell (by simp) _).setCell (by simp) _).setCell (by simp) _
 ·exact((((ak.alloc _).other (by simpa using ac) _).other (by simpa using aa) _).other (by simpa using aa) _).other (by simpa using aa) _
 ·refine PV (by rw[ae.out];rfl) (by rw[aj.out];unfold Bi;rw[if_pos (by rw[ae.out];omega)]) ?_;have an:Pt.kids (nx s) f p=[p+2]:=by simp[Pt.kids,ae.out]
  rw[an];refine QR (IL (GY (Nf w3 rfl) ?_) (fun k hk _=>by omega)) (DN (fun k hk _=>by omega) (Bw ?_ ag))
  ·exact((((Ct.refl _ _).setCell (by simp;omega) _).setCell (by simp;omega) _).setCell (by simp;omega) _).setCell (by simp;omega) _
  ·exact(((((Ct.refl _ _).alloc _).setCell (by simp;omega) _).setCell (by simp;omega) _).setCell (by simp;omega) _).setCell (by simp;omega) _
theorem M9(b p:Nat)(s:ByteArray)(w:World)(q:Nat)(h:At w b s p)(hp:p<s.size)(hs:s.size<=40)(hx:nx s p=114)
  (aa:∀w,At w b s (p+1)->Calls Tryz.prog 255 #[.pointer (some ⟨b,0,none⟩)] w fun e w'=>e=BO q/\Af b w w'):
  Calls Tryz.prog 221 #[.pointer (some ⟨b,0,none⟩)] w fun e w'=>e=BO q/\Af b w w':=by
 have af:=h.lt;have HL:=Cv b p s (w.alloc Bh) 114 (h.alloc _) (by omega) hs hx (by omega);clear h;have ad:Hid (nx s p=114):=hx;clear hx;have ac:¬w.heap.size=b:=by omega
 have HC:=Ac aa;clear aa;go_enter Tryz.func221,Tryz.ntmps221;go_wp2_with fail
 refine HL.mono ?_;rintro e w1 ⟨rfl,hk,ha⟩;have T:=(FE.new w (.int .u8 0) (.int .i64 0) (.slice none 0 0)).keeps hk ac;have hz:w.heap.size<w1.heap.size:=T.lt;have ae:¬w1.heap.size=b:=by have:=ha.lt;omega
 have ag:¬w.heap.size=w1.heap.size:=by omega
 clear HL;go_wp2_with fail
 refine((Aa HC) _ (ha.alloc _)).mono ?_;rintro e w3 ⟨rfl,ab⟩;go_wp2;exact⟨rfl,rfl,(((Af.refl b w).alloc Bh).trans hk).trans (((Af.refl b w1).alloc _).trans ab)⟩
theorem Zd(b p f:Nat)(s:ByteArray)(w:World)(q:Nat)(h:At w b s p)(hp:p<s.size)(hs:s.size<=40)(hx:nx s p=114)
  (af:∀w,At w b s (p+1)->Calls Tryz.prog 255 #[.pointer (some ⟨b,0,none⟩)] w fun e w'=>∃v,e=.returned v/\Af b w w'/\At w' b s q/\Kids w' (fun k=>w.heap.size<=k) (nx s) f (Pt.kids (nx s) f p) v):
  Calls Tryz.prog 221 #[.pointer (some ⟨b,0,none⟩)] w fun e w'=>∃c0 c1 c2,e=.returned (.agg #[c0,c1,c2])/\Af b w w'/\At w' b s q/\Fe w' (fun k=>w.heap.size<=k) (nx s) (f+1) p c0 c1 c2:=by
 have aj:=h.lt;have HL:=Cv b p s (w.alloc Bh) 114 (h.alloc _) (by omega) hs hx (by omega);clear h;have ad:Hid (nx s p=114):=hx;clear hx;have ac:¬w.heap.size=b:=by omega
 have HC:=Ac af;clear af;go_enter Tryz.func221,Tryz.ntmps221;go_wp2_with fail
 refine HL.mono ?_;rintro e w1 ⟨rfl,hk,ha⟩;have T:=(FE.new w (.int .u8 0) (.int .i64 0) (.slice none 0 0)).keeps hk ac;have hz:w.heap.size<w1.heap.size:=T.lt;have ae:¬w1.heap.size=b:=by have:=ha.lt;omega
 have ak:¬w.heap.size=w1.heap.size:=by omega
 clear HL;go_wp2_with fail
 refine((Aa HC) _ (ha.alloc _)).mono ?_;rintro e w3 ⟨v,rfl,aa,ag,ab⟩;obtain⟨va,vn,vc,hv⟩:∃a n c,v=.slice a n c:=by
  obtain⟨xs,⟨⟨_,ho⟩,_⟩,_⟩:=ab;rcases ho with ⟨rfl,_⟩|⟨g,cap,ai,rfl,_⟩
  ·exact⟨_,_,_,rfl⟩
  ·exact⟨_,_,_,rfl⟩
 subst hv;have T1:=(FE.new w1 (.int .u8 114) (.int .i64 0) (.slice none 0 0)).keeps aa ae;have T2:=(T.alloc (.cells #[.int .u8 114,.int .i64 0,.slice none 0 0] 262)).keeps aa ac;have ah:=(((Af.refl b w).alloc Bh).trans hk).trans (((Af.refl b w1).alloc _).trans aa);have al:=T1.lt;obtain⟨x0,x1,x2,y0,y1,y2⟩:=T1.facts;obtain⟨u0,u1,u2,v0,v1,v2⟩:=T2.facts;clear T T1 T2 hk aa ha;go_wp2;have ab:Kids w3 (fun k=>w1.heap.size+1<=k) (nx s) f (Pt.kids (nx s) f p) (.slice va vn vc):=by simpa using ab
 refine bodyPost_ret (v:=.agg #[.int .u8 114,.int .i64 0,.slice va vn vc]) (by simp[results,Tryz.results221,go_sem,u0,u1,u2]) rfl ⟨_,_,_,rfl,?_,?_,?_⟩
 ·repeat (first|exact ah|refine Af.setCell ?_ (by simp;try omega) _)
 ·repeat (first|exact ag|refine At.other ?_ (by first|simpa using ac|simpa using ae) _)
 ·refine PV (by rw[ad.out];rfl) (by unfold Bi;rw[if_neg (by rw[ad.out];omega)]) ?_;refine Ot (MZ ab ?_) (fun k hk _=>by omega);repeat (first|exact Ct.refl _ _|refine Ct.setCell ?_ (by simp;try omega) _)
theorem Na(b p:Nat)(s:ByteArray)(w:World)(q:Nat)(h:At w b s p)(hp:p<s.size)(hs:s.size<=40)(hx:nx s p=117)
  (aa:∀w,At w b s (p+1)->Calls Tryz.prog 255 #[.pointer (some ⟨b,0,none⟩)] w fun e w'=>e=BO q/\Af b w w'):
  Calls Tryz.prog 221 #[.pointer (some ⟨b,0,none⟩)] w fun e w'=>e=BO q/\Af b w w':=by
 have af:=h.lt;have HL:=Cv b p s (w.alloc Bh) 117 (h.alloc _) (by omega) hs hx (by omega);clear h;have ad:Hid (nx s p=117):=hx;clear hx;have ac:¬w.heap.size=b:=by omega
 have HC:=Ac aa;clear aa;go_enter Tryz.func221,Tryz.ntmps221;go_wp2_with fail
 refine HL.mono ?_;rintro e w1 ⟨rfl,hk,ha⟩;have T:=(FE.new w (.int .u8 0) (.int .i64 0) (.slice none 0 0)).keeps hk ac;have hz:w.heap.size<w1.heap.size:=T.lt;have ae:¬w1.heap.size=b:=by have:=ha.lt;omega
 have ag:¬w.heap.size=w1.heap.size:=by omega
 clear HL;go_wp2_with fail
 refine((Aa HC) _ (ha.alloc _)).mono ?_;rintro e w3 ⟨rfl,ab⟩;go_wp2;exact⟨rfl,rfl,(((Af.refl b w).alloc Bh).trans hk).trans (((Af.refl b w1).alloc _).trans ab)⟩
theorem Ze(b p f:Nat)(s:ByteArray)(w:World)(q:Nat)(h:At w b s p)(hp:p<s.size)(hs:s.size<=40)(hx:nx s p=117)
  (af:∀w,At w b s (p+1)->Calls Tryz.prog 255 #[.pointer (some ⟨b,0,none⟩)] w fun e w'=>∃v,e=.returned v/\Af b w w'/\At w' b s q/\Kids w' (fun k=>w.heap.size<=k) (nx s) f (Pt.kids (nx s) f p) v):
  Calls Tryz.prog 221 #[.pointer (some ⟨b,0,none⟩)] w fun e w'=>∃c0 c1 c2,e=.returned (.agg #[c0,c1,c2])/\Af b w w'/\At w' b s q/\Fe w' (fun k=>w.heap.size<=k) (nx s) (f+1) p c0 c1 c2:=by
 have aj:=h.lt;have HL:=Cv b p s (w.alloc Bh) 117 (h.alloc _) (by omega) hs hx (by omega);clear h;have ad:Hid (nx s p=117):=hx;clear hx;have ac:¬w.heap.size=b:=by omega
 have HC:=Ac af;clear af;go_enter Tryz.func221,Tryz.ntmps221;go_wp2_with fail
 refine HL.mono ?_;rintro e w1 ⟨rfl,hk,ha⟩;have T:=(FE.new w (.int .u8 0) (.int .i64 0) (.slice none 0 0)).keeps hk ac;have hz:w.heap.size<w1.heap.size:=T.lt;have ae:¬w1.heap.size=b:=by have:=ha.lt;omega
 have ak:¬w.heap.size=w1.heap.size:=by omega
 clear HL;go_wp2_with fail
 refine((Aa HC) _ (ha.alloc _)).mono ?_;rintro e w3 ⟨v,rfl,aa,ag,ab⟩;obtain⟨va,vn,vc,hv⟩:∃a n c,v=.slice a n c:=by
  obtain⟨xs,⟨⟨_,ho⟩,_⟩,_⟩:=ab;rcases ho with ⟨rfl,_⟩|⟨g,cap,ai,rfl,_⟩
  ·exact⟨_,_,_,rfl⟩
  ·exact⟨_,_,_,rfl⟩
 subst hv;have T1:=(FE.new w1 (.int .u8 117) (.int .i64 0) (.slice none 0 0)).keeps aa ae;have T2:=(T.alloc (.cells #[.int .u8 117,.int .i64 0,.slice none 0 0] 262)).keeps aa ac;have ah:=(((Af.refl b w).alloc Bh).trans hk).trans (((Af.refl b w1).alloc _).trans aa);have al:=T1.lt;obtain⟨x0,x1,x2,y0,y1,y2⟩:=T1.facts;obtain⟨u0,u1,u2,v0,v1,v2⟩:=T2.facts;clear T T1 T2 hk aa ha;go_wp2;have ab:Kids w3 (fun k=>w1.heap.size+1<=k) (nx s) f (Pt.kids (nx s) f p) (.slice va vn vc):=by simpa using ab
 refine bodyPost_ret (v:=.agg #[.int .u8 117,.int .i64 0,.slice va vn vc]) (by simp[results,Tryz.results221,go_sem,u0,u1,u2]) rfl ⟨_,_,_,rfl,?_,?_,?_⟩
 ·repeat (first|exact ah|refine Af.setCell ?_ (by simp;try omega) _)
 ·repeat (first|exact ag|refine At.other ?_ (by first|simpa using ac|simpa using ae) _)
 ·refine PV (by rw[ad.out];rfl) (by unfold Bi;rw[if_neg (by rw[ad.out];omega)]) ?_;refine Ot (MZ ab ?_) (fun k hk _=>by omega);repeat (first|exact Ct.refl _ _|refine Ct.setCell ?_ (by simp;try omega) _)
theorem aco:(Tryz.prog.info? 262).map (fun i=>(i.zero,i.size,i.bytes))=some (some (.agg #[.int .u8 0,.int .i64 0,.slice none 0 0]),3,40):=by kernel_rfl
def LK(b:Nat)(s:ByteArray)(f:Nat):Prop:=∀(p:Nat) (w:World),At w b s p->p<=s.size->s.size-p<f->Calls Tryz.prog 221 #[.pointer (some ⟨b,0,none⟩)] w (Da b s f p w)
def abZ(w:World)(B:Nat)(s:ByteArray)(f:Nat)(ks:List Nat)(v:Value)(xs:List Value):Prop:=
 ∀(i q:Nat),ks[i]?=some q->∃d0 d1 d2,xs[3*i]?=some d0/\xs[3*i+1]?=some d1/\xs[3*i+2]?=some d2/\Fe w (fun k=>B<=k/\v.ownBlock≠some k) (nx s) f q d0 d1 d2
structure Se(b f p:Nat)(s:ByteArray)(w:World)(j k q:Nat)(ks:List Nat)(v:Value)(xs:List Value)(wr:World):Prop where
 sum:k+j=6
 some:1<=k
 len:ks.length=k
 le:q<=s.size
 fuel:s.size-q<f
 reader:At wr b s q
 keeps:Af b w wr
 owns:wr.ownsRow w.heap.size 262 3 v k xs
 inside:abZ wr w.heap.size s f ks v xs
 rest:Pt.Ft (Pt.ty (nx s) f) (nx s) 5 (Pt.ty (nx s) f (p+1)).2=Pt.Ft (Pt.ty (nx s) f) (nx s) j q
 kids:(p+1) :: Pt.CV (Pt.ty (nx s) f) (nx s) 5 (Pt.ty (nx s) f (p+1)).2=ks++Pt.CV (Pt.ty (nx s) f) (nx s) j q
def lenOf:Value->Nat|.slice _ n _=>n|_=>0
theorem Bz{c2:Value}(h:Fe w S g f p c0 c1 c2):(∃x,c0=.int .u8 x)/\(∃x,c1=.int .i64 x)/\(∃a n c,c2=.slice a n c):=by
 cases f with
 |zero=>exact h.elim
 |succ f=>
  obtain⟨h0,h1,xs,⟨⟨_,ho⟩,_⟩,_⟩:=h;refine⟨⟨_,h0⟩,⟨_,h1⟩,?_⟩;rcases ho with ⟨hv,_⟩|⟨g,cap,aa,hv,_⟩
  ·exact⟨_,_,_,hv⟩
  ·exact⟨_,_,_,hv⟩
theorem IK(h:w.ownsRow B 262 3 v n xs)(hn:1<=n):∃g cap,v=.slice (some ⟨g,0,none⟩) n cap/\B<=g/\g<w.heap.size:=by
 obtain⟨_,h⟩:=h;rcases h with ⟨_,h0⟩|⟨g,cap,aa,hv,hg,hh,_⟩
 ·omega
 ·exact⟨g,cap,hv,hg,lt_of_block hh⟩
theorem Nc(h:w.ownsRow B 262 3 v n xs)(hk:Af b w w')(hb:b<B):w'.ownsRow B 262 3 v n xs:=by
 obtain⟨hl,h⟩:=h;refine⟨hl,?_⟩;rcases h with h|⟨g,cap,aa,hv,hg,hh,r⟩
 ·exact afJ h
 ·refine afM ⟨g,cap,aa,hv,hg,?_,r⟩;rw[hk.block g (lt_of_block hh) (by omega)];exact hh
theorem V0{q0:Nat}{w1:World}(ab:Af b w w1)(ac:Af b w1 w2)(ha:At w2 b s q0)(hq:(Pt.ty (nx s) f (p+1)).2=q0)(ae:q0<=s.size)(hf:s.size-q0<f)
  (hr:Fe w2 (fun k=>w1.heap.size<=k) (nx s) f (p+1) d0 d1 d2):
  Se b f p s w 5 1 q0 [p+1] (.slice (some ⟨w2.heap.size,0,none⟩) 1 1) [d0,d1,d2] (w2.alloc (.cells #[d0,d1,d2] 262)):=by
 have ag:=ab.size;have ah:=ac.size;refine⟨rfl,afI _,rfl,ae,hf,ha.alloc _,(ab.trans ac).alloc _,?_,?_,by rw[hq],by rw[hq];rfl⟩
 ·obtain⟨⟨hl,ho⟩,hS⟩:=Nf (d0:=d0) (d1:=d1) (d2:=d2) w2 rfl;refine⟨hl,?_⟩;rcases ho with ⟨h1,_⟩|⟨g,cap,ad,hv,hg,r⟩
  ·cases h1
  ·cases hv;exact afM ⟨_,_,ad,rfl,by omega,r⟩
 ·intro i q aa;match i,aa with
  |0,aa=>
   simp at aa;subst aa;refine⟨d0,d1,d2,rfl,rfl,rfl,Bw ((Ct.refl _ _).alloc _) (DN (fun k hk af=>⟨by omega,?_⟩) hr)⟩;simp only[Value.ownBlock,ne_eq,Option.some.injEq];omega
theorem Yn{q:Nat}{w3:World}{v':Value}(ay:b<w.heap.size)(I:Se b f p s w (j+1) k q ks v xs wr)(hk:Af b wr w2)
  (ha:At w2 b s (Pt.ty (nx s) f q).2) (hT:(Pt.ty (nx s) f q).1=true) (hb:Pt.Agree (nx s) s.size f) (hc:¬nx s q=41) (hr:Fe w2 (fun k=>wr.heap.size<=k) (nx s) f q d0 d1 d2)
  (al:w3.ownsRow w.heap.size 262 3 v' (k+1) (xs++[d0,d1,d2])) (hg:(w2.alloc (.cells #[d0,d1,d2] 262)).grownBy w3 v.ownBlock) (an:v'.ownBlock=v.ownBlock\/v'.ownBlock=some (w2.alloc (.cells #[d0,d1,d2] 262)).heap.size):
  Se b f p s w j (k+1) (Pt.ty (nx s) f q).2 (ks++[q]) v' (xs++[d0,d1,d2]) w3:=by
 obtain⟨av,ai,ak,ar,ae,aA,ag,how,aq,ah,af⟩:=I;obtain⟨g,cap,hv,ax,az⟩:=IK how ai;have aj:v.ownBlock=some g:=by rw[hv];rfl
 obtain⟨_,am,_⟩:=hb q 0 1 0 [] ar ae;obtain⟨q1,q2⟩:=am hT;have aB:=ag.size;have aC:=hk.size;have aD:xs.length=3*k:=by have:=how.1;omega
 have ao:(w2.alloc (.cells #[d0,d1,d2] 262)).heap.size=w2.heap.size+1:=by simp
 have aw:w2.heap.size+1<=w3.heap.size:=by have:=hg.size;omega
 have ac:∀k',k'<w2.heap.size->¬k'=g->w3.heap[k']?=w2.heap[k']?:=by
  intro k' hl hn;rw[hg.block k' (by omega) (by rw[aj];intro e;cases e;exact hn rfl)];exact Below.heap_alloc _ _ _ hl
 refine⟨by omega,by omega,by simp[ak],q2,by omega,?_,?_,al,?_,?_,?_⟩
 ·unfold At at ha ⊢;rw[ac b (lt_of_block ha) (by omega)];exact ha
 ·refine⟨?_,?_,?_,by omega,?_⟩
  ·exact hg.os.trans (hk.os.trans ag.os)
  ·exact hg.tape.trans (hk.tape.trans ag.tape)
  ·exact hg.output.trans (hk.output.trans ag.output)
  ·intro k' hl hn;rw[ac k' (by omega) (by omega),hk.block k' (by omega) hn,ag.block k' hl hn]
 ·have ab:∀(S:Nat->Prop),¬S g->Ct S w2 w3:=fun S hS=>⟨by omega,fun k' aa hl=>ac k' hl (fun e=>hS (e ▸ aa))⟩
  have fresh:∀k',k'<w2.heap.size->¬k'=g->v'.ownBlock≠some k':=by
   intro k' hl hn e;rcases an with h|h
   ·rw[h,aj]at e;cases e;exact hn rfl
   ·rw[h,ao]at e;cases e;omega
  intro i q' ad;by_cases hi:i<ks.length
  ·rw[af4 hi]at ad;obtain⟨e0,e1,e2,a0,a1,a2,au⟩:=aq i q' ad;refine⟨e0,e1,e2,?_,?_,?_,?_⟩
   ·rw[af4 (by omega)];exact a0
   ·rw[af4 (by omega)];exact a1
   ·rw[af4 (by omega)];exact a2
   ·have h1:=Bw (hk.above (S:=fun k=>w.heap.size<=k/\v.ownBlock≠some k) (by omega)) au;have h2:=DN (S':=fun k=>w.heap.size<=k/\v.ownBlock≠some k/\v'.ownBlock≠some k) (fun k' aa hl=>⟨aa.1,aa.2,fresh k' hl (fun e=>aa.2 (by rw[e];exact aj))⟩) h1;exact DN (fun k' aa _=>⟨aa.1,aa.2.2⟩) (Bw (ab _ (fun h=>h.2.1 aj)) h2)
  ·have ap:i=ks.length:=by
    rcases agy i (ks.length+1) with h|h
    ·omega
    ·rw[af5 (by simpa using h)]at ad;cases ad
   subst ap;rw[agh (afI _)]at ad;simp at ad;subst ad;refine⟨d0,d1,d2,?_,?_,?_,?_⟩
   ·rw[agh (by omega),show 3*ks.length-xs.length=0 by omega];rfl
   ·rw[agh (by omega),show 3*ks.length+1-xs.length=1 by omega];rfl
   ·rw[agh (by omega),show 3*ks.length+2-xs.length=2 by omega];rfl
   ·have h2:=DN (S':=fun k=>w.heap.size<=k/\¬k=g/\v'.ownBlock≠some k) (fun k' aa hl=>⟨by omega,by omega,fresh k' hl (by omega)⟩) hr;exact DN (fun k' aa _=>⟨aa.1,aa.2.2⟩) (Bw (ab _ (fun h=>h.2.1 rfl)) h2)
 ·rw[ah];simp[Pt.Ft,hc,hT]
 ·rw[af];simp[Pt.CV,hc]
def DV(b:Nat)(s:ByteArray)(f p:Nat)(w:World)(e:Ending)(w':World):Prop:=
 if (Pt.Ft (Pt.ty (nx s) f) (nx s) 5 (Pt.ty (nx s) f (p+1)).2).1 then ∃v,e=.returned v/\Af b w w'/\At w' b s (Pt.Ft (Pt.ty (nx s) f) (nx s) 5 (Pt.ty (nx s) f (p+1)).2).2/\Kids w' (fun k=>w.heap.size<=k) (nx s) f ((p+1) :: Pt.CV (Pt.ty (nx s) f) (nx s) 5 (Pt.ty (nx s) f (p+1)).2) v
 else e=BO (Pt.Ft (Pt.ty (nx s) f) (nx s) 5 (Pt.ty (nx s) f (p+1)).2).2/\Af b w w'
theorem MS{q:Nat}(ad:b<w.heap.size)(I:Se b f p s w j k q ks v xs wr)(hq:nx s q=41)(hk:Af b wr w')(ha:At w' b s (q+1)):
  DV b s f p w (.returned v) w':=by
 have e1:Pt.Ft (Pt.ty (nx s) f) (nx s) j q=(true,q+1):=by cases j<;>simp[Pt.Ft,hq]
 have e2:Pt.CV (Pt.ty (nx s) f) (nx s) j q=[]:=by cases j<;>simp[Pt.CV,hq]
 unfold DV;rw[I.rest,e1,I.kids,e2,agv,if_pos rfl];refine⟨v,rfl,I.keeps.trans hk,ha,xs,⟨?_,?_⟩,?_⟩
 ·obtain⟨hl,h⟩:=Nc I.owns hk ad;rw[I.len];refine⟨hl,?_⟩;rcases h with h|⟨g,cap,ab,hv,hg,r⟩
  ·exact afJ h
  ·exact afM ⟨g,cap,ab,hv,af8 _,r⟩
 ·intro k' aa;obtain⟨g,cap,hv,ac,af⟩:=IK I.owns I.some;rw[hv]at aa;cases aa;exact ac
 ·intro i q' ae;obtain⟨d0,d1,d2,a0,a1,a2,hr⟩:=I.inside i q' ae;refine⟨d0,d1,d2,a0,a1,a2,DN (fun k' aa _=>aa.1) (Bw (hk.above ?_) hr)⟩;intro h;have:=h.1;omega
theorem Tz{q:Nat}(I:Se b f p s w 0 k q ks v xs wr)(hq:¬nx s q=41)(hk:Af b wr w'):
  DV b s f p w (BO q) w':=by
 have e1:Pt.Ft (Pt.ty (nx s) f) (nx s) 0 q=(false,q):=by simp[Pt.Ft,hq]
 unfold DV;rw[I.rest,e1,if_neg (by simp)];exact⟨rfl,I.keeps.trans hk⟩
theorem aaW{q:Nat}(I:Se b f p s w (j+1) k q ks v xs wr)(hq:¬nx s q=41)(hT:(Pt.ty (nx s) f q).1=false)(hk:Af b wr w'):
  DV b s f p w (BO (Pt.ty (nx s) f q).2) w':=by
 have e1:Pt.Ft (Pt.ty (nx s) f) (nx s) (j+1) q=(false,(Pt.ty (nx s) f q).2):=by simp[Pt.Ft,hq,hT]
 unfold DV;rw[I.rest,e1,if_neg (by simp)];exact⟨rfl,I.keeps.trans hk⟩
end Go.Proofs.YtblomippkddgiabGreatDoor.V
