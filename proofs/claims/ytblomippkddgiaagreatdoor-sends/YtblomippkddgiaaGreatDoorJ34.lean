import Derived.Test.YtblomippkddgiaaGreatDoorJ33
set_option maxRecDepth 100000
set_option maxHeartbeats 2000000
namespace Go.Proofs.YtblomippkddgiaaGreatDoor
open Go.RowKit
abbrev Qr(c:R.Cf)(v:RV):List Value:=[.int .i64 c.Ad,.int .i64 c.lines,.int .i64 c.Al,.int .i64 c.tries,.int .i64 c.table,v.N,v.S,v.V,v.Fl,v.C,.slice (some ⟨v.L,0,none⟩) 3 3,.slice (some ⟨v.Sn,0,none⟩) 9 9,.slice none 0 0]
theorem RM.UX{x:Nat}{v:RV}{F:Ag}{G:R.Wd}{w W wz:World}{K:Value}{j0:Nat}(h:RM x v F G w)(hb:Below w.heap.size w W)(hg:W.grownBy wz v.N.ownBlock){name:List UInt8}(hown:wz.ownsRow 0 9 1 K (G.names.length+1) (CP G.names++[.string (str name)]))(hat:K.ownBlock=v.N.ownBlock\/K.ownBlock=some j0)(hj:w.heap.size<=j0):wz.heap[x]?=w.heap[x]?/\∃F',RM x {v with N:=K} F' {G with names:=G.names++[name]} (wz.setCell ⟨x,5,none⟩ K)/\Ah F F' w (wz.setCell ⟨x,5,none⟩ K):=by
 have hx:w.heap[x]?=some (.cells (Qr G.c v).toArray 229 (0,0)):=h.bx;obtain⟨d1,d2,d3,d4⟩:=FX (o:=5) hx h.names (by decide) hb hg hown hat hj;refine⟨(C9 h.bx h.names (by decide) hb hg).trans h.bx.symm,h.Ux d3 d2 ?_ d4⟩;rw[List.length_append];have e:CP (G.names++[name])=CP G.names++[.string (str name)]:=by simp[CP]
 rw[e];exact d1
theorem RM.Rt{x:Nat}{v:RV}{F:Ag}{G:R.Wd}{w W wz:World}{K:Value}{j0:Nat}(h:RM x v F G w)(hb:Below w.heap.size w W)(hg:W.grownBy wz v.S.ownBlock){u:Int}(hown:wz.ownsRow 0 3 1 K (G.stands.length+1) (BI G.stands++[.int .i64 u]))(hat:K.ownBlock=v.S.ownBlock\/K.ownBlock=some j0)(hj:w.heap.size<=j0):wz.heap[x]?=w.heap[x]?/\∃F',RM x {v with S:=K} F' {G with stands:=G.stands++[u]} (wz.setCell ⟨x,6,none⟩ K)/\Ah F F' w (wz.setCell ⟨x,6,none⟩ K):=by
 have hx:w.heap[x]?=some (.cells (Qr G.c v).toArray 229 (0,0)):=h.bx;obtain⟨d1,d2,d3,d4⟩:=FX (o:=6) hx h.stands (by decide) hb hg hown hat hj;refine⟨(C9 h.bx h.stands (by decide) hb hg).trans h.bx.symm,h.Ks d3 d2 ?_ d4⟩;rw[List.length_append];have e:BI (G.stands++[u])=BI G.stands++[.int .i64 u]:=by simp[BI]
 rw[e];exact d1
theorem RM.Mx{x:Nat}{v:RV}{F:Ag}{G:R.Wd}{w W wz:World}{K:Value}{j0:Nat}(h:RM x v F G w)(hb:Below w.heap.size w W)(hg:W.grownBy wz v.V.ownBlock){kind:Int}(hown:wz.ownsRow 0 271 3 K (v.zs.length+1) (tab YU v.zs++[.int .i64 kind,.bool true,.slice none 0 0]))(hat:K.ownBlock=v.V.ownBlock\/K.ownBlock=some j0)(hj:w.heap.size<=j0):wz.heap[x]?=w.heap[x]?/\∃v' F',RM x v' F' {G with Ac:=G.Ac++[⟨kind,true,[]⟩]} (wz.setCell ⟨x,7,none⟩ K)/\Ah F F' w (wz.setCell ⟨x,7,none⟩ K):=by
 have hx:w.heap[x]?=some (.cells (Qr G.c v).toArray 229 (0,0)):=h.bx;obtain⟨d1,d2,d3,d4⟩:=FX (o:=7) hx h.C5 (by decide) hb hg hown hat hj;refine⟨(C9 h.bx h.C5 (by decide) hb hg).trans h.bx.symm,?_⟩;obtain⟨F',r1,r2⟩:=h.Lp (K:=K) (zs:=v.zs++[(⟨kind,true,[]⟩,.slice none 0 0)]) d3 d2 (by
  rw[List.length_append,D9];exact d1) (fun z hz=>by
  rcases List.mem_append.1 hz with q|q
  ·exact h.F7 z q
  ·rw[List.mem_singleton.1 q];exact⟨rfl,rfl⟩) d4
 rw[List.map_append,h.zs]at r1;exact⟨_,F',r1,r2⟩
theorem Hf:∀l:List Int,BI l=tab (fun n=>[Value.int .i64 n]) l
 |[]=>rfl
 |a :: l=>by
  have ih:=Hf l;simp only[BI,tab,List.map_cons,List.flatMap_cons,List.singleton_append]at ih ⊢;rw[ih]
theorem RM.GJ{x:Nat}{v:RV}{F:Ag}{G:R.Wd}{w:World}(h:RM x v F G w){k:Nat}{u0:Int}(hk:G.stands[k]?=some u0)(u:Int):∃g cap,v.S=.slice (some ⟨g,0,none⟩) G.stands.length cap/\w.cell? ⟨g,k,none⟩=some (.int .i64 u0)/\w.frozen? ⟨g,k,none⟩=false/\∃F',RM x v F' {G with stands:=G.stands.set k u} (w.setCell ⟨g,k,none⟩ (.int .i64 u))/\Ah F F' w (w.setCell ⟨g,k,none⟩ (.int .i64 u)):=by
 have e1:=Hf G.stands;have hrow:=h.stands;rw[e1]at hrow;obtain⟨g,cap,hS,hgl,hcell,hfz⟩:=DU (f:=fun n=>[Value.int .i64 n]) (size:=1) (fun _=>rfl) (by omega) hrow hk;have c0:=hcell 0 (.int .i64 u0) (by omega) rfl;simp only[Nat.mul_one,Nat.add_zero]at c0;refine⟨g,cap,hS,c0,hfz _,?_⟩;rw[hS]at hrow;have hset:=GH (f:=fun n=>[Value.int .i64 n]) (size:=1) (fun _=>rfl) hrow (y':=u) hk (j:=0) (by omega) (u:=.int .i64 u) rfl;simp only[Nat.mul_one,Nat.add_zero]at hset;have hkp:Ae (fun j=>j=g) w (w.setCell ⟨g,k,none⟩ (.int .i64 u)):=Ae.setCell (F:=fun j=>j=g) (Ae.refl _ w) (p:=⟨g,k,none⟩) (Or.inl rfl) _;have hne:¬x=g:=fun e=>by
  subst e;obtain⟨cur,hc⟩:=C4 hrow rfl;exact AO hc h.bx (by decide) rfl
 refine h.Ks (K:=v.S) (hkp.mono (fun j _ e=>Or.inr (by rw[hS,e];rfl))) (hkp.at h.bx hne) ?_ (fun j hj=>Or.inl hj);have e2:=Hf (G.stands.set k u);rw[e2,hS,List.length_set];exact hset
theorem PZ:(Tryz.prog.info? 9).map (fun i=>(i.zero,i.size,i.bytes))=some (some (.string ⟨#[]⟩),1,16):=by kernel_rfl
theorem KX:(Tryz.prog.info? 3).map (fun i=>(i.zero,i.size,i.bytes))=some (some (.int .i64 0),1,8):=by kernel_rfl
theorem Uc:(Tryz.prog.info? 271).map (fun i=>(i.zero,i.size,i.bytes))=some (some (.agg #[.int .i64 0,.bool false,.slice none 0 0]),3,40):=by kernel_rfl
theorem Em(w:World)(t:TypeId)(l:List Value)(j:Nat)(u:Value)(h:l[j]?=some u):(w.alloc (.cells l.toArray t)).cell? ((⟨w.heap.size,0,none⟩:Addr).add j)=some u:=by
 rw[Addr.add_lit,Nat.zero_add,World.cell?_alloc_new w _ _ j,<-List.getElem?_toArray]at *;exact h
theorem Xf(w:World)(x:Nat)(S:ByteArray)(kind e0:Int)(nm:Bool)(en:Int)(aN aV:Option Addr)(nN cN nV cV:Nat)(H212:Hid (∀w,Calls Tryz.prog 215 #[.string S] w fun e w'=>e=.returned (.bool nm)/\w'=w))(H213:Hid (Calls Tryz.prog 216 #[Av x,.string S] w fun e w'=>e=.returned (.int .i64 en)/\w'=w))(x5:w.cell? ⟨x,5,none⟩=some (.slice aN nN cN))(x7:w.cell? ⟨x,7,none⟩=some (.slice aV nV cV))
  (h:(nm=false/\e0=10)\/(nm=true/\(kind<0\/2<kind)/\e0=9)\/(nm=true/\¬kind<0/\¬2<kind/\en<0/\nN=6/\e0=12)\/(nm=true/\¬kind<0/\¬2<kind/\¬(en<0/\nN=6)/\nV=255/\e0=11)):
  Calls Tryz.prog 159 #[Av x,.string S,.int .i64 kind] w fun e w'=>e=.returned (.tuple #[.int .i64 0,.int .i64 e0])/\w'=w:=by
 have hx:=lt_of_cell x5;rcases h with ⟨h1,h2⟩|⟨h1,h2,h3⟩|⟨h1,h2,h3,h4,h5,h6⟩|⟨h1,h2,h3,h4,h5,h6⟩
 ·subst h1 h2;go_enter Tryz.func159,Tryz.ntmps159;go_wp2_with (first|(go_at_call 215;refine((Aa H212) _).mono ?_;rintro e w1 ⟨rfl,hw1⟩;rw[hw1];clear hw1)|(go_at_call 216;refine(Aa H213).mono ?_;rintro e w1 ⟨rfl,hw1⟩;rw[hw1];clear hw1))
  go_returns;exact⟨rfl,rfl⟩
 ·subst h1 h3;by_cases hk:kind<0
  ·go_enter Tryz.func159,Tryz.ntmps159;go_wp2_with (first|(go_at_call 215;refine((Aa H212) _).mono ?_;rintro e w1 ⟨rfl,hw1⟩;rw[hw1];clear hw1)|(go_at_call 216;refine(Aa H213).mono ?_;rintro e w1 ⟨rfl,hw1⟩;rw[hw1];clear hw1))
   go_returns;exact⟨rfl,rfl⟩
  ·have hk2:2<kind:=by omega
   go_enter Tryz.func159,Tryz.ntmps159;go_wp2_with (first|(go_at_call 215;refine((Aa H212) _).mono ?_;rintro e w1 ⟨rfl,hw1⟩;rw[hw1];clear hw1)|(go_at_call 216;refine(Aa H213).mono ?_;rintro e w1 ⟨rfl,hw1⟩;rw[hw1];clear hw1))
   go_returns;exact⟨rfl,rfl⟩
 ·subst h1 h5 h6;go_enter Tryz.func159,Tryz.ntmps159;go_wp2_with (first|(go_at_call 215;refine((Aa H212) _).mono ?_;rintro e w1 ⟨rfl,hw1⟩;rw[hw1];clear hw1)|(go_at_call 216;refine(Aa H213).mono ?_;rintro e w1 ⟨rfl,hw1⟩;rw[hw1];clear hw1))
  go_returns;exact⟨rfl,rfl⟩
 ·subst h1 h5 h6;by_cases he:en<0
  ·have hn6:((nN:Int)==6)=false:=by simp;omega
   go_enter Tryz.func159,Tryz.ntmps159;go_wp2_with (first|(go_at_call 215;refine((Aa H212) _).mono ?_;rintro e w1 ⟨rfl,hw1⟩;rw[hw1];clear hw1)|(go_at_call 216;refine(Aa H213).mono ?_;rintro e w1 ⟨rfl,hw1⟩;rw[hw1];clear hw1))
   go_returns;exact⟨rfl,rfl⟩
  ·go_enter Tryz.func159,Tryz.ntmps159;go_wp2_with (first|(go_at_call 215;refine((Aa H212) _).mono ?_;rintro e w1 ⟨rfl,hw1⟩;rw[hw1];clear hw1)|(go_at_call 216;refine(Aa H213).mono ?_;rintro e w1 ⟨rfl,hw1⟩;rw[hw1];clear hw1))
   go_returns;exact⟨rfl,rfl⟩
theorem Gn(w:World)(B:Nat)(hB:w.heap.size=B)(t:TypeId)(l:List Value)(j:Nat)(u:Value)(h:l[j]?=some u):(w.alloc (.cells l.toArray t)).cell? ((⟨B,0,none⟩:Addr).add j)=some u:=by
 subst hB;exact Em w t l j u h
theorem Ju{w:World}{a:Addr}{v:Value}:(w.setCell a v).heap.size=w.heap.size:=by simp[World.setCell]
theorem U4(w:World)(x:Nat)(v:RV)(F:Ag)(G:R.Wd)(h:RM x v F G w)(name:List UInt8)(kind:Int)(hk0:¬kind<0)(hk2:¬2<kind)(hnm:R.AY name=true)(hen:Cy G.names name=-1)(hn6:G.names.length<6)(hst:G.stands.length=G.names.length)(hsv:G.Ac.length<255):
  Calls Tryz.prog 159 #[Av x,.string (str name),.int .i64 kind] w fun e w'=>e=.returned (.tuple #[.int .i64 ((G.Ac.length:Int)+1),.int .i64 0])/\∃v' F',RM x v' F' {G with names:=G.names++[name],stands:=G.stands++[(G.Ac.length:Int)+1],Ac:=G.Ac++[⟨kind,true,[]⟩]} w'/\Ah F F' w w':=by
 have H212:=Ab (fun w=>Gq name w);have H213:=Ab (h.entry (by omega) name);rw[hnm]at H212;rw[hen]at H213;have hzl:v.zs.length=G.Ac.length:=by rw[<-h.zs,List.length_map]
 obtain⟨aN,cN,hN⟩:=AR h.names;obtain⟨aV,cV,hV⟩:=AR h.C5;rw[hzl]at hV;have x5:w.cell? ⟨x,5,none⟩=some (.slice aN G.names.length cN):=cell_of h.bx 5 _ (by rw[<-hN];rfl);have x7:w.cell? ⟨x,7,none⟩=some (.slice aV G.Ac.length cV):=cell_of h.bx 7 _ (by rw[<-hV];rfl);obtain⟨aS,cS,hS⟩:=AR h.stands;have x6:w.cell? ⟨x,6,none⟩=some (.slice aS G.stands.length cS):=cell_of h.bx 6 _ (by rw[<-hS];rfl);have hx:=lt_of_cell x5;have HS:=Ab hS;have HVV:=Ab hV;have eu:IntKind.i64.wrap ((G.Ac.length:Int)+1)=(G.Ac.length:Int)+1:=by rw[IntKind.wrap_i64];omega
 have hn6':((G.names.length:Int)==6)=false:=by simp;omega
 have hsv':((G.Ac.length:Int)==255)=false:=by simp;omega
 obtain⟨iS,hiS,hS0,hS1,hS2⟩:=info_parts PZ;obtain⟨iI,hiI,hI0,hI1,hI2⟩:=info_parts KX;obtain⟨iV,hiV,hV0,hV1,hV2⟩:=info_parts Uc;have hrowN:=h.names;rw[hN]at hrowN;have HRN:=Ab hrowN;have HH:=Ab h;have HN:=Ab hN;have HSTL:=Ab hst;clear h hN hV hrowN hnm hen hst hS;go_enter Tryz.func159,Tryz.ntmps159;go_wp2_with (first|(go_at_call 215;refine((Aa H212) _).mono ?_;rintro e w1 ⟨rfl,hw1⟩;rw[hw1];clear hw1 H212)|(go_at_call 216;refine(Aa H213).mono ?_;rintro e w1 ⟨rfl,hw1⟩;rw[hw1];clear hw1 H213)|(at_builtin;go_must (refine wpList_append_own_at _ rfl (.tmp 72) (.tmp 74) 222 rfl 0 9 iS (.string ⟨#[]⟩) 1 16 Tryz.underlying222 hiS hS0 hS1 hS2 rfl (by decide) (.slice aN G.names.length cN) G.names.length (CP G.names) rfl (by exact(Aa HRN).alloc _) ⟨w.heap.size,0,none⟩ 1 1 [.string (str name)] rfl rfl (by exact Em w 9 [.string (str name)]) (by simp[Value.oneCell']) (by unfold maxLen;omega) (by omega) (by omega) ?_)))
 intro K1 wz1 how1 hg1 _ hat1;have hp1:=(Aa HH).UX (W:=w.alloc (.cells #[.string (str name)] 9)) ((Below.refl _ _).alloc (Nat.le_refl _) _) (by rw[Aa HN];exact hg1) how1 (by rw[Aa HN];exact hat1) (by simp);obtain⟨va1,vn1,vc1,hvs1⟩:=Am how1;subst hvs1;obtain⟨hx1,F1,hM1,hW1⟩:=hp1;have u5:wz1.cell? ⟨x,5,none⟩=some (.slice aN G.names.length cN):=(World.cell?_of_block hx1).trans x5;have z5:wz1.frozen? ⟨x,5,none⟩=false:=(World.frozen?_of_block hx1).trans (Cs (Aa HH).bx 5);have l5:=lt_of_cell u5;have u6:wz1.cell? ⟨x,6,none⟩=some (.slice aS G.stands.length cS):=(World.cell?_of_block hx1).trans x6;have hrowS:=hM1.stands;rw[show ({v with N:=Value.slice va1 vn1 vc1}:RV).S=.slice aS G.stands.length cS from Aa HS]at hrowS;have HRS:=Ab hrowS;have HM1:=Ab hM1;have HW1:=Ab hW1;have hs1:w.heap.size<=wz1.heap.size:=by have:=hW1.keeps.size;simpa using this
 have hsl:G.stands.length<=10:=by have:=Aa HSTL;omega
 clear how1 hg1 hat1 hx1 hM1 hW1 hrowS HRN;go_wp2_with (at_builtin;go_must (refine wpList_append_own_at _ rfl (.tmp 82) (.tmp 84) 35 rfl 0 3 iI (.int .i64 0) 1 8 Tryz.underlying35 hiI hI0 hI1 hI2 rfl (by decide) (.slice aS G.stands.length cS) G.stands.length (BI G.stands) rfl (by exact(Aa HRS).alloc _) ⟨wz1.heap.size,0,none⟩ 1 1 [.int .i64 ((G.Ac.length:Int)+1)] rfl rfl (by exact Gn (wz1.setCell ⟨x,5,none⟩ (.slice va1 vn1 vc1)) _ Ju 3 [.int .i64 ((G.Ac.length:Int)+1)]) (by simp[Value.oneCell']) (by unfold maxLen;omega) (by omega) (by omega) ?_))
 intro K2 wz2 how2 hg2 _ hat2;have hp2:=(Aa HM1).Rt (W:=(wz1.setCell ⟨x,5,none⟩ (.slice va1 vn1 vc1)).alloc (.cells #[.int .i64 ((G.Ac.length:Int)+1)] 3)) ((Below.refl _ _).alloc (Nat.le_refl _) _) (by rw[show ({v with N:=Value.slice va1 vn1 vc1}:RV).S=.slice aS G.stands.length cS from Aa HS];exact hg2) how2 (by rw[show ({v with N:=Value.slice va1 vn1 vc1}:RV).S=.slice aS G.stands.length cS from Aa HS];exact hat2) (by simp);obtain⟨va2,vn2,vc2,hvs2⟩:=Am how2;subst hvs2;obtain⟨hx2,F2,hM2,hW2⟩:=hp2;have b1:=(Aa HM1).bx;have t6:wz2.cell? ⟨x,6,none⟩=some (.slice aS G.stands.length cS):=(World.cell?_of_block hx2).trans (cell_of b1 6 _ (by rw[<-Aa HS];rfl));have tz6:wz2.frozen? ⟨x,6,none⟩=false:=(World.frozen?_of_block hx2).trans (Cs b1 6);have t7:wz2.cell? ⟨x,7,none⟩=some (.slice aV G.Ac.length cV):=(World.cell?_of_block hx2).trans (cell_of b1 7 _ (by rw[<-Aa HVV];rfl));have l6:=lt_of_cell t6;have hrowV:=hM2.C5;rw[show v.zs.length=G.Ac.length from hzl]at hrowV;have hVe:({({v with N:=Value.slice va1 vn1 vc1}:RV) with S:=Value.slice va2 vn2 vc2}:RV).V=.slice aV G.Ac.length cV:=Aa HVV;rw[hVe]at hrowV;have HRV:=Ab hrowV;have HM2:=Ab hM2;have HW2:=Ab ((Aa HW1).trans hW2);clear how2 hg2 hat2 hx2 hM2 hW2 hrowV HRS HM1 HW1 b1 u5 z5 u6;go_wp2_with (at_builtin;go_must (refine wpList_append_own_at _ rfl (.tmp 92) (.tmp 95) 223 rfl 0 271 iV (.agg #[.int .i64 0,.bool false,.slice none 0 0]) 3 40 Tryz.underlying223 hiV hV0 hV1 hV2 rfl (by decide) (.slice aV G.Ac.length cV) G.Ac.length (tab YU v.zs) rfl (by exact(Aa HRV).alloc _) ⟨wz2.heap.size,0,none⟩ 1 1 [.int .i64 kind,.bool true,.slice none 0 0] rfl rfl (by exact Gn (wz2.setCell ⟨x,6,none⟩ (.slice va2 vn2 vc2)) _ Ju 271 [.int .i64 kind,.bool true,.slice none 0 0]) (by simp[Value.oneCell']) (by unfold maxLen;omega) (by omega) (by omega) ?_))
 intro K3 wz3 how3 hg3 _ hat3;have hp3:=(Aa HM2).Mx (W:=(wz2.setCell ⟨x,6,none⟩ (.slice va2 vn2 vc2)).alloc (.cells #[.int .i64 kind,.bool true,.slice none 0 0] 271)) ((Below.refl _ _).alloc (Nat.le_refl _) _) (by rw[hVe];exact hg3) (by rw[show ({({v with N:=Value.slice va1 vn1 vc1}:RV) with S:=Value.slice va2 vn2 vc2}:RV).zs.length=G.Ac.length from hzl];exact how3) (by rw[hVe];exact hat3) (by simp);obtain⟨va3,vn3,vc3,hvs3⟩:=Am how3;subst hvs3;obtain⟨hx3,v3,F3,hM3,hW3⟩:=hp3;have b2:=(Aa HM2).bx;have s7:wz3.cell? ⟨x,7,none⟩=some (.slice aV G.Ac.length cV):=(World.cell?_of_block hx3).trans (cell_of b2 7 _ (by rw[<-hVe];rfl));have sz7:wz3.frozen? ⟨x,7,none⟩=false:=(World.frozen?_of_block hx3).trans (Cs b2 7);have l7:=lt_of_cell s7;have HM3:=Ab hM3;have HW3:=Ab ((Aa HW2).trans hW3);clear how3 hg3 hat3 hx3 hM3 hW3 HRV HM2 HW2 b2 t6 tz6 t7 hVe;go_wp2_with fail
 go_returns;exact⟨rfl,v3,F3,Aa HM3,Aa HW3⟩
theorem TQ(G:R.Wd)(uid:Int):(R.Ce G uid).Ac.length=G.Ac.length:=by simp[R.Ce]
theorem Ib(G:R.Wd)(uid:Int):(R.Ce G uid).stands=G.stands:=rfl
theorem U5(w:World)(x:Nat)(v:RV)(F:Ag)(G:R.Wd)(h:RM x v F G w)(hseen:G.seen=List.replicate 9 R.Ef)(name:List UInt8)(kind:Int)(k:Nat)(u0:Int)(hk0:¬kind<0)(hk2:¬2<kind)(hnm:R.AY name=true)(hen:Cy G.names name=(k:Int))(hn6:G.names.length<=6)(hst:G.stands[k]?=some u0)(hst6:G.stands.length<=6)(hu1:1<=u0)(hu2:u0<=(G.Ac.length:Int))(hsv:G.Ac.length<255):
  Calls Tryz.prog 159 #[Av x,.string (str name),.int .i64 kind] w fun e w'=>e=.returned (.tuple #[.int .i64 ((G.Ac.length:Int)+1),.int .i64 0])/\∃v' F',RM x v' F' {R.Ce G u0 with stands:=(R.Ce G u0).stands.set k ((G.Ac.length:Int)+1),Ac:=(R.Ce G u0).Ac++[⟨kind,true,[]⟩]} w'/\Ah F F' w w':=by
 have H212:=Ab (fun w=>Gq name w);have H213:=Ab (h.entry hn6 name);rw[hnm]at H212;rw[hen]at H213;have hzl:v.zs.length=G.Ac.length:=by rw[<-h.zs,List.length_map]
 obtain⟨aV,cV,hV⟩:=AR h.C5;obtain⟨aN,cN,hN⟩:=AR h.names;rw[hzl]at hV;obtain⟨gS,cS,hS,cu,_,_⟩:=h.GJ hst 0;have x5:w.cell? ⟨x,5,none⟩=some (.slice aN G.names.length cN):=cell_of h.bx 5 _ (by rw[<-hN];rfl);have x6:w.cell? ⟨x,6,none⟩=some (.slice (some ⟨gS,0,none⟩) G.stands.length cS):=cell_of h.bx 6 _ (by rw[<-hS];rfl);have x7:w.cell? ⟨x,7,none⟩=some (.slice aV G.Ac.length cV):=cell_of h.bx 7 _ (by rw[<-hV];rfl);have hx:=lt_of_cell x6;have eu:IntKind.i64.wrap ((G.Ac.length:Int)+1)=(G.Ac.length:Int)+1:=by rw[IntKind.wrap_i64];omega
 have hsv':((G.Ac.length:Int)==255)=false:=by simp;omega
 have hkl:=(List.getElem?_eq_some_iff.1 hst).1;have q0:(0:Int)<=(k:Int):=by omega
 have q1:(k:Int)<(G.stands.length:Int):=by omega
 have q2:¬(k:Int)<0:=by omega
 obtain⟨iV,hiV,hV0,hV1,hV2⟩:=info_parts Uc;have H214:=Ab (h.end_ hseen (by omega) hu1 hu2);have HSV:=Ab hS;have HST:=Ab hst;clear h hN hV hnm hen hst;go_enter Tryz.func159,Tryz.ntmps159;go_wp2_with (first|(go_at_call 215;refine((Aa H212) _).mono ?_;rintro e w1 ⟨rfl,hw1⟩;rw[hw1];clear hw1 H212)|(go_at_call 216;refine(Aa H213).mono ?_;rintro e w1 ⟨rfl,hw1⟩;rw[hw1];clear hw1 H213))
 refine(Aa H214).mono ?_;rintro e w1 ⟨rfl,v1,F1,hM1,hvS,hvN,hW1⟩;clear H214;obtain⟨g1,c1,hS1,cu1,z1,F2,hM2,hW2⟩:=hM1.GJ (k:=k) (u0:=u0) (by rw[Ib];exact Aa HST) ((G.Ac.length:Int)+1);rw[Ib]at hS1;have y6:w1.cell? ⟨x,6,none⟩=some (.slice (some ⟨g1,0,none⟩) G.stands.length c1):=cell_of hM1.bx 6 _ (by rw[<-hS1];rfl);obtain⟨aV2,cV2,hV2'⟩:=AR hM1.C5;have hzl1:v1.zs.length=G.Ac.length:=by rw[<-TQ G u0,<-hM1.zs,List.length_map]
 rw[hzl1]at hV2';have y7:w1.cell? ⟨x,7,none⟩=some (.slice aV2 G.Ac.length cV2):=cell_of hM1.bx 7 _ (by rw[<-hV2'];rfl);have hxg:¬g1=x:=fun e=>by
  have hr:=hM1.stands;rw[hS1]at hr;obtain⟨cur,hc⟩:=C4 hr rfl;subst e;exact AO hc hM1.bx (by decide) rfl
 have hrowV:=hM2.C5;rw[hzl1,hV2']at hrowV;have hx1:=lt_of_cell y6;have hgl:=lt_of_cell cu1;have HRV:=Ab hrowV;have HM2:=Ab hM2;have HVE:=Ab hV2';have HW2:=Ab (hW1.trans hW2);clear hM1 hM2 hW1 hW2 hrowV hV2' x5 x6 x7 cu hvS hvN;go_wp2_with (at_builtin;go_must (refine wpList_append_own_at _ rfl (.tmp 92) (.tmp 95) 223 rfl 0 271 iV (.agg #[.int .i64 0,.bool false,.slice none 0 0]) 3 40 Tryz.underlying223 hiV hV0 hV1 hV2 rfl (by decide) (.slice aV2 G.Ac.length cV2) G.Ac.length (tab YU v1.zs) rfl (by exact(Aa HRV).alloc _) ⟨w1.heap.size,0,none⟩ 1 1 [.int .i64 kind,.bool true,.slice none 0 0] rfl rfl (by exact Gn (w1.setCell ⟨g1,k,none⟩ (.int .i64 ((G.Ac.length:Int)+1))) _ Ju 271 [.int .i64 kind,.bool true,.slice none 0 0]) (by simp[Value.oneCell']) (by unfold maxLen;omega) (by omega) (by omega) ?_))
 intro K3 wz3 how3 hg3 _ hat3;have hp3:=(Aa HM2).Mx (W:=(w1.setCell ⟨g1,k,none⟩ (.int .i64 ((G.Ac.length:Int)+1))).alloc (.cells #[.int .i64 kind,.bool true,.slice none 0 0] 271)) ((Below.refl _ _).alloc (Nat.le_refl _) _) (by rw[Aa HVE];exact hg3) (by rw[hzl1];exact how3) (by rw[Aa HVE];exact hat3) (by simp);obtain⟨va3,vn3,vc3,hvs3⟩:=Am how3;subst hvs3;obtain⟨hx3,v3,F3,hM3,hW3⟩:=hp3;have b2:=(Aa HM2).bx;have s7:wz3.cell? ⟨x,7,none⟩=some (.slice aV2 G.Ac.length cV2):=(World.cell?_of_block hx3).trans (cell_of b2 7 _ (by rw[<-Aa HVE];rfl));have sz7:wz3.frozen? ⟨x,7,none⟩=false:=(World.frozen?_of_block hx3).trans (Cs b2 7);have l7:=lt_of_cell s7;have HM3:=Ab hM3;have HW3:=Ab ((Aa HW2).trans hW3);clear how3 hg3 hat3 hx3 hM3 hW3 HRV HM2 HW2 b2;go_wp2_with fail
 go_returns;exact⟨rfl,v3,F3,Aa HM3,Aa HW3⟩
theorem RW.export{x:Nat}{v:RV}{F:Ag}{G:R.Wd}{w:World}(h:RW x v F G w)(name:List UInt8)(kind:Int):Calls Tryz.prog 159 #[Av x,.string (str name),.int .i64 kind] w fun e w'=>e=.returned (.tuple #[.int .i64 (R.AJ G name kind).1.1,.int .i64 (R.AJ G name kind).1.2])/\∃v' F',RW x v' F' (R.AJ G name kind).2 w'/\Ah F F' w w':=by
 have hM:=h.mem;have hwf:=h.wf;have hw2:=hwf.export name kind;have hnm6:=hwf.nm;have hsv:=hwf.sv;have hzl:v.zs.length=G.Ac.length:=by rw[<-h.zs,List.length_map]
 obtain⟨aN,cN,hN⟩:=AR h.names;obtain⟨aV,cV,hV⟩:=AR h.C5;rw[hzl]at hV;have x5:w.cell? ⟨x,5,none⟩=some (.slice aN G.names.length cN):=cell_of h.bx 5 _ (by rw[<-hN];rfl);have x7:w.cell? ⟨x,7,none⟩=some (.slice aV G.Ac.length cV):=cell_of h.bx 7 _ (by rw[<-hV];rfl);have hno:=fun (e0:Int)=>Xf w x (str name) kind e0 (R.AY name) (Cy G.names name) aN aV G.names.length cN G.Ac.length cV (Ab fun w=>Gq name w) (Ab (hM.entry hnm6 name)) x5 x7
 have same:∀{e0:Int},Calls Tryz.prog 159 #[Av x,.string (str name),.int .i64 kind] w (fun e w'=>e=.returned (.tuple #[.int .i64 0,.int .i64 e0])/\w'=w)->Calls Tryz.prog 159 #[Av x,.string (str name),.int .i64 kind] w fun e w'=>e=.returned (.tuple #[.int .i64 0,.int .i64 e0])/\∃v' F',RW x v' F' G w'/\Ah F F' w w':=fun hc=>hc.mono (by
  rintro e w' ⟨rfl,rfl⟩;exact⟨rfl,v,F,h,Ah.refl F _⟩)
 unfold R.AJ at hw2 ⊢;by_cases hn:R.AY name=false
 ·rw[if_pos hn];exact same (hno 10 (Or.inl ⟨hn,rfl⟩))
 ·rw[if_neg hn]at hw2 ⊢;rw[Bool.not_eq_false]at hn;by_cases hk:kind<0\/2<kind
  ·rw[if_pos hk];exact same (hno 9 (Or.inr (Or.inl ⟨hn,hk,rfl⟩)))
  ·rw[if_neg hk]at hw2 ⊢;cases he:R.Bh G name with
   |none=>
    have hI:Cy G.names name=-1:=by
     rw[hM.Bh,he]
    simp only[he]at hw2 ⊢;by_cases h6:G.names.length=6
    ·rw[if_pos h6];exact same (hno 12 (Or.inr (Or.inr (Or.inl ⟨hn,by omega,by omega,by omega,h6,rfl⟩))))
    ·rw[if_neg h6]at hw2 ⊢;by_cases h255:G.Ac.length=255
     ·rw[if_pos h255];exact same (hno 11 (Or.inr (Or.inr (Or.inr ⟨hn,by omega,by omega,by omega,h255,rfl⟩))))
     ·rw[if_neg h255]at hw2 ⊢;refine(U4 w x v F G hM name kind (by omega) (by omega) hn hI (by omega) hwf.st (by omega)).mono ?_;rintro e w' ⟨rfl,v',F',r1,r2⟩;exact⟨rfl,v',F',r1.whole hw2 h.CF,r2⟩
   |some k=>
    have hI:Cy G.names name=(k:Int):=by
     rw[hM.Bh,he]
    simp only[he]at hw2 ⊢;have hkl:=(List.getElem?_eq_some_iff.1 (R.CS he)).1;by_cases h255:G.Ac.length=255
    ·rw[if_pos h255];exact same (hno 11 (Or.inr (Or.inr (Or.inr ⟨hn,by omega,by omega,by omega,h255,rfl⟩))))
    ·rw[if_neg h255]at hw2 ⊢;have hst:k<G.stands.length:=by rw[hwf.st];exact hkl
     have hsg:G.stands[k]?=some (G.stands.getD k 0):=by
      rw[List.getD_eq_getElem?_getD,List.getElem?_eq_getElem hst];rfl
     have hus:=hwf.IC _ (List.mem_of_getElem? hsg);refine(U5 w x v F G hM h.CF.2.1 name kind k (G.stands.getD k 0) (by omega) (by omega) hn hI hnm6 hsg (by rw[hwf.st];exact hnm6) hus.1 hus.2 (by omega)).mono ?_;rintro e w' ⟨rfl,v',F',r1,r2⟩;refine⟨rfl,v',F',r1.whole hw2 ⟨h.CF.1,?_,h.CF.2.2⟩,r2⟩;show (R.Ce G (G.stands.getD k 0)).seen=_;unfold R.Ce;simp only;rw[DZ h.CF.2.1 hus.1];exact h.CF.2.1
end Go.Proofs.YtblomippkddgiaaGreatDoor
