import Derived.Test.YtblomippkddgiaaGreatDoorJ31
set_option maxRecDepth 100000
set_option maxHeartbeats 4000000
namespace Go.Proofs.YtblomippkddgiaaGreatDoor
open Go.Proofs.Tryz
open Go.RowKit
variable {cur:Array Value}{F:D9}{fl:List R.Fl}{b cap g i k n:Nat}{p:Pl}{c:R.Cl}{en:R.En}{l:R.Ln}{G:R.Wd}{e:TypeId}{K O:Value}{w:World}
abbrev Mq(w:Aa)(lb k:Nat)(R:Ab)(n:Int):World:=(w.setCell (Y lb (k*10+7)) (.string R)).setCell (Y lb (k*10+6)) (Z n)
theorem aex:∀args w,(callFunc 203 args).run prog w=.ok (.enter 203 args) w:=λ_ _=>rfl
theorem aew:∀args w,(callFunc 202 args).run prog w=.ok (.enter 202 args) w:=λ_ _=>rfl
theorem UC(w:Aa)(cb lb bm nl k:Nat)(n m ac D5 Eo Dz:Int)(P:Pk)(S C:Ab)(A T:World->Prop)(B:Value->World->Prop)(hk:k<nl)(hP:P.DZ=(k:Int))(b2:w.cell? (Y cb 2)=some (.map (some bm)))(b3:w.cell? (Y cb 3)=some (EJ lb nl nl))(a3:w.cell? (Y lb (k*10+3))=some (Z D5))(a4:w.cell? (Y lb (k*10+4))=some (Z Eo))(a5:w.cell? (Y lb (k*10+5))=some (.string S))(a6:w.cell? (Y lb (k*10+6))=some (Z ac))(a7:w.cell? (Y lb (k*10+7))=some (.string C))(z6:w.frozen? (Y lb (k*10+6))=false)(z7:w.frozen? (Y lb (k*10+7))=false)(bL:¬cb=lb)(hn:1<=n/\n<=100)(ad:¬ac<n-1)(hm:P.Ez=m)(ho:1<=P.off/\P.off<=9)(bV:¬9223372036854775807<C.size+(str P.Ef).size)
  (H1:Hid (∀w,D7 187 #[.string S] w (Z n) λD=>D=w))
  (H2:Hid (∀w,D7 187 #[.string C] w (Z m) λD=>D=w))
  (HG:Hid (¬P.Ez=P.off-1->∀wa,Below w.heap.size (Mq w lb k (C++str P.Ef) n) wa->D7 201 #[ptr cb,pv P] wa Ep λD=>A D))
  (HR:Hid (∀D,A D->D7 111 #[ptr cb,.pointer (some (Y lb (k*10)))] D Ep λae=>T ae))
  (aa:Hid (P.Ez=P.off-1->∀wa,Below w.heap.size (Mq w lb k (C++str P.Ef) n) wa->(Instr.lookup 131 (.map (some bm)) (Z D5) false).run prog wa=.ok (Z Dz) wa))
  (ab:Hid (P.Ez=P.off-1->∀wa,Below w.heap.size (Mq w lb k (C++str P.Ef) n) wa->ET 203 #[Z Dz,Z Eo,.string (C++str P.Ef)] wa λe D=>∃ra rn rc,e=.returned (.slice ra rn rc)/\B (.slice ra rn rc) D))
  (HE:Hid (∀ra rn rc D,B (.slice ra rn rc) D->D7 202 #[.pointer (some (Y lb (k*10))),.slice ra rn rc] D Ep λae=>T ae)):
  D7 142 #[ptr cb,pv P] w Ep λD=>T D:=by
 have⟨kd,cl,li,ln,Q,u,pa,o,pl,Ef⟩:=P;dsimp only[pv]at *;subst hP hm;have⟨aS,M⟩:=KM b3 a6;have q1:0<=(k:Int):=U;have q2:(k:Int)<nl:=U;have ew:IntKind.i64.wrap (n-1)=n-1:=Iz;have bq:IntKind.i64.wrap (o-1)=o-1:=Iz;have HB:Hid (∀o,DY w (w.alloc o)):=λo=>F9
 generalize str Ef=SB at *;have HF:Hid (∀m,E3 w w (.cells #[Z kd,Z cl,Z li,Z k,Z Q,Z u,Z pa,Z o,.bool pl,.string SB] 41) ((w.alloc (.cells #[Z kd,Z cl,Z li,Z k,Z Q,Z u,Z pa,Z o,.bool pl,.string SB] 41)).drewN m)):=λm=>⟨Ed (HB _) m,AF w _⟩
 have HC:Hid (∀W,E3 w w (.cells #[Z kd,Z cl,Z li,Z k,Z Q,Z u,Z pa,Z o,.bool pl,.string SB] 41) W->W.cell? (Y lb (k*10+5))=some (.string S)/\W.cell? (Y lb (k*10+6))=some (Z ac)/\W.cell? (Y lb (k*10+7))=some (.string C)/\W.frozen? (Y lb (k*10+6))=false/\W.frozen? (Y lb (k*10+7))=false):=λW f=>⟨(f.1.cell (p:=(Y lb (k*10+5))) M).trans a5,(f.1.cell (p:=(Y lb (k*10+6))) M).trans a6,(f.1.cell (p:=(Y lb (k*10+7))) M).trans a7,(f.1.frozen (p:=(Y lb (k*10+6))) M).trans z6,(f.1.frozen (p:=(Y lb (k*10+7))) M).trans z7⟩
 have HD:Hid (∀V W,E3 w V (.cells #[Z kd,Z cl,Z li,Z k,Z Q,Z u,Z pa,Z o,.bool pl,.string SB] 41) W->(W.cell? (EN w 0)=some (Z kd)/\W.cell? (EN w 1)=some (Z cl)/\W.cell? (EN w 2)=some (Z li)/\W.cell? (EN w 3)=some (Z k)/\W.cell? (EN w 4)=some (Z Q))/\W.cell? (EN w 5)=some (Z u)/\W.cell? (EN w 6)=some (Z pa)/\W.cell? (EN w 7)=some (Z o)/\W.cell? (EN w 8)=some (.bool pl)/\W.cell? (EN w 9)=some (.string SB)):=λV W f=>⟨⟨EI f.2 0,EI f.2 1,EI f.2 2,EI f.2 3,EI f.2 4⟩,EI f.2 5,EI f.2 6,EI f.2 7,EI f.2 8,EI f.2 9⟩
 have HT:Hid (∀W,E3 w w (.cells #[Z kd,Z cl,Z li,Z k,Z Q,Z u,Z pa,Z o,.bool pl,.string SB] 41) W->∀m,E3 w (Mq w lb k (C++SB) n) (.cells #[Z kd,Z cl,Z li,Z k,Z Q,Z u,Z pa,Z o,.bool pl,.string SB] 41) (Mq (W.drewN m) lb k (C++SB) n)):=λW f m=>by
  refine⟨?_,?_⟩
  ·have hb:=Ed f.1 m;refine⟨hb.os,hb.tape,hb.output,by simpa using hb.size,λj hj=>?_⟩;by_cases e:j=lb
   ·subst e;simp only[Mq,World.setCell,Cv,CQ];have h0:=hb.block j hj;simp only[World.heap_drewN]at h0 ⊢;rw[h0]
   ·rw[AU _ _ _ _ e,AU _ _ _ _ e,AU _ _ _ _ e,AU _ _ _ _ e];exact hb.block j hj
  ·rw[AU _ _ _ _ Fy,AU _ _ _ _ Fy];exact f.2
 have HU:Hid (∀W,E3 w (Mq w lb k (C++SB) n) (.cells #[Z kd,Z cl,Z li,Z k,Z Q,Z u,Z pa,Z o,.bool pl,.string SB] 41) W->W.cell? (Y cb 2)=some (.map (some bm))/\W.cell? (Y lb (k*10+3))=some (Z D5)/\W.cell? (Y lb (k*10+4))=some (Z Eo)/\W.cell? (Y lb (k*10+7))=some (.string (C++SB))):=λW f=>by
  have c1:∀(p:Addr) (v:Ad),p.block<w.heap.size->p≠(Y lb (k*10+6))->p≠(Y lb (k*10+7))->w.cell? p=some v->W.cell? p=some v:=λp v hp n6 n7 hv=>((f.1.cell (p:=p) hp).trans ((AP (h:=n6.symm) ..).trans (AP (h:=n7.symm) ..))).trans hv
  refine⟨c1 _ _ aS Ev Ev b2,c1 _ _ M Ev Ev a3,c1 _ _ M Ev Ev a4,?_⟩;have n6:((Y lb (k*10+6)):Addr)≠(Y lb (k*10+7)):=Ev;exact(f.1.cell (p:=(Y lb (k*10+7))) M).trans ((AP (h:=n6) ..).trans (BU (h:=a7) ..))
 have e1:decide (ac<n-1)=false:=by simpa using ad
 have e2:decide (pa<pa)=false:=Ev;have bp:¬pa<pa:=U;by_cases y:pa=o-1
 ·have e3:(pa==o-1)=true:=by simpa using y
  have⟨ah,ak⟩:=FU (aa y) (ab y);clear HG HR aa ab y ad;go_enter func142,ntmps142;go_wp2_with fail
  go_quiet (fail);go_wp2_with fail
  refine EE _ (HF _) ?_;intro W f;have⟨d5,d6,d7,y6,y7⟩:=HC W f;have hd:=HD _ W f;have⟨⟨f0,f1,f2,f3,f4⟩,f5,f6,f7,f8,f9⟩:=hd;have X:=HT W f 2;have⟨aV,b1⟩:=KM d5 f5;have b6:¬w.heap.size=lb:=U;have an:¬lb=w.heap.size:=U;clear f HF HC HT;go_region_held3 (λD=>D.cell? (Y lb (k*10+5))=some (.string S)/\D.cell? (Y lb (k*10+7))=some (.string C)) (go_keep) (first|(go_at_call 187;refine cs (H1 _) ?_)|(go_at_call 187;refine cs (H2 _) ?_))
  go_wp2_with fail
  go_region
  go_wp2_with fail
  refine EE _ X ?_;intro V hV;have⟨g2,g3,g4,g7⟩:=HU V hV;have bS:=ah V.drew hV.1.drew;have aN:=Dx (ak V.drew hV.1.drew);clear hV X HU;go_region_law (first
   |(refine FG rfl 203 #[.tmp 79,.tmp 84,.tmp 89] #[3,3,135] rfl aex #[Z Dz,Z Eo,.string (C++SB)] rfl _ aN ?_;rintro e w1 ⟨ra,rn,rc,rfl,al⟩;have aw:=Dx (HE ra rn rc w1 al);clear al;refine⟨_,rfl,?_⟩)
   |(refine FG rfl 202 #[.tmp 69,.tmp 90] #[185,44] rfl aew #[.pointer (some (Y lb (k*10))),.slice ra rn rc] rfl _ aw ?_;rintro e w2 ⟨rfl,b4⟩;refine⟨_,rfl,?_⟩))
  all_goals
   go_wp2;go_returns;exact⟨rfl,b4⟩
 ·have e3:(pa==o-1)=false:=by simpa using y
  have az:=Dx (HG y);clear HG aa ab y ad HE;go_enter func142,ntmps142;go_wp2_with fail
  go_quiet (fail);go_wp2_with fail
  refine EE _ (HF _) ?_;intro W f;have⟨d5,d6,d7,y6,y7⟩:=HC W f;have hd:=HD _ W f;have⟨⟨f0,f1,f2,f3,f4⟩,f5,f6,f7,f8,f9⟩:=hd;have X:=HT W f 2;have⟨aV,b1⟩:=KM d5 f5;have b6:¬w.heap.size=lb:=U;have an:¬lb=w.heap.size:=U;clear f HF HC HT;go_region_held3 (λD=>D.cell? (Y lb (k*10+5))=some (.string S)/\D.cell? (Y lb (k*10+7))=some (.string C)) (go_keep) (first|(go_at_call 187;refine cs (H1 _) ?_)|(go_at_call 187;refine cs (H2 _) ?_))
  go_wp2_with fail
  go_region
  go_wp2_with (first|(go_at_call 201;refine cm (az _ X.1) λw3 am=>?_;have av:=Dx (HR w3 am);clear am)|(go_at_call 111;refine cm av λw4 b5=>?_))
  go_returns;exact⟨rfl,b5⟩
theorem aet:∀args w,(callFunc 111 args).run prog w=.ok (.enter 111 args) w:=λ_ _=>rfl
theorem oY(w:Aa)(cb lb nl k:Nat)(b:Bool)(P:Pk)(j:World->Prop)(hk:k<nl)(hP:P.DZ=(k:Int))(b3:EB w cb 3 (EJ lb nl nl))
  (HU:Hid (∀y,DY w y->D7 140 #[ptr cb,pv P] y (.bool b) λX=>DY y X))
  (HA:Hid (b=true->P.Dz=2->∀y,DY w y->D7 141 #[ptr cb,pv P] y Ep λX=>j X))
  (HL:Hid (b=true->P.Dz=4->∀y,DY w y->D7 111 #[ptr cb,.pointer (some (Y lb (k*10)))] y Ep λX=>j X))
  (HR:Hid (b=true->P.Dz=5->∀y,DY w y->D7 142 #[ptr cb,pv P] y Ep λX=>j X))
  (HJ:Hid (b=true->P.Dz=7->∀y,DY w y->D7 143 #[ptr cb,pv P] y Ep λX=>j X))
  (HN:Hid (b=false\/¬(P.Dz=2\/P.Dz=4\/P.Dz=5\/P.Dz=7)->∀y,DY w y->j y)):
  D7 86 #[ptr cb,pv P] w Ep λX=>j X:=by
 obtain⟨D,cl,li,ln,T,u,pa,o,pl,Ef⟩:=P;dsimp only[pv]at *;subst hP;have ak:=Gv b3;have q1:0<=(k:Int):=U;have q2:(k:Int)<nl:=U;generalize str Ef=SB at *;have HB:Hid (∀o,DY w (w.alloc o)):=λo=>F9
 have HX:Hid (∀m,Below (w.alloc (.cells #[Z D,Z cl,Z li,Z k,Z T,Z u,Z pa,Z o,.bool pl,.string SB] 41)).heap.size (w.alloc (.cells #[Z D,Z cl,Z li,Z k,Z T,Z u,Z pa,Z o,.bool pl,.string SB] 41)) m->E3 w w (.cells #[Z D,Z cl,Z li,Z k,Z T,Z u,Z pa,Z o,.bool pl,.string SB] 41) m):=λm h1=>⟨(HB _).trans (h1.mono Ev),by
  rw[h1.block _ Ev];exact AF w _⟩
 have HD:Hid (∀W,E3 w w (.cells #[Z D,Z cl,Z li,Z k,Z T,Z u,Z pa,Z o,.bool pl,.string SB] 41) W->EB W cb 3 (EJ lb nl nl)/\(Kk W w 0 (Z D)/\Kk W w 1 (Z cl)/\Kk W w 2 (Z li)/\Kk W w 3 (Z k)/\Kk W w 4 (Z T))/\Kk W w 5 (Z u)/\Kk W w 6 (Z pa)/\Kk W w 7 (Z o)/\Kk W w 8 (.bool pl)/\Kk W w 9 (.string SB)):=λW h=>⟨(h.1.cell (p:=Y cb 3) ak).trans b3,⟨EI h.2 0,EI h.2 1,EI h.2 2,EI h.2 3,EI h.2 4⟩,EI h.2 5,EI h.2 6,EI h.2 7,EI h.2 8,EI h.2 9⟩
 cases b with
 |false=>
  have M:=Dx (HN (Aj rfl));clear HA HL HR HJ HN HD;go_enter func86,ntmps86;go_wp2_with (first|(go_at_call 140;refine cm (HU _ (HB _)) λm f=>?_;have Q:=Dx (HX m f).1;clear f))
  go_returns;exact⟨rfl,M _ (Dw Q)⟩
 |true=>
  by_cases k2:D=2
  ·have M:=Dx (HA rfl k2);subst k2;clear HA HL HR HJ HN;go_enter func86,ntmps86;go_wp2_with (first|(go_at_call 140;refine cm (HU _ (HB _)) λm f=>?_;have h:=HX m f;have Q:=Dx h.1;have hd:=HD m h;obtain⟨f3,⟨g0,g1,g2,g3,g4⟩,g5,g6,g7,g8,g9⟩:=hd;clear f h)|(go_at_call 141;refine cm (M _ Q) λw3 B=>?_))
   go_returns;exact⟨rfl,B⟩
  ·have n2:(D==2)=false:=by simpa using k2
   by_cases k4:D=4
   ·have M:=Dx (HL rfl k4);subst k4;clear HA HL HR HJ HN k2;go_enter func86,ntmps86;go_wp2_with (first|(go_at_call 140;refine cm (HU _ (HB _)) λm f=>?_;have h:=HX m f;have Q:=Dx h.1;have hd:=HD m h;obtain⟨f3,⟨g0,g1,g2,g3,g4⟩,g5,g6,g7,g8,g9⟩:=hd;clear f h))
    have ah:=Dx (M _ Q.drew);go_region_law (refine FG rfl 111 #[.tmp 17,.tmp 24] #[89,185] rfl aet #[ptr cb,.pointer (some (Y lb (k*10)))] rfl _ ah ?_;rintro e w3 ⟨rfl,B⟩;refine⟨_,rfl,?_⟩)
    all_goals
     go_wp2;go_returns;exact⟨rfl,B⟩
   ·have n4:(D==4)=false:=by simpa using k4
    by_cases k5:D=5
    ·have M:=Dx (HR rfl k5);subst k5;clear HA HL HR HJ HN k2 k4;go_enter func86,ntmps86;go_wp2_with (first|(go_at_call 140;refine cm (HU _ (HB _)) λm f=>?_;have h:=HX m f;have Q:=Dx h.1;have hd:=HD m h;obtain⟨f3,⟨g0,g1,g2,g3,g4⟩,g5,g6,g7,g8,g9⟩:=hd;clear f h)|(go_at_call 142;refine cm (M _ Q) λw3 B=>?_))
     go_returns;exact⟨rfl,B⟩
    ·have n5:(D==5)=false:=by simpa using k5
     by_cases k7:D=7
     ·have M:=Dx (HJ rfl k7);subst k7;clear HA HL HR HJ HN k2 k4 k5;go_enter func86,ntmps86;go_wp2_with (first|(go_at_call 140;refine cm (HU _ (HB _)) λm f=>?_;have h:=HX m f;have Q:=Dx h.1;have hd:=HD m h;obtain⟨f3,⟨g0,g1,g2,g3,g4⟩,g5,g6,g7,g8,g9⟩:=hd;clear f h)|(go_at_call 143;refine cm (M _ Q) λw3 B=>?_))
      go_returns;exact⟨rfl,B⟩
     ·have n7:(D==7)=false:=by simpa using k7
      have M:=Dx (HN (Am U));clear HA HL HR HJ HN k2 k4 k5 k7;go_enter func86,ntmps86;go_wp2_with (first|(go_at_call 140;refine cm (HU _ (HB _)) λm f=>?_;have h:=HX m f;have Q:=Dx h.1;have hd:=HD m h;obtain⟨f3,⟨g0,g1,g2,g3,g4⟩,g5,g6,g7,g8,g9⟩:=hd;clear f h))
      go_returns;exact⟨rfl,M _ (Dw Q)⟩
theorem LW.wide{F':D9}(h:LW p F G w)(f:∀k,F k->F' k)(u:∀k,F' k->k<w.heap.size):LW p F' G w:=by
 have⟨B,hn,m,y⟩:=h.Fw;have hk:DF (λ_=>False) w w:=DF.refl _ w;have j:Ip w F (λ_=>False):=Ip.apart (λ_ _ q=>q);refine⟨h.wf,h.GQ,h.bx,h.bcs,?_,h.Hd.keep hk j f,h.Eu,h.cl,λi c hc=>?_,h.Ee,⟨f _ B,f _ hn,f _ m,f _ y⟩,λi hi=>?_,h.inj,u⟩;all_goals grind [LW,Iq.KC,Ip.sv]
theorem ND{B:Nat}{v:List V.It}(h:V.Row w B O v)(m:v≠[]):Gg w (λk=>O.ownBlock=some k) O v/\∀k,O.ownBlock=some k->B<=k/\k<w.heap.size:=by
 refine⟨?_,λk hk=>Ba h k hk⟩;rcases id h.2 with ⟨_,T⟩|⟨g,cap,cur,rfl,_,D,f,_,M,Q⟩
 ·grind
 ·refine Am ⟨g,0,cap,cur,m,rfl,f,rfl,D,λj x y=>?_⟩;have X:=GG y;have q:∀i u,i<2->(V.flat v)[j*2+i]?=some u->cur[0+j*2+i]?=some u:=λi u hi hu=>by
   grind
  exact⟨q 0 _ U (V.flat_get v j x y).1,q 1 _ U (V.flat_get v j x y).2⟩
theorem LW.rest(h:LW p F G w)(j:R.At G i k c l)(h1:l.DK=1):
  D7 111 #[ptr (p.cb i),.pointer (some ⟨p.lb i,k*10,none⟩)] w Ep λw'=>LW p F (R.JS G i k) w'/\D8 F F w w':=by
 have⟨xs,x,y,hR,hx,f,ae,aa,T⟩:=h.DZ j.cl j.ln;have m:=P4 h j.cl;have hi:=GG j.cl;have u:=(h.wf.cl i c j.cl).DZ k l j.ln;have⟨z1,z2,X,D,ak,ah⟩:=u.one h1;have M:=h.wf.cf;unfold R.GA at M;have Q:=(h.Gs i hi).2.1;have e:R.JS G i k=R.Eh G i k {l with El:=G.c.Ew,DW:=G.c.DW}:=by
  unfold R.JS;rw[j.DZ]
 rw[e];refine cm (ZR w (p.cb i) (p.lb i) k G.c.Ew G.c.DW xs x y hx m.a4 m.a5 (ES (h.cl i c j.cl) y Em)) ?_;rintro w' ⟨B,hk⟩;refine⟨rfl,?_,hk.mono (λq _ e=>by rw[e];exact Q),λ_ q=>Aj q⟩;exact h.Sr j.cl y hR aa hk B ⟨u.D4,λ_=>⟨z1,z2,X,D,by simp only;omega,by simp only;omega⟩⟩ ⟨f.DK,f.D4,f.Kw,λq=>⟨(f.one q).1,(f.one q).2.1,(f.one q).2.2.1,rfl,rfl⟩,f.two⟩ T
theorem LW.got(h:LW p F G w)(f:R.At G i k c l)(B:l.DK=1){P:Pk}(hr:EC P)(X:i<3)(aa:k<3)(D:P.DZ=(k:Int)):
  D7 201 #[ptr (p.cb i),pv P] w Ep λy=>∃m,LW p m (R.LP G i P) y/\D8 F m w y:=by
 refine rY _ (λwa M=>?_);have j:=(h.wf.cl i c f.cl).DZ k l f.ln;have⟨z1,z2,_,_,_,_⟩:=j.one B;have u:=(h.wf.cl i c f.cl).DR;have ac:=j.D4;have⟨_,_,_,_,_,_,Q,T,_⟩:=hr;rw[D];refine((h.DG M).vx f.cl f.ln B 6 P.Ez P.off false [] ⟨Ev,by simp only;omega,u,by simp only;omega,by simp only;omega,z2,Q,T,?_⟩).mono ?_
 ·unfold Ju;simp
 ·rintro e y ⟨rfl,m,q1,q2⟩;refine⟨rfl,m,?_,(D8.D6 F M).trans q2⟩;have e:R.LP G i P=R.E9 G (-1) ⟨6,i,c.DR,k,l.D4,l.D5,P.Ez,P.off,false,[]⟩:=by
   unfold R.LP;rw[D,f.DZ,R.GH f.cl]
  rw[e];exact q1
theorem dw(w:Aa)(b off cap:Nat):
  ET 74 #[.slice (some (Y b off)) 0 cap] w λe f=>(∃a,e=.returned (.slice a 0 0))/\DY w f:=by
 have h:∀w,(binOp .eql 44 (.slice (some (Y b off)) 0 cap) (.slice none 0 0)).run prog w=.ok (.bool false) w:=λw=>by rfl
 go_enter func74,ntmps74;go_wp2
 go_ret
 exact⟨⟨_,rfl⟩,F9⟩
theorem QU(l:List R.En)(e:R.En)(d:Int):∀MP,R.I6 (l++[e]) d MP=if R.IJ e.arg 0=d then e.arg.drop 2 else R.I6 l d MP:=by
 induction l with
 |nil=>intro MP;rfl
 |cons a l ih=>intro MP;exact ih _
theorem dC(w:Aa)(b dn y off n cap dc:Nat)(da:Af)(Eo:Int)(M:dn<3)(hn:2<=n)(D:n<=cap)(c0:EB w y off (Z dn))(db:EB w b dn (.slice da 0 dc))(z:w.frozen? (Y b dn)=false)
  (C:Value->World->World->Prop) (f:Value->World->Prop)
  (H74:Hid (∀j,DY w j->ET 74 #[.slice (some (Y y (if cap=2 then off else off+4))) (n-2) (cap-2)] j λe u=>(∃ra rn rc,e=.returned (.slice ra rn rc)/\C (.slice ra rn rc) j u)/\DY j u))
  (HP:Hid (∀O j w1,DY w j->DY w w1->C O j w1->f (EJ w1.heap.size 2 2) ((w1.setCell (Y b dn) O).alloc (.cells #[Z 0,.string ⟨#[]⟩,Z 0,.string ⟨#[]⟩] 106)))):
  ET 294 #[ptr b,Z Eo,.slice (some (Y y off)) n cap] w λe u=>∃O,e=.returned O/\f O u:=by
 obtain⟨X,q2,q3⟩:0<=(dn:Int)/\(dn:Int)<3/\0<(n:Int):=U;have hl:=Gv db;have HB:Hid (∀m,DY w (w.drewN m)):=λm=>Ed (AA _ _) m
 by_cases h:cap=2
 ·rw[Ay h]at H74;subst h;have B:n=2:=U;subst B;exact afp
 ·rw[Ao h]at H74;have Q:¬cap-2=0:=U;have T:2<cap:=U;exact afp
theorem lK(w:Aa)(b dn T off n cap lb lo dc:Nat)(l:List V.It)(Eo:Int)(ah:dn<3)(hn:2<=n)(ad:n<=cap)(M:l≠[])(ak:l.length<=100)(c0:EB w T off (Z dn))(db:EB w b dn (.slice (some (Y lb lo)) l.length dc))(z:w.frozen? (Y b dn)=false)(D:lb<w.heap.size)(aa:¬lb=b)(f:∀j x,l[j]?=some x->EB w lb (lo+j*2) (Z x.1)/\EB w lb (lo+j*2+1) (.string x.2))
  (C:Value->World->World->Prop) (h:Value->World->Prop)
  (H74:Hid (∀B,DY w B->ET 74 #[.slice (some (Y T (if cap=2 then off else off+4))) (n-2) (cap-2)] B λe Q=>(∃ra rn rc,e=.returned (.slice ra rn rc)/\C (.slice ra rn rc) B Q)/\DY B Q))
  (HP:Hid (∀O B w1 R w2,DY w B->DY w w1->C O B w1->V.Row w2 w1.heap.size R ((1,⟨#[]⟩) :: ((l.length:Int),⟨#[]⟩) :: l)->Below w1.heap.size (w1.setCell (Y b dn) O) w2->h R w2)):
  ET 294 #[ptr b,Z Eo,.slice (some (Y T off)) n cap] w λe Q=>∃O,e=.returned O/\h O Q:=by
 obtain⟨q1,q2,q3⟩:0<=(dn:Int)/\(dn:Int)<3/\0<(n:Int):=U;have hl:=Gv db;have ae:=Cg.2 M;have e1:((l.length:Int)==0)=false:=by simp[M]
 have HB:Hid (∀m,DY w (w.drewN m)):=λm=>Ed (AA _ _) m
 have⟨i0,hi,hz0,hz1,hz2⟩:=A1 V.LQ;have hfl:=V.I5 l;have HSRC:Hid (∀(w1:Aa) (O:Ad),DY w w1->∀j u,(V.flat l)[j]?=some u->((w1.setCell (Y b dn) O).alloc (.cells #[Z 1,.string ⟨#[]⟩,Z (l.length:Int),.string ⟨#[]⟩] 106)).cell? (((Y lb lo):Addr).add j)=some u):=λw1 O hb1=>by
  refine YU (w:=(w1.setCell (Y b dn) O).alloc (.cells #[Z 1,.string ⟨#[]⟩,Z (l.length:Int),.string ⟨#[]⟩] 106)) l (λj x hx=>?_);have ab:lb<w1.heap.size:=Ai D hb1.size;have X:∀q v,EB w lb q v->((w1.setCell (Y b dn) O).alloc (.cells #[Z 1,.string ⟨#[]⟩,Z (l.length:Int),.string ⟨#[]⟩] 106)).cell? (Y lb q)=some v:=λq v hv=>by
   have hA:Below (w1.setCell (Y b dn) O).heap.size (w1.setCell (Y b dn) O) ((w1.setCell (Y b dn) O).alloc (.cells #[Z 1,.string ⟨#[]⟩,Z (l.length:Int),.string ⟨#[]⟩] 106)):=F9;rw[hA.cell (p:=Y lb q) (by simpa using ab),World.cell?_setCell_far _ _ _ _ (λe=>aa e.symm)];exact(hb1.cell (p:=Y lb q) D).trans hv
  exact⟨X _ _ (f j x hx).1,X _ _ (f j x hx).2⟩
 have HROW:Hid (∀(w1:Aa) (O:Ad),((w1.setCell (Y b dn) O).alloc (.cells #[Z 1,.string ⟨#[]⟩,Z (l.length:Int),.string ⟨#[]⟩] 106)).ownsRow w1.heap.size 106 2 (EJ w1.heap.size 2 2) 2 [Z 1,.string ⟨#[]⟩,Z (l.length:Int),.string ⟨#[]⟩]):=λw1 O=>by
  refine⟨rfl,Am ⟨w1.heap.size,2,#[Z 1,.string ⟨#[]⟩,Z (l.length:Int),.string ⟨#[]⟩],rfl,Ar _,?_,Ar _,Em,rfl,rfl⟩⟩;have:=AF (w1.setCell (Y b dn) O) (.cells #[Z 1,.string ⟨#[]⟩,Z (l.length:Int),.string ⟨#[]⟩] 106);simpa using this
 clear f;by_cases y:cap=2
 ·rw[Ay y]at H74;subst y;have ac:n=2:=U;subst ac;exact afe
 ·rw[Ao y]at H74;have h2:¬cap-2=0:=U;have X:2<cap:=U;exact afe
theorem YD{y u:Aa}{log:List R.En}{dn:Nat}{Zq:Ad}{d0 d1 d2:Ad}{out:List R.It}(hF:F b)(hb:w.heap[b]?=some (.cells #[d0,d1,d2] 337 (0,0)))(hK:K=.slice none 0 0)(h0:OZ w F d0 (R.I6 log 0 []))(h1:OZ w F d1 (R.I6 log 1 []))(h2:OZ w F d2 (R.I6 log 2 []))(aq:dn<3)(M:R.IJ en.arg 0=(dn:Int))(B:DY w y)
  (hC:(en.arg.drop 2=[]/\∃a,O=.slice a 0 0)\/Gg y (λk=>w.heap.size<=k/\k<y.heap.size) O (en.arg.drop 2)) (f:Below y.heap.size (y.setCell (Y b dn) O) u) (T:V.Row u w.heap.size Zq out):kz w F log en b K 2 (.iface 334 (ptr b)) Zq out u:=by
 have ah:=Dv hb;have ar:=B.size;have ak:=f.size;simp only[Dr]at ak;have ae:DF (λk=>k=b) w (y.setCell (Y b dn) O):=(DF.D6 B _).trans (Eg _);have Q:DF (λk=>k=b) (y.setCell (Y b dn) O) u:=⟨f.os,f.tape,f.output,f.size,λk hk _=>f.block k (by simpa using hk)⟩;have hk:=ae.trans Q;have X:y.heap[b]?=some (.cells #[d0,d1,d2] 337 (0,0)):=by rw[B.block b ah];exact hb
 have j:u.heap[b]?=some (.cells ([d0,d1,d2].set dn O).toArray 337 (0,0)):=by
  rw[f.block b U];exact Ek (cs:=[d0,d1,d2]) (off:=dn) X O
 have m:∀{Yq:Ad} {l:List R.It},OZ w F Yq l->OZ u (λk=>F k\/(w.heap.size<=k/\k<u.heap.size)) Yq l:=λh=>h.keep hk (λk cur aa D e=>by
  subst e;rw[hb]at D;cases D) (λ_ q=>Aj q)
 have hO:OZ u (λk=>F k\/(w.heap.size<=k/\k<u.heap.size)) O (en.arg.drop 2):=by
  rcases hC with hC|hC
  ·exact Aj hC
  ·refine Am (hC.keep (E:=λk=>k=b) ((Eg _).trans Q) (λk cur aa D e=>?_) (λk q=>Am ⟨q.1,U⟩));subst e;omega
 refine⟨T,hk.mono (λk _ e=>Aj e),K,?_,Aj rfl⟩;have l0:=QU log en 0 [];have l1:=QU log en 1 [];have l2:=QU log en 2 [];rw[M]at l0 l1 l2;have hd:dn=0\/dn=1\/dn=2:=U;rcases hd with rfl|rfl|rfl
 ·rw[Ay Em]at l0;rw[Ao Em]at l1 l2;exact .P9 O d1 d2 (Aj hF) j hK (by rw[l0];exact hO) (by rw[l1];exact m h1) (by rw[l2];exact m h2)
 ·rw[Ao Em]at l0 l2;rw[Ay Em]at l1;exact .P9 d0 O d2 (Aj hF) j hK (by rw[l0];exact m h0) (by rw[l1];exact hO) (by rw[l2];exact m h2)
 ·rw[Ao Em]at l0 l1;rw[Ay Em]at l2;exact .P9 d0 d1 O (Aj hF) j hK (by rw[l0];exact m h0) (by rw[l1];exact m h1) (by rw[l2];exact hO)
theorem aac(w Uq:Aa)(f:w.heap.size<=Uq.heap.size)(n m:Int)(s t:Ab):V.Row (Uq.alloc (.cells #[Z n,.string s,Z m,.string t] 106)) w.heap.size (EJ Uq.heap.size 2 2) [(n,s),(m,t)]:=by
 refine⟨rfl,Am ⟨Uq.heap.size,2,#[Z n,.string s,Z m,.string t],rfl,f,?_,Ar _,Em,rfl,rfl⟩⟩;exact AF Uq _
theorem yM(F:D9){log:List R.En}{W:Ad}(h:Fp w F log b K 2 W)(aV:∀k,F k->k<w.heap.size){X:Ad}(hX:V.Ff w X en.arg)(ha:∃d k rest,en.arg=d :: k :: rest/\(0<=d.1/\d.1<=2)/\rest.length<=3)(aS:∀d,(R.I6 log d []).length<=3):
  ET 294 #[ptr b,Z en.Eo,X] w λe m=>∃O,e=.returned O/\kz w F log en b K 2 W O (R.Hw 2 log en.Eo en.arg) m:=by
 have⟨d,k,rest,Q,hd,hr⟩:=ha;have hn:en.arg.length=rest.length+2:=by rw[Q];rfl
 obtain⟨a,cap,rfl,T,hc⟩:=hX;rcases hc with h0|⟨bb,off,rfl,aa,hc⟩
 ·rw[Q]at h0;cases h0
 have⟨c0,_⟩:=hc 0 d (by rw[Q];rfl);simp only[Dt,Cz]at c0;obtain⟨dn,an⟩:∃dn:Nat,d.1=(dn:Int):=⟨d.1.toNat,U⟩;rw[an]at c0;have y:R.IJ en.arg 0=(dn:Int):=by rw[Q,<-an];rfl
 generalize hk0:(2:Int)=kd at h;cases h with
 |counter=>cases hk0
 |MZ=>cases hk0
 |P9 d0 d1 d2 hF hb hK g0 g1 g2=>
  have ba:=Dv hb;obtain⟨D,l,hD,ak,hl⟩:∃D l,EB w b dn D/\OZ w F D l/\l=R.I6 log (dn:Int) []:=by
   have aN:dn=0\/dn=1\/dn=2:=U;rcases aN with rfl|rfl|rfl
   ·exact⟨d0,_,EI hb 0,g0,rfl⟩
   ·exact⟨d1,_,EI hb 1,g1,rfl⟩
   ·exact⟨d2,_,EI hb 2,g2,rfl⟩
  have ao:=aS (dn:Int);rw[<-hl]at ao;have ad:en.arg.drop 2=rest:=by rw[Q];rfl
  have ah:Hid (∀wa,DY w wa->ET 74 #[.slice (some (Y bb (if cap=2 then off else off+4))) (en.arg.length-2) (cap-2)] wa λe m=>(∃ra rn rc,e=.returned (.slice ra rn rc)/\((en.arg.drop 2=[]/\∃a,Value.slice ra rn rc=.slice a 0 0)\/Gg m (λk=>w.heap.size<=k/\k<m.heap.size) (.slice ra rn rc) (en.arg.drop 2)))/\DY wa m):=λwa u=>by
   rw[ad];have e0:en.arg.length-2=rest.length:=U;rw[e0];cases hre:rest with
   |nil=>
    refine(dw wa bb _ (cap-2)).mono ?_;rintro e m ⟨⟨a,rfl⟩,al⟩;all_goals grind
   |cons r0 rs=>
    rw[<-hre];have az:¬cap=2:=by all_goals grind
    rw[Ao az];refine(TK wa bb (off+4) (cap-2) rest U (λj x b2=>?_) (Ai aa u.size)).mono ?_
    ·have⟨p1,p2⟩:=hc (j+2) x (by rw[Q];exact b2);have e1:off+(j+2)*2=off+4+j*2:=U;rw[e1]at p1 p2;exact⟨(u.cell (p:=Y bb _) aa).trans p1,(u.cell (p:=Y bb _) aa).trans p2⟩
    ·rintro e m ⟨⟨O,rfl,f,_⟩,al⟩;have⟨ra,rn,rc,hO⟩:=Ei f;subst hO;have⟨q1,q2⟩:=ND f (by rw[hre];simp);refine⟨⟨ra,rn,rc,rfl,Am (q1.keep (DF.refl (λ_=>False) m) (λ_ _ _ _ q=>q) (λk hk=>?_))⟩,al⟩;have:=q2 k hk;have:=u.size;omega
  have ac:R.Hw 2 log en.Eo en.arg=if l.length=0 then [R.num 0,R.num 0] else R.num 1 :: R.num l.length :: l:=by all_goals grind [R.Hw]
  rw[ac];by_cases M:l=[]
  ·subst M;have b1:∃da dc,D=.slice da 0 dc:=by
    rcases ak with ⟨_,a,rfl⟩|ae
    ·exact⟨_,_,rfl⟩
    ·rcases ae with ⟨_,rfl⟩|⟨_,_,_,_,q,_⟩;all_goals grind
   obtain⟨da,dc,rfl⟩:=b1;simp only[List.length_nil,CQ];refine dC w b dn bb off en.arg.length cap dc da en.Eo U U T c0 hD (Eb hb) (λO _ m=>(en.arg.drop 2=[]/\∃a,O=.slice a 0 0)\/Gg m (λk=>w.heap.size<=k/\k<m.heap.size) O (en.arg.drop 2)) _ ah ?_;rintro O wa w1 u B hC;have e2:(w1.setCell (Y b dn) O).heap.size=w1.heap.size:=Ev;refine YD hF hb hK g0 g1 g2 U y B hC ((AA _ _).alloc (by rw[e2];exact Ar _) _) ?_;have:=aac w (w1.setCell (Y b dn) O) (by rw[e2];exact B.size) 0 0 ⟨#[]⟩ ⟨#[]⟩;rw[e2]at this;exact this
  ·rcases ak with ⟨q,_⟩|ae
   ·exact absurd q M
   ·rcases ae with ⟨q,_⟩|⟨lb,lo,dc,cur,_,rfl,_,av,ab,am⟩
    ·exact absurd q M
    ·rw[Ao (λq=>M (B6.1 q))];refine lK w b dn bb off en.arg.length cap lb lo dc l en.Eo U U T M U c0 hD (Eb hb) (aV lb av) (ES ab hb Em) (λj x Q=>⟨by show _=_;simp[World.cell?,ab,(am j x Q).1],by show _=_;simp[World.cell?,ab,(am j x Q).2]⟩) (λO _ m=>(en.arg.drop 2=[]/\∃a,O=.slice a 0 0)\/Gg m (λk=>w.heap.size<=k/\k<m.heap.size) O (en.arg.drop 2)) _ ah ?_;rintro O wa w1 R w2 u B hC f aw;exact YD hF hb hK g0 g1 g2 U y B hC aw (V.GL f B.size)
theorem UZ{α:Type}{f:α->List Value}(h:∀x,(f x).length=n):∀(xs:List α) (k:Nat),(tab f xs).take (k*n)=tab f (xs.take k)
 |[],k=>by simp[tab]
 |x :: xs,0=>by simp[tab]
 |x :: xs,k+1=>by
  have j:=UZ h xs k;simp only[tab,Ci,List.take_succ_cons]at j ⊢;rw[Du,Nat.add_comm,<-h x,List.take_length_add_append,h x,j]
theorem UY{α:Type}{f:α->List Value}(h:∀x,(f x).length=n):∀(xs:List α) (k:Nat),(tab f xs).drop (k*n)=tab f (xs.drop k)
 |[],k=>by simp[tab]
 |x :: xs,0=>by simp[tab]
 |x :: xs,k+1=>by
  have j:=UY h xs k;simp only[tab,Ci,List.drop_succ_cons]at j ⊢;rw[Du,Nat.add_comm,<-h x,List.drop_length_add_append,h x,j]
theorem UX{α:Type}(f:α->List Value)(xs h:List α):tab f (xs++h)=tab f xs++tab f h:=by simp[tab]
theorem Nf{cs:Array Value}(h:w.heap[g]?=some (.cells cur e (0,0))):(w.setRow g cs).heap[g]?=some (.cells cs e (0,0)):=by grind [World.setRow]
theorem NE(w:Aa)(g:Nat)(cs:Array Value):DF (λk=>k=g) w (w.setRow g cs):=by grind [DF,World.setRow]
theorem oX{α:Type}{f:α->List Value}(h:∀x,(f x).length=n)(xs:List α)(i:Nat):tab f (xs.eraseIdx i)=(tab f xs).take (i*n)++(tab f xs).drop ((i+1)*n):=by grind [UX,UZ,UY]
theorem ry{L T Zq:Ae}(hk:0<k)(u:L.length=cap*k)(hn:n<=cap)(f:L.take (n*k)=T)(hi:i<n)(y:Zq.length=k):
  let C1:=L.take (i*k)++T.drop ((i+1)*k)++L.drop (i*k+(T.drop ((i+1)*k)).length)
  let C2:=C1.take ((n-1)*k)++Zq++C1.drop ((n-1)*k+k)
  C1.length=cap*k/\C2.length=cap*k/\C2.take ((n-1)*k)=T.take (i*k)++T.drop ((i+1)*k)/\T.length=n*k/\(T.drop ((i+1)*k)).length=(n-(i+1))*k:=by
 have m:n*k<=cap*k:=BL _ hn;have h:T.length=n*k:=by rw[<-f,Bv];omega
 have j:(i+1)*k<=n*k:=BL _ hi
 grind [Nat.mul_le_mul_right,Nat.sub_mul,List.take_of_length_le]
theorem Jm{P:Program}{f:Array Oper}{o:Oper}{a:Act}{K:Act->World->Prop}{Q:Exit->Act->World->Prop}{E:Prop}(j:o.guard=none)(s x:Operand)(t:Ag)
  (y:o.op=.call {callee:=.builtin .append,args:=#[s,x],argTypes:=#[t,t]}) (v u m:Ad) (w':Aa) (D:a.eval s=v) (T:a.eval x=u)
  (B:(Builtin.append_ #[t,t] o.type #[v,u]).run P w=.ok m w') (h:K (a.put o.dst m) w'):if Region.wanted o (yielded f a.tmps)=true then Oper.wp P o a w K Q else E:=by
 have M:Region.wanted o (yielded f a.tmps)=true:=by simp[Region.wanted,j]
 rw[Ay M];unfold Oper.wp;simp[execOp,y,resolve,invoke,builtin,D,T,B,Result.andThen];exact h
theorem Pj{off:Nat}{t ty:Ag}{z:Ad}(B:prog.underlying t=some (.slice e))(D:∀w,(zeroValue e).run prog w=.ok z w)(m:∀u∈z.cells.toList,u.oneCell'=true)(y:w.heap[g]?=some (.cells cur e (0,0)))(f:off+z.cells.size<=cur.size)(c:Nat):
  (Builtin.clear_ #[t] ty #[.slice (some (Y g off)) 1 c]).run prog w=.ok Ep (w.setRow g (cur.toList.take off++z.cells.toList++cur.toList.drop (off+z.cells.size)).toArray):=by
 have j:(Builtin.zeroCells z.cells 1).toList=z.cells.toList:=by
  apply List.ext_getElem;all_goals grind [Builtin.zeroCells,Nat.mod_eq_of_lt]
 have h:=run_storeCells_at prog g off e z.cells.toList 0 cur w y (by simpa using f) m;simp only[Cz]at h;simp[Builtin.clear_,run_underlying B,D,j,h]
theorem aaZ(w:Aa):(zeroValue 122).run prog w=.ok (.agg #[Z 0,.string ⟨#[]⟩,.bool false]) w:=EL
theorem zd:∀u∈tab Gp fl,u.oneCell'=true:=by
 intro u hu;have⟨f,_,h⟩:=List.mem_flatMap.1 hu;simp[Gp]at h;rcases h with rfl|rfl|rfl<;>rfl
abbrev zfl:List Value:=[Z 0,.string ⟨#[]⟩,.bool false]
theorem yJ(hg:w.heap[g]?=some (.cells cur 122 (0,0)))(hn:n=fl.length)(ak:n<=cap)(hm:cap<=maxLen)(aa:cur.size=cap*3)(ae:cur.toList.take (n*3)=tab Gp fl)(hi:i<n):
  D7 84 #[EJ g n cap,Z i,Z ((i:Int)+1)] w (EJ g (n-1) cap) λw'=>(∃f:Array Value,w'.heap[g]?=some (.cells f 122 (0,0))/\f.size=cap*3/\f.toList.take ((n-1)*3)=tab Gp (fl.eraseIdx i))/\DF (λk=>k=g) w w':=by
 have⟨i0,am,aV,M,b9⟩:=A1 dY;have ad:=ry (Zq:=zfl) (k:=3) Em (by rw[BO];exact aa) ak ae hi rfl;have⟨r1,r2,r3,r4,r5⟩:=ad;rw[<-oX JN]at r3;obtain⟨NW,X⟩:∃NW,NW=(tab Gp fl).drop ((i+1)*3):=⟨_,rfl⟩;rw[<-X]at r1 r2 r3 r5;obtain⟨C1,T⟩:∃C1,C1=cur.toList.take (i*3)++NW++cur.toList.drop (i*3+NW.length):=⟨_,rfl⟩;rw[<-T]at r1 r2 r3;obtain⟨Q,hW1⟩:∃Q,Q=w.drew.setRow g C1.toArray:=⟨_,rfl⟩;have g1:Q.heap[g]?=some (.cells C1.toArray 122 (0,0)):=by rw[hW1];exact Nf (w:=w.drew) hg
 obtain⟨W2,hW2⟩:∃W2,W2=Q.setRow g (C1.take ((n-1)*3)++zfl++C1.drop ((n-1)*3+3)).toArray:=⟨_,rfl⟩;have g2:W2.heap[g]?=some (.cells (C1.take ((n-1)*3)++zfl++C1.drop ((n-1)*3+3)).toArray 122 (0,0)):=by rw[hW2];exact Nf g1
 have HK:Hid (DF (λk=>k=g) w W2):=by
  exact abH
 have B:Hid (∃f:Array Value,W2.heap[g]?=some (.cells f 122 (0,0))/\f.size=cap*3/\f.toList.take ((n-1)*3)=tab Gp (fl.eraseIdx i)):=⟨_,g2,by simpa using r2,by simpa using r3⟩;have ac:∀j u,NW[j]?=some u->w.drew.cell? (((Y g ((i+1)*3)):Addr).add j)=some u:=λj u hj=>by
  rw[X,Cn,<-ae,BI]at hj;split at hj
  ·rw[Bc];have:w.drew.heap[g]?=some (.cells cur 122 (0,0)):=hg;simp[World.cell?,this];simpa using hj
  ·cases hj
 have D:∀c,(Builtin.append_ #[111,111] 111 #[EJ g i cap,.slice (some (Y g ((i+1)*3))) (n-(i+1)) c]).run prog w.drew=.ok (EJ g (n-1) cap) Q:=λc=>by
  have h:=run_append_room (P:=prog) w.drew 111 111 122 i0 underlying111 am g i cap cur hg (Y g ((i+1)*3)) (n-(i+1)) c NW (by rw[r5,M]) ac (λu hu=>zd u (List.mem_of_mem_drop (X ▸ hu))) U (by rw[M,r5,aa];omega);rw[M]at h;rw[h,hW1,T,show i+(n-(i+1))=n-1 by omega]
 have y:i+1=n->∀a c,(Builtin.append_ #[111,111] 111 #[EJ g i cap,.slice (some a) 0 c]).run prog w.drew=.ok (EJ g (n-1) cap) Q:=λhe a c=>by
  have aw:=B6.1 (by rw[r5,show n-(i+1)=0 by omega]);have h:=run_append_room (P:=prog) w.drew 111 111 122 i0 underlying111 am g i cap cur hg a 0 c [] Ev Ev Ev U (by rw[M,aa];simp;omega);rw[M]at h;rw[h,hW1,T,aw,show i+0=n-1 by omega]
 have hclr:∀ty c,(Builtin.clear_ #[111] ty #[.slice (some (Y g ((n-1)*3))) 1 c]).run prog Q=.ok Ep W2:=λty c=>by
  have h:=Pj (ty:=ty) (off:=(n-1)*3) underlying111 aaZ (by simp[Value.cells,Value.oneCell']) g1 (by simp[Value.cells,r1];omega) c;rw[h,hW2];simp[Value.cells]
 unfold maxLen at hm;clear X T hW1 hW2 g1 g2 r1 r2 r3 r4 r5 ac hg ae aa hn;have q1:((i:Int)==i+1)=false:=Fy;obtain⟨m,rfl⟩:∃m,n=m+1:=⟨n-1,U⟩;simp only[Nat.add_sub_cancel,Nat.add_sub_add_right]at D y hclr B ⊢;have aS:m+1-m=1:=U;have⟨HA,ah,HC⟩:=Ll D y hclr;clear D y hclr;have HE:=B;clear B;obtain⟨b1,b2,b3,b4⟩:(i:Int)+1<=((m+1:Nat):Int)/\((m+1:Nat):Int)<=(cap:Int)/\(i:Int)<=cap/\0<=(i:Int)+1:=U;by_cases az:i+1=cap
 ·have aN:i=m:=U;subst aN;subst az;have b7:(i:Int)<=i+1:=U;have b8:i<=i+1:=U;have av:=Dx (ah rfl (Y g 0) 0);clear ah HA;go_enter func84,ntmps84;go_wp2;go_region_law (refine Jm rfl (.tmp 22) (.tmp 25) 111 rfl (EJ g i (i+1)) (EJ g 0 0) (EJ g i (i+1)) Q rfl rfl av ?_)
  exact wK
 ·have b5:i<=m:=U;have b6:¬cap=i+1:=U;go_enter func84,ntmps84;go_wp2;go_region_law (refine Jm rfl (.tmp 22) (.tmp 25) 111 rfl (EJ g i cap) (.slice (some (Y g ((i+1)*3))) (m-i) (cap-(i+1))) (EJ g m cap) Q rfl rfl (HA _) ?_)
  exact wK
end Go.Proofs.YtblomippkddgiaaGreatDoor
