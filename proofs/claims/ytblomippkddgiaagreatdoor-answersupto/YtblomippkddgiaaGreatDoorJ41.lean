import Derived.Test.YtblomippkddgiaaGreatDoorJ40
set_option maxRecDepth 100000
set_option maxHeartbeats 4000000
namespace Go.Proofs.YtblomippkddgiaaGreatDoor.V
open Go.Proofs.Tryz
open Go.RowKit
abbrev iK(O:Ad)(n:Nat):Ending:=.returned (.tuple #[O,Z n])
theorem adY(s S:Ab)(w:Aa)(n q:Nat)(hn:¬n=0)(H:ET 147 #[.string s] w λe f=>e=M0 (n,q)/\DY w f):
  ET 152 #[.string s,.string S] w λe f=>e=iK (.slice none 0 0) n/\DY w f:=by
 have HH:=Dx H;have g:((n:Int) != 0)=true:=Fy;clear H;exact ab8
theorem adZ(s S:Ab)(w:Aa)(f:70<S.size)(H:ET 147 #[.string s] w λe g=>e=M0 (0,0)/\DY w g):
  ET 152 #[.string s,.string S] w λe g=>e=iK (.slice none 0 0) 5/\DY w g:=by
 have HH:=Dx H;have h:(70:Int)<(S.size:Int):=U;clear H f;exact ab8
theorem aaX(s S:Ab)(w:Aa)(f:¬70<S.size)(H:ET 147 #[.string s] w λe g=>e=M0 (0,0)/\DY w g)
  (y:∀h,DY w h->ET 210 #[.string s,Z 0,.string S,.slice none 0 0] h λe g=>(∃O B,e=triple O B false)/\DY h g):
  ET 152 #[.string s,.string S] w λe g=>e=iK (.slice none 0 0) 6/\DY w g:=by
 have⟨M,j⟩:=FU H y;have Q:¬(70:Int)<(S.size:Int):=U;clear H f y;go_enter func152,ntmps152;go_wp2_with fail
 refine cm M λh m=>?_
 have D:=Dx (j h m);go_wp2_with fail
 refine D.mono ?_;rintro e T ⟨⟨O,B,rfl⟩,u⟩;go_wp2
 go_ret2
 exact⟨rfl,m.trans (u.mono m.size)⟩
theorem aaW(s S S':Ab)(w:Aa)(f:¬70<S.size)(hl:¬S'.size=0)(H:ET 147 #[.string s] w λe g=>e=M0 (0,0)/\DY w g)
  (B:∀j,DY w j->ET 210 #[.string s,Z 0,.string S,.slice none 0 0] j λe g=>(∃D on M,e=triple (.slice D on M) S' true)/\DY j g):
  ET 152 #[.string s,.string S] w λe g=>e=iK (.slice none 0 0) 6/\DY w g:=by
 have⟨Q,m⟩:=FU H B;have T:¬(70:Int)<(S.size:Int):=U;have X:(!S'.toList.isEmpty)=true:=by
  cases h:S'.toList with
  |nil=>exact absurd (toList_nil.1 h) hl
  |cons x r=>rfl
 clear H f B hl;go_enter func152,ntmps152;go_wp2_with fail
 refine cm Q λj u=>?_
 have O:=Dx (m j u);go_wp2_with fail
 refine O.mono ?_;rintro e w2 ⟨⟨D,on,M,rfl⟩,y⟩;go_wp2
 go_ret2
 exact⟨rfl,u.trans (y.mono u.size)⟩
theorem toList_inj{a b:Ab}(h:a.toList=b.toList):a=b:=by
 rw[CH,CH]at h;exact CJ (by simpa using h)
theorem ad1(s S B:Ab)(w:Aa)(P:World->Value->World->Prop)(ah:¬70<S.size)(H:ET 147 #[.string s] w λe y=>e=M0 (0,0)/\DY w y)
  (HR:∀g,DY w g->ET 210 #[.string s,Z 0,.string S,.slice none 0 0] g λe y=>(∃oa on oc,e=triple (.slice oa on oc) ⟨#[]⟩ true/\P g (.slice oa on oc) y)/\DY g y)
  (HF:∀g O D,P g O D->D7 207 #[.string s,O] D (.bool true) λy=>DY D y)
  (HB:∀g O D w3,P g O D->DY D w3->D7 208 #[.string s,O] w3 (.string B) λy=>DY w3 y):
  ET 152 #[.string s,.string S] w λe y=>(if B=S then ∃O g D,e=iK O 0/\DY w g/\P g O D/\DY D y else e=iK (.slice none 0 0) 6)/\DY w y:=by
 have⟨HH,ae,ad,aa⟩:=bE H HR HF HB;have aq:¬(70:Int)<(S.size:Int):=U;clear H ah HR HF HB;by_cases hq:B=S
 ·have hc:(!B.toList==S.toList)=false:=by rw[hq];simp
  simp only[Ay hq];clear hq;go_enter func152,ntmps152;go_wp2_with fail
  refine cm HH λg j=>?_
  have HG:=Dx (ae g j);go_wp2_with fail
  refine HG.mono ?_;rintro e D ⟨⟨oa,on,oc,rfl,hP⟩,m⟩;have⟨Q,M⟩:=FU (ad _ _ _ hP) hP;clear hP;go_wp2_with fail
  refine cm Q λw3 f=>?_
  have T:=Dx (aa _ _ _ _ M f);go_wp2_with fail
  refine cm T λw4 u=>?_
  have b4:=f.trans (u.mono f.size);have X:=j.trans (m.mono j.size);have⟨HE,ab,ac⟩:=Ll (X.trans (b4.mono X.size)) j b4;clear j m f u X b4;go_wp2
  go_ret2
  exact⟨⟨_,_,_,rfl,ab,M,ac⟩,HE⟩
 ·have hc:(!B.toList==S.toList)=true:=by
   simp only[Bool.not_eq_true',beq_eq_false_iff_ne];exact λh=>hq (toList_inj h)
  simp only[Ao hq];clear hq;go_enter func152,ntmps152;go_wp2_with fail
  refine cm HH λg j=>?_
  have HG:=Dx (ae g j);go_wp2_with fail
  refine HG.mono ?_;rintro e D ⟨⟨oa,on,oc,rfl,hP⟩,m⟩;have⟨Q,M⟩:=FU (ad _ _ _ hP) hP;clear hP;go_wp2_with fail
  refine cm Q λw3 f=>?_
  have T:=Dx (aa _ _ _ _ M f);go_wp2_with fail
  refine cm T λw4 u=>?_
  have b4:=f.trans (u.mono f.size);have X:=j.trans (m.mono j.size);have⟨HE,ab,ac⟩:=Ll (X.trans (b4.mono X.size)) j b4;clear j m f u X b4;go_wp2
  go_ret2
  exact⟨rfl,HE⟩
theorem qX{s:Ab}(hc:(Pt.O7 (nx s) s.size).1=0):Pt.O7 (nx s) s.size=(0,0):=by grind [Pt.O7]
theorem str_inj{a b:Ac}(h:str a=str b):a=b:=by grind
theorem V5(s:Ab)(l:Ac)(w:Aa):
  ET 152 #[.string s,.string (str l)] w λe u=>∃O,e=iK O (I8 s l).1/\Row u w.heap.size O (I8 s l).2/\DY w u:=by
 have H:=Qn s w;by_cases hc:(Pt.O7 (nx s) s.size).1=0
 ·have y:=Nw hc;rw[qX hc]at H;have M:I8 s l=MO (Es Fx Il (nx s) (s.size+1) 0 (l,[])) l:=by simp[I8,hc]
  rw[M];by_cases g:70<l.length
  ·have hr:MO (Es Fx Il (nx s) (s.size+1) 0 (l,[])) l=(5,[]):=by simp[MO,g]
   rw[hr];refine(adZ s (str l) w (by rw[Er];exact g) H).mono ?_;rintro e u ⟨rfl,Q⟩;all_goals grind [My]
  ·have D:¬70<(str l).size:=by rw[Er];exact g
   have X:∀f:World,ET 210 #[.string s,Z 0,.string (str l),.slice none 0 0] f (Sd (RA f (Es Fx Jf (nx s) (s.size+1) 0 (l,[]))) (RB f (Es Fx Jf (nx s) (s.size+1) 0 (l,[])))):=
    λf=>oh s f y.size (s.size+1) 0 l [] _ f y.ok ⟨AZ _ _ _ _,AA _ _,by simp only[List.length_nil];omega⟩
   have hm:=tv (nx s) (s.size+1) 0 l [];cases hq:Es Fx Jf (nx s) (s.size+1) 0 (l,[]) with
   |none=>
    have hr:MO (Es Fx Il (nx s) (s.size+1) 0 (l,[])) l=(6,[]):=by simp[MO,g,hm.1 hq]
    rw[hr];rw[hq]at X;refine(aaX s (str l) w D H λf _=>(X f).mono ?_).mono ?_
    ·rintro e u (⟨O,S',rfl,_,Q⟩|⟨O,S',rfl,l',v',h,_⟩);all_goals grind
    all_goals grind [My]
   |some x=>
    have⟨l',v⟩:=x;have⟨v',ks,aq,T⟩:=hm.2 l' v hq;have hv:v=v':=by have:=T.Gz;simpa using this
    subst hv;rw[hq]at X;by_cases h0:l'=[]
    ·subst h0;have ab:l=aq:=by have:=T.bytes;simpa using this
     subst ab;have he:=T.IG [];rw[Cb]at he;have⟨_,s2⟩:=QO s _ _ y.ok _ _ _ he;have hK:=Ue s2 T.same;have az:=T.back;have ad:MO (Es Fx Il (nx s) (s.size+1) 0 (l,[])) l=if str (Et ks v)=str l then (0,v) else (6,[]):=by all_goals grind [MO]
     have ae:∀f O m,IR f v [] O m->v.length<=500:=by
      intro f O m h;have:=h.len;all_goals grind
     refine(ad1 s (str l) (str (Et ks v)) w (λf O m=>IR f v [] O m) D H (λf _=>(X f).mono ?_) (λf O m hP=>?_) (λf O m w3 hP Q=>?_)).mono ?_
     ·rintro e u (⟨O,S',rfl,h,_⟩|⟨O,S',rfl,l',v',h,hS,j⟩)
      ·cases h
      ·cases h;have⟨oa,on,oc,B⟩:=Ei j.own;subst B;subst hS;exact⟨⟨oa,on,oc,rfl,j⟩,j.DG⟩
     ·have j:=KW hP.own;have⟨a,cap,hV,_,_⟩:=id j;have aa:=ae _ _ _ hP;have hv:=Wx s O v y.size U (s.size+1) 0 0 m y.ok (AV _) j;have hf:=YT s O a cap v m hV _ hv;all_goals grind [jD]
     ·have j:=(KW hP.own).DG Q;have aa:=ae _ _ _ hP;have ht:=Ws s O v w3 y.size U j (s.size+1) 0 (.slice none 0 0) [] ks [] w3 y.ok ⟨AZ _ _ _ _,AA _ _⟩ he;all_goals grind [VH]
     ·rw[ad];rintro e u ⟨h,Q⟩;by_cases hE:str (Et ks v)=str l
      ·rw[Ay hE]at h ⊢;obtain⟨O,f,m,rfl,ak,j,al⟩:=h;exact⟨O,rfl,GL (ER j.own al) ak.size,Q⟩
      all_goals grind [My]
    ·have hr:MO (Es Fx Il (nx s) (s.size+1) 0 (l,[])) l=(6,[]):=by
      rw[T.back];all_goals grind [MO]
     rw[hr];refine(aaW s (str l) (str l') w D (by rw[Er];exact λh=>h0 (BA h)) H λf _=>(X f).mono ?_).mono ?_
     ·rintro e u (⟨O,S',rfl,h,_⟩|⟨O,S',rfl,aN,aS,h,hS,j⟩)
      ·cases h
      ·cases h;have⟨oa,on,oc,B⟩:=Ei j.own;subst B;subst hS;exact⟨⟨oa,on,oc,rfl⟩,j.DG⟩
     all_goals grind [My]
 ·have M:I8 s l=((Pt.O7 (nx s) s.size).1,[]):=by simp[I8,hc]
  rw[M];refine cm (adY s (str l) w _ _ hc H) λu Q=>?_
  all_goals grind [My]
end Go.Proofs.YtblomippkddgiaaGreatDoor.V
namespace Go.Proofs.YtblomippkddgiaaGreatDoor
open Go.Proofs.Tryz
open Go.RowKit
variable {F:D9}{i k x:Nat}{P:Pk}{c:R.Cl}{l:R.Ln}{G:R.Wd}{v:RV}{w:World}
abbrev zf(ci li:Nat)(DR:Int)(l:R.Ln)(pt off:Int):Value:=.agg #[Z 6,Z ci,Z DR,Z li,Z l.D4,Z l.D5,Z pt,Z off,.bool false,.string ⟨#[]⟩]
abbrev Mr(w:Aa)(lb li:Nat)(s:Ac)(k a:Int):World:=((w.setCell (Y lb (li*11+7)) (.string (str s))).setCell (Y lb (li*11+8)) (Z k)).setCell (Y lb (li*11+6)) (Z a)
theorem E3.Mr{V:Aa}{o:Obj}{W:Aa}(h:E3 w V o W){lb li:Nat}(e:lb<w.heap.size)(s:Ac)(k a:Int):E3 w (Mr V lb li s k a) o (Mr W lb li s k a):=((h.set e _).set e _).set e _
theorem vp(w:Aa)(x ci li g n cap lb y:Nat)(DR:Int)(l:R.Ln)(p:Pk)(M:Ab)(e:Int)(u:p.DZ=(li:Int))(h:kC w x ci li g n cap lb y DR l)(j:0<=e/\e<=100)(hold:l.Ea<e-1\/(¬l.Ea<e-1/\l.DT<p.Ez))
  (f:Hid (∀W,D7 220 #[.string (str l.DC),Z 0] W (.tuple #[.string M,Z e]) λm=>m=W)):
  D7 257 #[Ey x,Z ci,pv p] w (.bool false) λm=>DY w m:=by
 obtain⟨x9,c0,c2,⟨l0,l1,_,l3,l4,l5,l6,l7,l8,l9,l10⟩,hc,hl⟩:=h;obtain⟨X,cl,lf,ln,sq,ud,pt,off,pl,bd⟩:=p;simp only at u hold;subst u;have q0:0<=(ci:Int):=U;have q1:(ci:Int)<n:=U;have q2:0<=(li:Int):=U;have q3:(li:Int)<y:=U;have e1:IntKind.i64.wrap (e-1)=e-1:=Iz;obtain⟨T,Q,D⟩:=Va x9 c0 l0;clear hc hl j;rcases hold with B|⟨B,O⟩;all_goals
  go_enter func257,ntmps257;go_wp2_with fail
  go_quiet (fail);go_wp2_with (first|(go_at_call 220;refine cs (f _) ?_))
  go_quiet (fail);go_wp2_with fail
  go_returns;exact⟨rfl,Ed (LG w (Ar _) _ _) _⟩
theorem gu(w:Aa)(x ci li g n cap lb nl:Nat)(DR:Int)(l:R.Ln)(p:Pk)(pb:Ab)(y:Int)(j:World->Prop)(hp:p.DZ=(li:Int))(h:kC w x ci li g n cap lb nl DR l)(M:0<=y/\y<=100)(h1:¬l.Ea<y-1)(h2:¬l.DT<p.Ez)(h3:¬p.Ez=l.DT)(h4:¬l.DT=p.off)
  (B:Hid (∀W,D7 220 #[.string (str l.DC),Z 0] W (.tuple #[.string pb,Z y]) λu=>u=W))
  (f:Hid (∀W,DY w W->D7 166 #[Ey x,Z ci,Z li,Z 6] W (zf ci li DR l 0 1) λu=>DY W u))
  (H167:Hid (∀W,DY w W->D7 167 #[Ey x,Z (-1),zf ci li DR l p.Ez p.off] W Ep λu=>j u)):
  D7 257 #[Ey x,Z ci,pv p] w (.bool false) λu=>j u:=by
 obtain⟨x9,c0,c2,⟨l0,l1,_,l3,l4,l5,l6,l7,l8,l9,l10⟩,hc,hl⟩:=h;obtain⟨kd,cl,lf,ln,sq,ud,pt,off,pl,bd⟩:=p;simp only at hp h2 h3 h4;subst hp;have q0:0<=(ci:Int):=U;have q1:(ci:Int)<n:=U;have q2:0<=(li:Int):=U;have q3:(li:Int)<nl:=U;have e1:IntKind.i64.wrap (y-1)=y-1:=Iz;obtain⟨hx,hg,aa⟩:=Va x9 c0 l0;clear hc hl M;go_enter func257,ntmps257;go_wp2_with fail
 go_quiet (fail);go_wp2_with (first|(go_at_call 220;refine cs (B _) ?_))
 go_quiet (fail);go_wp2_with fail
 go_quiet (fail);go_wp2_with fail
 go_quiet (fail);refine EE (E3 w w _) ((((JJ).drewN _).drewN _).drewN _) ?_;intro W D;obtain⟨b3,T,X⟩:=TH D.2 3 6 7;have m:=Dv D.2;have Q:=Dx D;clear D;go_wp2_with fail
 refine cm (f W Q.1) λO e=>?_
 have f6:=(e.cell (p:=EN w 6) m).trans T;have f7:=(e.cell (p:=EN w 7) m).trans X;have ab:=e.size;have hB1:w.heap.size<O.heap.size:=U;have n1:¬w.heap.size=O.heap.size:=U;have n2:¬O.heap.size=w.heap.size:=U;have HB1:=Q.1.trans (e.mono (Nat.le_of_lt m));clear e b3 T X f;exact abz
theorem oo(w:Aa)(x ci li g n cap lb nl:Nat)(DR:Int)(l:R.Ln)(p:Pk)(pb:Ab)(y:Int)(D:World->Prop)(hp:p.DZ=(li:Int))(h:kC w x ci li g n cap lb nl DR l)(ak:0<=y/\y<=100)(h1:¬l.Ea<y-1)(h2:¬l.DT<p.Ez)(hf:p.Ez=l.DT)(ah:0<=l.DT/\l.DT<=99)(O:¬l.DT+1=p.off)(aa:l.EK.length<=1000)(M:p.Ef.length<=1000)(z:∀o,w.frozen? (Y lb o)=false)
  (T:Hid (∀W,D7 220 #[.string (str l.DC),Z 0] W (.tuple #[.string pb,Z y]) λQ=>Q=W))
  (B:Hid (∀W,Below w.heap.size (Mr w lb li (l.EK++p.Ef) (l.DT+1) y) W->D7 166 #[Ey x,Z ci,Z li,Z 6] W (zf ci li DR l 0 1) λQ=>DY W Q))
  (H167:Hid (∀W,Below w.heap.size (Mr w lb li (l.EK++p.Ef) (l.DT+1) y) W->D7 167 #[Ey x,Z (-1),zf ci li DR l p.Ez p.off] W Ep λQ=>D Q)):
  D7 257 #[Ey x,Z ci,pv p] w (.bool true) λQ=>D Q:=by
 obtain⟨x9,c0,c2,⟨l0,l1,⟨ra,rn,rc,l2⟩,l3,l4,l5,l6,l7,l8,l9,l10⟩,hc,hl⟩:=h;obtain⟨kd,cl,lf,ln,sq,ud,pt,off,pl,bd⟩:=p;simp only at hp h2 hf O M;subst hp;subst hf;have q0:0<=(ci:Int):=U;have q1:(ci:Int)<n:=U;have q2:0<=(li:Int):=U;have q3:(li:Int)<nl:=U;have e1:IntKind.i64.wrap (y-1)=y-1:=Iz;have e2:IntKind.i64.wrap (l.DT+1)=l.DT+1:=Iz;have ar:=Td aa M;obtain⟨hx,hg,e⟩:=Va x9 c0 l0;have z1:=z (li*11+1);have z2:=z (li*11+2);have z6:=z (li*11+6);have z7:=z (li*11+7);have z8:=z (li*11+8);have HZ:=Dx z;clear hc hl ak ah aa M z;go_enter func257,ntmps257;go_wp2_with fail
 go_quiet (fail);go_wp2_with (first|(go_at_call 220;refine cs (T _) ?_))
 go_quiet (fail);go_wp2_with fail
 go_quiet (fail);refine EE (E3 w w _) (((JJ).drewN _).drewN _) ?_;intro W f;obtain⟨b3,b6,b7⟩:=TH f.2 3 6 7;have b9:=EI f.2 9;have m:=Dv f.2;have k1:=(f.1.cell (p:=Y lb _) e).trans l1;have k2:=(f.1.cell (p:=Y lb _) e).trans l2;have k4:=(f.1.cell (p:=Y lb _) e).trans l4;have k6:=(f.1.cell (p:=Y lb _) e).trans l6;have k7:=(f.1.cell (p:=Y lb _) e).trans l7;have k8:=(f.1.cell (p:=Y lb _) e).trans l8;have v1:=(f.1.frozen (p:=(Y lb (li*11+1))) e).trans z1;have v2:=(f.1.frozen (p:=(Y lb (li*11+2))) e).trans z2;have v6:=(f.1.frozen (p:=(Y lb (li*11+6))) e).trans z6;have v7:=(f.1.frozen (p:=(Y lb (li*11+7))) e).trans z7;have v8:=(f.1.frozen (p:=(Y lb (li*11+8))) e).trans z8;have ab:lb<W.heap.size:=U;have m1:¬lb=w.heap.size:=U;have m2:¬w.heap.size=lb:=U;have HW:=Dx (f.Mr (li:=li) e (l.EK++bd) (l.DT+1) y);have HL:=Dx (And.intro l1 (And.intro l2 (And.intro l4 (And.intro l7 l8))));clear f l1 l2 l3 l4 l5 l6 l7 l8 l9 l10 z1 z2 z6 z7 z8;go_wp2_with fail
 go_region_law (fail)
 go_wp2_with fail
 all_goals
  refine EE (E3 w (Mr w lb li (l.EK++bd) (l.DT+1) y) _) HW.drew ?_;clear b3 b6 b7 b9 m k1 k2 k4 k6 k7 k8 v1 v2 v6 v7 v8 ab;intro W3 j;obtain⟨l1,l2,l4,l7,l8⟩:=Dw HL;obtain⟨b3,b6,b7⟩:=TH j.2 3 6 7;have m:=Dv j.2;have ab:lb<W3.heap.size:=U;have y8:(w.setCell (Y lb (li*11+7)) (.string (str (l.EK++bd)))).cell? (Y lb (li*11+8))=some (Z l.DT):=(AP (h:=by simp) ..).trans l8;have k8:=(j.1.cell (p:=Y lb _) e).trans ((AP (h:=by simp) ..).trans (BU (h:=y8) ..));have k7:=(j.1.cell (p:=Y lb _) e).trans ((AP (h:=by simp) ..).trans ((AP (h:=by simp) ..).trans (BU (h:=l7) ..)));have k4:=(j.1.cell (p:=Y lb _) e).trans ((AP (h:=by simp) ..).trans ((AP (h:=by simp) ..).trans ((AP (h:=by simp) ..).trans l4)));clear l1 l2 l4 l7 l8 y8 HL;have X:=Dx j;clear j HW;clear k4 k7;go_quiet (fail);go_wp2_with fail
  refine cm (B _ (Ed X.1 _)) λw1 u=>?_
  have f6:=(u.cell (p:=EN w 6) m).trans b6;have f7:=(u.cell (p:=EN w 7) m).trans b7;have aN:W3.heap.size<=w1.heap.size:=u.size;have hB1:w.heap.size<w1.heap.size:=U;have n1:¬w.heap.size=w1.heap.size:=U;have n2:¬w1.heap.size=w.heap.size:=U;have HB1:=(Ed X.1 _).trans (u.mono (Nat.le_of_lt m));clear u b3 b6 b7 B k8;exact abz
theorem om(w:Aa)(x ci li g n cap lb nl:Nat)(DR:Int)(l:R.Ln)(p:Pk)(pb:Ab)(pn:Int)(er:Nat)(Rw:Nat->Value->World->Prop)(hp:p.DZ=(li:Int))(h:kC w x ci li g n cap lb nl DR l)(av:0<=pn/\pn<=100)(h1:¬l.Ea<pn-1)(h2:¬l.DT<p.Ez)(hf:p.Ez=l.DT)(ar:0<=l.DT/\l.DT<=99)(T:l.DT+1=p.off)(ah:l.EK.length<=1000)(ab:p.Ef.length<=1000)(z:∀o,w.frozen? (Y lb o)=false)
  (ac:Hid (∀W,D7 220 #[.string (str l.DC),Z 0] W (.tuple #[.string pb,Z pn]) λw'=>w'=W))
  (aa:Hid (∀W,ET 152 #[.string l.to,.string (str (l.EK++p.Ef))] W λe w'=>∃oa on oc,e=.returned (.tuple #[.slice oa on oc,Z er])/\Rw W.heap.size (.slice oa on oc) w'/\DY W w')):
  D7 257 #[Ey x,Z ci,pv p] w (.bool false) λw'=>∃B O W2,w.heap.size<=B/\B<=W2.heap.size/\Rw B O W2/\Below w.heap.size (Mr w lb li (l.EK++p.Ef) (l.DT+1) pn) W2/\w'=(W2.setCell (Y lb (li*11+2)) O).setCell (Y lb (li*11+1)) (Z 2):=by
 obtain⟨x9,c0,c2,⟨l0,l1,⟨ra,rn,rc,l2⟩,l3,l4,l5,l6,l7,l8,l9,l10⟩,hc,hl⟩:=h;obtain⟨kd,cl,lf,ln,sq,ud,pt,off,pl,bd⟩:=p;simp only at hp h2 hf T ab aa;subst hp;subst hf;subst T;have q0:0<=(ci:Int):=U;have q1:(ci:Int)<n:=U;have q2:0<=(li:Int):=U;have q3:(li:Int)<nl:=U;have e1:IntKind.i64.wrap (pn-1)=pn-1:=Iz;have e2:IntKind.i64.wrap (l.DT+1)=l.DT+1:=Iz;have aN:=Td ah ab;obtain⟨hx,hg,f⟩:=Va x9 c0 l0;have z1:=z (li*11+1);have z2:=z (li*11+2);have z6:=z (li*11+6);have z7:=z (li*11+7);have z8:=z (li*11+8);have HZ:=Dx z;clear hc hl av ar ah ab z;go_enter func257,ntmps257;go_wp2_with fail
 go_quiet (fail);go_wp2_with (first|(go_at_call 220;refine cs (ac _) ?_))
 go_quiet (fail);go_wp2_with fail
 go_quiet (fail);refine EE (E3 w w _) (((JJ).drewN _).drewN _) ?_;intro W u;obtain⟨b3,b6,b7⟩:=TH u.2 3 6 7;have b9:=EI u.2 9;have X:=Dv u.2;have k1:=(u.1.cell (p:=Y lb _) f).trans l1;have k2:=(u.1.cell (p:=Y lb _) f).trans l2;have k4:=(u.1.cell (p:=Y lb _) f).trans l4;have k6:=(u.1.cell (p:=Y lb _) f).trans l6;have k7:=(u.1.cell (p:=Y lb _) f).trans l7;have k8:=(u.1.cell (p:=Y lb _) f).trans l8;have v1:=(u.1.frozen (p:=(Y lb (li*11+1))) f).trans z1;have v2:=(u.1.frozen (p:=(Y lb (li*11+2))) f).trans z2;have v6:=(u.1.frozen (p:=(Y lb (li*11+6))) f).trans z6;have v7:=(u.1.frozen (p:=(Y lb (li*11+7))) f).trans z7;have v8:=(u.1.frozen (p:=(Y lb (li*11+8))) f).trans z8;have m:lb<W.heap.size:=U;have m1:¬lb=w.heap.size:=U;have m2:¬w.heap.size=lb:=U;have HW:=Dx (u.Mr (li:=li) f (l.EK++bd) (l.DT+1) pn);have HL:=Dx (And.intro l1 (And.intro l2 (And.intro l4 (And.intro l7 l8))));clear u l1 l2 l3 l4 l5 l6 l7 l8 l9 l10 z1 z2 z6 z7 z8;go_wp2_with fail
 go_region_law (fail)
 go_wp2_with fail
 all_goals
  refine EE (E3 w (Mr w lb li (l.EK++bd) (l.DT+1) pn) _) HW.drew ?_;clear b3 b6 b7 b9 X k1 k2 k4 k6 k7 k8 v1 v2 v6 v7 v8 m;intro W3 y;obtain⟨l1,l2,l4,l7,l8⟩:=Dw HL;obtain⟨b3,b6,b7⟩:=TH y.2 3 6 7;have X:=Dv y.2;have m:lb<W3.heap.size:=U;have y8:(w.setCell (Y lb (li*11+7)) (.string (str (l.EK++bd)))).cell? (Y lb (li*11+8))=some (Z l.DT):=(AP (h:=by simp) ..).trans l8;have k8:=(y.1.cell (p:=Y lb _) f).trans ((AP (h:=by simp) ..).trans (BU (h:=y8) ..));have k7:=(y.1.cell (p:=Y lb _) f).trans ((AP (h:=by simp) ..).trans ((AP (h:=by simp) ..).trans (BU (h:=l7) ..)));have k4:=(y.1.cell (p:=Y lb _) f).trans ((AP (h:=by simp) ..).trans ((AP (h:=by simp) ..).trans ((AP (h:=by simp) ..).trans l4)));have ad:=HL;clear l1 l2 l4 l7 l8 y8 HL;have D:=Dx y;clear y HW;have ae:Hid (∀M,DY W3 M->M.frozen? (Y lb (li*11+1))=false/\M.frozen? (Y lb (li*11+2))=false/\M.cell? (Y lb (li*11+1))=some (Z l.DK)/\M.cell? (Y lb (li*11+2))=some (.slice ra rn rc)):=Dx (λM j=>by
   obtain⟨l1,l2,l4,l7,l8⟩:=Dw ad;exact⟨((j.frozen (p:=Y lb _) m).trans (D.1.frozen (p:=Y lb _) f)).trans (by simpa using HZ (li*11+1)),((j.frozen (p:=Y lb _) m).trans (D.1.frozen (p:=Y lb _) f)).trans (by simpa using HZ (li*11+2)),((j.cell (p:=Y lb _) m).trans (D.1.cell (p:=Y lb _) f)).trans ((AP (h:=by simp) ..).trans ((AP (h:=by simp) ..).trans ((AP (h:=by simp) ..).trans l1))),((j.cell (p:=Y lb _) m).trans (D.1.cell (p:=Y lb _) f)).trans ((AP (h:=by simp) ..).trans ((AP (h:=by simp) ..).trans ((AP (h:=by simp) ..).trans l2)))⟩)
  clear ad;go_quiet (fail);go_wp2_with fail
  go_region_held3 (λw'=>w'.cell? (Y lb (li*11+4))=some (.string l.to)/\w'.cell? (Y lb (li*11+7))=some (.string (str (l.EK++bd)))) (go_keep) (first|(go_at_call 152;refine(aa _).mono ?_;rintro e M ⟨oa,on,oc,rfl,hR,j⟩;have y4:M.cell? (Y lb (li*11+4))=some (.string l.to):=(j.cell (p:=(Y lb (li*11+4))) m).trans k4;have y7:M.cell? (Y lb (li*11+7))=some (.string (str (l.EK++bd))):=(j.cell (p:=(Y lb (li*11+7))) m).trans k7;have HR:=Dx hR;have Q:=Dx j;clear hR j))
  all_goals
   obtain⟨g1,g2,g3,g4⟩:=ae M ((Ed (AA _ _) _).trans Q);have b1:=Ai m Q.size;have ao:Hid (∃B,w.heap.size<=B/\B<=M.heap.size/\Rw B (.slice oa on oc) M):=⟨_,Nat.le_of_lt X,Q.size,HR⟩;have am:=D.1.trans (((Ed (AA W3.heap.size W3) _).trans Q).mono (Nat.le_of_lt X));clear HR Q D ae;go_wp2_with fail
   go_returns;obtain⟨B,h1,h2,h3⟩:=Dw ao;exact⟨rfl,B,_,M,h1,h2,h3,am,rfl⟩
theorem RM.hdc(h:RM x v F G w)(hc:G.DI[i]?=some c)(hl:c.DV[k]?=some l){lb:Nat}(j:v.M3[i]?=some lb):∃g cap,kC w x i k g G.DI.length cap lb c.DV.length c.DR l:=by
 have⟨g,cap,z,m,f⟩:=h.at hc;have e:z.2.lb=lb:=by grind [Tk.M3]
 subst e;exact⟨g,cap,f.x9,f.c0,f.c2,f.cells hl,(GG hc),(GG hl)⟩
theorem RM.lb(h:RM x v F G w)(hc:G.DI[i]?=some c):∃lb,v.M3[i]?=some lb:=by grind [RM,RV.M3]
theorem lW(f:R.Wf G)(hc:G.DI[i]?=some c)(hl:c.DV[k]?=some l)(h:l.DK=1)(y:EC P):EC ⟨6,(i:Int),c.DR,(k:Int),l.D4,l.D5,P.Ez,P.off,false,[]⟩:=by
 have e:=(f.cl i c hc).DZ k l hl;have⟨B,D,_,_,_,_⟩:=e.one h;have j:=(f.cl i c hc).DR;have m:=e.D4;have g:=f.cf;unfold R.GA at g;have h:=f.N5;have u:=(f.cl i c hc).DV
 grind [EC,Ju]
theorem jG(hc:G.DI[i]?=some c)(hl:c.DV[k]?=some l)(e:P.DZ=(k:Int)):R.LP G i P=R.E9 G (-1) ⟨6,(i:Int),c.DR,(k:Int),l.D4,l.D5,P.Ez,P.off,false,[]⟩:=by grind [R.LP,R.FH,R.GH]
theorem RM.EK(h:RM x v F G w){l:R.Ln}(hc:G.DI[i]?=some c)(hl:c.DV[k]?=some l)(Q:l.DK≠2){lb:Nat}(M:v.M3[i]?=some lb)(s:Ac)(p a:Int):∃B m,RM x B m (R.Eh G i k {l with EK:=s,DT:=p,Ea:=a}) (Mr w lb k s p a)/\D8 F m w (Mr w lb k s p a)/\B.M3=v.M3:=by
 have⟨g,cap,z,T,f⟩:=h.at hc;have D:z.2.lb=lb:=by grind [Tk.M3]
 subst D;have⟨y,O,_⟩:=f.DZ hl Q;have e:=GG y;refine h.M5 hc f (l':={l with EK:=s,DT:=p,Ea:=a}) (V':=.slice none 0 0) (Rs.nil w F O) (((FK).trans (FK)).trans (FK)) ?_;have s1:=FL (l1:={l with EK:=s}) f.lb y (j:=7) (u:=.string (str s)) U rfl;have s2:=FL (l:={l with EK:=s}) (l1:={l with EK:=s,DT:=p}) s1 (AO e) (j:=8) (u:=Z p) U rfl;rw[A5]at s2;have s3:=FL (l:={l with EK:=s,DT:=p}) (l1:={l with EK:=s,DT:=p,Ea:=a}) s2 (AO e) (j:=6) (u:=Z a) U rfl;rw[A5]at s3;exact s3
theorem UN(hc:G.DI[i]?=some c)(hl:c.DV[k]?=some l)(l':R.Ln):(R.Eh G i k l').DI[i]?=some {c with DV:=c.DV.set k l'}/\(c.DV.set k l')[k]?=some l':=by grind [R.Ft]
theorem RM.ended(h:RM x v F G w)(hc:G.DI[i]?=some c)(hl:c.DV[k]?=some l)(hs:l.DK≠2){lb:Nat}(aa:v.M3[i]?=some lb){B:Nat}{O:Ad}{Kw:List R.It}(hO:V.Row w B O Kw)(hB:B<=w.heap.size)(Q:Kw≠[]):∃m F',RM x m F' (R.Eh G i k {l with DU:=Kw,DK:=2}) ((w.setCell (Y lb (k*11+2)) O).setCell (Y lb (k*11+1)) (Z 2))/\DF (λb=>b=lb) w ((w.setCell (Y lb (k*11+2)) O).setCell (Y lb (k*11+1)) (Z 2))/\(∀j,F' j->F j\/B<=j)/\F lb/\m.M3=v.M3:=by
 obtain⟨y,M⟩:=ND hO Q;have T:=h.acE (F':=λj=>F j\/O.ownBlock=some j) (λ_ q=>Aj q) (λj e=>by
  rcases e with e|e
  ·exact h.lt j e
  ·exact(M j e).2)
 obtain⟨g,cap,z,zl,f⟩:=T.at hc;have e':z.2.lb=lb:=by all_goals grind [Tk.M3]
 subst e';obtain⟨X,hr,_⟩:=f.DZ hl hs;have D:=GG X;have hk:DF (λb=>b=z.2.lb) w ((w.setCell (Y z.2.lb (k*11+2)) O).setCell (Y z.2.lb (k*11+1)) (Z 2)):=(FK).trans (FK);have hT:Rs w (λj=>F j\/O.ownBlock=some j) O {l with DU:=Kw,DK:=2}:=⟨y.keep (DF.refl (λ_=>False) w) (λ_ _ _ _ q=>q) (λ_ q=>Am q),λq=>absurd rfl q⟩;obtain⟨m,F',r1,r2,r3⟩:=T.M5 hc f (l':={l with DU:=Kw,DK:=2}) (V':=O) hT hk (by
  have s1:=FL (V1:=O) (l1:={l with DU:=Kw}) f.lb X (j:=2) (u:=O) U rfl;have s2:=FL (V:=O) (V1:=O) (l:={l with DU:=Kw}) (l1:={l with DU:=Kw,DK:=2}) s1 (AO D) (j:=1) (u:=Z 2) U rfl;rw[A5]at s2;exact s2)
 refine⟨m,F',r1,hk,λj e=>?_,?_,r3⟩
 ·rcases r2.fresh j e with (q|q)|q;all_goals grind
 ·exact(h.Gs i z f.hz).1
structure ReP(x:Nat)(v:RV)(F:D9)(G:R.Wd)(w:Aa)(i k:Nat)(P:Pk)(b:Bool)(Gm:R.Wd):Prop where
 no:b=false->R.IL G i P=Gm
 N3:b=true->R.IL G i P=R.JS Gm i k/\Gm.c=G.c/\∃c' l',Gm.DI[i]?=some c'/\c'.DV[k]?=some l'/\l'.DK≠2
 call:∀W,Below w.heap.size w W->Calls prog 257 #[Ey x,Z i,pv P] W λe w'=>e=.returned (.bool b)/\∃v' F',RM x v' F' Gm w'/\D8 F F' w w'/\v'.M3=v.M3
theorem RW.DU(h:RW x v F G w){M:R.Bk}(hI:R.Inv M G)(y:R.At G i k c l)(h1:l.DK=1)(hP:P.DZ=(k:Int))(hr:EC P){d:R.Cd}{e:R.En}{rb:Ac}(hd:M ⟨i,c.DR,k,l.D4⟩=some d)(hdn:R.Kz G.Dy ⟨i,c.DR,k,l.D4⟩ d e rb)(ho:P.off=R.DL rb)(hb:P.Ef=R.EY rb P.Ez):∃b Gm,ReP x v F G w i k P b Gm:=by
 have⟨lb,X⟩:=h.toRM.lb y.cl;have aN:=(h.wf.cl i c y.cl).DZ k l y.ln;have⟨z1,z2,an,bp,b7,b6⟩:=aN.one h1;have b3:=hI.ln i c k l y.cl y.ln;have⟨d',w1,w2,w3,w4,w5,w6,w7⟩:=b3.pX h1;rw[hd]at w1;cases w1;have bS:=hr.2.2.2.2.2.2.2.1;have bL:=hr.2.2.2.2.2.2.1;have bT:=R.IV an.2;have bg:=R.ID (s:=l.DC) an.1;have aw:=lW h.wf y.cl y.ln h1 hr;have bi:rb.length<=70:=by
  exact ab9
 have bt:l.EK.length<=72/\(l.DT<P.off):=by grind [R.Inv.unique,R.LF]
 have br:P.Ef.length<=8:=by rw[hb,R.LA];omega
 have Q:Hid (∀W,D7 220 #[.string (str l.DC),Z 0] W (.tuple #[.string (str (R.EY l.DC 0)),Z (R.DL l.DC)]) λw'=>w'=W):=λW=>Ma l.DC 0 U U W
 have bz:R.Ia G i P.DZ=l:=by rw[hP];exact y.DZ
 have D:R.IL G i P=if l.Ea<R.DL l.DC-1\/l.DT<P.Ez then G else if P.Ez=l.DT then (if l.DT+1=P.off then R.Eh G i k {l with EK:=l.EK++P.Ef,DT:=l.DT+1,Ea:=R.DL l.DC,DU:=(V.I8 l.to (l.EK++P.Ef)).2,DK:=2} else R.JS (R.LP (R.Eh G i k {l with EK:=l.EK++P.Ef,DT:=l.DT+1,Ea:=R.DL l.DC}) i P) i k) else R.LP G i P:=by grind [R.IL]
 have hC:∀W,DY w W->∃g cap,kC W x i k g G.DI.length cap lb c.DV.length c.DR l:=λW m=>(h.toRM.DG m).hdc y.cl y.ln X
 have ah:∀{W},DY w W->D8 F F w W:=λm=>D8.D6 F m
 by_cases hold:l.Ea<R.DL l.DC-1\/l.DT<P.Ez
 ·refine⟨false,G,⟨λ_=>by rw[D,Ay hold],Ev,λW m=>?_⟩⟩;have⟨g,cap,hd⟩:=hC W m;refine cm (vp W x i k g _ cap lb _ c.DR l P _ _ hP hd U U Q) λw' f=>?_
  have hT:=m.trans (f.mono m.size);exact⟨rfl,v,F,h.toRM.DG hT,D8.D6 F hT,rfl⟩
 ·by_cases hf:P.Ez=l.DT
  ·have av:=λW (m:DY w W)=>(h.toRM.DG m).EK y.cl y.ln U X (l.EK++P.Ef) (l.DT+1) (R.DL l.DC)
   have⟨sc,sl⟩:=UN y.cl y.ln {l with EK:=l.EK++P.Ef,DT:=l.DT+1,Ea:=R.DL l.DC};by_cases u:l.DT+1=P.off
   ·have ab:l.EK++P.Ef=rb:=by
     obtain⟨n,hn⟩:∃n:Nat,l.DT=(n:Int):=⟨l.DT.toNat,U⟩;have al:l.EK=rb.take (8*n):=by
      exact abU
     rw[al,hb,hf,hn,R.Md,R.L6 (by rw[<-ho,<-u,hn];rfl)]
    have T:V.I8 l.to (l.EK++P.Ef)=(0,e.DU):=by rw[ab,w4];exact R.Kq hdn.bytes
    have b4:=V6 hdn.bytes hdn.pos;refine⟨false,R.Eh G i k {l with EK:=l.EK++P.Ef,DT:=l.DT+1,Ea:=R.DL l.DC,DU:=e.DU,DK:=2},⟨λ_=>by rw[D,Ao hold,Ay hf,Ay u,T],Ev,λW m=>?_⟩⟩;have⟨g,cap,hd⟩:=hC W m;have⟨v1,F1,r1,r2,r3⟩:=av W m;refine(om W x i k g _ cap lb _ c.DR l P _ _ 0 (λB O w'=>V.Row w' B O e.DU) hP hd U U U hf U u U U (λo=>(h.toRM.DG m).rsc y.cl X |>.z o) Q (λW'=>?_)).mono ?_
    ·have hu:=V.V5 l.to (l.EK++P.Ef) W';rw[T]at hu;refine hu.mono ?_;rintro e' w' ⟨O,rfl,hR,f⟩;obtain⟨oa,on,oc,rfl⟩:=Ei hR
     grind
    ·rintro e' w' ⟨rfl,B,O,W2,bq,b1,hO,b2,rfl⟩;have aa:(Mr W lb k (l.EK++P.Ef) (l.DT+1) (R.DL l.DC)).heap.size=W.heap.size:=Ev;have ak:=b2;rw[<-aa]at ak;have az:v1.M3[i]?=some lb:=by rw[r3];exact X
     have⟨v2,F2,m1,m2,m3,m4,m5⟩:=(r1.DG ak).ended sc sl (by show l.DK≠2;omega) az hO b1 b4;rw[Pm]at m1;refine⟨rfl,v2,F2,m1,?_,m5.trans r3⟩;have ad:=((ah m).trans r2).trans (D8.D6 F1 ak);refine⟨ad.E0.andThen m2 (λj hj e=>?_),λj hj=>?_⟩
     ·subst e;rcases ad.fresh j m4 with q|q
      ·exact q
      ·omega
     ·rcases m3 j hj with q|q
      ·exact ad.fresh j q
      ·exact Am (Br m.size U)
   ·refine⟨true,R.LP (R.Eh G i k {l with EK:=l.EK++P.Ef,DT:=l.DT+1,Ea:=R.DL l.DC}) i P,⟨Ev,λ_=>⟨by rw[D,Ao hold,Ay hf,Ao u],?_,?_⟩,λW m=>?_⟩⟩
    ·unfold R.LP;exact R.Mb _ _ _
    ·grind [R.LP,K7]
    ·have⟨g,cap,hd⟩:=hC W m;have⟨v1,F1,r1,r2,r3⟩:=av W m;have aa:(Mr W lb k (l.EK++P.Ef) (l.DT+1) (R.DL l.DC)).heap.size=W.heap.size:=Ev;have aS:R.Wf (R.Eh G i k {l with EK:=l.EK++P.Ef,DT:=l.DT+1,Ea:=R.DL l.DC}):=h.wf.Eh ⟨aN.D4,λ_=>⟨z1,z2,an,by simp only;omega,b7,b6⟩⟩;have R1:RW x v1 F1 _ _:=⟨r1,aS,h.GQ⟩;refine oo W x i k g _ cap lb _ c.DR l P _ _ _ hP hd U U U hf U u U U (λo=>(h.toRM.DG m).rsc y.cl X |>.z o) Q (λW' f=>?_) (λW' f=>?_)
     ·rw[<-aa]at f;exact(R1.DG f).Xz sc sl 6
     ·rw[<-aa]at f;refine((R1.DG f).UL (-1) ⟨6,(i:Int),c.DR,(k:Int),l.D4,l.D5,P.Ez,P.off,false,[]⟩ aw).mono ?_;rintro e' w' ⟨rfl,v2,F2,m1,m2,m3⟩;refine⟨rfl,v2,F2,?_,(((ah m).trans r2).trans (D8.D6 F1 f)).trans m2,(RV.eU m3).trans r3⟩;rw[jG sc sl hP];exact m1.toRM
  ·refine⟨false,R.LP G i P,⟨λ_=>by rw[D,Ao hold,Ao hf],Ev,λW m=>?_⟩⟩;have⟨g,cap,hd⟩:=hC W m;refine gu W x i k g _ cap lb _ c.DR l P _ _ _ hP hd U U U hf U Q (λW' f=>?_) (λW' f=>?_)
   ·exact((h.DG m).DG f).Xz y.cl y.ln 6
   ·refine(((h.DG m).DG f).UL (-1) ⟨6,(i:Int),c.DR,(k:Int),l.D4,l.D5,P.Ez,P.off,false,[]⟩ aw).mono ?_;rintro e' w' ⟨rfl,v2,F2,m1,m2,m3⟩;refine⟨rfl,v2,F2,?_,((ah m).trans (D8.D6 F f)).trans m2,RV.eU m3⟩;rw[jG y.cl y.ln hP];exact m1.toRM
end Go.Proofs.YtblomippkddgiaaGreatDoor
