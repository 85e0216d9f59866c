import Derived.Test.YtblomippkddgiabGreatDoorJ46
set_option maxRecDepth 100000
set_option maxHeartbeats 1000000
namespace Go.Proofs.YtblomippkddgiabGreatDoor
open Go.RowKit
variable {F:Aq}{name:List UInt8}{k:Nat}{p:Pl}{G:R.Wd}{w:World}
theorem LW.MD(h:LW p F G w){i:Nat}{c:R.Cl}(hc:G.Ad[i]?=some c):
  Calls Tryz.prog 102 #[ptr (p.cb i)] w fun e w'=>e=.returned (.int .i64 (R.Bb G i).1)/\E8 p F w (R.Bb G i).2 w':=by
 have hi:=(afG.1 hc).1;have ax:=(h.wf.cl i c hc).Ae;have ay:=(h.wf.cl i c hc).lines;have ar:=h.wf.cf;unfold R.BD at ar;obtain⟨xs,hL,ao,_⟩:=h.ln i c hc;obtain⟨es,cl,ah⟩:=(h.bound i c hc).block;have ae:=h.cl i c hc;have a1:=(Ic h hc).a1;have a2:=(Ic h hc).a2;have a3:=(Ic h hc).a3;have z1:w.frozen? ⟨p.cb i,1,none⟩=false:=open_list ae;have aA:=lt_of_block ae;have al:R.Bb G i=if c.Ae=255 then (11,G) else (0,EM G i (c.Ae+1)):=by
  unfold R.Bb;rw[if_neg (by omega),if_neg (by omega),R.Co hc];rfl
 rw[al];by_cases aa:c.Ae=255
 ·rw[if_pos aa];have e1:(c.Ae==255)=true:=by simpa using aa
  have HW:=Ac (⟨p.t,F,h,Ap.refl F w⟩:E8 p F w G w);clear h al aa;go_enter Tryz.func102,Tryz.ntmps102;go_wp2;go_returns;exact⟨rfl,Aa HW⟩
 ·rw[if_neg aa];have e1:(c.Ae==255)=false:=by simpa using aa
  have az:IntKind.i64.wrap (c.Ae+1)=c.Ae+1:=by rw[IntKind.wrap_i64];omega
  obtain⟨n,hn⟩:∃n,n=c.lines.length:=⟨_,rfl⟩;rw[<-hn]at a3;have au:1<=n/\n<=3:=by omega
  have am:xs.length=n:=by rw[ao.len,hn]
  have ab:p.bm i≠p.cb i:=(Fv ae ah).symm;have ac:p.lb i≠p.cb i:=AZ hL ae (by decide);have ad:p.lb i≠p.bm i:=Fv hL ah;have b1:(w.setCell ⟨p.cb i,1,none⟩ (.int .i64 (c.Ae+1))).heap[p.bm i]?=some (.map es cl):=(Below.heap_setCell _ _ _ _ ab).trans ah;have ai:=VB (w.setCell ⟨p.cb i,1,none⟩ (.int .i64 (c.Ae+1))) (p.bm i) es cl;have l1:(ED (w.setCell ⟨p.cb i,1,none⟩ (.int .i64 (c.Ae+1))) (p.bm i) (.map #[] cl)).heap[p.lb i]?=some (.cells (tab CU.cells xs).toArray 129 (0,0)):=(JA _ _ _).at ((Below.heap_setCell _ _ _ _ ac).trans hL) ad;have k1:(w.setCell ⟨p.cb i,1,none⟩ (.int .i64 (c.Ae+1))).heap[p.cb i]?=some (.cells ((Jn p G i c).toList.set 1 (.int .i64 (c.Ae+1))).toArray 133 (0,0)):=Ai (cs:=(Jn p G i c).toList) (off:=1) ae _;have k2:(ED (w.setCell ⟨p.cb i,1,none⟩ (.int .i64 (c.Ae+1))) (p.bm i) (.map #[] cl)).heap[p.cb i]?=some (.cells ((Jn p G i c).toList.set 1 (.int .i64 (c.Ae+1))).toArray 133 (0,0)):=(JA _ _ _).at k1 (fun e=>ab e.symm);have av:(w.setCell ⟨p.cb i,1,none⟩ (.int .i64 (c.Ae+1))).cell? ⟨p.cb i,2,none⟩=some (.map (some (p.bm i))):=AP k1 rfl;have aw:(ED (w.setCell ⟨p.cb i,1,none⟩ (.int .i64 (c.Ae+1))) (p.bm i) (.map #[] cl)).cell? ⟨p.cb i,3,none⟩=some (.slice (some ⟨p.lb i,0,none⟩) n n):=by
   rw[hn];exact AP k2 rfl
  have HF:Hid (E8 p F w (EM G i (c.Ae+1)) ((ED (w.setCell ⟨p.cb i,1,none⟩ (.int .i64 (c.Ae+1))) (p.bm i) (.map #[] cl)).setCells (p.lb i) 0 (tab CU.cells (List.replicate n Qc)))):=by
   have ap:n=G.c.lines.toNat:=by omega
   obtain⟨q1,q2⟩:=Ke (tab CU.cells (List.replicate n Qc)) 0 _ _ l1 (by rw[Dh CU.len,Dh CU.len,List.length_replicate,am];omega);have hk:Af (fun k=>k=p.cb i\/k=p.bm i\/k=p.lb i) w ((ED (w.setCell ⟨p.cb i,1,none⟩ (.int .i64 (c.Ae+1))) (p.bm i) (.map #[] cl)).setCells (p.lb i) 0 (tab CU.cells (List.replicate n Qc))):=
    (((Ah (.int .i64 (c.Ae+1))).mono (fun k _ e=>afJ e)).trans ((JA _ _ _).mono (fun k _ e=>afM (afJ e)))).trans (q2.mono (fun k _ e=>afM (afM e)))
   obtain⟨g1,g2⟩:=h.aat hc (Ae:=c.Ae+1) (by omega) hk (by
    refine(q2.at k2 (fun e=>ac e.symm)).trans ?_;rw[show (R.FF (c.Ae+1) G.c.lines)=⟨c.Ae+1,[],List.replicate n R.JC⟩ by rw[ap];rfl];simp[Jn,hn]) (Mp.ED Kz (q2.at (Z7 b1) (fun e=>ad e.symm))) (by
    rw[<-ap,q1];simp)
   exact⟨p.t,F,g1,g2⟩
  have aq:=ai;have an:=Qo (ED (w.setCell ⟨p.cb i,1,none⟩ (.int .i64 (c.Ae+1))) (p.bm i) (.map #[] cl)) (p.lb i) n au;have af:∀ty,(Builtin.clear_ #[130] ty #[.map (some (p.bm i))]).run Tryz.prog (w.setCell ⟨p.cb i,1,none⟩ (.int .i64 (c.Ae+1)))=.ok (.tuple #[]) (ED (w.setCell ⟨p.cb i,1,none⟩ (.int .i64 (c.Ae+1))) (p.bm i) (.map #[] cl)):=fun ty=>ai ty b1
  have ag:∀ty,(Builtin.clear_ #[131] ty #[.slice (some ⟨p.lb i,0,none⟩) n n]).run Tryz.prog (ED (w.setCell ⟨p.cb i,1,none⟩ (.int .i64 (c.Ae+1))) (p.bm i) (.map #[] cl))=.ok (.tuple #[]) _:=fun ty=>an ty xs am l1
  have ak:Hid (∀ty,(Builtin.clear_ #[131] ty #[.slice (some ⟨p.lb i,0,none⟩) n n]).run Tryz.prog (ED (w.setCell ⟨p.cb i,1,none⟩ (.int .i64 (c.Ae+1))) (p.bm i) (.map #[] cl))=.ok (.tuple #[]) ((ED (w.setCell ⟨p.cb i,1,none⟩ (.int .i64 (c.Ae+1))) (p.bm i) (.map #[] cl)).setCells (p.lb i) 0 (tab CU.cells (List.replicate n Qc)))):=ag;have aj:Hid (∀ty,(Builtin.clear_ #[130] ty #[.map (some (p.bm i))]).run Tryz.prog (w.setCell ⟨p.cb i,1,none⟩ (.int .i64 (c.Ae+1)))=.ok (.tuple #[]) (ED (w.setCell ⟨p.cb i,1,none⟩ (.int .i64 (c.Ae+1))) (p.bm i) (.map #[] cl))):=af;have lw:p.cb i<(ED (w.setCell ⟨p.cb i,1,none⟩ (.int .i64 (c.Ae+1))) (p.bm i) (.map #[] cl)).heap.size:=lt_of_block k2;clear h al aa ai an aq hL ao ah ae b1 l1 k1 k2 af ag ab ac ad hn am;go_enter Tryz.func102,Tryz.ntmps102;go_wp2_with fail
  rw[Aa aj];generalize ED (w.setCell ⟨p.cb i,1,none⟩ (.int .i64 (c.Ae+1))) (p.bm i) (.map #[] cl)=W1 at *;go_wp2_with fail
  rw[Aa ak];go_wp2_with fail
  go_returns;exact⟨rfl,Aa HF⟩
theorem LW.Gk(h:LW p F G w)(aa:Int):
  Calls Tryz.prog 60 #[ptr p.x,.int .i64 aa] w fun e w'=>e=.returned (.int .i64 (R.Bb G aa).1)/\E8 p F w (R.Bb G aa).2 w':=by
 have x1:w.cell? ⟨p.x,1,none⟩=some (ptr p.s):=cell_of h.bx 1 _ rfl;have x2:w.cell? ⟨p.x,2,none⟩=some (.slice (some ⟨p.cs,0,none⟩) G.Ad.length p.cap):=cell_of h.bx 2 _ rfl;have hl:=lt_of_cell x1;by_cases h1:aa=-1
 ·subst h1;have HS:=Ac h.ME;have e1:(R.Bb G (-1)).1=0:=by unfold R.Bb;rw[if_pos rfl]
  rw[e1];generalize (R.Bb G (-1)).2=G' at *;clear h e1;go_enter Tryz.func60,Tryz.ntmps60;go_wp2_with (go_at_call 101;refine(Aa HS).mono ?_;rintro e w1 ⟨rfl,ab⟩;have HW:=Ac ab;clear ab)
  go_returns;exact⟨rfl,Aa HW⟩
 ·have n1:(aa==-1)=false:=by simpa using h1
  by_cases h2:aa<0\/(G.Ad.length:Int)<=aa
  ·have e1:R.Bb G aa=(13,G):=by unfold R.Bb;rw[if_neg h1,if_pos h2]
   rw[e1];have HW:=Ac (⟨p.t,F,h,Ap.refl F w⟩:E8 p F w G w);generalize G.Ad.length=n at *;clear h e1 h1;by_cases h0:aa<0
   ·have q1:¬0<=aa:=by omega
    clear h2;go_enter Tryz.func60,Tryz.ntmps60;go_wp2_with (first|(go_at_call 35;go_in))
    go_returns;exact⟨rfl,Aa HW⟩
   ·have q1:0<=aa:=by omega
    have q2:¬aa<(n:Int):=by omega
    clear h2;go_enter Tryz.func60,Tryz.ntmps60;go_wp2_with (first|(go_at_call 35;go_in))
    go_returns;exact⟨rfl,Aa HW⟩
  ·obtain⟨i,rfl⟩:∃i:Nat,aa=(i:Int):=⟨aa.toNat,by omega⟩;have hi:i<G.Ad.length:=by omega
   have ac:=h.SQ hi;have HS:=Ac (h.MD (afH hi));have q1:(0:Int)<=(i:Int):=by omega
   have q2:(i:Int)<(G.Ad.length:Int):=by omega
   have ad:=lt_of_cell ac;generalize R.Bb G (i:Int)=Z at *;generalize G.Ad.length=n at *;clear h h1 h2;go_enter Tryz.func60,Tryz.ntmps60;go_wp2_with (first|(go_at_call 35;go_in)|(go_at_call 102;refine(Aa HS).mono ?_;rintro e w1 ⟨rfl,ab⟩;have HW:=Ac ab;clear ab))
   go_returns;exact⟨rfl,Aa HW⟩
theorem Pq(w:World)(s nm m c:Nat)(a:Option Addr)(name:List UInt8)(kind u u0:Int)(B A C:World->Prop)(ac:R.CZ name=true)(hk:0<=kind/\kind<=2)(c5:w.cell? ⟨s,5,none⟩=some (.map (some nm)))(c6:w.cell? ⟨s,6,none⟩=some (.slice a m c))(hm:m<255)
  (aa:(Instr.lookup 134 (.map (some nm)) (.string (str name)) true).run Tryz.prog w=.ok (.tuple #[.int .i64 u0,.bool true]) w)
  (ah:Hid (Calls Tryz.prog 144 #[ptr s,.int .i64 u0] w fun e w'=>e=.returned (.tuple #[])/\B w'))
  (ag:Hid (∀w',B w'->Calls Tryz.prog 145 #[ptr s,.int .i64 kind] w' fun e w'=>e=.returned (.int .i64 u)/\A w'))
  (HA:Hid (∀w',A w'->w'.cell? ⟨s,5,none⟩=some (.map (some nm))))
  (ae:Hid (∀w1 w2,A w1->Below w1.heap.size w1 w2->∃w3,(Instr.mapUpdate 134 (.map (some nm)) (.string (str name)) (.int .i64 u)).run Tryz.prog w2=.ok () w3/\C w3)):
  Calls Tryz.prog 83 #[ptr s,.string (str name),.int .i64 kind] w fun e w'=>e=.returned (.tuple #[.int .i64 u,.int .i64 0])/\C w':=by
 have ak:=Ac (fun w=>Js name ac w);have ai:name.length<=1000:=by
  unfold R.CZ at ac;simp only[Bool.and_eq_true,decide_eq_true_eq]at ac;omega
 have al:=Ac (fun w=>Ei name w ai);have aj:Hid (∀w,Calls Tryz.prog 143 #[.int .i64 kind] w fun e w'=>e=.returned (.bool true)/\w'=w):=fun w=>by
  refine(Cm kind w).mono ?_;rintro e w' ⟨rfl,rfl⟩;refine⟨?_,rfl⟩;have:(kind==0 || kind==1 || kind==2)=true:=by simp;omega
  rw[this]
 have e2:((m:Int)==255)=false:=by simp;omega
 generalize str name=SN at *;clear ac hm ai;go_enter Tryz.func83,Tryz.ntmps83;go_wp2_with (first|(go_at_call 142;refine((Aa ak) _).mono ?_;rintro e w' ⟨rfl,ab⟩;rw[ab];clear ab)|(go_at_call 143;refine((Aa aj) _).mono ?_;rintro e w' ⟨rfl,ab⟩;rw[ab];clear ab))
 refine(Aa ah).mono ?_;rintro e w0 ⟨rfl,hB⟩;have ad:=Ac ((Aa ag) w0 hB);clear hB ah ag aa c5 c6;go_wp2_with fail
 refine(Aa ad).mono ?_;rintro e w1 ⟨rfl,hA⟩;have d0:=(Aa HA) w1 hA;have an:=lt_of_cell d0;have am:=Ac hA;clear hA;go_wp2;go_region_law (refine Av rfl 146 #[.tmp 53] #[9] rfl adt #[.string SN] rfl _ ((Aa al) _) ?_;rintro e w2 ⟨rfl,hb⟩;have f0:w2.cell? ⟨s,5,none⟩=some (.map (some nm)):=(hb.cell (p:=⟨s,5,none⟩) an).trans d0;have af:=(Aa ae) w1 w2 (Aa am) (D7 hb);obtain⟨w3,ao,hC⟩:=af;have HC:=Ac hC;clear hC hb;refine⟨_,rfl,?_⟩)
 all_goals
  go_wp2;go_returns;exact⟨rfl,Aa HC⟩
theorem Pp(w:World)(s nm c:Nat)(a:Option Addr)(name:List UInt8)(kind u0:Int)(ac:R.CZ name=true)(hk:0<=kind/\kind<=2)(c5:w.cell? ⟨s,5,none⟩=some (.map (some nm)))(c6:w.cell? ⟨s,6,none⟩=some (.slice a 255 c))
  (ab:(Instr.lookup 134 (.map (some nm)) (.string (str name)) true).run Tryz.prog w=.ok (.tuple #[.int .i64 u0,.bool true]) w):
  Calls Tryz.prog 83 #[ptr s,.string (str name),.int .i64 kind] w fun e w'=>e=.returned (.tuple #[.int .i64 0,.int .i64 11])/\w'=w:=by
 have ae:=Ac (fun w=>Js name ac w);have ad:Hid (∀w,Calls Tryz.prog 143 #[.int .i64 kind] w fun e w'=>e=.returned (.bool true)/\w'=w):=fun w=>by
  refine(Cm kind w).mono ?_;rintro e w' ⟨rfl,rfl⟩;refine⟨?_,rfl⟩;have:(kind==0 || kind==1 || kind==2)=true:=by simp;omega
  rw[this]
 generalize str name=SN at *;clear ac;go_enter Tryz.func83,Tryz.ntmps83;go_wp2_with (first|(go_at_call 142;refine((Aa ae) _).mono ?_;rintro e w' ⟨rfl,aa⟩;rw[aa];clear aa)|(go_at_call 143;refine((Aa ad) _).mono ?_;rintro e w' ⟨rfl,aa⟩;rw[aa];clear aa))
 go_returns;exact⟨rfl,rfl⟩
theorem Hd(ad:G.stands.length=G.names.length)(he:R.BI G name=some k)(v:Int)(x:List UInt8):(x=name->AF {G with stands:=G.stands.set k v} x=some v)/\(¬x=name->AF {G with stands:=G.stands.set k v} x=AF G x):=by
 have hk:=R.Ek he;have ac:=(afG.1 hk).1;constructor
 ·rintro rfl;have aa:R.BI {G with stands:=G.stands.set k v} x=some k:=he;unfold AF;rw[aa];simp[List.getElem?_set,show k<G.stands.length by omega]
 ·intro hx;unfold AF;have aa:R.BI {G with stands:=G.stands.set k v} x=R.BI G x:=rfl;rw[aa];cases hj:R.BI G x with
  |none=>rfl
  |some j=>
   have ab:=R.Ek hj;have:¬k=j:=fun e=>hx (by
    subst e;rw[hk]at ab;exact(Option.some.inj ab).symm)
   simp[List.getElem?_set,this]
theorem LW.QC(h:LW p F G w){kind:Int}(ab:R.CZ name=true)(hk:0<=kind/\kind<=2)(he:R.BI G name=some k):
  Calls Tryz.prog 83 #[ptr p.s,.string (str name),.int .i64 kind] w fun e w'=>e=.returned (.tuple #[.int .i64 (R.Bd G name kind).1.1,.int .i64 (R.Bd G name kind).1.2])/\E8 p F w (R.Bd G name kind).2 w':=by
 obtain⟨a,c,hK⟩:=AX h.BN.made;have aq:name.length<=8:=by
  unfold R.CZ at ab;simp only[Bool.and_eq_true,decide_eq_true_eq]at ab;omega
 have ap:p.t.zs.length=G.Ab.length:=by rw[<-h.BN.zs,af0]
 have ai:AF G name=some (G.stands.getD k 0):=by
  unfold AF;rw[he];rfl
 have aa:=M4 h.names (s:=name) (by unfold maxLen;omega);rw[ai]at aa;have ak:=(afG.1 (R.Ek he)).1;have ah:k<G.stands.length:=by rw[h.wf.st];exact ak
 have hu:=h.wf.I5 (G.stands.getD k 0) (by
  rw[afX,afH ah];exact agr ah)
 generalize hu0:G.stands.getD k 0=u0 at *;have ad:R.Bd G name kind=if G.Ab.length=255 then ((0,11),G) else (((G.Ab.length:Int)+1,0),{R.Ch G u0 with stands:=G.stands.set k ((G.Ab.length:Int)+1),Ab:=(R.Ch G u0).Ab++[⟨kind,true,[]⟩]}):=by
  unfold R.Bd;rw[ab,if_neg (by simp),if_neg (by omega),he];simp only[hu0];rfl
 have aj:=h.wf.sv;by_cases hs:G.Ab.length=255
 ·rw[ad,if_pos hs];refine(Pp w p.s p.nm c a name kind u0 ab hk (cell_of h.BN.bs 5 _ rfl) (cell_of h.BN.bs 6 _ (by rw[<-hs,<-ap,<-hK];rfl)) aa).mono ?_;rintro e w' ⟨rfl,rfl⟩;exact⟨rfl,p.t,F,h,Ap.refl F _⟩
 ·rw[ad,if_neg hs];obtain⟨u,rfl⟩:∃u:Nat,u0=(u:Int)+1:=⟨(u0-1).toNat,by omega⟩;have an:G.Ab[u]?=some (G.Ab[u]'(by omega)):=afH _;have ae:(R.Ch G ((u:Int)+1)).Ab.length=G.Ab.length:=by simp[R.Ch]
  have ac:=h.wf.export name kind;rw[ad,if_neg hs]at ac;refine Pq w p.s p.nm p.t.zs.length c a name kind _ _ (fun w'=>∃t,LW {p with t:=t} F (R.Ch G ((u:Int)+1)) w'/\Ap F F w w') (fun w'=>∃t F',LW {p with t:=t} F' {R.Ch G ((u:Int)+1) with Ab:=(R.Ch G ((u:Int)+1)).Ab++[⟨kind,true,[]⟩]} w'/\Ap F F' w w') _ ab hk (cell_of h.BN.bs 5 _ rfl) (cell_of h.BN.bs 6 _ (by rw[<-hK];rfl)) (by omega) aa (h.ends an) ?_ ?_ ?_
  ·rintro w' ⟨t,hL,hW⟩;have:=hL.begun hk (by omega);rw[ae]at this;refine this.mono ?_;rintro e ar ⟨rfl,t',F',q1,q2⟩;exact⟨rfl,t',F',q1,hW.trans q2⟩
  ·rintro w' ⟨t,F',hL,_⟩;exact cell_of hL.BN.bs 5 _ rfl
  ·rintro w1 w2 ⟨t,F',hL,hW⟩ hb;have ag:=hL.below hb;have am:AF {R.Ch G ((u:Int)+1) with Ab:=(R.Ch G ((u:Int)+1)).Ab++[⟨kind,true,[]⟩]} name=some ((u:Int)+1):=ai;obtain⟨w3,af,hm,ao⟩:=Vb ag.names (by have:=h.wf.nm;show G.names.length<1000;omega) (s:=name) (by unfold maxLen;omega) (v:=(G.Ab.length:Int)+1) (by omega) (AF {G with stands:=G.stands.set k ((G.Ab.length:Int)+1)}) (Hd h.wf.st he _);refine⟨w3,af,t,F',?_⟩;rw[am]at hm;have al:Mp w3 9 p.nm NU (AF {G with stands:=G.stands.set k ((G.Ab.length:Int)+1)}) G.names.length:=hm;have q:=ag.Q0 (N:=G.names) (S:=G.stands.set k ((G.Ab.length:Int)+1)) (Hf ao) (al.congr (fun _=>rfl)) ac;exact⟨q.1,(hW.trans (Ap.Al F' hb)).trans q.2⟩
theorem Uq(w:World)(s:List UInt8)(k:Nat)(b:UInt8)(hk:k<s.length):
  Calls Tryz.prog 171 #[.string (str s),.int .i64 (k:Int),.int .u8 (b.toNat:Int)] w fun e w'=>e=.returned (.string (str (s.set k (s.getD k 0 ^^^ b))))/\Below w.heap.size w w':=by
 obtain⟨cap,W,hc,hR,hb⟩:=aar w s;have hx:s[k]?=some (s.getD k 0):=by rw[afX,afH hk];rfl
 generalize s.getD k 0=a at hx ⊢;obtain⟨c1,z1⟩:=hR.2 k a hx;have aa:=hR.set k (a ^^^ b);have ab:=aa.conv cap;rw[agq]at ab;have ac:=ac8 a b;have HB:Hid (Below w.heap.size w (W.setCell ⟨w.heap.size,k,none⟩ (.int .u8 ((a ^^^ b).toNat:Int)))):=hb.setCell (by simp) _;have q1:(0:Int)<=(k:Int):=by omega
 have q2:(k:Int)<(s.length:Int):=by omega
 have ad:=hR.1;obtain⟨X,hX⟩:∃X:Int,X=((a ^^^ b).toNat:Int):=⟨_,rfl⟩;rw[<-hX]at ab ac HB;clear hX;generalize str (s.set k (a ^^^ b))=S2 at *;generalize str s=S1 at *;generalize s.length=n at *;clear hR aa hb hx hk;go_enter Tryz.func171,Tryz.ntmps171;go_wp2
 go_ret
 exact⟨rfl,Aa HB⟩
theorem UO(w:World)(n:Nat)(a:Option Addr)(m c:Nat)(i e0:Int)(hK:w.heap[n]?=some (.cells #[.slice a m c] 110 (0,0)))(h:((i<0\/(m:Int)<=i)/\e0=9)\/(0<=i/\i<(m:Int)/\m=40/\e0=12)):
  Calls Tryz.prog 104 #[ptr n,.int .i64 i] w fun e w'=>e=.returned (.int .i64 e0)/\w'=w:=by
 have H:=Ac (FN w n a m c i hK);have H2:=Ac (JZ w n a m c hK);clear hK;rcases h with ⟨hi,rfl⟩|⟨h1,h2,rfl,rfl⟩
 ·rw[show decide (0<=i/\i<(m:Int))=false by simp;omega]at H;clear hi;go_enter Tryz.func104,Tryz.ntmps104;go_wp2_with (first|(go_at_call 151;refine(Aa H).mono ?_;rintro e w1 ⟨rfl,aa⟩;rw[aa];clear aa))
  go_ret
  exact⟨rfl,rfl⟩
 ·rw[show decide (0<=i/\i<((40:Nat):Int))=true by simp;omega]at H;rw[show decide ((40:Nat)=40)=true by simp]at H2;clear h1 h2;go_enter Tryz.func104,Tryz.ntmps104;go_wp2_with (first|(go_at_call 151;refine(Aa H).mono ?_;rintro e w1 ⟨rfl,aa⟩;rw[aa];clear aa)|(go_at_call 170;refine(Aa H2).mono ?_;rintro e w1 ⟨rfl,aa⟩;rw[aa];clear aa))
  go_ret
  exact⟨rfl,rfl⟩
theorem PQ(w:World)(aa:Int)(S:ByteArray)(b:Bool)(j:Nat)(u:Value)(h:([.int .i64 aa,.string S,.bool b]:List Value)[j]?=some u):(w.alloc (.cells #[.int .i64 aa,.string S,.bool b] 166)).cell? ((⟨w.heap.size,0,none⟩:Addr).add j)=some u:=by
 rw[Addr.add_lit,agn,World.cell?_alloc_new w _ _ j,<-agj]at *;exact h
theorem aa5{W wz:World}{n m:Nat}{K K':Value}{aa:List R.Fl}{xs:List Value}{j0:Nat}(hK:w.heap[n]?=some (.cells #[K] 110 (0,0)))(ad:w.ownsRow 0 166 3 K m xs)(hb:Below w.heap.size w W)(hg:W.grownBy wz K.ownBlock)(ac:wz.ownsRow 0 166 3 K' aa.length (tab BB aa))(ae:K'.ownBlock=K.ownBlock\/K'.ownBlock=some j0)(hj:w.heap.size<=j0):wz.heap[n]?=some (.cells #[K] 110 (0,0))/\Ea w n K aa (wz.setCell ⟨n,0,none⟩ K'):=by
 have ag:K.ownBlock≠some n:=AV ad hK (by decide);have af:=(afR.1 hK).1;have ah:wz.heap[n]?=some (.cells #[K] 110 (0,0)):=by
  rw[hg.block n (afT af hb.size) (fun e=>ag e.symm),hb.block n af];exact hK
 have ab:K'.ownBlock≠some n:=by
  rcases ae with e|e
  ·rw[e];exact ag
  ·rw[e];intro q;cases q;omega
 refine⟨ah,⟨⟨K',?_,?_,?_⟩,?_⟩⟩
 ·exact Ai (cs:=[K]) (off:=0) ah K'
 ·exact Fy ac (fun g hg=>Below.heap_setCell _ _ _ _ (fun e=>ab (by rw[hg];exact congrArg some e)))
 ·rcases ae with e|e
  ·exact afJ e
  ·exact afM ⟨j0,e,hj⟩
 ·have ai:Af (fun k=>k=n\/K.ownBlock=some k) w W:=Af.Al hb _;exact(ai.grown hg (fun k hk=>afJ (afM hk))).setCell (p:=⟨n,0,none⟩) (afJ (afJ rfl)) _
theorem aas(w:World)(n:Nat)(K:Value)(fl:List R.Fl)(i:Nat)(f:R.Fl)(hK:w.heap[n]?=some (.cells #[K] 110 (0,0)))(ab:w.ownsRow 0 166 3 K fl.length (tab BB fl))(hf:fl[i]?=some f)(aw:fl.length<40):
  Calls Tryz.prog 104 #[ptr n,.int .i64 (i:Int)] w fun e w'=>e=.returned (.int .i64 0)/\Ea w n K (fl++[f]) w':=by
 have hi:=(afG.1 hf).1;rcases id ab.2 with ⟨_,h0⟩|⟨g,cap,aj,rfl,_,hg,ak,an,ap,ah⟩
 ·omega
 have q:∀j,j<3->aj[i*3+j]?=(BB f)[j]?:=fun j hj=>by
  rw[<-E7 DK fl i j f hf hj,<-ah,af7,if_pos (by omega)];simp
 have v0:w.cell? ⟨g,i*3,none⟩=some (.int .i64 f.to):=by
  have:=q 0 (by omega);simp[World.cell?,hg];simpa [BB] using this
 have v1:w.cell? ⟨g,i*3+1,none⟩=some (.string (str f.s)):=by
  have:=q 1 (by omega);simp[World.cell?,hg];simpa [BB] using this
 have v2:w.cell? ⟨g,i*3+2,none⟩=some (.bool f.Hy):=by
  have:=q 2 (by omega);simp[World.cell?,hg];simpa [BB] using this
 have H:=Ac (FN w n (some ⟨g,0,none⟩) fl.length cap i hK);rw[show decide (0<=(i:Int)/\(i:Int)<(fl.length:Int))=true by simp;omega]at H;have H2:=Ac (JZ w n (some ⟨g,0,none⟩) fl.length cap hK);rw[show decide (fl.length=40)=false by simp;omega]at H2;have HN:Hid (∀(wz:World) (K':Value),wz.ownsRow 0 166 3 K' (fl.length+1) (tab BB fl++[.int .i64 f.to,.string (str f.s),.bool f.Hy])->(w.drew.alloc (.cells #[.int .i64 f.to,.string (str f.s),.bool f.Hy] 166)).grownBy wz (Value.slice (some ⟨g,0,none⟩) fl.length cap).ownBlock->(K'.ownBlock=(Value.slice (some ⟨g,0,none⟩) fl.length cap).ownBlock\/K'.ownBlock=some (w.heap.size+1))->wz.heap[n]?=some (.cells #[.slice (some ⟨g,0,none⟩) fl.length cap] 110 (0,0))/\Ea w n (.slice (some ⟨g,0,none⟩) fl.length cap) (fl++[f]) (wz.setCell ⟨n,0,none⟩ K')):=fun wz K' how al af=>by
  refine aa5 hK ab ((Below.refl _ _).drew.alloc (afI _) _) al ?_ af (by omega);rw[afS,EV];exact how
 obtain⟨i0,am,ar,au,av⟩:=info_parts Tx;have ai:=Ac ab;have c1:w.cell? ⟨n,0,none⟩=some (.slice (some ⟨g,0,none⟩) fl.length cap):=cell_of hK 0 _ rfl;have ay:=lt_of_block hK;have ax:=(afR.1 hg).1;have q1:(0:Int)<=(i:Int):=by omega
 have q2:(i:Int)<(fl.length:Int):=by omega
 generalize Ea w n (.slice (some ⟨g,0,none⟩) fl.length cap) (fl++[f])=Post at *;generalize str f.s=SF at *;generalize tab BB fl=TF at *;generalize fl.length=L0 at *;clear q hK ab hf hg ap ah;go_enter Tryz.func104,Tryz.ntmps104;go_wp2_with (first|(go_at_call 151;refine(Aa H).mono ?_;rintro e w1 ⟨rfl,ae⟩;rw[ae];clear ae)|(go_at_call 170;refine(Aa H2).mono ?_;rintro e w1 ⟨rfl,ae⟩;rw[ae];clear ae))
 go_region_law (refine Bp rfl (.tmp 15) (.tmp 23) 108 rfl 0 166 i0 (.agg #[.int .i64 0,.string ⟨#[]⟩,.bool false]) 3 32 Tryz.underlying108 am ar au av rfl (by decide) (.slice (some ⟨g,0,none⟩) L0 cap) L0 TF rfl (by exact(Bu (Aa ai) ((Below.refl _ _).drew)).alloc _) ⟨w.heap.size,0,none⟩ 1 1 [.int .i64 f.to,.string SF,.bool f.Hy] rfl rfl (by exact PQ w.drew f.to SF f.Hy) (by simp[Value.oneCell']) (by unfold maxLen;omega) (by omega) (by omega) ?_;intro v' wz aa ac af;obtain⟨va,vn,vc,aq⟩:=Ar aa;subst aq;have ao:=(Aa HN) wz _ aa ac (by simpa using af);obtain⟨ag,ad⟩:=ao;have HP:=Ac ad;have d1:wz.cell? ⟨n,0,none⟩=some (.slice (some ⟨g,0,none⟩) L0 cap):=cell_of ag 0 _ rfl;have z1:wz.frozen? ⟨n,0,none⟩=false:=open_list ag;have az:=lt_of_block ag;clear aa ac af ag ad)
 all_goals
  go_wp2
  go_ret
  exact⟨rfl,Aa HP⟩
theorem LW.copy(h:LW p F G w)(i:Int):Calls Tryz.prog 62 #[ptr p.x,.int .i64 i] w fun e w'=>e=.returned (.int .i64 (R.DG G i).1)/\∃F',LW p F' (R.DG G i).2 w'/\Ap F F' w w':=by
 have c0:w.cell? ⟨p.x,0,none⟩=some (ptr p.n):=cell_of h.bx 0 _ rfl;obtain⟨K,hK,aa,hF⟩:=h.bn;have ab:=h.wf.E3;have H:Calls Tryz.prog 104 #[ptr p.n,.int .i64 i] w fun e w'=>e=.returned (.int .i64 (R.DG G i).1)/\∃F',LW p F' (R.DG G i).2 w'/\Ap F F' w w':=by
  obtain⟨a,c,rfl⟩:=AX aa;unfold R.DG;by_cases hi:R.off G i
  ·rw[if_pos hi];refine(UO w p.n a G.Ak.length c i 9 hK (afJ ⟨hi,rfl⟩)).mono ?_;rintro e w' ⟨rfl,rfl⟩;exact⟨rfl,F,h,Ap.refl F w'⟩
  ·rw[if_neg hi];obtain⟨k,f,rfl,hf⟩:=R.YZ hi;have hk:=(afG.1 hf).1;by_cases h2:40<=G.Ak.length
   ·rw[if_pos h2];refine(UO w p.n a G.Ak.length c k 12 hK (afM ⟨by omega,by omega,by omega,rfl⟩)).mono ?_;rintro e w' ⟨rfl,rfl⟩;exact⟨rfl,F,h,Ap.refl F w'⟩
   ·rw[if_neg h2,afY,hf];refine(aas w p.n _ G.Ak k f hK aa hf (by omega)).mono ?_;rintro e w' ⟨rfl,hn⟩;refine⟨rfl,h.net hK aa hn hF (R.Wf.Pw h.wf (by simp;omega) (fun g hg=>?_))⟩;rcases agb.1 hg with q|q
    ·exact h.wf.Eo g q
    ·rw[af3.1 q];exact h.wf.Eo f (afU hf)
 have HH:=Ac H;clear H h hK aa hF ab;generalize R.DG G i=r at *;go_enter Tryz.func62,Tryz.ntmps62;go_wp2_with (first|(go_at_call 104;refine(Aa HH).mono ?_;rintro e w1 ⟨rfl,ac⟩))
 go_returns;exact⟨rfl,ac⟩
end Go.Proofs.YtblomippkddgiabGreatDoor
