import Derived.Test.YtblomippkddgiabGreatDoorJ46
import Derived.Test.YtblomippkddgiabGreatDoorJ45
import Derived.Test.YtblomippkddgiabGreatDoorJ32
set_option maxRecDepth 100000
set_option maxHeartbeats 1000000
namespace Go.Proofs.YtblomippkddgiabGreatDoor
open Go.RowKit
variable {F:Aq}{pr:Int}{v:List V.It}{i k kd u:Nat}{p:Pl}{M:R.Bk}{c:R.Cf}{cl:R.Cl}{l:R.Ln}{G G':R.Wd}{s:RS}{w w0:World}
theorem aeu:∀args w,(callFunc 93 args).run Tryz.prog w=.ok (.enter 93 args) w:=fun _ _=>rfl
theorem aev:∀args w,(callFunc 94 args).run Tryz.prog w=.ok (.enter 94 args) w:=fun _ _=>rfl
theorem QN(w:World)(x s:Nat)(P:Pk)(aa:World->Prop)(x1:w.cell? ⟨x,1,none⟩=some (ptr s))
  (HQ:Hid (∀wa,Below w.heap.size w wa->Calls Tryz.prog 93 #[ptr s,pv P] wa fun e w'=>e=.returned (.tuple #[])/\aa w')):
  Calls Tryz.prog 55 #[ptr x,.int .i64 (-1),pv P] w fun e w'=>e=.returned (.tuple #[])/\aa w':=by
 have HB:Hid (∀o,Below w.heap.size w (w.alloc o).drew):=fun o=>((Below.refl _ _).alloc (Nat.le_refl _) _).drew
 have hl:=lt_of_cell x1;go_enter Tryz.func55,Tryz.ntmps55;go_wp2_with fail
 go_region_law (refine Av rfl 93 #[.tmp 11,.tmp 12] #[68,82] rfl aeu #[ptr s,pv P] rfl _ ((Aa HQ) _ ((Aa HB) _)) ?_;rintro e w3 ⟨rfl,ab⟩;refine⟨_,rfl,?_⟩)
 all_goals
  go_wp2;go_returns;exact⟨rfl,ab⟩
theorem QM(w:World)(x cs i n cap cb:Nat)(P:Pk)(aa:World->Prop)(x2:w.cell? ⟨x,2,none⟩=some (.slice (some ⟨cs,0,none⟩) n cap))(hi:i<n)(hc:w.cell? ⟨cs,i,none⟩=some (ptr cb))
  (HQ:Hid (∀wa,Below w.heap.size w wa->Calls Tryz.prog 94 #[ptr cb,pv P] wa fun e w'=>e=.returned (.tuple #[])/\aa w')):
  Calls Tryz.prog 55 #[ptr x,.int .i64 (i:Int),pv P] w fun e w'=>e=.returned (.tuple #[])/\aa w':=by
 have HB:Hid (∀o,Below w.heap.size w (w.alloc o).drew):=fun o=>((Below.refl _ _).alloc (Nat.le_refl _) _).drew
 have hl:=lt_of_cell x2;have ac:=lt_of_cell hc;have q1:(0:Int)<=(i:Int):=by omega
 have q2:(i:Int)<(n:Int):=by omega
 have e1:((i:Int)==-1)=false:=by simp
 go_enter Tryz.func55,Tryz.ntmps55;go_wp2_with fail
 go_region_law (refine Av rfl 94 #[.tmp 20,.tmp 21] #[93,82] rfl aev #[ptr cb,pv P] rfl _ ((Aa HQ) _ ((Aa HB) _)) ?_;rintro e w3 ⟨rfl,ab⟩;refine⟨_,rfl,?_⟩)
 all_goals
  go_wp2;go_returns;exact⟨rfl,ab⟩
theorem S9(w:World)(x n:Nat)(i:Int)(x0:w.cell? ⟨x,0,none⟩=some (ptr n))
  (ab:Hid (Calls Tryz.prog 53 #[ptr n,.int .i64 i] w fun e w'=>e=.returned (.tuple #[.int .i64 0,.string ⟨#[]⟩,.int .i64 9])/\w'=w)):
  Calls Tryz.prog 29 #[ptr x,.int .i64 i] w fun e w'=>e=.returned (.int .i64 9)/\w'=w:=by
 go_enter Tryz.func29,Tryz.ntmps29;go_wp2_with (first|(go_at_call 53;refine(Aa ab).mono ?_;rintro e w1 ⟨rfl,aa⟩;rw[aa];clear aa))
 go_returns;exact⟨rfl,rfl⟩
theorem Qw(w:World)(x n:Nat)(i to:Int)(S:ByteArray)(A aa:World->Prop)(x0:w.cell? ⟨x,0,none⟩=some (ptr n))
  (ae:Hid (Calls Tryz.prog 53 #[ptr n,.int .i64 i] w fun e w'=>e=.returned (.tuple #[.int .i64 to,.string S,.int .i64 0])/\A w'))
  (HO:Hid (∀w1,A w1->Calls Tryz.prog 54 #[.string S] w1 fun e w'=>e=.returned (.tuple #[aae,.int .i64 7])/\Below w1.heap.size w1 w'))
  (HP:Hid (∀w1 wa,A w1->Below w1.heap.size w1 wa->aa wa)):
  Calls Tryz.prog 29 #[ptr x,.int .i64 i] w fun e w'=>e=.returned (.int .i64 0)/\aa w':=by
 go_enter Tryz.func29,Tryz.ntmps29;go_wp2_with (first|(go_at_call 53;refine(Aa ae).mono ?_;rintro e w1 ⟨rfl,ac⟩;have HA:=Ac ac;clear ac)|(go_at_call 54;refine((Aa HO) _ (Aa HA)).mono ?_;rintro e w2 ⟨rfl,ad⟩;have ab:=Ac ad;clear ad))
 go_returns;exact⟨rfl,(Aa HP) _ _ (Aa HA) ((Aa ab).alloc (Aa ab).size _)⟩
theorem Pm(w:World)(x n:Nat)(i to:Int)(S:ByteArray)(P:Pk)(A aa:World->Prop)(x0:w.cell? ⟨x,0,none⟩=some (ptr n))
  (ae:Hid (Calls Tryz.prog 53 #[ptr n,.int .i64 i] w fun e w'=>e=.returned (.tuple #[.int .i64 to,.string S,.int .i64 0])/\A w'))
  (HO:Hid (∀w1,A w1->Calls Tryz.prog 54 #[.string S] w1 fun e w'=>e=.returned (.tuple #[pv P,.int .i64 0])/\Below w1.heap.size w1 w'))
  (HP:Hid (∀w1 wa,A w1->Below w1.heap.size w1 wa->Calls Tryz.prog 55 #[ptr x,.int .i64 to,pv P] wa fun e w'=>e=.returned (.tuple #[])/\aa w')):
  Calls Tryz.prog 29 #[ptr x,.int .i64 i] w fun e w'=>e=.returned (.int .i64 0)/\aa w':=by
 go_enter Tryz.func29,Tryz.ntmps29;go_wp2_with (first|(go_at_call 53;refine(Aa ae).mono ?_;rintro e w1 ⟨rfl,ac⟩;have HA:=Ac ac;clear ac)|(go_at_call 54;refine((Aa HO) _ (Aa HA)).mono ?_;rintro e w2 ⟨rfl,ad⟩;have ab:=Ac ad;clear ad)|(go_at_call 55;refine((Aa HP) _ _ (Aa HA) ((Aa ab).alloc (Aa ab).size _)).mono ?_;rintro e w3 ⟨rfl,af⟩))
 go_returns;exact⟨rfl,af⟩
theorem LW.Cr(h:LW p F G w)(ht:Ec w)(aj:¬F 0)(hI:R.Inv M G)(af:R.Room G)(i:Int):
  Calls Tryz.prog 29 #[ptr p.x,.int .i64 i] w fun e w'=>e=.returned (.int .i64 (R.Bc G i).1)/\E8 p F w (R.Bc G i).2 w':=by
 have x0:=cell_of h.bx 0 _ rfl;by_cases ho:R.off G i
 ·have e0:R.Bc G i=(9,G):=by
   unfold R.Bc;rw[if_pos ho]
  rw[e0];refine(S9 w p.x p.n i x0 (h.LQ ho)).mono ?_;rintro e w' ⟨rfl,rfl⟩;exact⟨rfl,E8.of h (Ap.refl F w')⟩
 ·unfold R.off at ho;obtain⟨n,rfl⟩:∃n:Nat,i=(n:Int):=⟨i.toNat,by omega⟩;have hn:n<G.Ak.length:=by omega
  obtain⟨f,hf⟩:∃f,G.Ak[n]?=some f:=⟨_,List.getElem?_eq_getElem hn⟩;have ae:=hI.fl f (List.mem_of_getElem? hf);have ak:=hI.erase n;have ac:R.Room {G with Ak:=G.Ak.eraseIdx n}:=af.same rfl rfl;have e0:R.Bc G (n:Int)=(0,if f.Hy=true then {G with Ak:=G.Ak.eraseIdx n} else match CO f.s with
   |none=>{G with Ak:=G.Ak.eraseIdx n}
   |some p=>if f.to=-1 then R.Er {G with Ak:=G.Ak.eraseIdx n} p else R.Ee {G with Ak:=G.Ak.eraseIdx n} f.to p):=by
   unfold R.Bc;rw[if_neg (by unfold R.off;exact ho)];simp only[Int.toNat_natCast];rw[hf];rfl
  have ah:f.s.length<=1000:=by
   have:=h.wf.Eo f (List.mem_of_getElem? hf);omega
  have aa:=h.land hf;rw[e0];unfold R.Ma at ae;cases hb:f.Hy with
  |true=>
   rw[hb,if_pos rfl]at ae;simp only[if_true];refine Qw w p.x p.n n f.to (str f.s) (fun w1=>∃F',LW p F' {G with Ak:=G.Ak.eraseIdx n} w1/\Ap F F' w w1) _ x0 aa (fun w1 _=>Wm f.s ae ah w1) ?_;rintro w1 wa ⟨F',q1,q2⟩ ad;exact E8.of (q1.below ad) (q2.trans (Ap.Al F' ad))
  |false=>
   rw[hb,if_neg (by simp)]at ae;obtain⟨P,hr,hs,ai⟩:=ae;simp only[if_neg (show ¬(false:Bool)=true by simp)];rw[hs,Fx hr];rw[hs]at aa;refine Pm w p.x p.n n f.to (str (Bm P)) P (fun w1=>∃F',LW p F' {G with Ak:=G.Ak.eraseIdx n} w1/\Ap F F' w w1) _ x0 aa (fun w1 _=>TN P hr w1) ?_;rintro w1 wa ⟨F',q1,q2⟩ ad;have hL:=q1.below ad;have hW:=q2.trans (Ap.Al F' ad);have an:Ec wa:=ht.keeps hW.keeps aj;have am:¬F' 0:=fun q=>by
    rcases hW.fresh 0 q with q|q
    ·exact aj q
    ·obtain⟨_,_,hg⟩:=ht;have:=(Array.getElem?_eq_some_iff.1 hg).1;omega
   simp only;by_cases ag:f.to=-1
   ·rw[if_pos ag,ag];rw[ag]at ai;refine QN wa p.x p.s P _ (cell_of hL.bx 1 _ rfl) (fun wb ab=>?_);refine((hL.below ab).ab9 ak ac hr ai).mono ?_;rintro e w' ⟨rfl,t,F2,m1,m2⟩;exact⟨rfl,t,F2,m1,(hW.trans (Ap.Al F' ab)).trans m2⟩
   ·rw[if_neg ag];have hH:∀wb,Below wa.heap.size wa wb->_:=fun wb ab=>(hL.below ab).heard (an.below ab) am ak hr ag ai
    obtain⟨j,hj,al,_⟩:=hH wa (Below.refl _ _);rw[hj];have ao:=hL.SQ al;refine QM wa p.x p.cs j _ p.cap (p.cb j) P _ (cell_of hL.bx 2 _ rfl) al ao (fun wb ab=>?_);obtain⟨j',ap,_,hc⟩:=hH wb ab;have:j'=j:=by omega
    subst this;refine hc.mono ?_;rintro e w' ⟨rfl,F2,m1,m2⟩;rw[hj]at m1;exact⟨rfl,E8.of m1 ((hW.trans (Ap.Al F' ab)).trans m2)⟩
structure Agree(c:R.Cf)(s:RS)(M:R.Bk)(G:R.Wd):Prop where
 inv:R.Inv M G
 room:R.Room G
 cf:G.c=c
 Ae:s.Ae=G.Ad.map (·.Ae)
 sql:s.seq.length=3*G.Ad.length
 seq:∀(i:Nat) (cl:R.Cl) (k:Nat) (l:R.Ln),G.Ad[i]?=some cl->cl.lines[k]?=some l->s.seq[3*i+k]?=some l.seq
 ul:s.uid.length=3
 uid:∀k,k<3->∃u,s.uid[k]?=some u/\AF G (A6 k)=some u/\kindOf G u=(k:Int)
 bound:∀(i:Nat) (cl:R.Cl) (u:Int),G.Ad[i]?=some cl->u∈s.uid->u∈cl.bound
 nu:s.nu=(G.Ab.length:Int)
 kinds:s.kinds=G.Ab.map (·.kind)
 dl:s.dead.length=G.Ab.length
 dead:∀(u:Nat) (n:Int) (sv:R.Sv),s.dead[u]?=some n->G.Ab[u]?=some sv->0<=n->sv.alive=false/\(sv.log.length:Int)=n
 book:CY (s.made.map (·.1)) M
theorem CY.len{ms:List Mk}(h:CY ms M)(hI:R.Inv M G):ms.length<=3000000:=by
 have hb:∀m∈ms,(0<=m.client/\m.client<=2)/\(1<=m.Ae/\m.Ae<=255)/\(0<=m.line/\m.line<=2)/\1<=m.seq/\m.seq<=999:=fun m hm=>by
  obtain⟨d,hd⟩:=h.all m hm;obtain⟨i,c,k,l,q1,q2,q3,q4,q5,q6,q7,q8,_⟩:=(hI.bk _ d hd).2;have hi:=(List.getElem?_eq_some_iff.1 q2).1;have hk:=(List.getElem?_eq_some_iff.1 q4).1;have hc:=hI.wf.cl i c q2;have aa:=hI.wf.cf;unfold R.BD at aa;have h1:=hI.wf.Gt;have h2:=hc.lines;have h3:=hc.Ae;simp only[Mk.key]at q1 q3 q5 q6 q7 q8;omega
 have ab:(ms.map fun (m:Mk)=>((m.client.toNat*256+m.Ae.toNat)*3+m.line.toNat)*1000+m.seq.toNat).Nodup:=by
  rw[List.Nodup,List.pairwise_map];refine h.ord.imp_of_mem (fun {a b} ha hb' hab e=>?_);have h1:=hb a ha;have h2:=hb b hb';have h3:=hab (by omega) (by omega) (by omega);omega
 have:=R.FQ 2400000 _ ab (fun x hx=>by
  obtain⟨m,hm,rfl⟩:=List.mem_map.1 hx;have:=hb m hm;omega)
 rw[List.length_map]at this;omega
theorem Agree.ml(h:Agree c s M G):s.made.length<=3000000:=by
 have:=h.book.len h.inv
 rwa [List.length_map]at this
theorem Agree.res(h:Agree c s M G):∀(i:Nat) (c:R.Cl) (k:Nat) (l:R.Ln),G.Ad[i]?=some c->c.lines[k]?=some l->l.result.length<=1000:=fun i c k l hc hl=>by
 have hL:=h.inv.ln i c k l hc hl;by_cases h2:l.state=2
 ·obtain⟨d,e,rb,_,h4,h5⟩:=hL.done h2;have:=GL h4.bytes;rw[h5];omega
 ·rw[hL.none h2];simp
theorem Agree.aeq(h:Agree c s M G):∀y∈A9 G.Ab,y.arg.length<=1000:=fun y hy=>by
 obtain⟨u,sv,hs,he⟩:=PH hy;obtain⟨d,h1,_,_,h4⟩:=JU h.inv hs he;have:=GL (h.inv.bk _ d h1).1.bs;rw[h4];omega
theorem Au.step{q:RP}{f:Nat}{args:Array Value}{P:Ending->Prop}(h:Au w0 q p c s G w)(H:∀(p':Pl) (F:Aq),p'.x=q.x->LW p' F G w->¬F 0->Calls Tryz.prog f args w fun e w'=>P e/\E8 p' F w G' w'):
  Calls Tryz.prog f args w fun e w'=>P e/\Au w0 q p c s G' w':=by
 obtain⟨t,E,F,hr,hw,hd,aa⟩:=h.run;refine(H {p with t:=t} F h.x.symm hw (fun h0=>by have:=aa 0 (Or.inr h0);have:=h.pos;omega)).mono ?_;rintro e w' ⟨h1,t',F',h2,h3⟩;exact⟨h1,h.world (t:=t') hr hd aa h2 h3⟩
theorem E8.aba{w':World}(h:∃F',LW p F' G w'/\Ap F F' w w'):E8 p F w G w':=by
 obtain⟨F',h1,h2⟩:=h;exact⟨p.t,F',h1,h2⟩
theorem Au.Jf{q:RP}(h:Au w0 q p c s G w):Calls Tryz.prog 32 #[ptr q.x] w fun e w'=>e=.returned (.tuple #[])/\Au w0 q p c s (R.IB G) w':=
 h.step (P:=fun e=>e=.returned (.tuple #[])) (fun p' F hx hw _=>by rw[<-hx];exact hw.tick.mono (fun e w' q=>⟨q.1,E8.aba q.2⟩))
theorem Au.ZH{q:RP}(h:Au w0 q p c s G w)(hI:R.Inv M G):Calls Tryz.prog 30 #[ptr q.x] w fun e w'=>e=.returned (.int .i64 (R.BV G).1)/\Au w0 q p c s (R.BV G).2 w':=
 h.step (P:=fun e=>e=.returned (.int .i64 (R.BV G).1)) (fun p' F hx hw h0=>by rw[<-hx];exact hw.acH h.t0 h0 hI)
theorem Au.adD{q:RP}(h:Au w0 q p c s G w)(i:Int):Calls Tryz.prog 61 #[ptr q.x,.int .i64 i] w fun e w'=>e=.returned (.int .i64 (R.Ej G i).1)/\Au w0 q p c s (R.Ej G i).2 w':=
 h.step (P:=fun e=>e=.returned (.int .i64 (R.Ej G i).1)) (fun p' F hx hw _=>by rw[<-hx];exact(hw.drop i).mono (fun e w' q=>⟨q.1,E8.aba q.2⟩))
theorem Au.MF{q:RP}(h:Au w0 q p c s G w)(hI:R.Inv M G)(hR:R.Room G)(i:Int):Calls Tryz.prog 29 #[ptr q.x,.int .i64 i] w fun e w'=>e=.returned (.int .i64 (R.Bc G i).1)/\Au w0 q p c s (R.Bc G i).2 w':=
 h.step (P:=fun e=>e=.returned (.int .i64 (R.Bc G i).1)) (fun p' F hx hw h0=>by rw[<-hx];exact hw.Cr h.t0 h0 hI hR i)
theorem Au.VW{q:RP}(h:Au w0 q p c s G w):Calls Tryz.prog 31 #[ptr q.x] w fun e w'=>e=.returned (.int .i64 (G.Ak.length:Int))/\w'=w:=by
 obtain⟨tp,E,F,a1,a2,a3,a4⟩:=h.run;rw[h.x];exact a2.Ak
theorem Au.RL{q:RP}(h:Au w0 q p c s G w)(hA:Agree c s M G)(hc:G.Ad[i]?=some cl)(hl:cl.lines[k]?=some l):
  Calls Tryz.prog 19 #[ptr q.x,.int .i64 (i:Int),.int .i64 (k:Int)] w fun e w'=>(∃oa on oc,e=.returned (.tuple #[.agg #[.int .i64 l.state,.int .i64 l.seq,.slice oa on oc],.int .i64 0])/\V.Items w' (.slice oa on oc) l.result)/\Below w.heap.size w w':=by
 obtain⟨tp,E,F,a1,a2,a3,a4⟩:=h.run;have hi:=(List.getElem?_eq_some_iff.1 hc).1;have hk:=(List.getElem?_eq_some_iff.1 hl).1;have ac:=(hA.inv.wf.cl i cl hc).lines;have ab:R.Kg G i k=(l.state,l.seq,l.result,0):=by
  unfold R.Kg;rw[if_neg (by omega),if_neg (by omega),R.CR hc hl]
 have:=a2.status hA.res (i:Int) (k:Int);rw[ab]at this;rw[h.x];refine this.mono ?_;rintro e w' ⟨⟨O,rfl,hR⟩,hb⟩;have aa:=KJ hR;obtain⟨oa,on,oc,rfl⟩:=EP aa;exact⟨⟨oa,on,oc,rfl,aa⟩,hb⟩
theorem Au.aa0{q:RP}(h:Au w0 q p c s G w){sv:R.Sv}(hs:G.Ab[u]?=some sv):
  Calls Tryz.prog 9 #[ptr q.x,.int .i64 ((u:Int)+1)] w fun e w'=>e=.returned (.tuple #[.int .i64 (sv.log.length:Int),.int .i64 0])/\Below w.heap.size w w':=by
 obtain⟨tp,E,F,a1,a2,a3,a4⟩:=h.run;have hu:=(List.getElem?_eq_some_iff.1 hs).1;have aa:R.I4 G ((u:Int)+1)=((sv.log.length:Int),0):=by
  unfold R.I4 R.Ho;rw[if_pos (by unfold R.Ip;omega),show ((u:Int)+1-1).toNat=u by omega,hs];rfl
 have:=a2.log ((u:Int)+1);rw[aa]at this;rw[h.x];exact this
theorem Au.Yb{q:RP}(h:Au w0 q p c s G w)(hI:R.Inv M G){sv:R.Sv}{y:R.En}(hs:G.Ab[u]?=some sv)(hy:sv.log[i]?=some y):
  Calls Tryz.prog 10 #[ptr q.x,.int .i64 ((u:Int)+1),.int .i64 (i:Int)] w fun e w'=>(∃xa xn xc ya yn yc,e=.returned (.tuple #[.agg #[.int .i64 y.client,.int .i64 y.Ae,.int .i64 y.line,.int .i64 y.seq,.int .i64 y.proc,.slice xa xn xc,.slice ya yn yc],.int .i64 0])/\V.Items w' (.slice xa xn xc) y.arg/\V.Items w' (.slice ya yn yc) y.result)/\Below w.heap.size w w':=by
 obtain⟨tp,E,F,a1,a2,a3,a4⟩:=h.run;have hu:=(List.getElem?_eq_some_iff.1 hs).1;have aa:R.DJ G ((u:Int)+1) (i:Int)=some y:=by
  unfold R.DJ R.Ho;rw[if_pos (by unfold R.Ip;omega),show ((u:Int)+1-1).toNat=u by omega,hs];simpa using hy
 have:=a2.entry hI ((u:Int)+1) (i:Int);rw[aa]at this;rw[h.x];refine this.mono ?_;rintro e w' ⟨⟨X,Y,rfl,r1,r2⟩,hb⟩;have i1:=KJ r1;have i2:=KJ r2;obtain⟨xa,xn,xc,rfl⟩:=EP i1;obtain⟨ya,yn,yc,rfl⟩:=EP i2;exact⟨⟨xa,xn,xc,ya,yn,yc,rfl,i1,i2⟩,hb⟩
theorem aaa(i k:Nat)(hi:i<3)(hk:k<3):IntKind.i64.wrap (3*(i:Int))=3*(i:Int)/\IntKind.i64.wrap (3*(i:Int)+(k:Int))=((3*i+k:Nat):Int):=by
 rw[IntKind.wrap_i64,IntKind.wrap_i64];omega
theorem Au.aa2{q:RP}(h:Au w0 q p c s G w)(hA:Agree c s M G)(hc:G.Ad[i]?=some cl)(hl:cl.lines[k]?=some l):
  Calls Tryz.prog 8 #[ptr q.r,.int .i64 (i:Int),.int .i64 (k:Int)] w fun e w'=>e=.returned (.bool true)/\Below w.heap.size w w':=by
 have aa:=h.cells;have hi:=(List.getElem?_eq_some_iff.1 hc).1;have hk:=(List.getElem?_eq_some_iff.1 hl).1;have ae:=hA.inv.wf.cf;unfold R.BD at ae;have ag:=hA.inv.wf.Gt;have ah:=(hA.inv.wf.cl i cl hc).lines;have ad:=hA.seq i cl k l hc hl;have ab:s.Ae[i]?=some cl.Ae:=by rw[hA.Ae];simp[hc]
 have ac:=(List.getElem?_eq_some_iff.1 ad).1;have af:=(List.getElem?_eq_some_iff.1 ab).1;obtain⟨e3,e4⟩:=aaa i k (by omega) (by omega);have hL:=hA.inv.ln i cl k l hc hl;have hR:JG w q.r q.x q.lf q.sq s.Ae.length s.seq.length i (3*i+k) (G.Ab.length:Int) cl.Ae l.seq:=⟨aa.a0,aa.a6,aa.a7,by rw[<-hA.nu];exact aa.JB,aa.lf i _ ab,aa.sq _ _ ad⟩;by_cases h2:l.state=2
 ·obtain⟨o1,o2⟩:=VL hA.inv hc hl h2;refine QU w q.r q.x q.lf q.sq s.Ae.length s.seq.length i k (3*i+k) cl.Ae l.seq G.Ab l.result hR ac af e3 e4 (fun e=>?_) hA.inv.wf.sv ?_ (hA.res i cl k l hc hl) o1 o2 ?_ (fun wr u sv hb hs=>(h.still hb).aa0 hs) (fun wr u j sv y hb hs hy=>?_)
  ·have:=hL.idle.2 e;omega
  ·intro sv hs;obtain⟨u,hu,rfl⟩:=List.getElem_of_mem hs;exact hA.inv.PG (List.getElem?_eq_getElem hu)
  ·have:=h.RL hA hc hl;rw[h2]at this;exact this
  ·refine((h.still hb).Yb hA.inv hs hy).mono ?_;rintro e w' ⟨⟨xa,xn,xc,ya,yn,yc,r1,r2,r3⟩,r4⟩;exact⟨⟨xa,xn,xc,ya,yn,yc,r1,r3⟩,r4⟩
 ·refine TI w q.r q.x q.lf q.sq s.Ae.length s.seq.length i k (3*i+k) _ cl.Ae l.seq l.state hR ac e3 e4 h2 hL.idle ?_;refine(h.RL hA hc hl).mono ?_;rintro e w' ⟨⟨oa,on,oc,rfl,r2⟩,r3⟩;rw[hL.none h2]at r2;obtain⟨a,cc,r4,_⟩:=r2;cases r4;exact⟨⟨oa,oc,rfl⟩,r3⟩
theorem ZB{B n size:Nat}{e:TypeId}{v:Value}{xs:List Value}(h:w.ownsRow B e size v n xs)(hn:0<n):∃g cap,v=.slice (some ⟨g,0,none⟩) n cap/\∀j u,xs[j]?=some u->w.cell? ⟨g,j,none⟩=some u:=by
 rcases h.2 with ⟨_,h0⟩|⟨g,cap,aa,rfl,_,hg,_,_,_,ab⟩
 ·omega
 ·refine⟨g,cap,rfl,fun j u hj=>?_⟩;have:aa[j]?=some u:=by
   rw[<-ab,List.getElem?_take]at hj;split at hj
   ·simpa using hj
   ·cases hj
  simp[World.cell?,hg,this]
theorem Agree.same(h:Agree c s M G)(hS:R.Sm G G')(hI:R.Inv M G')(hR:R.Room G'):Agree c s M G':=by
 have ac:∀n,AF G' n=AF G n:=fun n=>by unfold AF R.BI;rw[hS.names,hS.stands]
 have aa:G'.Ab.map (·.kind)=G.Ab.map (·.kind):=by
  refine List.ext_getElem? (fun u=>?_);rw[List.getElem?_map,List.getElem?_map];cases hu:G'.Ab[u]? with
  |none=>
   have:=List.getElem?_eq_none_iff.1 hu;rw[List.getElem?_eq_none (by have:=hS.sv.len;omega)]
  |some s'=>
   obtain⟨s0,h1,h2,_⟩:=hS.sv.each u s' hu;rw[h1];simp[h2]
 have ab:∀u,kindOf G' u=kindOf G u:=fun u=>by
  unfold kindOf;rw[<-List.getElem?_map,<-List.getElem?_map,aa]
 refine⟨hI,hR,hS.c.trans h.cf,?_,by rw[hS.cl.len];exact h.sql,fun i cl k l hc hl=>?_,h.ul,fun k hk=>?_,fun i cl u hc hu=>?_,by rw[hS.sv.len];exact h.nu,by rw[aa];exact h.kinds,by rw[hS.sv.len];exact h.dl,fun u n sv hn hs h0=>?_,h.book⟩
 ·rw[h.Ae];refine List.ext_getElem? (fun i=>?_);rw[List.getElem?_map,List.getElem?_map];cases hi:G'.Ad[i]? with
  |none=>
   have:=List.getElem?_eq_none_iff.1 hi;rw[List.getElem?_eq_none (by have:=hS.cl.len;omega)]
  |some c'=>
   obtain⟨c0,h1,h2,_⟩:=hS.cl.each i c' hi;rw[h1];simp[h2]
 ·obtain⟨c0,h1,_,_,h4⟩:=hS.cl.each i cl hc;obtain⟨l0,h5,h6⟩:=h4.each k l hl;rw[h6];exact h.seq i c0 k l0 h1 h5
 ·obtain⟨u,h1,h2,h3⟩:=h.uid k hk;exact⟨u,h1,by rw[ac];exact h2,by rw[ab];exact h3⟩
 ·obtain⟨c0,h1,_,h3,_⟩:=hS.cl.each i cl hc;rw[h3];exact h.bound i c0 u h1 hu
 ·obtain⟨s0,h1,_,h3,_⟩:=hS.sv.each u sv hs;obtain⟨g1,g2⟩:=h.dead u n s0 hn h1 h0;obtain⟨g3,g4⟩:=h3 g1;exact⟨g3,by rw[g4];exact g2⟩
theorem Agree.tick(h:Agree c s M G):Agree c s M (R.IB G):=h.same (R.Sm.tick G) h.inv.tick h.room.tick
theorem Agree.serve(h:Agree c s M G):Agree c s M (R.BV G).2:=h.same (R.Sm.serve h.inv) h.inv.BV h.room.serve
theorem Agree.Cr(h:Agree c s M G)(i:Int):Agree c s M (R.Bc G i).2:=h.same (R.Sm.Cr G i) (h.inv.Cr i) (h.room.Cr h.inv i)
theorem Agree.drop(h:Agree c s M G)(i:Int):Agree c s M (R.Ej G i).2:=h.same (R.Sm.drop G i) (h.inv.drop i) (h.room.drop i)
def Fh(u:Int)(kd:Nat)(pr:Int)(v:List R.It):R.Cd:=⟨u,pr,v,Hs kd pr,Ue kd pr,(V.CW (Hs kd pr) v).2⟩
def CX(G:R.Wd)(i k:Nat)(l:R.Ln)(d:R.Cd):R.Wd:=R.AA (R.Am G i k (R.D3 G l d)) i k false
structure Xv(s:RS)(M:R.Bk)(G:R.Wd)(i k kd:Nat)(cl:R.Cl)(l:R.Ln)(s':RS)(M':R.Bk)(G':R.Wd):Prop where
 no:l.state=1\/l.seq=999->s'=s/\M'=M/\G'=G
 yes:l.state≠1->l.seq≠999->∃u pr v X Mv,s.uid[kd]?=some u/\(pr=0\/pr=1)/\KM kd pr=0/\Fits (Hs kd pr) v/\s'={s with seq:=s.seq.set (3*i+k) (l.seq+1),M:=Mv,made:=s.made++[(⟨i,cl.Ae,k,l.seq+1,u,pr,v⟩,X)]}/\M'=R.upd M ⟨i,cl.Ae,k,l.seq+1⟩ (Fh u kd pr v)/\G'=CX G i k l (Fh u kd pr v)
theorem Kr(ad:R.Wf G)(hc:G.Ad[i]?=some cl)(hl:cl.lines[k]?=some l){u:Int}(hb:u∈cl.bound)(ab:kindOf G u=(kd:Int))(aa:kd<3)(hF:Fits (Hs kd pr) v)(hE:KM kd pr=0):
  R.Cw G i k u pr v=if l.state=1 then ((0,17),G) else if l.seq=999 then ((0,11),G) else ((l.seq+1,0),CX G i k l (Fh u kd pr v)):=by
 have hi:=(List.getElem?_eq_some_iff.1 hc).1;have ae:=(List.getElem?_eq_some_iff.1 hl).1;have af:=(ad.cl i cl hc).lines;have ac:((G.Ab[(u-1).toNat]?).map (·.kind)).getD 0=(kd:Int):=ab;unfold R.Cw;rw[if_neg (by omega),if_neg (by omega),if_neg (by simp[hc,hb]),ac,RH aa hE];simp only[R.Ba];rw[if_pos hF.zero];simp only;rw[R.CR hc hl];rfl
theorem Agree.called(h:Agree c s M G)(hc:G.Ad[i]?=some cl)(hl:cl.lines[k]?=some l){u:Int}(hu:s.uid[kd]?=some u)(aj:kindOf G u=(kd:Int))(ai:kd<3)(hF:Fits (Hs kd pr) v)(hE:KM kd pr=0)(h1:l.state≠1)(h9:l.seq≠999)(Mv X:Value):
  Agree c {s with seq:=s.seq.set (3*i+k) (l.seq+1),M:=Mv,made:=s.made++[(⟨i,cl.Ae,k,l.seq+1,u,pr,v⟩,X)]} (R.upd M ⟨i,cl.Ae,k,l.seq+1⟩ (Fh u kd pr v)) (CX G i k l (Fh u kd pr v)):=by
 have hb:=h.bound i cl u hc (List.mem_of_getElem? hu);have av:1<=u/\u<=(G.Ab.length:Int):=(h.inv.wf.cl i cl hc).bound u hb;have al:R.Ba (Hs kd pr) v=some (V.CW (Hs kd pr) v).2:=by
  unfold R.Ba;rw[if_pos hF.zero]
 have am:R.L9 G.Ab (Fh u kd pr v):=⟨av,by
  show R.C6 (kindOf G u) pr=_;rw[aj,RH ai hE];rfl,al⟩
 obtain⟨hI,hn⟩:=h.inv.called (d:=Fh u kd pr v) ⟨hc,hl⟩ h9 hb am;have ad:R.Room (CX G i k l (Fh u kd pr v)):=by
  have:=h.room.call i k u pr v;rw[Kr h.inv.wf hc hl hb aj ai hF hE,if_neg h1,if_neg h9]at this;exact this
 have ae:∀(K:R.Wd),(R.AA K i k false).names=K.names/\(R.AA K i k false).stands=K.stands/\(R.AA K i k false).Ab=K.Ab/\(R.AA K i k false).Ad=K.Ad/\(R.AA K i k false).c=K.c:=fun K=>by
  unfold R.AA R.Bg;simp only;split<;>exact⟨rfl,rfl,rfl,rfl,rfl⟩
 obtain⟨s1,s2,s3,s4,s5⟩:=ae (R.Am G i k (R.D3 G l (Fh u kd pr v)));have af:(CX G i k l (Fh u kd pr v)).Ab=G.Ab:=s3;have ag:(CX G i k l (Fh u kd pr v)).Ad=(R.Am G i k (R.D3 G l (Fh u kd pr v))).Ad:=s4;have au:∀n,AF (CX G i k l (Fh u kd pr v)) n=AF G n:=fun n=>by
  unfold AF R.BI CX;rw[s1,s2];rfl
 have ao:∀n,kindOf (CX G i k l (Fh u kd pr v)) n=kindOf G n:=fun n=>by
  unfold kindOf;rw[af]
 have ac:(CX G i k l (Fh u kd pr v)).Ad.length=G.Ad.length:=by rw[ag];simp[R.Am]
 have ab:∀(j:Nat) (c':R.Cl),(CX G i k l (Fh u kd pr v)).Ad[j]?=some c'->∃c0,G.Ad[j]?=some c0/\c'=if i=j then {c0 with lines:=c0.lines.set k (R.D3 G l (Fh u kd pr v))} else c0:=fun j c' hj=>by
  rw[ag,R.Bo]at hj;cases h0:G.Ad[j]? with
  |none=>rw[h0]at hj;cases hj
  |some c0=>rw[h0]at hj;exact⟨c0,rfl,(Option.some.inj hj).symm⟩
 have an:=h.inv.wf.cf;unfold R.BD at an;refine⟨hI,ad,s5.trans h.cf,?_,?_,fun j c' n l' hj aa=>?_,h.ul,fun n aq=>?_,fun j c' n hj hn=>?_,by rw[af];exact h.nu,by rw[af];exact h.kinds,by rw[af];exact h.dl,by rw[af];exact h.dead,?_⟩
 ·show s.Ae=_;rw[h.Ae];refine List.ext_getElem? (fun j=>?_);rw[List.getElem?_map,List.getElem?_map,ag,R.Bo];cases G.Ad[j]? with
  |none=>rfl
  |some c0=>
   simp only[Option.map_some];split<;>rfl
 ·simp only[List.length_set];rw[ac];exact h.sql
 ·obtain⟨c0,h0,rfl⟩:=ab j c' hj;have az:=(h.inv.wf.cl j c0 h0).lines;have ar:=h.sql;have ax:=(List.getElem?_eq_some_iff.1 h0).1;have ap:=(List.getElem?_eq_some_iff.1 hl).1;have ay:=(h.inv.wf.cl i cl hc).lines;have aw:=(List.getElem?_eq_some_iff.1 hc).1;show (s.seq.set (3*i+k) (l.seq+1))[3*j+n]?=some l'.seq;by_cases ah:i=j
  ·subst ah;obtain rfl:=Option.some.inj (hc.symm.trans h0);simp only[if_true]at aa;rw[List.getElem?_set]at aa ⊢;by_cases ak:k=n
   ·subst ak;rw[if_pos rfl,if_pos ap]at aa;cases aa;rw[if_pos rfl,if_pos (by omega)];rfl
   ·rw[if_neg ak]at aa;rw[if_neg (by omega)];exact h.seq i cl n l' hc aa
  ·rw[if_neg ah]at aa;have aA:=(List.getElem?_eq_some_iff.1 aa).1;rw[List.getElem?_set,if_neg (by omega)];exact h.seq j c0 n l' h0 aa
 ·obtain⟨x,h1,h2,h3⟩:=h.uid n aq;exact⟨x,h1,by rw[au];exact h2,by rw[ao];exact h3⟩
 ·obtain⟨c0,h0,rfl⟩:=ab j c' hj;have:=h.bound j c0 n h0 hn;split<;>exact this
 ·show CY ((s.made++[((⟨i,cl.Ae,k,l.seq+1,u,pr,v⟩:Mk),X)]).map (·.1)) _;rw[List.map_append];refine h.book.snoc (m:=⟨i,cl.Ae,k,l.seq+1,u,pr,v⟩) (d:=Fh u kd pr v) rfl rfl rfl hn (fun a ha e1 e2 e3=>?_);obtain⟨d,hd⟩:=h.book.all a ha;obtain⟨j,c',n,l',q1,q2,q3,q4,q5,q6,q7,q8,q9⟩:=(h.inv.bk _ d hd).2;simp only[Mk.key]at q1 q3 q9;simp only at e1 e2 e3;obtain rfl:i=j:=by omega
  obtain rfl:=Option.some.inj (hc.symm.trans q2);obtain rfl:k=n:=by omega
  obtain rfl:=Option.some.inj (hl.symm.trans q4);have:=q9 e2;simp only;omega
theorem Au.adm{q:RP}(h:Au w0 q p c s G w)(hA:Agree c s M G)(hc:G.Ad[i]?=some cl)(hl:cl.lines[k]?=some l)(ac:kd<3)(a b:Int)(ha:In64 a)(hb:In64 b):
  Calls Tryz.prog 28 #[ptr q.r,.int .i64 (i:Int),.int .i64 (k:Int),.int .i64 (kd:Int),.int .i64 a,.int .i64 b] w fun e w'=>e=.returned (.bool true)/\∃s' M' G',Au w0 q p c s' G' w'/\Agree c s' M' G'/\Xv s M G i k kd cl l s' M' G':=by
 obtain⟨pr0,an,ah⟩:=A4 b 2 hb (by omega) (by omega);obtain⟨u,hu,aC,ar⟩:=hA.uid kd ac;have aq:=hA.bound i cl u hc (List.mem_of_getElem? hu);have hi:=(List.getElem?_eq_some_iff.1 hc).1;have aA:=(List.getElem?_eq_some_iff.1 hl).1;have av:=hA.inv.wf.cf;unfold R.BD at av;have ax:=hA.inv.wf.Gt;have aB:=(hA.inv.wf.cl i cl hc).lines;have ao:=hA.seq i cl k l hc hl;have al:s.Ae[i]?=some cl.Ae:=by rw[hA.Ae];simp[hc]
 obtain⟨e3,e4⟩:=aaa i k (by omega) (by omega);have aD:1<=u/\u<=(G.Ab.length:Int):=(hA.inv.wf.cl i cl hc).bound u aq;have au:=hA.inv.wf.sv;have ay:=(hA.inv.wf.cl i cl hc).line k l hl;have ag:∀(prv:Int),(prv=0\/prv=1)->((((kd:Int)==2)=true/\prv=0)\/(((kd:Int)==2)=false/\prv=(pr0:Int)))->∀(v:List V.It),Fits (Hs kd prv) v->KM kd prv=0->(∀w,Calls Tryz.prog 51 #[.int .i64 (kd:Int),.int .i64 prv,.int .i64 a,.int .i64 b] w (Cz v w))->Calls Tryz.prog 28 #[ptr q.r,.int .i64 (i:Int),.int .i64 (k:Int),.int .i64 (kd:Int),.int .i64 a,.int .i64 b] w fun e w'=>e=.returned (.bool true)/\∃s' M' G',Au w0 q p c s' G' w'/\Agree c s' M' G'/\Xv s M G i k kd cl l s' M' G':=fun prv am aa v hF hE ad=>by
  have ae:=Kr hA.inv.wf hc hl aq ar ac hF hE;have ai:Hid (∀w',Below w.heap.size w w'->Calls Tryz.prog 19 #[ptr q.x,.int .i64 (i:Int),.int .i64 (k:Int)] w' fun e af=>(∃oa on oc,e=.returned (.tuple #[.agg #[.int .i64 l.state,.int .i64 l.seq,.slice oa on oc],.int .i64 0]))/\Below w'.heap.size w' af):=fun w' hb=>by
   refine((h.still hb).RL hA hc hl).mono ?_;rintro e af ⟨⟨oa,on,oc,r1,_⟩,r2⟩;exact⟨⟨oa,on,oc,r1⟩,r2⟩
  have aj:∀(n f:Int) (G':R.Wd),R.Cw G i k u prv v=((n,f),G')->Hid (∀w' W X,Below w.heap.size w w'->Below w'.heap.size w' W->BF W (fun k=>w.heap.size<=k) X v->Calls Tryz.prog 52 #[ptr q.x,.int .i64 (i:Int),.int .i64 (k:Int),.int .i64 u,.int .i64 prv,X] W fun e af=>e=.returned (.tuple #[.int .i64 n,.int .i64 f])/\Au w0 q p c s G' af/\∀b,w'.heap.size<=b->b<W.heap.size->af.heap[b]?=W.heap[b]?):=fun n f G' he w' W X ap ak hX=>by
   have h':=(h.still ap).still ak;obtain⟨tp,E,F,hr,hw,hd,aw⟩:=(h.still ap).run;have ab:=(hw.below ak).call h'.t0 (i:Int) (k:Int) u prv (by omega) hX.items (by have:=hF.few;omega);rw[he]at ab;rw[h.x];refine ab.mono ?_;rintro e af ⟨rfl,F',q1,q2⟩;exact⟨rfl,h'.world (hr.below ak) hd aw q1 q2,fun b h1 h2=>q2.keeps.block b h2 (fun hf=>by have:=hw.lt b hf;omega)⟩
  by_cases h1:l.state=1
  ·rw[if_pos h1]at ae;refine(Sy w0 q p c s G G w i k (3*i+k) kd pr0 a b prv l.seq l.state u cl.Ae v h ac hA.ul hu ao al hA.ml e3 e4 (Ac ah) aa (Ac ad) ai (aj _ _ _ ae) h1).mono ?_;rintro e w' ⟨rfl,hB⟩;exact⟨rfl,s,M,G,hB,hA,⟨fun _=>⟨rfl,rfl,rfl⟩,fun q=>absurd h1 q⟩⟩
  ·rw[if_neg h1]at ae;by_cases h9:l.seq=999
   ·rw[if_pos h9]at ae;refine(Qm w0 q p c s G G w i k (3*i+k) kd pr0 a b prv l.seq l.state u cl.Ae v h ac hA.ul hu ao al hA.ml e3 e4 (Ac ah) aa (Ac ad) ai (aj _ _ _ ae) h1 h9).mono ?_;rintro e w' ⟨rfl,hB⟩;exact⟨rfl,s,M,G,hB,hA,⟨fun _=>⟨rfl,rfl,rfl⟩,fun _ q=>absurd h9 q⟩⟩
   ·rw[if_neg h9]at ae;have az:=ay.seq;refine(K7 w0 q p c s G _ w i k (3*i+k) kd pr0 a b prv l.seq l.state u cl.Ae v h ac hA.ul hu ao al hA.ml e3 e4 (Ac ah) aa (Ac ad) ai (aj _ _ _ ae) h1 (by omega)).mono ?_;rintro e w' ⟨rfl,X,Mv,hB⟩;exact⟨rfl,_,_,_,hB,hA.called hc hl hu ar ac hF hE h1 h9 Mv X,⟨fun q=>by rcases q with q|q;exact absurd q h1;exact absurd q h9,fun _ _=>⟨u,prv,v,X,Mv,hu,am,hE,hF,rfl,rfl,rfl⟩⟩⟩
 by_cases h2:kd=2
 ·obtain⟨v,hF,hE,ad⟩:=UG kd 0 ac (by omega) (fun _=>rfl) a b ha hb;exact ag 0 (Or.inl rfl) (Or.inl ⟨by subst h2;rfl,rfl⟩) v hF hE ad
 ·obtain⟨v,hF,hE,ad⟩:=UG kd pr0 ac an (fun e=>absurd e h2) a b ha hb;exact ag (pr0:Int) (by omega) (Or.inr ⟨by simp;omega,rfl⟩) v hF hE ad
end Go.Proofs.YtblomippkddgiabGreatDoor
