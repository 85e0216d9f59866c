import Derived.Test.YtblomippkddgiaaGreatDoorK44
set_option maxRecDepth 100000
set_option maxHeartbeats 1000000
namespace Go.Proofs.YtblomippkddgiaaGreatDoor
open Go.RowKit
theorem acH:∀args w,(callFunc 85 args).run Tryz.prog w=.ok (.enter 85 args) w:=fun _ _=>rfl
theorem acI:∀args w,(callFunc 86 args).run Tryz.prog w=.ok (.enter 86 args) w:=fun _ _=>rfl
theorem Pn(w:World)(x s:Nat)(P:Pk)(Post:World->Prop)(x1:w.cell? ⟨x,1,none⟩=some (ptr s))
  (HQ:Hid (∀wa,Below w.heap.size w wa->Calls Tryz.prog 85 #[ptr s,pv P] wa fun e w'=>e=.returned (.tuple #[])/\Post w')):
  Calls Tryz.prog 51 #[ptr x,.int .i64 (-1),pv P] w fun e w'=>e=.returned (.tuple #[])/\Post w':=by
 have HB:Hid (∀o,Below w.heap.size w (w.alloc o).drew):=fun o=>((Below.refl _ _).alloc (Nat.le_refl _) _).drew
 have hl:=lt_of_cell x1;go_enter Tryz.func51,Tryz.ntmps51;go_wp2_with fail
 go_region_law (refine AR rfl 85 #[.tmp 11,.tmp 12] #[81,41] rfl acH #[ptr s,pv P] rfl _ ((Aa HQ) _ ((Aa HB) _)) ?_;rintro e w3 ⟨rfl,hw3⟩;refine⟨_,rfl,?_⟩)
 all_goals
  go_wp2;go_returns;exact⟨rfl,hw3⟩
theorem Pm(w:World)(x cs i n cap cb:Nat)(P:Pk)(Post:World->Prop)(x2:w.cell? ⟨x,2,none⟩=some (.slice (some ⟨cs,0,none⟩) n cap))(hi:i<n)(hc:w.cell? ⟨cs,i,none⟩=some (ptr cb))
  (HQ:Hid (∀wa,Below w.heap.size w wa->Calls Tryz.prog 86 #[ptr cb,pv P] wa fun e w'=>e=.returned (.tuple #[])/\Post w')):
  Calls Tryz.prog 51 #[ptr x,.int .i64 (i:Int),pv P] w fun e w'=>e=.returned (.tuple #[])/\Post w':=by
 have HB:Hid (∀o,Below w.heap.size w (w.alloc o).drew):=fun o=>((Below.refl _ _).alloc (Nat.le_refl _) _).drew
 have hl:=lt_of_cell x2;have hl2:=lt_of_cell hc;have q1:(0:Int)<=(i:Int):=by omega
 have q2:(i:Int)<(n:Int):=by omega
 have e1:((i:Int)==-1)=false:=by simp
 go_enter Tryz.func51,Tryz.ntmps51;go_wp2_with fail
 go_region_law (refine AR rfl 86 #[.tmp 20,.tmp 21] #[89,41] rfl acI #[ptr cb,pv P] rfl _ ((Aa HQ) _ ((Aa HB) _)) ?_;rintro e w3 ⟨rfl,hw3⟩;refine⟨_,rfl,?_⟩)
 all_goals
  go_wp2;go_returns;exact⟨rfl,hw3⟩
theorem Ra(w:World)(x n:Nat)(i:Int)(x0:w.cell? ⟨x,0,none⟩=some (ptr n))
  (H50:Hid (Calls Tryz.prog 50 #[ptr n,.int .i64 i] w fun e w'=>e=.returned (.tuple #[.int .i64 0,.string ⟨#[]⟩,.int .i64 9])/\w'=w)):
  Calls Tryz.prog 24 #[ptr x,.int .i64 i] w fun e w'=>e=.returned (.int .i64 9)/\w'=w:=by
 go_enter Tryz.func24,Tryz.ntmps24;go_wp2_with (first|(go_at_call 50;refine(Aa H50).mono ?_;rintro e w1 ⟨rfl,hw1⟩;rw[hw1];clear hw1))
 go_returns;exact⟨rfl,rfl⟩
theorem OQ(w:World)(x n:Nat)(i to:Int)(S:ByteArray)(A Post:World->Prop)(x0:w.cell? ⟨x,0,none⟩=some (ptr n))
  (H50:Hid (Calls Tryz.prog 50 #[ptr n,.int .i64 i] w fun e w'=>e=.returned (.tuple #[.int .i64 to,.string S,.int .i64 0])/\A w'))
  (HO:Hid (∀w1,A w1->Calls Tryz.prog 14 #[.string S] w1 fun e w'=>e=.returned (.tuple #[Yz,.int .i64 7])/\Below w1.heap.size w1 w'))
  (HP:Hid (∀w1 wa,A w1->Below w1.heap.size w1 wa->Post wa)):
  Calls Tryz.prog 24 #[ptr x,.int .i64 i] w fun e w'=>e=.returned (.int .i64 0)/\Post w':=by
 go_enter Tryz.func24,Tryz.ntmps24;go_wp2_with (first|(go_at_call 50;refine(Aa H50).mono ?_;rintro e w1 ⟨rfl,hw1⟩;have HA:=Ab hw1;clear hw1)|(go_at_call 14;refine((Aa HO) _ (Aa HA)).mono ?_;rintro e w2 ⟨rfl,hw2⟩;have HB2:=Ab hw2;clear hw2))
 go_returns;exact⟨rfl,(Aa HP) _ _ (Aa HA) ((Aa HB2).alloc (Aa HB2).size _)⟩
theorem NH(w:World)(x n:Nat)(i to:Int)(S:ByteArray)(P:Pk)(A Post:World->Prop)(x0:w.cell? ⟨x,0,none⟩=some (ptr n))
  (H50:Hid (Calls Tryz.prog 50 #[ptr n,.int .i64 i] w fun e w'=>e=.returned (.tuple #[.int .i64 to,.string S,.int .i64 0])/\A w'))
  (HO:Hid (∀w1,A w1->Calls Tryz.prog 14 #[.string S] w1 fun e w'=>e=.returned (.tuple #[pv P,.int .i64 0])/\Below w1.heap.size w1 w'))
  (HP:Hid (∀w1 wa,A w1->Below w1.heap.size w1 wa->Calls Tryz.prog 51 #[ptr x,.int .i64 to,pv P] wa fun e w'=>e=.returned (.tuple #[])/\Post w')):
  Calls Tryz.prog 24 #[ptr x,.int .i64 i] w fun e w'=>e=.returned (.int .i64 0)/\Post w':=by
 go_enter Tryz.func24,Tryz.ntmps24;go_wp2_with (first|(go_at_call 50;refine(Aa H50).mono ?_;rintro e w1 ⟨rfl,hw1⟩;have HA:=Ab hw1;clear hw1)|(go_at_call 14;refine((Aa HO) _ (Aa HA)).mono ?_;rintro e w2 ⟨rfl,hw2⟩;have HB2:=Ab hw2;clear hw2)|(go_at_call 51;refine((Aa HP) _ _ (Aa HA) ((Aa HB2).alloc (Aa HB2).size _)).mono ?_;rintro e w3 ⟨rfl,hw3⟩))
 go_returns;exact⟨rfl,hw3⟩
theorem LW.CR{p:Pl}{F:Aq}{G:R.Wd}{w:World}(h:LW p F G w)(ht:DU w)(hF0:¬F 0){M:R.Bk}(hI:R.Inv M G)(hroom:R.Room G)(i:Int):
  Calls Tryz.prog 24 #[ptr p.x,.int .i64 i] w fun e w'=>e=.returned (.int .i64 (R.Au G i).1)/\Ib p F w (R.Au G i).2 w':=by
 have x0:=cell_of h.bx 0 _ rfl;by_cases ho:R.off G i
 ·have e0:R.Au G i=(9,G):=by
   unfold R.Au;rw[if_pos ho]
  rw[e0];refine(Ra w p.x p.n i x0 (h.N2 ho)).mono ?_;rintro e w' ⟨rfl,rfl⟩;exact⟨rfl,Ib.of h (Ay.refl F w')⟩
 ·unfold R.off at ho;obtain⟨n,rfl⟩:∃n:Nat,i=(n:Int):=⟨i.toNat,by omega⟩;have hn:n<G.Ao.length:=by omega
  obtain⟨f,hf⟩:∃f,G.Ao[n]?=some f:=⟨_,List.getElem?_eq_getElem hn⟩;have hfo:=hI.fl f (List.mem_of_getElem? hf);have hI1:=hI.erase n;have hroom1:R.Room {G with Ao:=G.Ao.eraseIdx n}:=hroom.same rfl rfl;have e0:R.Au G (n:Int)=(0,if f.VS=true then {G with Ao:=G.Ao.eraseIdx n} else match Dk f.s with
   |none=>{G with Ao:=G.Ao.eraseIdx n}
   |some p=>if f.to=-1 then R.C3 {G with Ao:=G.Ao.eraseIdx n} p else R.CF {G with Ao:=G.Ao.eraseIdx n} f.to p):=by
   unfold R.Au;rw[if_neg (by unfold R.off;exact ho)];simp only[Int.toNat_natCast];rw[hf];rfl
  have hlen:f.s.length<=1000:=by
   have:=h.wf.Hf f (List.mem_of_getElem? hf);omega
  have hland:=h.land hf;rw[e0];unfold R.Ns at hfo;cases hb:f.VS with
  |true=>
   rw[hb,if_pos rfl]at hfo;simp only[if_true];refine OQ w p.x p.n n f.to (str f.s) (fun w1=>∃F',LW p F' {G with Ao:=G.Ao.eraseIdx n} w1/\Ay F F' w w1) _ x0 hland (fun w1 _=>UJ f.s hfo hlen w1) ?_;rintro w1 wa ⟨F',q1,q2⟩ hba;exact Ib.of (q1.below hba) (q2.trans (Ay.Aj F' hba))
  |false=>
   rw[hb,if_neg (by simp)]at hfo;obtain⟨P,hr,hs,hpk⟩:=hfo;simp only[if_neg (show ¬(false:Bool)=true by simp)];rw[hs,GA hr];rw[hs]at hland;refine NH w p.x p.n n f.to (str (CB P)) P (fun w1=>∃F',LW p F' {G with Ao:=G.Ao.eraseIdx n} w1/\Ay F F' w w1) _ x0 hland (fun w1 _=>RX P hr w1) ?_;rintro w1 wa ⟨F',q1,q2⟩ hba;have hL:=q1.below hba;have hW:=q2.trans (Ay.Aj F' hba);have hT1:DU wa:=ht.keeps hW.keeps hF0;have hF1:¬F' 0:=fun q=>by
    rcases hW.fresh 0 q with q|q
    ·exact hF0 q
    ·obtain⟨_,_,hg⟩:=ht;have:=(Array.getElem?_eq_some_iff.1 hg).1;omega
   simp only;by_cases hto:f.to=-1
   ·rw[if_pos hto,hto];rw[hto]at hpk;refine Pn wa p.x p.s P _ (cell_of hL.bx 1 _ rfl) (fun wb hbb=>?_);refine((hL.below hbb).aax hI1 hroom1 hr hpk).mono ?_;rintro e w' ⟨rfl,t,F2,m1,m2⟩;exact⟨rfl,t,F2,m1,(hW.trans (Ay.Aj F' hbb)).trans m2⟩
   ·rw[if_neg hto];have hH:∀wb,Below wa.heap.size wa wb->_:=fun wb hbb=>(hL.below hbb).heard (hT1.below hbb) hF1 hI1 hr hto hpk
    obtain⟨j,hj,hjl,_⟩:=hH wa (Below.refl _ _);rw[hj];have hcs:=hL.Ug hjl;refine Pm wa p.x p.cs j _ p.cap (p.cb j) P _ (cell_of hL.bx 2 _ rfl) hjl hcs (fun wb hbb=>?_);obtain⟨j',hj',_,hc⟩:=hH wb hbb;have:j'=j:=by omega
    subst this;refine hc.mono ?_;rintro e w' ⟨rfl,F2,m1,m2⟩;rw[hj]at m1;exact⟨rfl,Ib.of m1 ((hW.trans (Ay.Aj F' hbb)).trans m2)⟩
structure Agree(c:R.Cf)(s:RS)(M:R.Bk)(G:R.Wd):Prop where
 inv:R.Inv M G
 room:R.Room G
 cf:G.c=c
 Ag:s.Ag=G.Ad.map (·.Ag)
 sql:s.seq.length=3*G.Ad.length
 seq:∀(i:Nat) (cl:R.Cl) (k:Nat) (l:R.Ln),G.Ad[i]?=some cl->cl.lines[k]?=some l->s.seq[3*i+k]?=some l.seq
 ul:s.uid.length=3
 uid:∀k,k<3->∃u,s.uid[k]?=some u/\Bc G (Ch k)=some u/\kindOf G u=(k:Int)
 bound:∀(i:Nat) (cl:R.Cl) (u:Int),G.Ad[i]?=some cl->u∈s.uid->u∈cl.bound
 nu:s.nu=(G.Ac.length:Int)
 kinds:s.kinds=G.Ac.map (·.kind)
 dl:s.dead.length=G.Ac.length
 dead:∀(u:Nat) (n:Int) (sv:R.Sv),s.dead[u]?=some n->G.Ac[u]?=some sv->0<=n->sv.alive=false/\(sv.log.length:Int)=n
 book:DT (s.made.map (·.1)) M
theorem DT.len{ms:List Mk}{M:R.Bk}{G:R.Wd}(h:DT ms M)(hI:R.Inv M G):ms.length<=3000000:=by
 have hb:∀m∈ms,(0<=m.client/\m.client<=2)/\(1<=m.Ag/\m.Ag<=255)/\(0<=m.line/\m.line<=2)/\1<=m.seq/\m.seq<=999:=fun m hm=>by
  obtain⟨d,hd⟩:=h.all m hm;obtain⟨i,c,k,l,q1,q2,q3,q4,q5,q6,q7,q8,_⟩:=(hI.bk _ d hd).2;have hi:=(List.getElem?_eq_some_iff.1 q2).1;have hk:=(List.getElem?_eq_some_iff.1 q4).1;have hc:=hI.wf.cl i c q2;have hcf:=hI.wf.cf;unfold R.BL at hcf;have h1:=hI.wf.KF;have h2:=hc.lines;have h3:=hc.Ag;simp only[Mk.key]at q1 q3 q5 q6 q7 q8;omega
 have hnd:(ms.map fun (m:Mk)=>((m.client.toNat*256+m.Ag.toNat)*3+m.line.toNat)*1000+m.seq.toNat).Nodup:=by
  rw[List.Nodup,List.pairwise_map];refine h.ord.imp_of_mem (fun {a b} ha hb' hab e=>?_);have h1:=hb a ha;have h2:=hb b hb';have h3:=hab (by omega) (by omega) (by omega);omega
 have:=R.Fv 2400000 _ hnd (fun x hx=>by
  obtain⟨m,hm,rfl⟩:=List.mem_map.1 hx;have:=hb m hm;omega)
 rw[List.length_map]at this;omega
theorem Agree.ml{c:R.Cf}{s:RS}{M:R.Bk}{G:R.Wd}(h:Agree c s M G):s.made.length<=3000000:=by
 have:=h.book.len h.inv
 rwa [List.length_map]at this
theorem Agree.res{c:R.Cf}{s:RS}{M:R.Bk}{G:R.Wd}(h:Agree c s M G):∀(i:Nat) (c:R.Cl) (k:Nat) (l:R.Ln),G.Ad[i]?=some c->c.lines[k]?=some l->l.result.length<=1000:=fun i c k l hc hl=>by
 have hL:=h.inv.ln i c k l hc hl;by_cases h2:l.state=2
 ·obtain⟨d,e,rb,_,h4,h5⟩:=hL.done h2;have:=EY h4.bytes;rw[h5];omega
 ·rw[hL.none h2];simp
theorem A9.step{w0:World}{q:RP}{p:Pl}{c:R.Cf}{s:RS}{G G':R.Wd}{w:World}{f:Nat}{args:Array Value}{P:Ending->Prop}(h:A9 w0 q p c s G w)(H:∀(p':Pl) (F:Aq),p'.x=q.x->LW p' F G w->¬F 0->Calls Tryz.prog f args w fun e w'=>P e/\Ib p' F w G' w'):
  Calls Tryz.prog f args w fun e w'=>P e/\A9 w0 q p c s G' w':=by
 obtain⟨t,E,F,hr,hw,hd,hlo⟩:=h.run;refine(H {p with t:=t} F h.x.symm hw (fun h0=>by have:=hlo 0 (Or.inr h0);have:=h.pos;omega)).mono ?_;rintro e w' ⟨h1,t',F',h2,h3⟩;exact⟨h1,h.world (t:=t') hr hd hlo h2 h3⟩
theorem A9.aa1{w0:World}{q:RP}{p:Pl}{c:R.Cf}{s:RS}{G:R.Wd}{w:World}(h:A9 w0 q p c s G w){M:R.Bk}(hI:R.Inv M G):Calls Tryz.prog 22 #[ptr q.x] w fun e w'=>e=.returned (.int .i64 (R.AP G).1)/\A9 w0 q p c s (R.AP G).2 w':=
 h.step (P:=fun e=>e=.returned (.int .i64 (R.AP G).1)) (fun p' F hx hw h0=>by rw[<-hx];exact hw.aa2 h.t0 h0 hI)
theorem A9.V8{w0:World}{q:RP}{p:Pl}{c:R.Cf}{s:RS}{G:R.Wd}{w:World}(h:A9 w0 q p c s G w){M:R.Bk}(hI:R.Inv M G)(hR:R.Room G)(i:Int):Calls Tryz.prog 24 #[ptr q.x,.int .i64 i] w fun e w'=>e=.returned (.int .i64 (R.Au G i).1)/\A9 w0 q p c s (R.Au G i).2 w':=
 h.step (P:=fun e=>e=.returned (.int .i64 (R.Au G i).1)) (fun p' F hx hw h0=>by rw[<-hx];exact hw.CR h.t0 h0 hI hR i)
theorem A9.Qq{w0:World}{q:RP}{p:Pl}{c:R.Cf}{s:RS}{G:R.Wd}{w:World}(h:A9 w0 q p c s G w){M:R.Bk}(hA:Agree c s M G){i k:Nat}{cl:R.Cl}{l:R.Ln}(hc:G.Ad[i]?=some cl)(hl:cl.lines[k]?=some l):
  Calls Tryz.prog 16 #[ptr q.x,.int .i64 (i:Int),.int .i64 (k:Int)] w fun e w'=>(∃oa on oc,e=.returned (.tuple #[.agg #[.int .i64 l.state,.int .i64 l.seq,.slice oa on oc],.int .i64 0])/\V.Items w' (.slice oa on oc) l.result)/\Below w.heap.size w w':=by
 obtain⟨tp,E,F,a1,a2,a3,a4⟩:=h.run;have hi:=(List.getElem?_eq_some_iff.1 hc).1;have hk:=(List.getElem?_eq_some_iff.1 hl).1;have hln:=(hA.inv.wf.cl i cl hc).lines;have hst:R.GF G i k=(l.state,l.seq,l.result,0):=by
  unfold R.GF;rw[if_neg (by omega),if_neg (by omega),R.Cu hc hl]
 have:=a2.status hA.res (i:Int) (k:Int);rw[hst]at this;rw[h.x];refine this.mono ?_;rintro e w' ⟨⟨O,rfl,hR⟩,hb⟩;have hit:=EU hR;obtain⟨oa,on,oc,rfl⟩:=Ft hit;exact⟨⟨oa,on,oc,rfl,hit⟩,hb⟩
theorem A9.acN{w0:World}{q:RP}{p:Pl}{c:R.Cf}{s:RS}{G:R.Wd}{w:World}(h:A9 w0 q p c s G w){u:Nat}{sv:R.Sv}(hs:G.Ac[u]?=some sv):
  Calls Tryz.prog 44 #[ptr q.x,.int .i64 ((u:Int)+1)] w fun e w'=>e=.returned (.tuple #[.int .i64 (sv.log.length:Int),.int .i64 0])/\Below w.heap.size w w':=by
 obtain⟨tp,E,F,a1,a2,a3,a4⟩:=h.run;have hu:=(List.getElem?_eq_some_iff.1 hs).1;have hlp:R.Iw G ((u:Int)+1)=((sv.log.length:Int),0):=by
  unfold R.Iw R.Jt;rw[if_pos (by unfold R.Ho;omega),show ((u:Int)+1-1).toNat=u by omega,hs];rfl
 have:=a2.log ((u:Int)+1);rw[hlp]at this;rw[h.x];exact this
theorem A9.aaC{w0:World}{q:RP}{p:Pl}{c:R.Cf}{s:RS}{G:R.Wd}{w:World}(h:A9 w0 q p c s G w){M:R.Bk}(hI:R.Inv M G){u i:Nat}{sv:R.Sv}{y:R.En}(hs:G.Ac[u]?=some sv)(hy:sv.log[i]?=some y):
  Calls Tryz.prog 45 #[ptr q.x,.int .i64 ((u:Int)+1),.int .i64 (i:Int)] w fun e w'=>(∃xa xn xc ya yn yc,e=.returned (.tuple #[.agg #[.int .i64 y.client,.int .i64 y.Ag,.int .i64 y.line,.int .i64 y.seq,.int .i64 y.proc,.slice xa xn xc,.slice ya yn yc],.int .i64 0])/\V.Items w' (.slice xa xn xc) y.arg/\V.Items w' (.slice ya yn yc) y.result)/\Below w.heap.size w w':=by
 obtain⟨tp,E,F,a1,a2,a3,a4⟩:=h.run;have hu:=(List.getElem?_eq_some_iff.1 hs).1;have hen:R.Dr G ((u:Int)+1) (i:Int)=some y:=by
  unfold R.Dr R.Jt;rw[if_pos (by unfold R.Ho;omega),show ((u:Int)+1-1).toNat=u by omega,hs];simpa using hy
 have:=a2.entry hI ((u:Int)+1) (i:Int);rw[hen]at this;rw[h.x];refine this.mono ?_;rintro e w' ⟨⟨X,Y,rfl,r1,r2⟩,hb⟩;have i1:=EU r1;have i2:=EU r2;obtain⟨xa,xn,xc,rfl⟩:=Ft i1;obtain⟨ya,yn,yc,rfl⟩:=Ft i2;exact⟨⟨xa,xn,xc,ya,yn,yc,rfl,i1,i2⟩,hb⟩
theorem aai(i k:Nat)(hi:i<3)(hk:k<3):IntKind.i64.wrap (3*(i:Int))=3*(i:Int)/\IntKind.i64.wrap (3*(i:Int)+(k:Int))=((3*i+k:Nat):Int):=by
 rw[IntKind.wrap_i64,IntKind.wrap_i64];omega
theorem A9.Zn{w0:World}{q:RP}{p:Pl}{c:R.Cf}{s:RS}{G:R.Wd}{w:World}(h:A9 w0 q p c s G w){M:R.Bk}(hA:Agree c s M G){i k:Nat}{cl:R.Cl}{l:R.Ln}(hc:G.Ad[i]?=some cl)(hl:cl.lines[k]?=some l):
  Calls Tryz.prog 20 #[ptr q.r,.int .i64 (i:Int),.int .i64 (k:Int)] w fun e w'=>e=.returned (.bool true)/\Below w.heap.size w w':=by
 have hcs:=h.cells;have hi:=(List.getElem?_eq_some_iff.1 hc).1;have hk:=(List.getElem?_eq_some_iff.1 hl).1;have hcf:=hA.inv.wf.cf;unfold R.BL at hcf;have hncl:=hA.inv.wf.KF;have hln:=(hA.inv.wf.cl i cl hc).lines;have hsq:=hA.seq i cl k l hc hl;have hlf:s.Ag[i]?=some cl.Ag:=by rw[hA.Ag];simp[hc]
 have hsl:=(List.getElem?_eq_some_iff.1 hsq).1;have hll:=(List.getElem?_eq_some_iff.1 hlf).1;obtain⟨e3,e4⟩:=aai i k (by omega) (by omega);have hL:=hA.inv.ln i cl k l hc hl;have hR:Ja w q.r q.x q.lf q.sq s.Ag.length s.seq.length i (3*i+k) (G.Ac.length:Int) cl.Ag l.seq:=⟨hcs.a0,hcs.a6,hcs.a7,by rw[<-hA.nu];exact hcs.YD,hcs.lf i _ hlf,hcs.sq _ _ hsq⟩;by_cases h2:l.state=2
 ·obtain⟨o1,o2⟩:=MQ hA.inv hc hl h2;refine Pz w q.r q.x q.lf q.sq s.Ag.length s.seq.length i k (3*i+k) cl.Ag l.seq G.Ac l.result hR hsl hll e3 e4 (fun e=>?_) hA.inv.wf.sv ?_ (hA.res i cl k l hc hl) o1 o2 ?_ (fun wr u sv hb hs=>(h.still hb).acN hs) (fun wr u j sv y hb hs hy=>?_)
  ·have:=hL.idle.2 e;omega
  ·intro sv hs;obtain⟨u,hu,rfl⟩:=List.getElem_of_mem hs;exact hA.inv.Tv (List.getElem?_eq_getElem hu)
  ·have:=h.Qq hA hc hl;rw[h2]at this;exact this
  ·refine((h.still hb).aaC hA.inv hs hy).mono ?_;rintro e w' ⟨⟨xa,xn,xc,ya,yn,yc,r1,r2,r3⟩,r4⟩;exact⟨⟨xa,xn,xc,ya,yn,yc,r1,r3⟩,r4⟩
 ·refine RL w q.r q.x q.lf q.sq s.Ag.length s.seq.length i k (3*i+k) _ cl.Ag l.seq l.state hR hsl e3 e4 h2 hL.idle ?_;refine(h.Qq hA hc hl).mono ?_;rintro e w' ⟨⟨oa,on,oc,rfl,r2⟩,r3⟩;rw[hL.none h2]at r2;obtain⟨a,cc,r4,_⟩:=r2;cases r4;exact⟨⟨oa,oc,rfl⟩,r3⟩
theorem XW{w:World}{B n size:Nat}{e:TypeId}{v:Value}{xs:List Value}(h:w.ownsRow B e size v n xs)(hn:0<n):∃g cap,v=.slice (some ⟨g,0,none⟩) n cap/\∀j u,xs[j]?=some u->w.cell? ⟨g,j,none⟩=some u:=by
 rcases h.2 with ⟨_,h0⟩|⟨g,cap,cur,rfl,_,hg,_,_,_,htk⟩
 ·omega
 ·refine⟨g,cap,rfl,fun j u hj=>?_⟩;have:cur[j]?=some u:=by
   rw[<-htk,List.getElem?_take]at hj;split at hj
   ·simpa using hj
   ·cases hj
  simp[World.cell?,hg,this]
theorem Agree.same{c:R.Cf}{s:RS}{M:R.Bk}{G G':R.Wd}(h:Agree c s M G)(hS:R.Sm G G')(hI:R.Inv M G')(hR:R.Room G'):Agree c s M G':=by
 have hst:∀n,Bc G' n=Bc G n:=fun n=>by unfold Bc R.Dg;rw[hS.names,hS.stands]
 have hkind:G'.Ac.map (·.kind)=G.Ac.map (·.kind):=by
  refine List.ext_getElem? (fun u=>?_);rw[List.getElem?_map,List.getElem?_map];cases hu:G'.Ac[u]? with
  |none=>
   have:=List.getElem?_eq_none_iff.1 hu;rw[List.getElem?_eq_none (by have:=hS.sv.len;omega)]
  |some s'=>
   obtain⟨s0,h1,h2,_⟩:=hS.sv.each u s' hu;rw[h1];simp[h2]
 have hkd:∀u,kindOf G' u=kindOf G u:=fun u=>by
  unfold kindOf;rw[<-List.getElem?_map,<-List.getElem?_map,hkind]
 refine⟨hI,hR,hS.c.trans h.cf,?_,by rw[hS.cl.len];exact h.sql,fun i cl k l hc hl=>?_,h.ul,fun k hk=>?_,fun i cl u hc hu=>?_,by rw[hS.sv.len];exact h.nu,by rw[hkind];exact h.kinds,by rw[hS.sv.len];exact h.dl,fun u n sv hn hs h0=>?_,h.book⟩
 ·rw[h.Ag];refine List.ext_getElem? (fun i=>?_);rw[List.getElem?_map,List.getElem?_map];cases hi:G'.Ad[i]? with
  |none=>
   have:=List.getElem?_eq_none_iff.1 hi;rw[List.getElem?_eq_none (by have:=hS.cl.len;omega)]
  |some c'=>
   obtain⟨c0,h1,h2,_⟩:=hS.cl.each i c' hi;rw[h1];simp[h2]
 ·obtain⟨c0,h1,_,_,h4⟩:=hS.cl.each i cl hc;obtain⟨l0,h5,h6⟩:=h4.each k l hl;rw[h6];exact h.seq i c0 k l0 h1 h5
 ·obtain⟨u,h1,h2,h3⟩:=h.uid k hk;exact⟨u,h1,by rw[hst];exact h2,by rw[hkd];exact h3⟩
 ·obtain⟨c0,h1,_,h3,_⟩:=hS.cl.each i cl hc;rw[h3];exact h.bound i c0 u h1 hu
 ·obtain⟨s0,h1,_,h3,_⟩:=hS.sv.each u sv hs;obtain⟨g1,g2⟩:=h.dead u n s0 hn h1 h0;obtain⟨g3,g4⟩:=h3 g1;exact⟨g3,by rw[g4];exact g2⟩
theorem Agree.serve{c:R.Cf}{s:RS}{M:R.Bk}{G:R.Wd}(h:Agree c s M G):Agree c s M (R.AP G).2:=h.same (R.Sm.serve h.inv) h.inv.AP h.room.serve
theorem Agree.CR{c:R.Cf}{s:RS}{M:R.Bk}{G:R.Wd}(h:Agree c s M G)(i:Int):Agree c s M (R.Au G i).2:=h.same (R.Sm.CR G i) (h.inv.CR i) (h.room.CR h.inv i)
def FK(u:Int)(kd:Nat)(pr:Int)(v:List R.It):R.Cd:=⟨u,pr,v,I4 kd pr,Sj kd pr,(V.Cn (I4 kd pr) v).2⟩
def CQ(G:R.Wd)(i k:Nat)(l:R.Ln)(d:R.Cd):R.Wd:=R.AA (R.Al G i k (R.Ci G l d)) i k false
structure QG(s:RS)(M:R.Bk)(G:R.Wd)(i k kd:Nat)(cl:R.Cl)(l:R.Ln)(s':RS)(M':R.Bk)(G':R.Wd):Prop where
 no:l.state=1\/l.seq=999->s'=s/\M'=M/\G'=G
 yes:l.state≠1->l.seq≠999->∃u pr v X Mv,s.uid[kd]?=some u/\(pr=0\/pr=1)/\Kx kd pr=0/\Fits (I4 kd pr) v/\s'={s with seq:=s.seq.set (3*i+k) (l.seq+1),M:=Mv,made:=s.made++[(⟨i,cl.Ag,k,l.seq+1,u,pr,v⟩,X)]}/\M'=R.upd M ⟨i,cl.Ag,k,l.seq+1⟩ (FK u kd pr v)/\G'=CQ G i k l (FK u kd pr v)
theorem MJ{G:R.Wd}(hwf:R.Wf G){i k kd:Nat}{cl:R.Cl}{l:R.Ln}(hc:G.Ad[i]?=some cl)(hl:cl.lines[k]?=some l){u pr:Int}(hb:u∈cl.bound)(hkd:kindOf G u=(kd:Int))(hk3:kd<3){v:List V.It}(hF:Fits (I4 kd pr) v)(hE:Kx kd pr=0):
  R.Cz G i k u pr v=if l.state=1 then ((0,17),G) else if l.seq=999 then ((0,11),G) else ((l.seq+1,0),CQ G i k l (FK u kd pr v)):=by
 have hi:=(List.getElem?_eq_some_iff.1 hc).1;have hkl:=(List.getElem?_eq_some_iff.1 hl).1;have hll:=(hwf.cl i cl hc).lines;have hkk:((G.Ac[(u-1).toNat]?).map (·.kind)).getD 0=(kd:Int):=hkd;unfold R.Cz;rw[if_neg (by omega),if_neg (by omega),if_neg (by simp[hc,hb]),hkk,Qo hk3 hE];simp only[R.AV];rw[if_pos hF.zero];simp only;rw[R.Cu hc hl];rfl
theorem Agree.called{c:R.Cf}{s:RS}{M:R.Bk}{G:R.Wd}(h:Agree c s M G){i k kd:Nat}{cl:R.Cl}{l:R.Ln}(hc:G.Ad[i]?=some cl)(hl:cl.lines[k]?=some l){u pr:Int}(hu:s.uid[kd]?=some u)(hkd:kindOf G u=(kd:Int))(hk3:kd<3){v:List V.It}(hF:Fits (I4 kd pr) v)(hE:Kx kd pr=0)(h1:l.state≠1)(h9:l.seq≠999)(Mv X:Value):
  Agree c {s with seq:=s.seq.set (3*i+k) (l.seq+1),M:=Mv,made:=s.made++[(⟨i,cl.Ag,k,l.seq+1,u,pr,v⟩,X)]} (R.upd M ⟨i,cl.Ag,k,l.seq+1⟩ (FK u kd pr v)) (CQ G i k l (FK u kd pr v)):=by
 have hb:=h.bound i cl u hc (List.mem_of_getElem? hu);have hui:1<=u/\u<=(G.Ac.length:Int):=(h.inv.wf.cl i cl hc).bound u hb;have hbs:R.AV (I4 kd pr) v=some (V.Cn (I4 kd pr) v).2:=by
  unfold R.AV;rw[if_pos hF.zero]
 have hcd:R.KJ G.Ac (FK u kd pr v):=⟨hui,by
  show R.CO (kindOf G u) pr=_;rw[hkd,Qo hk3 hE];rfl,hbs⟩
 obtain⟨hI,hn⟩:=h.inv.called (d:=FK u kd pr v) ⟨hc,hl⟩ h9 hb hcd;have hroom:R.Room (CQ G i k l (FK u kd pr v)):=by
  have:=h.room.call i k u pr v;rw[MJ h.inv.wf hc hl hb hkd hk3 hF hE,if_neg h1,if_neg h9]at this;exact this
 have hsend:∀(K:R.Wd),(R.AA K i k false).names=K.names/\(R.AA K i k false).stands=K.stands/\(R.AA K i k false).Ac=K.Ac/\(R.AA K i k false).Ad=K.Ad/\(R.AA K i k false).c=K.c:=fun K=>by
  unfold R.AA R.AU;simp only;split<;>exact⟨rfl,rfl,rfl,rfl,rfl⟩
 obtain⟨s1,s2,s3,s4,s5⟩:=hsend (R.Al G i k (R.Ci G l (FK u kd pr v)));have hsv:(CQ G i k l (FK u kd pr v)).Ac=G.Ac:=s3;have hcl:(CQ G i k l (FK u kd pr v)).Ad=(R.Al G i k (R.Ci G l (FK u kd pr v))).Ad:=s4;have hst:∀n,Bc (CQ G i k l (FK u kd pr v)) n=Bc G n:=fun n=>by
  unfold Bc R.Dg CQ;rw[s1,s2];rfl
 have hkf:∀n,kindOf (CQ G i k l (FK u kd pr v)) n=kindOf G n:=fun n=>by
  unfold kindOf;rw[hsv]
 have hclen:(CQ G i k l (FK u kd pr v)).Ad.length=G.Ad.length:=by rw[hcl];simp[R.Al]
 have hcat:∀(j:Nat) (c':R.Cl),(CQ G i k l (FK u kd pr v)).Ad[j]?=some c'->∃c0,G.Ad[j]?=some c0/\c'=if i=j then {c0 with lines:=c0.lines.set k (R.Ci G l (FK u kd pr v))} else c0:=fun j c' hj=>by
  rw[hcl,R.Bf]at hj;cases h0:G.Ad[j]? with
  |none=>rw[h0]at hj;cases hj
  |some c0=>rw[h0]at hj;exact⟨c0,rfl,(Option.some.inj hj).symm⟩
 have hcf:=h.inv.wf.cf;unfold R.BL at hcf;refine⟨hI,hroom,s5.trans h.cf,?_,?_,fun j c' n l' hj hl'=>?_,h.ul,fun n hn3=>?_,fun j c' n hj hn=>?_,by rw[hsv];exact h.nu,by rw[hsv];exact h.kinds,by rw[hsv];exact h.dl,by rw[hsv];exact h.dead,?_⟩
 ·show s.Ag=_;rw[h.Ag];refine List.ext_getElem? (fun j=>?_);rw[List.getElem?_map,List.getElem?_map,hcl,R.Bf];cases G.Ad[j]? with
  |none=>rfl
  |some c0=>
   simp only[Option.map_some];split<;>rfl
 ·simp only[List.length_set];rw[hclen];exact h.sql
 ·obtain⟨c0,h0,rfl⟩:=hcat j c' hj;have hln:=(h.inv.wf.cl j c0 h0).lines;have hsql:=h.sql;have hjl:=(List.getElem?_eq_some_iff.1 h0).1;have hkl:=(List.getElem?_eq_some_iff.1 hl).1;have hll:=(h.inv.wf.cl i cl hc).lines;have hil:=(List.getElem?_eq_some_iff.1 hc).1;show (s.seq.set (3*i+k) (l.seq+1))[3*j+n]?=some l'.seq;by_cases hij:i=j
  ·subst hij;obtain rfl:=Option.some.inj (hc.symm.trans h0);simp only[if_true]at hl';rw[List.getElem?_set]at hl' ⊢;by_cases hkn:k=n
   ·subst hkn;rw[if_pos rfl,if_pos hkl]at hl';cases hl';rw[if_pos rfl,if_pos (by omega)];rfl
   ·rw[if_neg hkn]at hl';rw[if_neg (by omega)];exact h.seq i cl n l' hc hl'
  ·rw[if_neg hij]at hl';have hnl:=(List.getElem?_eq_some_iff.1 hl').1;rw[List.getElem?_set,if_neg (by omega)];exact h.seq j c0 n l' h0 hl'
 ·obtain⟨x,h1,h2,h3⟩:=h.uid n hn3;exact⟨x,h1,by rw[hst];exact h2,by rw[hkf];exact h3⟩
 ·obtain⟨c0,h0,rfl⟩:=hcat j c' hj;have:=h.bound j c0 n h0 hn;split<;>exact this
 ·show DT ((s.made++[((⟨i,cl.Ag,k,l.seq+1,u,pr,v⟩:Mk),X)]).map (·.1)) _;rw[List.map_append];refine h.book.snoc (m:=⟨i,cl.Ag,k,l.seq+1,u,pr,v⟩) (d:=FK u kd pr v) rfl rfl rfl hn (fun a ha e1 e2 e3=>?_);obtain⟨d,hd⟩:=h.book.all a ha;obtain⟨j,c',n,l',q1,q2,q3,q4,q5,q6,q7,q8,q9⟩:=(h.inv.bk _ d hd).2;simp only[Mk.key]at q1 q3 q9;simp only at e1 e2 e3;obtain rfl:i=j:=by omega
  obtain rfl:=Option.some.inj (hc.symm.trans q2);obtain rfl:k=n:=by omega
  obtain rfl:=Option.some.inj (hl.symm.trans q4);have:=q9 e2;simp only;omega
structure Plain(c:R.Cf)(G:R.Wd):Prop where
 cf:G.c=c
 Ih:G.Ao=[]
 Co:(G.Ai,G.seen,G.jobs)=([0,0,0],List.replicate 9 R.De,[])
 each:∀(j:Nat) (x:R.Cl),G.Ad[j]?=some x->x.lines=List.replicate c.lines.toNat R.Ou/\x.Ag=1
theorem N8{c:R.Cf}{G:R.Wd}(h:Plain c G)(i:Nat)(u:Int):Plain c (Bd G i u):=by
 refine⟨h.cf,h.Ih,h.Co,fun j x hx=>?_⟩;obtain⟨c0,h0,rfl⟩:=Ed hx;split<;>exact h.each j c0 h0
theorem M5(c:R.Cf):∀k,Plain c (EP c k)
 |0=>⟨rfl,rfl,rfl,fun j x hx=>by obtain⟨_,rfl⟩:=EC hx;exact⟨rfl,rfl⟩⟩
 |k+1=>by
  have h:=M5 c k;exact⟨h.cf,h.Ih,h.Co,h.each⟩
theorem Kk{c:R.Cf}{G:R.Wd}(h:Plain c G)(i:Nat)(u:List Int):∀k,Plain c (C4 G i u k)
 |0=>h
 |k+1=>N8 (Kk h i u k) i _
theorem FY(c:R.Cf):∀i,Plain c (CS c i)
 |0=>M5 c 3
 |i+1=>Kk (FY c i) i _ 3
theorem J9{G:R.Wd}{i j:Nat}{u:List Int}{x:R.Cl}(h:G.Ad[j]?=some x)(hi:i≠j):∀k,(C4 G i u k).Ad[j]?=some x
 |0=>h
 |k+1=>by
  show (Bd (C4 G i u k) i _).Ad[j]?=_;rw[Db,J9 h hi k];simp[hi]
theorem MH{c:R.Cf}:∀(i j:Nat) (x:R.Cl),(CS c i).Ad[j]?=some x->j<i->(1:Int)∈x.bound/\(2:Int)∈x.bound/\(3:Int)∈x.bound
 |0,_,_,_,h=>by omega
 |i+1,j,x,hx,h=>by
  have hl:(CS c (i+1)).Ad.length=(CS c i).Ad.length:=by rw[Ex,Ex]
  have hj:j<(CS c i).Ad.length:=by rw[<-hl];exact(List.getElem?_eq_some_iff.1 hx).1
  have h0:=List.getElem?_eq_getElem hj;by_cases hij:i=j
  ·subst hij;have e:(CS c (i+1)).Ad[i]?=some {(CS c i).Ad[i] with bound:=(((CS c i).Ad[i].bound++[1])++[2])++[3]}:=by
    show (Bd (Bd (Bd (CS c i) i 1) i 2) i 3).Ad[i]?=_;rw[Db,Db,Db,h0];simp
   rw[e]at hx;cases hx;simp
  ·have e:(CS c (i+1)).Ad[j]?=_:=J9 h0 hij 3;rw[e]at hx;exact MH i j x (h0.trans hx) (by omega)
theorem Gi(c:R.Cf):∀i,(CS c i).Ac=(EP c 3).Ac
 |0=>rfl
 |i+1=>Gi c i
theorem OY{G:R.Wd}{name:List UInt8}{kind:Int}(h1:R.E5 name=true)(h2:0<=kind/\kind<=2)(h3:¬name∈G.names)(h4:¬G.names.length=6)(h5:¬G.Ac.length=255):R.Fj G name kind=(((G.Ac.length:Int)+1,0),Bw G name kind):=by
 have he:R.Dg G name=none:=by
  unfold R.Dg;rw[List.findIdx?_eq_none_iff];intro x hx;simp;rintro rfl;exact h3 hx
 unfold R.Fj;rw[h1,if_neg (by simp),if_neg (by omega),he];simp only;rw[if_neg h4,if_neg h5];rfl
theorem Rt{G:R.Wd}{i:Nat}{name:List UInt8}{u:Int}(hi:i<G.Ad.length)(hs:Bc G name=some u):(R.EQ G i name).2=Bd G i u:=by
 unfold R.EQ;rw[if_neg (by omega)];unfold Bc at hs;cases he:R.Dg G name with
 |none=>rw[he]at hs;cases hs
 |some k=>
  rw[he]at hs;simp only[Option.map_some,Option.some.injEq]at hs;simp only[hs];unfold Bd;simp
theorem Tm{c:R.Cf}(hc:R.BL c):∀k,k<=3->R.Inv (fun _=>none) (EP c k)/\R.Room (EP c k)
 |0,_=>by
  have hn:R.UH c=some (newG c):=by
   unfold R.UH;rw[if_pos hc];rfl
  exact⟨R.Inv.new hn,R.Room.new hn⟩
 |k+1,hk=>by
  obtain⟨h1,h2⟩:=Tm hc k (by omega);have e:=OY (G:=EP c k) (name:=Ch k) (kind:=(k:Int)) (Lr k) (by omega) (OX c (by omega)) (by rw[E0];simp;omega) (by rw[Cg];simp;omega);have g1:=h1.export (Ch k) k;have g2:=h2.export (Ch k) k;rw[e]at g1 g2;exact⟨g1,g2⟩
theorem M0{c:R.Cf}{i:Nat}(hi:i<(newG c).Ad.length)(h:R.Inv (fun _=>none) (CS c i)/\R.Room (CS c i)):∀k,k<=3->R.Inv (fun _=>none) (C4 (CS c i) i (Ef 3) k)/\R.Room (C4 (CS c i) i (Ef 3) k)
 |0,_=>h
 |k+1,hk=>by
  obtain⟨h1,h2⟩:=M0 hi h k (by omega);have hu:((Ef 3)[k]?).getD 0=(k:Int)+1:=by
   have h3:k=0\/k=1\/k=2:=by omega
   rcases h3 with rfl|rfl|rfl<;>rfl
  have e:(R.EQ (C4 (CS c i) i (Ef 3) k) i (Ch k)).2=Bd (C4 (CS c i) i (Ef 3) k) i (((Ef 3)[k]?).getD 0):=Rt (by rw[Ic,Ex];exact hi) (by rw[Fg,Gh,IR c (by omega),hu]);have g1:=h1.imports i (Ch k);have g2:=h2.imports i (Ch k);rw[e]at g1 g2;exact⟨g1,g2⟩
theorem NS{c:R.Cf}(hc:R.BL c):∀i,i<=(newG c).Ad.length->R.Inv (fun _=>none) (CS c i)/\R.Room (CS c i)
 |0,_=>Tm hc 3 (Nat.le_refl _)
 |i+1,hi=>M0 (by omega) (NS hc i (by omega)) 3 (Nat.le_refl _)
theorem Jx(c:R.Cf):(newG c).Ad.length=c.Ad.toNat:=by simp[newG]
theorem agree_start{c:R.Cf}(hc:R.BL c)(D K:Value):Agree c ⟨List.replicate c.Ad.toNat 1,List.replicate (3*c.Ad.toNat) 0,Ef 3,3,.slice none 0 0,D,K,[],FL 3,GM 3⟩ (fun _=>none) (CS c c.Ad.toNat):=by
 have hl:=Jx c;obtain⟨h1,h2⟩:=NS hc c.Ad.toNat (by omega);have hp:=FY c c.Ad.toNat;have hlen:(CS c c.Ad.toNat).Ad.length=c.Ad.toNat:=by rw[Ex,hl]
 have hsv:(CS c c.Ad.toNat).Ac=[⟨0,true,[]⟩,⟨1,true,[]⟩,⟨2,true,[]⟩]:=by rw[Gi,Cg];rfl
 have hcf:=hc;unfold R.BL at hcf;refine⟨h1,h2,hp.cf,?_,by simp[hlen],fun i cl k l hi hk=>?_,rfl,fun k hk=>?_,fun i cl u hi hu=>?_,by rw[hsv];rfl,by rw[hsv];rfl,by rw[hsv];rfl,fun u n sv hn _ h0=>?_,DT.none⟩
 ·refine List.ext_getElem? (fun i=>?_);rw[List.getElem?_map];cases hi:(CS c c.Ad.toNat).Ad[i]? with
  |none=>
   have:=List.getElem?_eq_none_iff.1 hi;rw[List.getElem?_eq_none (by simp;omega)];rfl
  |some x=>
   have:=(List.getElem?_eq_some_iff.1 hi).1;rw[List.getElem?_replicate,if_pos (by omega)];simp[(hp.each i x hi).2]
 ·have hil:=(List.getElem?_eq_some_iff.1 hi).1;have hkl:=(List.getElem?_eq_some_iff.1 hk).1;obtain⟨e1,_⟩:=hp.each i cl hi;rw[e1]at hk hkl;simp only[List.length_replicate]at hkl;rw[List.getElem?_replicate,if_pos hkl]at hk;cases hk;simp only[List.getElem?_replicate];rw[if_pos (by omega)];rfl
 ·refine⟨(k:Int)+1,?_,by rw[Gh];exact IR c hk,by rw[JK];exact MW c hk⟩;have h3:k=0\/k=1\/k=2:=by omega
  rcases h3 with rfl|rfl|rfl<;>rfl
 ·have hil:=(List.getElem?_eq_some_iff.1 hi).1;obtain⟨b1,b2,b3⟩:=MH _ i cl hi (by omega);have h3:u=1\/u=2\/u=3:=by simpa [Ef] using hu
  rcases h3 with rfl|rfl|rfl<;>assumption
 ·have:n=-1:=by
   simp only[FL]at hn;rw[List.getElem?_replicate]at hn;split at hn
   ·cases hn;rfl
   ·cases hn
  omega
end Go.Proofs.YtblomippkddgiaaGreatDoor
