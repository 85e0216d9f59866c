import Derived.Test.YtblomippkddgiaaGreatDoorK43
set_option maxRecDepth 100000
set_option maxHeartbeats 1000000
namespace Go.Proofs.YtblomippkddgiaaGreatDoor
open Go.RowKit
open Go.RowKit Go.Maps
theorem Ft{w:World}{X:Value}{l:List V.It}(h:V.Items w X l):∃xa xn xc,X=.slice xa xn xc:=by
 obtain⟨a,c,rfl,_⟩:=h;exact⟨_,_,_,rfl⟩
theorem Mp.ab7{α:Type}{w:World}{k t:TypeId}{b n:Nat}{lit:α->Lit}{g:α->Option Int}(h:Mp w k b lit g n)(K:Keyed Tryz.prog k)(ht:Tryz.prog.underlying t=some (.map k 3)){key:Value}{a:α}(hkey:keyOf Tryz.prog k key=some (lit a)):(Instr.lookup t (.map (some b)) key false).run Tryz.prog w=.ok (.int .i64 ((g a).getD 0)) w:=by
 obtain⟨D,h1,h2,h3⟩:=h;obtain⟨v,ps,hrun,hv⟩:=h1.lookup K ht (aaj w) (plainElem_int Tryz.underlying3 (Vx (by omega))) hkey;obtain⟨c,rfl,hc,_⟩:=plainElem_int_inv Tryz.underlying3 hv;simp only[Prod.mk.injEq]at hc;rw[hrun];cases hg:g a with
 |some x=>
  have:=(h3 a).2 x hg;rw[hc.1]at this;cases this;rfl
 |none=>
  have hn:=(h3 a).1;rw[hg]at hn;have:=atKey_of_not_has hn (.lit (.int .i64 0));rw[hc.1]at this;cases this;rfl
theorem LW.abZ{p:Pl}{F:Aq}{G:R.Wd}{w:World}(h:LW p F G w){i k:Nat}{c:R.Cl}{l:R.Ln}(ha:R.At G i k c l):i<3/\k<3:=by
 have hcf:=h.wf.cf;unfold R.BL at hcf;have h1:=h.wf.KF;have h2:=(h.wf.cl i c ha.cl).lines;have h3:=(List.getElem?_eq_some_iff.1 ha.cl).1;have h4:=(List.getElem?_eq_some_iff.1 ha.ln).1;omega
theorem LW.Ah{p:Pl}{F:Aq}{G:R.Wd}{w:World}(h:LW p F G w){i k:Nat}{c:R.Cl}{l:R.Ln}(ha:R.At G i k c l)(h1:l.state=1){P:Pk}(hP:P.line=(k:Int))(hr:AJ P)(hoff:P.off=R.Ae l.message):
  Calls Tryz.prog 141 #[ptr (p.cb i),pv P] w fun e w'=>e=.returned (.tuple #[])/\∃F',LW p F' (if P.part=l.Ah then R.DN (if l.Ah+1<R.Ae l.message then R.AA (R.Al G i k {l with Ah:=l.Ah+1}) i k false else R.Al G i k {l with Ah:=l.Ah+1}) i k else G) w'/\Ay F F' w w':=by
 obtain⟨xs,x,hL,hR,hx,hx1,hla,hrs,hit⟩:=h.line ha.cl ha.ln;have hca:=K3 h ha.cl;have hi:=(List.getElem?_eq_some_iff.1 ha.cl).1;have hk:=(List.getElem?_eq_some_iff.1 ha.ln).1;have hok:=(h.wf.cl i c ha.cl).line k l ha.ln;obtain⟨z1,z2,hml,hac,hwt,htr⟩:=hok.one h1;obtain⟨eu,em,ea,ew,et⟩:=hx1.one h1;have hfl:F (p.lb i):=(h.Gs i hi).2.1;have hnl:c.lines.length=c.lines.length:=rfl;have hb3:w.cell? ⟨p.cb i,3,none⟩=some (.slice (some ⟨p.lb i,0,none⟩) c.lines.length c.lines.length):=hca.a3;have a6:=hla.a6;rw[ea]at a6;have a5:=hla.a5;rw[em]at a5;have hpp:=R.Er hml.2;by_cases hpt:P.part=l.Ah
 ·rw[if_pos hpt];have hpo:=hr.2.2.2.2.2.2.2.1;have st:=Ca (j:=6) (x':={x with Ah:=l.Ah+1}) (v:=.int .i64 (l.Ah+1)) hL hx (by omega) rfl;have hkp:Af (fun q=>q=p.lb i) w (w.setCell ⟨p.lb i,k*10+6,none⟩ (.int .i64 (l.Ah+1))):=Am _;have hT:=h.turn (l':={l with Ah:=l.Ah+1}) ha.cl hL hR hrs hkp st.1 ⟨hok.seq,fun _=>⟨z1,z2,hml,by simp only;omega,hwt,htr⟩⟩ ⟨hx1.state,hx1.seq,hx1.res,fun q=>⟨eu,em,rfl,ew,et⟩,hx1.two⟩ hit;have hW:Ay F F w (w.setCell ⟨p.lb i,k*10+6,none⟩ (.int .i64 (l.Ah+1))):=⟨hkp.mono (fun q _ e=>by rw[e];exact hfl),fun _ q=>Or.inl q⟩;have hat:=ha.set {l with Ah:=l.Ah+1};refine VH w (p.cb i) (p.lb i) c.lines.length k (R.Ae l.message) l.Ah P (str l.message) (fun w'=>∃F',LW p F' (if l.Ah+1<R.Ae l.message then R.AA (R.Al G i k {l with Ah:=l.Ah+1}) i k false else R.Al G i k {l with Ah:=l.Ah+1}) w'/\Ay F F' w w') _ hk hP hb3 a5 a6 (open_list hL) (by omega) hpt (fun w=>C8 l.message w (by omega)) (fun hlt wa hb=>?_) ?_ (fun hlt wa hb=>?_)
  ·have hsz:(w.setCell ⟨p.lb i,k*10+6,none⟩ (.int .i64 (l.Ah+1))).heap.size=w.heap.size:=by simp
   rw[<-hsz]at hb;refine((hT.below hb).piece hat.cl hat.ln h1 hlt false).mono ?_;rintro e w' ⟨rfl,F',q1,q2⟩;rw[if_pos hlt];exact⟨rfl,F',q1,(hW.trans (Ay.Aj F hb)).trans q2⟩
  ·rintro w' ⟨F',q1,q2⟩;have hat2:R.At (if l.Ah+1<R.Ae l.message then R.AA (R.Al G i k {l with Ah:=l.Ah+1}) i k false else R.Al G i k {l with Ah:=l.Ah+1}) i k {c with lines:=c.lines.set k {l with Ah:=l.Ah+1}} {l with Ah:=l.Ah+1}:=by
    split
    ·unfold R.AA;exact hat.send _ _
    ·exact hat
   refine(q1.rest hat2 h1).mono ?_;rintro e w'' ⟨rfl,r1,r2⟩;exact⟨rfl,F',r1,q2.trans r2⟩
  ·have hsz:(w.setCell ⟨p.lb i,k*10+6,none⟩ (.int .i64 (l.Ah+1))).heap.size=w.heap.size:=by simp
   rw[<-hsz]at hb;rw[if_neg hlt];exact⟨F,hT.below hb,hW.trans (Ay.Aj F hb)⟩
 ·rw[if_neg hpt];refine(aaq w (p.cb i) (p.lb i) c.lines.length k l.Ah P hk hP hb3 a6 hpt).mono ?_;rintro e w' ⟨rfl,hb⟩;exact⟨rfl,F,h.below hb,Ay.Aj F hb⟩
theorem LW.rejected{p:Pl}{F:Aq}{G:R.Wd}{w:World}(h:LW p F G w){i k:Nat}{c:R.Cl}{l:R.Ln}(ha:R.At G i k c l)(h1:l.state=1){P:Pk}(hP:P.line=(k:Int))(hr:AJ P)(hoff:P.off=2):
  Calls Tryz.prog 143 #[ptr (p.cb i),pv P] w fun e w'=>e=.returned (.tuple #[])/\∃F',LW p F' (R.Al G i k {l with state:=4+P.part}) w'/\Ay F F' w w':=by
 obtain⟨xs,x,hL,hR,hx,hx1,hla,hrs,hit⟩:=h.line ha.cl ha.ln;have hca:=K3 h ha.cl;have hi:=(List.getElem?_eq_some_iff.1 ha.cl).1;have hk:=(List.getElem?_eq_some_iff.1 ha.ln).1;have hok:=(h.wf.cl i c ha.cl).line k l ha.ln;have hfl:F (p.lb i):=(h.Gs i hi).2.1;have hpo:=hr.2.2.2.2.2.2.2.1;have hr0:l.result=[]:=hx1.res (by omega);have hll:=lt_of_block hL;refine Mw w (p.cb i) (p.lb i) c.lines.length k (4+P.part) P _ hk hP hca.a3 (by omega) (fun wa hb=>?_);have hL':wa.heap[p.lb i]?=some (.cells (tab DK.cells xs).toArray 139 (0,0)):=by rw[hb.block _ hll];exact hL
 refine(OW wa (p.lb i) k (4+P.part) xs x (FQ hit) hL' hx).mono ?_;rintro e w' ⟨rfl,q1,q2⟩;have hkp:Af (fun q=>q=p.lb i) w w':=(Af.Aj hb _).trans q2;refine⟨rfl,F,?_,hkp.mono (fun q _ e=>by rw[e];exact hfl),fun _ q=>Or.inl q⟩;refine h.turn ha.cl hL hR hrs hkp q1 ⟨hok.seq,fun q=>by simp only at q;omega⟩ ⟨rfl,hx1.seq,fun _=>hr0,fun q=>by simp only at q;omega,fun q=>by simp only at q;omega⟩ ?_;simp only;rw[hr0];exact BD.nil _ _
theorem Sz{a b:Int}(ha:a=0\/a=1)(hb:b=0\/b=1)(h:AX a=AX b):a=b:=Yo (by omega) (by omega) (by omega) (by omega) h
theorem Ss{l:List UInt8}{n:Int}(h:(l.length:Int)=8*n):R.Ae l=n:=by
 unfold R.Ae;omega
theorem UF{w:World}{b n:Nat}{g:Int->Option Int}(h:Mp w 3 b Mm g n){u:Int}(hu:-9223372036854775808<=u/\u<=9223372036854775807):(Instr.lookup 131 (.map (some b)) (.int .i64 u) false).run Tryz.prog w=.ok (.int .i64 ((g u).getD 0)) w:=
 h.ab7 (int_keyed Tryz.underlying3) Tryz.underlying131 (keyOf_int_mk Tryz.underlying3 (Vx hu))
theorem UY{t:ByteArray}{v:List R.It}{rb:List UInt8}(h:R.AV t v=some rb)(hp:1<=rb.length):v≠[]:=fun e=>by
 subst e;have h1:=R.Bv h;unfold R.AV at h;rw[if_pos h1]at h;obtain⟨_,ks,_,h3,_⟩:=V.D5 h1;have:=Option.some.inj h;rw[h3]at this;rw[<-this]at hp;cases ks<;>simp[V.bytesOf]at hp
theorem LW.XV{p:Pl}{F:Aq}{G:R.Wd}{w:World}(h:LW p F G w)(ht:DU w)(hF0:¬F 0){M:R.Bk}(hI:R.Inv M G){i k:Nat}{c:R.Cl}{l:R.Ln}(ha:R.At G i k c l)(h1:l.state=1){P:Pk}(hP:P.line=(k:Int))(hr:AJ P){d:R.Cd}{e:R.En}{rb:List UInt8}(hd:M ⟨i,c.Ag,k,l.seq⟩=some d)(hdn:R.EH G.Ac ⟨i,c.Ag,k,l.seq⟩ d e rb)(ho:P.off=R.Ae rb)(hb:P.body=R.Bb rb P.part):
  Calls Tryz.prog 142 #[ptr (p.cb i),pv P] w fun e w'=>e=.returned (.tuple #[])/\∃F',LW p F' (R.DG G i P) w'/\Ay F F' w w':=by
 obtain⟨xs,x,hL,hR,hx,hx1,hla,hrs,hit⟩:=h.line ha.cl ha.ln;have hca:=K3 h ha.cl;obtain⟨hi3,hk3⟩:=h.abZ ha;have hi:=(List.getElem?_eq_some_iff.1 ha.cl).1;have hk:=(List.getElem?_eq_some_iff.1 ha.ln).1;have hok:=(h.wf.cl i c ha.cl).line k l ha.ln;obtain⟨z1,z2,hml,hac,hwt,htr⟩:=hok.one h1;obtain⟨eu,em,ea,ew,et⟩:=hx1.one h1;obtain⟨ec,ep,et2⟩:=hx1.two h1;have hfl:F (p.lb i):=(h.Gs i hi).2.1;have hlo:=hI.ln i c k l ha.cl ha.ln;obtain⟨d',w1,w2,w3,w4,w5,w6,w7⟩:=hlo.way h1;rw[hd]at w1;cases w1;obtain⟨hcd,_⟩:=hI.bk _ d hd;have hpo:=hr.2.2.2.2.2.2.2.1;have hof:=hr.2.2.2.2.2.2.1;have hpp:=R.Er hml.2;have hpp1:=R.Du (s:=l.message) hml.1;have hcp:R.Ae l.came=l.pieces:=Ss w6.2;have hr0:l.result=[]:=hx1.res (by omega);have a3:=hla.a3;rw[eu]at a3;have a5:=hla.a5;rw[em]at a5;have a6:=hla.a6;rw[ea]at a6;have a7:=hla.a7;rw[ec]at a7;have hrbl:rb.length<=70:=by
  have:=R.Bv hdn.bytes;have h2:=V.Gv this;have h3:=hdn.bytes;unfold R.AV at h3;rw[if_pos this]at h3;rw[<-Option.some.inj h3];exact h2
 have hcl:l.came.length<=72:=by
  rcases Int.lt_or_le 0 l.pieces with q|q
  ·obtain⟨e',rb',g1,g2,g3⟩:=w7 q;obtain⟨_,u2⟩:=hI.unique hd hdn g1;rw[g2,u2,List.length_take];omega
  ·omega
 have hbl:P.body.length<=8:=by rw[hb,R.Gy];omega
 have H1:Hid (∀w,Calls Tryz.prog 187 #[.string (str l.message)] w fun e w'=>e=.returned (.int .i64 (R.Ae l.message))/\w'=w):=fun w=>C8 l.message w (by omega)
 have H2:Hid (∀w,Calls Tryz.prog 187 #[.string (str l.came)] w fun e w'=>e=.returned (.int .i64 l.pieces)/\w'=w):=fun w=>by
  have:=C8 l.came w (by omega);rw[hcp]at this;exact this
 have hlP:R.A7 G i P.line=l:=by rw[hP];exact ha.line
 have hresP:R.DG G i P=if l.Ah<R.Ae l.message-1\/l.pieces<P.part then G else if P.part=l.pieces then (if l.pieces+1=P.off then R.Al G i k {l with came:=l.came++P.body,pieces:=l.pieces+1,Ah:=R.Ae l.message,result:=(V.D3 l.to (l.came++P.body)).2,state:=2} else R.DN (R.GQ (R.Al G i k {l with came:=l.came++P.body,pieces:=l.pieces+1,Ah:=R.Ae l.message}) i P) i k) else R.GQ G i P:=by
  unfold R.DG;simp only[hlP];rw[hP]
 rw[hresP];by_cases hold:l.Ah<R.Ae l.message-1\/¬P.part=l.pieces
 ·refine R5 w (p.cb i) (p.lb i) c.lines.length k (R.Ae l.message) l.pieces l.Ah P (str l.message) (str l.came) _ hk hP hca.a3 a5 a6 a7 (by omega) H1 H2 hold (fun q wa hb=>?_) (fun q1 q2 wa hb=>?_)
  ·rw[if_pos q];exact⟨F,h.below hb,Ay.Aj F hb⟩
  ·rw[if_neg (by omega),if_neg (by omega)];refine((h.below hb).got ha h1 hr hi3 hk3 hP).mono ?_;rintro e w' ⟨rfl,F',r1,r2⟩;exact⟨rfl,F',r1,(Ay.Aj F hb).trans r2⟩
 ·have hno:¬l.Ah<R.Ae l.message-1:=fun q=>hold (Or.inl q)
  have hm:P.part=l.pieces:=Decidable.byContradiction fun q=>hold (Or.inr q)
  rw[if_neg (by omega),if_pos hm];have s1:=Ca (j:=7) (x':={x with came:=l.came++P.body}) (v:=.string (str (l.came++P.body))) hL hx (by omega) rfl;have s2:=Ca (j:=6) (x':={x with came:=l.came++P.body,Ah:=R.Ae l.message}) (v:=.int .i64 (R.Ae l.message)) s1.1 s1.2 (by omega) rfl;simp only[List.set_set]at s2;have hkp:Af (fun q=>q=p.lb i) w (Ei w (p.lb i) k (str (l.came++P.body)) (R.Ae l.message)):=(Am _).trans (Am _);have rel1:MF {l with came:=l.came++P.body,pieces:=l.pieces+1,Ah:=R.Ae l.message} {x with came:=l.came++P.body,Ah:=R.Ae l.message}:=⟨hx1.state,hx1.seq,hx1.res,fun _=>⟨eu,em,rfl,ew,et⟩,fun _=>⟨rfl,ep,et2⟩⟩;have hT:=h.turn (l':={l with came:=l.came++P.body,pieces:=l.pieces+1,Ah:=R.Ae l.message}) ha.cl hL hR hrs hkp s2.1 ⟨hok.seq,fun _=>⟨z1,z2,hml,by simp only;omega,hwt,htr⟩⟩ rel1 hit;have hW:Ay F F w (Ei w (p.lb i) k (str (l.came++P.body)) (R.Ae l.message)):=⟨hkp.mono (fun q _ e=>by rw[e];exact hfl),fun _ q=>Or.inl q⟩;have hat:=ha.set {l with came:=l.came++P.body,pieces:=l.pieces+1,Ah:=R.Ae l.message};have hsz:(Ei w (p.lb i) k (str (l.came++P.body)) (R.Ae l.message)).heap.size=w.heap.size:=by simp
  have happ:=Oj l.came P.body;have hnz:¬9223372036854775807<(str l.came).size+(str P.body).size:=by rw[Az,Az];omega
  have hT0:∀wa,Below w.heap.size (Ei w (p.lb i) k (str (l.came++P.body)) (R.Ae l.message)) wa->DU wa:=fun wa hb=>by
   refine DU.below (w:=Ei w (p.lb i) k (str (l.came++P.body)) (R.Ae l.message)) (ht.keeps hkp ?_) (by rw[hsz];exact hb);intro q;exact hF0 (by rw[q];exact hfl)
  by_cases hlast:l.pieces+1=P.off
  ·rw[if_pos hlast];have hwhole:l.came++P.body=rb:=by
    obtain⟨n,hn⟩:∃n:Nat,l.pieces=(n:Int):=⟨l.pieces.toNat,by omega⟩;have hcame:l.came=rb.take (8*n):=by
     rcases Nat.eq_zero_or_pos n with h0|h0
     ·subst h0;have:l.came.length=0:=by omega
      simp[List.length_eq_zero_iff.1 this]
     ·obtain⟨e',rb',g1,g2,g3⟩:=w7 (by omega);obtain⟨_,u2⟩:=hI.unique hd hdn g1;rw[g2,u2,hn,Int.toNat_natCast]
    rw[hcame,hb,hm,hn,R.GH,R.Gz (by rw[<-ho,<-hlast,hn];rfl)]
   have hback:V.D3 l.to (l.came++P.body)=(0,e.result):=by rw[hwhole,w4];exact R.Fi hdn.bytes
   have hne:=UY hdn.bytes hdn.pos;have hkd:kindOf G l.uid=R.FU G.Ac d.uid:=by rw[w2];rfl
   have hpr:x.proc=d.proc:=by
    have h3:l.message.take 2=AX d.proc:=by rw[w3];simp[R.Cd.msg,AX]
    rw[h3]at et2;have hs:=R.Nf hcd.sig;exact Sz ep hs et2.symm
   rw[hback];refine LH w (p.cb i) (p.lb i) (p.bm i) c.lines.length k (R.Ae l.message) l.pieces l.Ah l.uid x.proc (kindOf G l.uid) P (str l.message) (str l.came) (fun _=>False) _ (fun O w'=>V.Row w' w.heap.size O e.result/\Below w.heap.size (Ei w (p.lb i) k (str (l.came++P.body)) (R.Ae l.message)) w') hk hP hca.a2 hca.a3 a3 hla.a4 a5 a6 a7 (open_list hL) (open_list hL) (Bi (h.cl i c ha.cl) hL (by decide)) (by omega) hno hm hof hnz H1 H2 (fun q wa hb=>absurd (show P.part=P.off-1 by omega) q) (fun w' q=>q.elim) (fun q wa hb=>?_) (fun q wa hb=>?_) ?_
   ·rw[<-happ]at hb;have hb':=hb;rw[<-hsz]at hb';have hbd:=(hT.below hb').bound i _ hat.cl;have hin:l.uid∈c.bound:=by rw[w2];exact w5
    have:=UF hbd (u:=l.uid) (by omega);rw[this];have e1:BR (R.Al G i k {l with came:=l.came++P.body,pieces:=l.pieces+1,Ah:=R.Ae l.message}) {c with lines:=c.lines.set k {l with came:=l.came++P.body,pieces:=l.pieces+1,Ah:=R.Ae l.message}} l.uid=some (kindOf G l.uid):=by
     unfold BR;rw[if_pos hin];rfl
    rw[e1];rfl
   ·rw[<-happ]at hb ⊢;have hb':=hb;rw[<-hsz]at hb';refine(Kv (kindOf G l.uid) x.proc d.from' d.to (by rw[hkd,hpr];exact hcd.sig) (l.came++P.body) e.result (by rw[<-w4];exact hback) wa (hT0 wa hb)).mono ?_;rintro e1 w' ⟨⟨O,rfl,hrow⟩,hbb⟩;obtain⟨ra,rn,rc,hO⟩:=Ar hrow;subst hO;exact⟨ra,rn,rc,rfl,V.EF hrow (by have:=hb.size;rw[hsz]at this;exact this),hb.trans (hbb.mono (by have:=hb.size;rw[hsz]at this;exact this))⟩
   ·rintro ra rn rc w' ⟨hrow,hbb⟩;have hbb':=hbb;rw[<-hsz]at hbb';obtain⟨hit2,hlt2⟩:=LJ hrow hne;have hT2:=hT.below hbb';have hL2:w'.heap[p.lb i]?=some (.cells (tab DK.cells (xs.set k {x with came:=l.came++P.body,Ah:=R.Ae l.message})).toArray 139 (0,0)):=by rw[hbb.block _ (lt_of_block hL)];exact s2.1
    refine(OV w' (p.lb i) k ra rn rc (xs.set k {x with came:=l.came++P.body,Ah:=R.Ae l.message}) {x with came:=l.came++P.body,Ah:=R.Ae l.message} (FQ hit) hL2 s2.2).mono ?_;rintro e2 w'' ⟨rfl,q1,q2⟩;have hwide:=hT2.wide (F':=fun j=>F j\/(Value.slice ra rn rc).ownBlock=some j) (fun _ q=>Or.inl q) (fun j hj=>by
     rcases hj with hj|hj
     ·exact hT2.lt j hj
     ·exact(hlt2 j hj).2)
    have hkw:Af (fun q=>q=p.lb i) w w':=hkp.trans (Af.Aj hbb' _);have hav:Kt w F (fun q=>q=p.lb i):=Kt.one hL (by decide);have g2:=hR.set (k:=k) rel1;have g3:Eu w' (fun j=>F j\/(Value.slice ra rn rc).ownBlock=some j) (c.lines.set k {l with came:=l.came++P.body,pieces:=l.pieces+1,Ah:=R.Ae l.message}) (xs.set k {x with came:=l.came++P.body,Ah:=R.Ae l.message}):=(hrs.Ea hkw hav (fun _ q=>Or.inl q)).set (hit.Ea hkw hav (fun _ q=>Or.inl q));have hfin:=hwide.turn (k:=k) (l':={l with came:=l.came++P.body,pieces:=l.pieces+1,Ah:=R.Ae l.message,result:=e.result,state:=2}) (x':={Jj 2 x.seq with rv:=.slice ra rn rc}) hat.cl hL2 g2 g3 q2 q1 ⟨hok.seq,fun q=>by simp only at q;omega⟩ ⟨rfl,hx1.seq,fun q=>absurd rfl q,fun q=>by simp only at q;omega,fun q=>by simp only at q;omega⟩ (hit2.keep (Af.refl (fun _=>False) w') (fun _ _ _ _ q=>q) (fun _ q=>Or.inr q));refine⟨rfl,fun j=>F j\/(Value.slice ra rn rc).ownBlock=some j,?_,?_,fun j hj=>?_⟩
    ·rw[My]at hfin;exact hfin
    ·exact(hkw.trans q2).mono (fun q _ e=>by rw[e];exact hfl)
    ·rcases hj with hj|hj
     ·exact Or.inl hj
     ·exact Or.inr (hlt2 j hj).1
  ·have hnl:=hlast;rw[if_neg hnl];refine LH w (p.cb i) (p.lb i) (p.bm i) c.lines.length k (R.Ae l.message) l.pieces l.Ah l.uid x.proc (kindOf G l.uid) P (str l.message) (str l.came) (fun w'=>∃F',LW p F' (R.GQ (R.Al G i k {l with came:=l.came++P.body,pieces:=l.pieces+1,Ah:=R.Ae l.message}) i P) w'/\Ay F F' w w') _ (fun O w'=>V.Row w' w.heap.size O e.result/\Below w.heap.size (Ei w (p.lb i) k (str (l.came++P.body)) (R.Ae l.message)) w'/\l.pieces+1=P.off/\l.came++P.body=rb) hk hP hca.a2 hca.a3 a3 hla.a4 a5 a6 a7 (open_list hL) (open_list hL) (Bi (h.cl i c ha.cl) hL (by decide)) (by omega) hno hm hof hnz H1 H2 (fun q wa hb=>?_) ?_ (fun q wa hb=>?_) (fun q wa hb=>?_) ?_
   ·rw[<-happ]at hb;have hb':=hb;rw[<-hsz]at hb';refine((hT.below hb').got hat h1 hr hi3 hk3 hP).mono ?_;rintro e w' ⟨rfl,F',r1,r2⟩;exact⟨rfl,F',r1,(hW.trans (Ay.Aj F hb')).trans r2⟩
   ·rintro w' ⟨F',r1,r2⟩;have hat2:R.At (R.GQ (R.Al G i k {l with came:=l.came++P.body,pieces:=l.pieces+1,Ah:=R.Ae l.message}) i P) i k {c with lines:=c.lines.set k {l with came:=l.came++P.body,pieces:=l.pieces+1,Ah:=R.Ae l.message}} {l with came:=l.came++P.body,pieces:=l.pieces+1,Ah:=R.Ae l.message}:=by
     unfold R.GQ;exact hat.send _ _
    refine(r1.rest hat2 h1).mono ?_;rintro e w'' ⟨rfl,g1,g2⟩;exact⟨rfl,F',g1,r2.trans g2⟩
   ·exact absurd q (by omega)
   ·exact absurd q (by omega)
   ·rintro ra rn rc w' ⟨_,_,q,_⟩;exact absurd q hnl
theorem LW.heard{p:Pl}{F:Aq}{G:R.Wd}{w:World}(h:LW p F G w)(ht:DU w)(hF0:¬F 0){M:R.Bk}(hI:R.Inv M G){P:Pk}(hr:AJ P){to:Int}(hto:to≠-1)(hp:R.Nt M G.Ac to P):
  ∃i:Nat,to=(i:Int)/\i<G.Ad.length/\Calls Tryz.prog 86 #[ptr (p.cb i),pv P] w fun e w'=>e=.returned (.tuple #[])/\∃F',LW p F' (R.CF G to P) w'/\Ay F F' w w':=by
 obtain⟨d,hd,hu,hk⟩:=hp;obtain⟨hcd,i,c,k,l,r1,r2,r3,r4,r5,r6,r7,r8,r9⟩:=hI.bk _ d hd;simp only[R.DZ]at r1 r3 r5 r6 r7 r8 r9;have hat:R.At G i k c l:=⟨r2,r4⟩;have hti:to=(i:Int):=by
  rcases hk with ⟨_,q,_⟩|⟨_,q,_⟩|⟨_,q⟩|⟨_,q⟩|⟨_,q,_⟩|⟨_,q⟩|⟨_,q,_⟩
  ·exact absurd q hto
  ·rw[q,r1]
  ·exact absurd q hto
  ·rw[q,r1]
  ·rw[q,r1]
  ·exact absurd q hto
  ·rw[q,r1]
 subst hti;refine⟨i,rfl,(List.getElem?_eq_some_iff.1 r2).1,?_⟩;obtain⟨xs,x,hL,hR,hx,hx1,hla,hrs,hit⟩:=h.line hat.cl hat.ln;have hca:=K3 h hat.cl;have hkl:=(List.getElem?_eq_some_iff.1 hat.ln).1;have hll:=lt_of_block hL;have e0:R.CF G i P=if l.state≠1\/P.Ag≠c.Ag\/P.seq≠l.seq then G else if P.kind=2 then (if P.part=l.Ah then R.DN (if l.Ah+1<R.Ae l.message then R.AA (R.Al G i k {l with Ah:=l.Ah+1}) i k false else R.Al G i k {l with Ah:=l.Ah+1}) i k else G) else if P.kind=4 then R.DN G i k else if P.kind=5 then R.DG G i P else if P.kind=7 then R.Al G i k {l with state:=4+P.part} else G:=by
  unfold R.CF;simp only;rw[r3,hat.line,R.Bt hat.cl]
 rw[e0];have hst:=hx1.state;have hsq:=hx1.seq;refine Vo w (p.cb i) (p.lb i) c.lines.length k (decide (x.state=1/\c.Ag=P.Ag/\x.seq=P.seq)) P _ hkl r3 hca.a3 (fun wa hb=>?_) (fun hb1 h2 wa hb=>?_) (fun hb1 h2 wa hb=>?_) (fun hb1 h2 wa hb=>?_) (fun hb1 h2 wa hb=>?_) (fun hno wa hb=>?_)
 ·have hl1:=lt_of_cell hca.a3;exact Vs wa (p.cb i) (p.lb i) c.lines.length k c.Ag x.state x.seq P hkl r3 ((hb.cell (p:=⟨p.cb i,1,none⟩) hl1).trans hca.a1) ((hb.cell (p:=⟨p.cb i,3,none⟩) hl1).trans hca.a3) ((hb.cell (p:=⟨p.lb i,k*10,none⟩) hll).trans hla.a0) ((hb.cell (p:=⟨p.lb i,k*10+1,none⟩) hll).trans hla.a1)
 ·have hq:=of_decide_eq_true hb1;have h1:l.state=1:=by omega
  rw[if_neg (by omega),if_pos h2];have hoff:P.off=R.Ae l.message:=by
   have hkey:R.DZ P=⟨i,c.Ag,k,l.seq⟩:=by simp[R.DZ,r1,r3,hq.2.1,<-hsq,hq.2.2]
   rw[hkey]at hd;obtain⟨d',q1,_,q3⟩:=hI.way hat h1;rw[hd]at q1;cases q1;rcases hk with ⟨q,_⟩|⟨q,_,q2⟩|⟨q,_⟩|⟨q,_⟩|⟨q,_⟩|⟨q,_⟩|⟨q,_⟩
   ·omega
   ·rw[q2,q3]
   all_goals omega
  refine((h.below hb).Ah hat h1 r3 hr hoff).mono ?_;rintro e w' ⟨rfl,F',q1,q2⟩;exact⟨rfl,F',q1,(Ay.Aj F hb).trans q2⟩
 ·have hq:=of_decide_eq_true hb1;have h1:l.state=1:=by omega
  rw[if_neg (by omega),if_neg (by omega),if_pos h2];refine((h.below hb).rest hat h1).mono ?_;rintro e w' ⟨rfl,q1,q2⟩;exact⟨rfl,F,q1,(Ay.Aj F hb).trans q2⟩
 ·have hq:=of_decide_eq_true hb1;have h1:l.state=1:=by omega
  rw[if_neg (by omega),if_neg (by omega),if_neg (by omega),if_pos h2];have hkey:R.DZ P=⟨i,c.Ag,k,l.seq⟩:=by simp[R.DZ,r1,r3,hq.2.1,<-hsq,hq.2.2]
  rw[hkey]at hd hk;rcases hk with ⟨q,_⟩|⟨q,_⟩|⟨q,_⟩|⟨q,_⟩|⟨_,_,e,rb,q1,q2,q3⟩|⟨q,_⟩|⟨q,_⟩
  ·omega
  ·omega
  ·omega
  ·omega
  ·refine((h.below hb).XV (ht.below hb) hF0 hI hat h1 r3 hr hd q1 q2 q3).mono ?_;rintro e w' ⟨rfl,F',q1,q2⟩;exact⟨rfl,F',q1,(Ay.Aj F hb).trans q2⟩
  ·omega
  ·omega
 ·have hq:=of_decide_eq_true hb1;have h1:l.state=1:=by omega
  rw[if_neg (by omega),if_neg (by omega),if_neg (by omega),if_neg (by omega),if_pos h2];have hoff:P.off=2:=by
   rcases hk with ⟨q,_⟩|⟨q,_,q2⟩|⟨q,_⟩|⟨q,_⟩|⟨q,_⟩|⟨q,_⟩|⟨_,_,q⟩
   ·omega
   ·omega
   ·omega
   ·omega
   ·omega
   ·omega
   ·exact q
  refine((h.below hb).rejected hat h1 r3 hr hoff).mono ?_;rintro e w' ⟨rfl,F',q1,q2⟩;exact⟨rfl,F',q1,(Ay.Aj F hb).trans q2⟩
 ·have hG:(if l.state≠1\/P.Ag≠c.Ag\/P.seq≠l.seq then G else if P.kind=2 then (if P.part=l.Ah then R.DN (if l.Ah+1<R.Ae l.message then R.AA (R.Al G i k {l with Ah:=l.Ah+1}) i k false else R.Al G i k {l with Ah:=l.Ah+1}) i k else G) else if P.kind=4 then R.DN G i k else if P.kind=5 then R.DG G i P else if P.kind=7 then R.Al G i k {l with state:=4+P.part} else G)=G:=by
   rcases hno with q|q
   ·have hq:=of_decide_eq_false q;rw[if_pos (by omega)]
   ·by_cases hs:l.state≠1\/P.Ag≠c.Ag\/P.seq≠l.seq
    ·rw[if_pos hs]
    ·rw[if_neg hs,if_neg (by omega),if_neg (by omega),if_neg (by omega),if_neg (by omega)]
  rw[hG];exact⟨F,h.below hb,Ay.Aj F hb⟩
theorem Tk(w:World)(n:Nat)(a:Option Addr)(m c:Nat)(i:Int)(hK:w.heap[n]?=some (.cells #[.slice a m c] 113 (0,0))):
  Calls Tryz.prog 65 #[ptr n,.int .i64 i] w fun e w'=>e=.returned (.bool (decide (0<=i/\i<(m:Int))))/\w'=w:=by
 have c1:w.cell? ⟨n,0,none⟩=some (.slice a m c):=cell_of hK 0 _ rfl;clear hK;by_cases h0:0<=i
 ·have e:decide (0<=i/\i<(m:Int))=decide (i<(m:Int)):=by simp[h0]
  rw[e];go_enter Tryz.func65,Tryz.ntmps65;go_wp2
  go_ret
  exact⟨rfl,rfl⟩
 ·have e:decide (0<=i/\i<(m:Int))=false:=by simp[h0]
  rw[e];go_enter Tryz.func65,Tryz.ntmps65;go_wp2
  go_ret
  exact⟨rfl,rfl⟩
theorem Xn(w:World)(n:Nat)(a:Option Addr)(m c:Nat)(i:Int)(hK:w.heap[n]?=some (.cells #[.slice a m c] 113 (0,0)))(hi:i<0\/(m:Int)<=i):
  Calls Tryz.prog 32 #[ptr n,.int .i64 i] w fun e w'=>e=.returned (.tuple #[.int .i64 0,.string ⟨#[]⟩,.int .i64 9])/\w'=w:=by
 have H:=Ab (Tk w n a m c i hK);rw[show decide (0<=i/\i<(m:Int))=false by simp;omega]at H;clear hK hi;go_enter Tryz.func32,Tryz.ntmps32;go_wp2_with (first|(go_at_call 65;refine(Aa H).mono ?_;rintro e w1 ⟨rfl,hw1⟩;rw[hw1];clear hw1))
 go_returns;exact⟨rfl,rfl⟩
theorem Xm(w:World)(n g:Nat)(m c:Nat)(i:Nat)(v0:Int)(v1:ByteArray)(hK:w.heap[n]?=some (.cells #[.slice (some ⟨g,0,none⟩) m c] 113 (0,0)))(hi:i<m)(h0:w.cell? ⟨g,i*3,none⟩=some (.int .i64 v0))(h1:w.cell? ⟨g,i*3+1,none⟩=some (.string v1)):
  Calls Tryz.prog 32 #[ptr n,.int .i64 (i:Int)] w fun e w'=>e=.returned (.tuple #[.int .i64 v0,.string v1,.int .i64 0])/\Below w.heap.size w w':=by
 have H:=Ab (Tk w n (some ⟨g,0,none⟩) m c i hK);rw[show decide (0<=(i:Int)/\(i:Int)<(m:Int))=true by simp;omega]at H;have c1:w.cell? ⟨n,0,none⟩=some (.slice (some ⟨g,0,none⟩) m c):=cell_of hK 0 _ rfl;have q1:(0:Int)<=(i:Int):=by omega
 have q2:(i:Int)<(m:Int):=by omega
 clear hK;go_enter Tryz.func32,Tryz.ntmps32;go_wp2_with (first|(go_at_call 65;refine(Aa H).mono ?_;rintro e w1 ⟨rfl,hw1⟩;rw[hw1];clear hw1))
 go_region_held3 (fun w'=>w'.cell? ⟨n,0,none⟩=some (.slice (some ⟨g,0,none⟩) m c)/\w'.cell? ⟨g,i*3,none⟩=some (.int .i64 v0)/\w'.cell? ⟨g,i*3+1,none⟩=some (.string v1)) (go_keep) (fail)
 go_wp2;go_returns;exact⟨rfl,(Below.refl _ _).drew⟩
theorem N2(w:World)(n:Nat)(a:Option Addr)(m c:Nat)(i:Int)(hK:w.heap[n]?=some (.cells #[.slice a m c] 113 (0,0)))(hi:i<0\/(m:Int)<=i):
  Calls Tryz.prog 50 #[ptr n,.int .i64 i] w fun e w'=>e=.returned (.tuple #[.int .i64 0,.string ⟨#[]⟩,.int .i64 9])/\w'=w:=by
 have H:=Ab (Xn w n a m c i hK hi);clear hK hi;go_enter Tryz.func50,Tryz.ntmps50;go_wp2_with (first|(go_at_call 32;refine(Aa H).mono ?_;rintro e w1 ⟨rfl,hw1⟩;rw[hw1];clear hw1))
 go_returns;exact⟨rfl,rfl⟩
theorem Zk(w:World)(n:Nat)(K:Value)(fl:List R.Fl)(i:Nat)(f:R.Fl)(hK:w.heap[n]?=some (.cells #[K] 113 (0,0)))(hrow:w.ownsRow 0 122 3 K fl.length (tab C6 fl))(hf:fl[i]?=some f)(h40:fl.length<=40):
  Calls Tryz.prog 50 #[ptr n,.int .i64 (i:Int)] w fun e w'=>e=.returned (.tuple #[.int .i64 f.to,.string (str f.s),.int .i64 0])/\Ge w n K (fl.eraseIdx i) w':=by
 have hi:=(List.getElem?_eq_some_iff.1 hf).1;rcases hrow.2 with ⟨_,h0⟩|⟨g,cap,cur,rfl,_,hg,hcap,hmax,hsz,htk⟩
 ·omega
 have q:∀j,j<3->cur[i*3+j]?=(C6 f)[j]?:=fun j hj=>by
  rw[<-GG IU fl i j f hf hj,<-htk,List.getElem?_take,if_pos (by omega)];simp
 have v0:w.cell? ⟨g,i*3,none⟩=some (.int .i64 f.to):=by
  have:=q 0 (by omega);simp[World.cell?,hg];simpa [C6] using this
 have v1:w.cell? ⟨g,i*3+1,none⟩=some (.string (str f.s)):=by
  have:=q 1 (by omega);simp[World.cell?,hg];simpa [C6] using this
 have hng:n≠g:=Bi hK hg (by decide);have H:=Ab (Xm w n g fl.length cap i f.to (str f.s) hK hi v0 v1);have HD:Hid (∀w',Below w.heap.size w w'->Calls Tryz.prog 84 #[.slice (some ⟨g,0,none⟩) fl.length cap,.int .i64 (i:Int),.int .i64 ((i:Int)+1)] w' fun e w''=>e=.returned (.slice (some ⟨g,0,none⟩) (fl.length-1) cap)/\w''.heap[n]?=some (.cells #[.slice (some ⟨g,0,none⟩) fl.length cap] 113 (0,0))/\Ge w n (.slice (some ⟨g,0,none⟩) fl.length cap) (fl.eraseIdx i) (w''.setCell ⟨n,0,none⟩ (.slice (some ⟨g,0,none⟩) (fl.length-1) cap))):=fun w' hb=>by
  refine(YO w' g fl.length cap i cur fl ((hb.block g (Array.getElem?_eq_some_iff.1 hg).1).trans hg) rfl hcap hmax hsz htk hi).mono ?_;rintro e w'' ⟨rfl,⟨cur',k1,k2,k3⟩,hk⟩;have hK':w''.heap[n]?=some (.cells #[.slice (some ⟨g,0,none⟩) fl.length cap] 113 (0,0)):=by
   have:=(hb.block n (Array.getElem?_eq_some_iff.1 hK).1).trans hK;exact hk.at this hng
  have hlen:(fl.eraseIdx i).length=fl.length-1:=by rw[List.length_eraseIdx,if_pos hi]
  refine⟨rfl,hK',⟨⟨.slice (some ⟨g,0,none⟩) (fl.length-1) cap,?_,?_,Or.inl rfl⟩,?_⟩⟩
  ·exact Ak (cs:=[.slice (some ⟨g,0,none⟩) fl.length cap]) (off:=0) hK' _
  ·refine⟨?_,Or.inr ⟨g,cap,cur',by rw[hlen],Nat.zero_le _,?_,by rw[hlen];omega,hmax,k2,by rw[hlen];exact k3⟩⟩
   ·rw[I5 IU,Nat.mul_comm]
   ·rw[Below.heap_setCell _ _ _ _ (fun e=>hng e.symm)];exact k1
  ·have hk0:Af (fun k=>k=n\/(Value.slice (some ⟨g,0,none⟩) fl.length cap).ownBlock=some k) w w'':=(Af.Aj hb _).trans (hk.mono (fun k _ e=>Or.inr (by rw[e];rfl)));exact hk0.setCell (p:=⟨n,0,none⟩) (Or.inl (Or.inl rfl)) _
 have c1:w.cell? ⟨n,0,none⟩=some (.slice (some ⟨g,0,none⟩) fl.length cap):=cell_of hK 0 _ rfl;have hln:=lt_of_block hK;have e1:IntKind.i64.wrap ((i:Int)+1)=(i:Int)+1:=by rw[IntKind.wrap_i64];omega
 generalize Ge w n (.slice (some ⟨g,0,none⟩) fl.length cap) (fl.eraseIdx i)=Post at *;generalize str f.s=SF at *;generalize fl.length-1=L1 at *;generalize fl.length=L0 at *;clear q hK hrow hf hg hsz htk v0 v1;go_enter Tryz.func50,Tryz.ntmps50;go_wp2_with fail
 refine(Aa H).mono ?_;rintro e w1 ⟨rfl,hb1⟩;have HC:=Ab ((Aa HD) w1 hb1);have d1:w1.cell? ⟨n,0,none⟩=some (.slice (some ⟨g,0,none⟩) L0 cap):=(hb1.cell (p:=⟨n,0,none⟩) hln).trans c1;clear hb1;go_wp2_with fail
 refine(Aa HC).mono ?_;rintro e w2 ⟨rfl,hK2,hpost⟩;have d2:w2.cell? ⟨n,0,none⟩=some (.slice (some ⟨g,0,none⟩) L0 cap):=cell_of hK2 0 _ rfl;have z2:w2.frozen? ⟨n,0,none⟩=false:=open_list hK2;have hl2:=lt_of_block hK2;have HP:=Ab hpost;clear hK2 hpost;go_wp2;go_returns;exact⟨rfl,Aa HP⟩
theorem R.Wf.Y9{G:R.Wd}(h:R.Wf G){fl:List R.Fl}(h1:fl.length<=40)(h2:∀f∈fl,f.s.length<=21):R.Wf {G with Ao:=fl}:=⟨h.cf,h.KF,fun j c hc=>⟨(h.cl j c hc).lines,(h.cl j c hc).Ag,(h.cl j c hc).bound,(h.cl j c hc).line⟩,h1,h2,h.sv,h.MA,h.nm,h.st,h.nd,h.Ma⟩
theorem R.Wf.erase{G:R.Wd}(h:R.Wf G)(k:Nat):R.Wf {G with Ao:=G.Ao.eraseIdx k}:=R.Wf.Y9 h (by
 have:=List.length_eraseIdx_le (l:=G.Ao) (i:=k);have:=h.Ih;omega) (fun f hf=>h.Hf f (List.mem_of_mem_eraseIdx hf))
theorem LW.land{p:Pl}{F:Aq}{G:R.Wd}{w:World}(h:LW p F G w){i:Nat}{f:R.Fl}(hf:G.Ao[i]?=some f):
  Calls Tryz.prog 50 #[ptr p.n,.int .i64 (i:Int)] w fun e w'=>e=.returned (.tuple #[.int .i64 f.to,.string (str f.s),.int .i64 0])/\∃F',LW p F' {G with Ao:=G.Ao.eraseIdx i} w'/\Ay F F' w w':=by
 obtain⟨K,hK,hrow,hF⟩:=h.bn;refine(Zk w p.n K G.Ao i f hK hrow hf h.wf.Ih).mono ?_;rintro e w' ⟨rfl,hn⟩;exact⟨rfl,h.net hK hrow hn hF (R.Wf.erase h.wf i)⟩
theorem LW.N2{p:Pl}{F:Aq}{G:R.Wd}{w:World}(h:LW p F G w){i:Int}(hi:R.off G i):Calls Tryz.prog 50 #[ptr p.n,.int .i64 i] w fun e w'=>e=.returned (.tuple #[.int .i64 0,.string ⟨#[]⟩,.int .i64 9])/\w'=w:=by
 obtain⟨K,hK,hrow,hF⟩:=h.bn;obtain⟨a,c,rfl⟩:=Bg hrow;exact YtblomippkddgiaaGreatDoor.N2 w p.n a G.Ao.length c i hK hi
end Go.Proofs.YtblomippkddgiaaGreatDoor
