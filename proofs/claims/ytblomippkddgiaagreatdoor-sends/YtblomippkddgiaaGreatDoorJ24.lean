import Derived.Test.YtblomippkddgiaaGreatDoorJ23
set_option maxRecDepth 100000
set_option maxHeartbeats 4000000
namespace Go.Proofs.YtblomippkddgiaaGreatDoor
open Go.RowKit
theorem Ph(w:World)(s b:Nat)(wt tr rt:Int)(Post:World->Prop)(s2:w.cell? ⟨s,2,none⟩=some (.int .i64 rt))(a9:w.cell? ⟨b,9,none⟩=some (.int .i64 wt))(a10:w.cell? ⟨b,10,none⟩=some (.int .i64 tr))(z9:w.frozen? ⟨b,9,none⟩=false)(z10:w.frozen? ⟨b,10,none⟩=false)(hne:¬s=b)(hwt:1<=wt/\wt<=8)(htr:0<=tr/\tr<=6)
  (HA:Hid (1<wt\/tr=0->Post (w.setCell ⟨b,9,none⟩ (.int .i64 (wt-1)))))
  (HC:Hid (wt=1->0<tr->Calls Tryz.prog 123 #[ptr s,ptr b] (((w.setCell ⟨b,9,none⟩ (.int .i64 (wt-1))).setCell ⟨b,10,none⟩ (.int .i64 (tr-1))).setCell ⟨b,9,none⟩ (.int .i64 rt)) fun e w'=>e=.returned (.tuple #[])/\Post w')):
  Calls Tryz.prog 72 #[ptr s,ptr b] w fun e w'=>e=.returned (.tuple #[])/\Post w':=by
 have e1:IntKind.i64.wrap (wt-1)=wt-1:=by rw[IntKind.wrap_i64];omega
 have e2:IntKind.i64.wrap (tr-1)=tr-1:=by rw[IntKind.wrap_i64];omega
 have hne':¬b=s:=fun e=>hne e.symm
 have hl1:=lt_of_cell s2;have hl2:=lt_of_cell a9;by_cases h1:1<wt
 ·have q1:0<wt-1:=by omega
  have HP:=Ab ((Aa HA) (Or.inl h1));clear HA HC;go_enter Tryz.func72,Tryz.ntmps72;go_wp2;refine Ch 0 rfl ?_;go_wp2;refine GF ?_;go_wp2;go_returns;exact⟨rfl,Aa HP⟩
 ·have hw1:wt=1:=by omega
  by_cases h2:tr=0
  ·have HP:=Ab ((Aa HA) (Or.inr h2));clear HA HC;subst hw1 h2;go_enter Tryz.func72,Tryz.ntmps72;go_wp2;refine Ch 0 rfl ?_;go_wp2;refine GF ?_;go_wp2;go_returns;exact⟨rfl,Aa HP⟩
  ·have h3:0<tr:=by omega
   have HP:=Ab ((Aa HC) hw1 h3);clear HA HC;subst hw1;go_enter Tryz.func72,Tryz.ntmps72;go_wp2;refine Ch 0 rfl ?_;go_wp2
   go_step3
   refine⟨rfl,?_⟩;show Code.wp Tryz.prog _ _ _ _;go_wp2_with (first|(go_at_call 123;refine(Aa HP).mono ?_;rintro e w3 ⟨rfl,hw3⟩))
   refine Ig ?_;go_wp2;go_returns;exact⟨rfl,hw3⟩
theorem LW.ZS{p:Pl}{F:Ag}{G:R.Wd}{w:World}(h:LW p F G w){i:Nat}{r:R.Sn}{y:Na}(hq:Zb p G w i r y)(ht:r.timed=true):
  Calls Tryz.prog 72 #[ptr p.s,ptr (p.t.ql i)] w fun e w'=>e=.returned (.tuple #[])/\∃F',LW p F' (R.Ay G i) w'/\Ah F F' w w':=by
 have hs:=h.CF.sn i r hq.seen;obtain⟨t1,t3,t4⟩:=hs.timed ht;have hrel:=hq.rel;have ew:y.wait=r.wait:=by rw[hrel.wait,if_pos ht]
 have et:=hrel.tries ht;have hcf:=h.wf.cf;unfold R.Cj at hcf;obtain⟨_,_,_,_,_,_,_,_,_,c9,c10⟩:=Zf hq.blk;rw[ew]at c9;rw[et]at c10;have z:∀{r':R.Sn},r'.seq=r.seq->(r'.seq=0->r'=R.Ef):=fun e q=>absurd (e ▸ q) hq.ne
 have etick:R.Ay G i=if 1<r.wait then R.CU G i {r with wait:=r.wait-1} else if r.tries=0 then R.CU G i {r with wait:=r.wait-1,timed:=false} else R.BJ (R.CU G i {r with wait:=G.c.Al,tries:=r.tries-1}) i:=by
  unfold R.Ay;simp only;rw[R.Ex hq.seen,if_neg (by simp[ht])]
 rw[etick];refine Ph w p.s (p.t.ql i) r.wait r.tries G.c.Al _ (h.Eb.cell 2 _ rfl) c9 c10 (open_list hq.blk) (open_list hq.blk) (h.ZG hq) t3 t4 ?_ ?_
 ·intro hx;by_cases h1:1<r.wait
  ·rw[if_pos h1];obtain⟨q1,_,q2⟩:=h.Kf (r':={r with wait:=r.wait-1}) (y':={y with wait:=r.wait-1}) hq hq.ne (Ai _) (GU (j:=9) (v:=.int .i64 (r.wait-1)) hq.blk rfl) ⟨hrel.client,hrel.Ax,hrel.line,hrel.seq,hrel.uid,hrel.state,hrel.asked,hrel.ans,by simp[ht],hrel.tries⟩ ⟨z rfl,hs.seq,hs.some,hs.Yf,hs.wait,hs.ans,fun _=>⟨t1,by simp only;omega,t4⟩⟩;exact⟨F,q1,q2⟩
  ·have h2:r.tries=0:=by omega
   rw[if_neg h1,if_pos h2];obtain⟨q1,_,q2⟩:=h.Kf (r':={r with wait:=r.wait-1,timed:=false}) (y':={y with wait:=r.wait-1}) hq hq.ne (Ai _) (GU (j:=9) (v:=.int .i64 (r.wait-1)) hq.blk rfl) ⟨hrel.client,hrel.Ax,hrel.line,hrel.seq,hrel.uid,hrel.state,hrel.asked,hrel.ans,by simp only[if_neg (show ¬(false:Bool)=true by decide)];omega,by simp⟩ ⟨z rfl,hs.seq,hs.some,hs.Yf,hs.wait,hs.ans,by simp⟩;exact⟨F,q1,q2⟩
 ·intro h1 h2;rw[if_neg (by omega),if_neg (by omega)];obtain⟨q1,q0,q2⟩:=h.Kf (r':={r with wait:=G.c.Al,tries:=r.tries-1}) (y':={y with wait:=G.c.Al,tries:=r.tries-1}) hq hq.ne (((Ai _).trans (Ai _)).trans (Ai _)) (GU (j:=9) (v:=.int .i64 G.c.Al) (y:={y with wait:=r.wait-1,tries:=r.tries-1}) (GU (j:=10) (v:=.int .i64 (r.tries-1)) (y:={y with wait:=r.wait-1}) (GU (j:=9) (v:=.int .i64 (r.wait-1)) hq.blk rfl) rfl) rfl) ⟨hrel.client,hrel.Ax,hrel.line,hrel.seq,hrel.uid,hrel.state,hrel.asked,hrel.ans,by simp[ht],by simp⟩ ⟨z rfl,hs.seq,hs.some,hs.Yf,hs.wait,hs.ans,fun _=>⟨t1,by simp only;omega,by simp only;omega⟩⟩;refine(q1.O0 q0 t1).mono ?_;rintro e w' ⟨rfl,F',g1,g2⟩;exact⟨rfl,F',g1,q2.trans g2⟩
theorem Pg(w:World)(s n:Nat)(bs:Nat->Nat)(J:Value->Nat->World->Prop)(hn:n<=9)
  (H71:Hid (Calls Tryz.prog 71 #[ptr s] w fun e w'=>∃O,e=.returned O/\J O 0 w'))
  (HS:Hid (∀O k wr,J O k wr->∃a c,O=.slice a n c))
  (HR:Hid (∀O k wr,k<n->J O k wr->∃g c,O=.slice (some ⟨g,0,none⟩) n c/\wr.cell? ⟨g,k,none⟩=some (ptr (bs k))/\∃x,wr.cell? ⟨bs k,9,none⟩=some (.int .i64 x)/\(0<x->Calls Tryz.prog 72 #[ptr s,ptr (bs k)] wr fun e w'=>e=.returned (.tuple #[])/\J O (k+1) w')/\(¬0<x->J O (k+1) wr))):
  Calls Tryz.prog 37 #[ptr s] w fun e w'=>e=.returned (.tuple #[])/\∃O,J O n w':=by
 go_enter Tryz.func37,Tryz.ntmps37;go_wp2_with fail
 refine(Aa H71).mono ?_;rintro e w1 ⟨O,rfl,hJ⟩;obtain⟨a,c,hO⟩:=(Aa HS) O 0 w1 hJ;subst hO;have H0:=Ab hJ;clear hJ;go_wp2;go_loopw [7] (fun iv wr=>∃k:Nat,k<=n/\iv=.int .i64 k/\J (.slice a n c) k wr) (fun iv _=>n-(intOf iv).toNat)
 case atStart=>exact⟨0,Nat.zero_le _,rfl,Aa H0⟩
 case round=>
  obtain⟨k,hk,rfl,hJ⟩:=hrel;by_cases hlt:k<n
  ·obtain⟨g,c',hO,hcell,x,hx,hyes,hno⟩:=(Aa HR) _ k wr hlt hJ;cases hO;have HY:=Ab hyes;have HN:=Ab hno;clear hyes hno hJ;by_cases h1:0<x
   ·have HC:=Ab ((Aa HY) h1);go_wp2_with (first|(go_at_call 72;refine(Aa HC).mono ?_;rintro e w3 ⟨rfl,hw3⟩))
    go_roundw
    case rel=>exact⟨k+1,by omega,by go_num,hw3⟩
    case measure=>simp[intOf];omega
   ·have HI:=Ab ((Aa HN) (by omega));go_wp2;go_roundw
    case rel=>exact⟨k+1,by omega,by go_num,Aa HI⟩
    case measure=>simp[intOf];omega
  ·obtain rfl:k=n:=by omega
   have HI:=Ab hJ;clear hJ;go_wp2;go_returns;exact⟨rfl,_,Aa HI⟩
def Cn(G:R.Wd)(i n:Nat):R.Wd:=(List.range n).foldl (fun (G:R.Wd) (k:Nat)=>R.AB G (i:Int) (k:Int)) G
theorem Ey(G:R.Wd)(i n:Nat):Cn G i (n+1)=R.AB (Cn G i n) i n:=by
 simp[Cn,List.range_succ]
theorem Xm(G:R.Wd)(to:Int)(p:Pk):(R.BM G to p).c=G.c:=by unfold R.BM;split<;>rfl
theorem Gd(G:R.Wd)(to:Int)(p:Pk):(R.BM G to p).Ad=G.Ad:=by unfold R.BM;split<;>rfl
theorem Pm(G:R.Wd)(i k:Nat):(R.AB G i k).c=G.c:=by
 unfold R.AB R.A9 R.Fg;simp only;repeat' split
 all_goals first|rfl|(rw[Xm];rfl)
theorem GL(G:R.Wd)(i n:Nat):(Cn G i n).c=G.c:=by
 induction n with
 |zero=>rfl
 |succ n ih=>rw[Ey,Pm,ih]
theorem Gf{G:R.Wd}{i k:Nat}{l:R.Ln}(hl:R.Da G i k=l)(h:¬l.state=1):R.AB G i k=G:=by
 unfold R.AB;simp only[hl];rw[if_pos h]
def CQ(G:R.Wd)(n:Nat):R.Wd:=(List.range n).foldl (fun (G:R.Wd) (i:Nat)=>YtblomippkddgiaaGreatDoor.Cn G i G.c.lines.toNat) G
theorem Fp(G:R.Wd)(n:Nat):CQ G (n+1)=YtblomippkddgiaaGreatDoor.Cn (CQ G n) n (CQ G n).c.lines.toNat:=by
 simp[CQ,List.range_succ]
theorem ID(G:R.Wd)(n:Nat):(CQ G n).c=G.c:=by
 induction n with
 |zero=>rfl
 |succ n ih=>rw[Fp,GL,ih]
theorem GM(G:R.Wd):R.Eo G=CQ G G.Ad.length:=rfl
theorem Ls(G:R.Wd)(i k:Nat):(R.AB G i k).Ad.length=G.Ad.length:=by
 unfold R.AB R.A9 R.Fg;simp only;repeat' split
 all_goals first|rfl|(rw[Gd];simp[R.Ar];done)|(simp[R.Ar];done)
theorem Hr(G:R.Wd)(i n:Nat):(Cn G i n).Ad.length=G.Ad.length:=by
 induction n with
 |zero=>rfl
 |succ n ih=>rw[Ey,Ls,ih]
theorem Ku(G:R.Wd)(n:Nat):(CQ G n).Ad.length=G.Ad.length:=by
 induction n with
 |zero=>rfl
 |succ n ih=>rw[Fp,Hr,ih]
theorem JS{G:R.Wd}(h:G.seen=List.replicate 9 R.Ef)(i:Nat):R.Ay G i=G:=by
 have:R.D7 G i=R.Ef:=by
  unfold R.D7;rw[h,List.getElem?_replicate];split<;>rfl
 unfold R.Ay;rw[this];rfl
theorem Pn{G:R.Wd}(h:(R.Eo G).seen=List.replicate 9 R.Ef):R.FK G=R.Eo G:=by
 unfold R.FK;generalize R.Eo G=K at *;have:∀l:List Nat,l.foldl R.Ay K=K:=fun l=>by
  induction l with
  |nil=>rfl
  |cons a l ih=>rw[List.foldl_cons,JS h,ih]
 exact this _
theorem SL(w:World)(cb lb nl:Nat)(I:Nat->World->Prop)(h0:I 0 w)(hc:Hid (∀k wr,I k wr->wr.cell? ⟨cb,3,none⟩=some (.slice (some ⟨lb,0,none⟩) nl nl)))
  (hr:Hid (∀k wr,k<nl->I k wr->∃st,wr.cell? ⟨lb,k*10,none⟩=some (.int .i64 st)/\(st=1->Calls Tryz.prog 70 #[ptr cb,.int .i64 (k:Int)] wr fun e w'=>e=.returned (.tuple #[])/\I (k+1) w')/\(¬st=1->I (k+1) wr))) (hn:nl<=1000):
  Calls Tryz.prog 36 #[ptr cb] w fun e w'=>e=.returned (.tuple #[])/\I nl w':=by
 have b3:=(Aa hc) 0 w h0;have H0:=Ab h0;clear h0;go_enter Tryz.func36,Tryz.ntmps36;go_wp2;go_loopw [8] (fun iv wr=>∃k:Nat,k<=nl/\iv=.int .i64 k/\I k wr) (fun iv _=>nl-(intOf iv).toNat)
 case atStart=>exact⟨0,Nat.zero_le _,rfl,Aa H0⟩
 case round=>
  obtain⟨k,hk,rfl,hI⟩:=hrel;have d3:=(Aa hc) k wr hI;by_cases hlt:k<nl
  ·obtain⟨st,hst,hyes,hno⟩:=(Aa hr) k wr hlt hI;have HY:=Ab hyes;have HN:=Ab hno;clear hyes hno;by_cases h1:st=1
   ·have HC:=Ab ((Aa HY) h1);subst h1;go_wp2_with (first|(go_at_call 70;refine(Aa HC).mono ?_;rintro e w3 ⟨rfl,hw3⟩))
    go_roundw
    case rel=>exact⟨k+1,by omega,by go_num,hw3⟩
    case measure=>simp[intOf];omega
   ·have e1:(st==1)=false:=by simpa using h1
    have HI:=Ab ((Aa HN) h1);go_wp2;go_roundw
    case rel=>exact⟨k+1,by omega,by go_num,Aa HI⟩
    case measure=>simp[intOf];omega
  ·obtain rfl:k=nl:=by omega
   go_wp2;go_returns;exact⟨rfl,hI⟩
theorem Po(w:World)(x sv cs n cap:Nat)(cb:Nat->Nat)(I:Nat->World->Prop)(Post:World->Prop)(h0:I 0 w)(hx:w.cell? ⟨x,2,none⟩=some (.slice (some ⟨cs,0,none⟩) n cap))
  (hr:Hid (∀i wr,i<n->I i wr->wr.cell? ⟨cs,i,none⟩=some (ptr (cb i))/\Calls Tryz.prog 36 #[ptr (cb i)] wr fun e w'=>e=.returned (.tuple #[])/\I (i+1) w')) (hn:n<=1000)
  (hs:Hid (∀wr,I n wr->wr.cell? ⟨x,1,none⟩=some (ptr sv)/\Calls Tryz.prog 37 #[ptr sv] wr fun e w'=>e=.returned (.tuple #[])/\Post w')):
  Calls Tryz.prog 15 #[ptr x] w fun e w'=>e=.returned (.tuple #[])/\Post w':=by
 have H0:=Ab h0;clear h0;go_enter Tryz.func15,Tryz.ntmps15;go_wp2;go_loopw [9] (fun iv wr=>∃k:Nat,k<=n/\iv=.int .i64 k/\I k wr) (fun iv _=>n-(intOf iv).toNat)
 case atStart=>exact⟨0,Nat.zero_le _,rfl,Aa H0⟩
 case round=>
  obtain⟨k,hk,rfl,hI⟩:=hrel;by_cases hlt:k<n
  ·obtain⟨hst,hC⟩:=(Aa hr) k wr hlt hI;have HC:=Ab hC;clear hC;go_wp2_with (first|(go_at_call 36;refine(Aa HC).mono ?_;rintro e w3 ⟨rfl,hw3⟩))
   go_roundw
   case rel=>exact⟨k+1,by omega,by go_num,hw3⟩
   case measure=>simp[intOf];omega
  ·obtain rfl:k=n:=by omega
   obtain⟨hst,hC⟩:=(Aa hs) wr hI;have HC:=Ab hC;clear hC;go_wp2_with (first|(go_at_call 37;refine(Aa HC).mono ?_;rintro e w3 ⟨rfl,hw3⟩))
   go_returns;exact⟨rfl,hw3⟩
theorem LW.Cn{p:Pl}{F:Ag}{G:R.Wd}{w:World}(h:LW p F G w){i:Nat}(hi:i<G.Ad.length):
  Calls Tryz.prog 36 #[ptr (p.cb i)] w fun e w'=>e=.returned (.tuple #[])/\∃F',LW p F' (YtblomippkddgiaaGreatDoor.Cn G i G.c.lines.toNat) w'/\Ah F F' w w':=by
 have get:∀{F':Ag} {n:Nat} {wr:World},LW p F' (YtblomippkddgiaaGreatDoor.Cn G i n) wr->∃c,(YtblomippkddgiaaGreatDoor.Cn G i n).Ad[i]?=some c/\c.lines.length=G.c.lines.toNat:=fun {F' n wr} hw=>by
  have e1:=hw.wf.JL;have e0:=h.wf.JL;rw[GL,<-e0]at e1;have hlt:i<(YtblomippkddgiaaGreatDoor.Cn G i n).Ad.length:=by omega
  refine⟨_,List.getElem?_eq_getElem hlt,?_⟩;have:=(hw.wf.cl i _ (List.getElem?_eq_getElem hlt)).lines;rw[GL]at this;omega
 have hlb:∀{F':Ag} {n:Nat} {wr:World},LW p F' (YtblomippkddgiaaGreatDoor.Cn G i n) wr->wr.cell? ⟨p.cb i,3,none⟩=some (.slice (some ⟨p.lb i,0,none⟩) G.c.lines.toNat G.c.lines.toNat):=fun {F' n wr} hw=>by
  obtain⟨c,hc,hl⟩:=get hw;have:=(KM hw hc).a3;rw[hl]at this;exact this
 have hcf:=h.wf.cf;unfold R.Cj at hcf;refine SL w (p.cb i) (p.lb i) G.c.lines.toNat (fun n wr=>∃F',LW p F' (YtblomippkddgiaaGreatDoor.Cn G i n) wr/\Ah F F' w wr) ⟨F,h,Ah.refl F w⟩ ?_ ?_ (by omega)
 ·rintro k wr ⟨F',hw,_⟩;exact hlb hw
 ·rintro k wr hk ⟨F',hw,hwt⟩;obtain⟨c,hc,hl⟩:=get hw;have hlk:c.lines[k]?=some (c.lines[k]'(by omega)):=List.getElem?_eq_getElem (by omega);obtain⟨xs,x,hL,hR,hx,hx1,hla,_⟩:=hw.line hc hlk;refine⟨x.state,hla.a0,fun h1=>?_,fun h1=>?_⟩
  ·refine(hw.wait hc hlk (by rw[<-hx1.state];exact h1)).mono ?_;rintro e w' ⟨rfl,F'',q1,q2⟩;exact⟨rfl,F'',by rw[Ey];exact q1,hwt.trans q2⟩
  ·refine⟨F',?_,hwt⟩;rw[Ey,Gf (R.Bc hc hlk) (by rw[<-hx1.state];exact h1)];exact hw
def GD(seen:List R.Sn)(i:Nat):Bool:=decide (((seen[i]?).getD R.Ef).seq≠0)
def idx(seen:List R.Sn):List Nat:=(List.range 9).filter (GD seen)
theorem MB(t:SP)(seen:List R.Sn)(n:Nat):EY (qf t seen) n=((List.range n).filter (GD seen)).map fun i=>ptr (t.ql i):=by
 induction n with
 |zero=>rfl
 |succ n ih=>
  rw[Hd,ih,List.range_succ,List.filter_append,List.map_append];unfold qf;by_cases h:((seen[n]?).getD R.Ef).seq=0
  ·simp[h,GD]
  ·simp[h,GD]
theorem MC(t:SP)(seen:List R.Sn):EY (qf t seen) 9=(idx seen).map fun i=>ptr (t.ql i):=MB t seen 9
theorem Ka(seen:List R.Sn):(idx seen).Nodup:=(List.nodup_range).filter _
theorem PY(seen:List R.Sn):(idx seen).length<=9:=by
 have:=List.length_filter_le (GD seen) (List.range 9);rw[List.length_range]at this;exact this
theorem Hm(G:R.Wd){j i:Nat}(h:i≠j)(r:R.Sn):(R.CU G j r).seen[i]?=G.seen[i]?:=by
 unfold R.CU;simp only;rw[List.getElem?_set,if_neg (fun e=>h e.symm)]
theorem FL(G:R.Wd)(j:Nat):(R.Ay G j).Ao=G.Ao/\(R.Ay G j).c=G.c/\∀i,i≠j->(R.Ay G j).seen[i]?=G.seen[i]?:=by
 unfold R.Ay;simp only;repeat' split
 ·exact⟨rfl,rfl,fun i _=>rfl⟩
 ·exact⟨rfl,rfl,fun i hi=>Hm G hi _⟩
 ·exact⟨rfl,rfl,fun i hi=>Hm G hi _⟩
 ·exact⟨by rw[Hl];rfl,by rw[Ll];rfl,fun i hi=>by rw[Iq];exact Hm G hi _⟩
theorem Kv:∀(l:List Nat) (G:R.Wd),(l.foldl R.Ay G).Ao=G.Ao/\(l.foldl R.Ay G).c=G.c/\∀i,i ∉ l->(l.foldl R.Ay G).seen[i]?=G.seen[i]?
 |[],G=>⟨rfl,rfl,fun _ _=>rfl⟩
 |j :: l,G=>by
  obtain⟨a1,a2,a3⟩:=Kv l (R.Ay G j);obtain⟨b1,b2,b3⟩:=FL G j;rw[List.foldl_cons];refine⟨a1.trans b1,a2.trans b2,fun i hi=>?_⟩;simp only[List.mem_cons,not_or]at hi;exact(a3 i hi.2).trans (b3 i hi.1)
theorem Hs{seen:List R.Sn}(hz:∀(i:Nat) (r:R.Sn),seen[i]?=some r->r.seq=0->r=R.Ef):∀(l:List Nat) (G:R.Wd),l.Nodup->(∀i∈l,G.seen[i]?=seen[i]?)->l.foldl R.Ay G=(l.filter (GD seen)).foldl R.Ay G
 |[],G,_,_=>rfl
 |j :: l,G,hn,hs=>by
  rw[List.nodup_cons]at hn;rw[List.foldl_cons,List.filter_cons];by_cases h:GD seen j=true
  ·rw[if_pos h,List.foldl_cons];refine Hs hz l (R.Ay G j) hn.2 (fun i hi=>?_);rw[(FL G j).2.2 i (fun e=>hn.1 (e ▸ hi))];exact hs i (List.mem_cons_of_mem _ hi)
  ·rw[if_neg h];have h0:R.D7 G j=R.Ef:=by
    unfold R.D7;rw[hs j List.mem_cons_self];have h:((seen[j]?).getD R.Ef).seq=0:=by simpa [GD] using h
    cases hr:seen[j]? with
    |none=>rfl
    |some r=>
     rw[hr]at h;rw[hz j r hr (by simpa using h)];rfl
   have e:R.Ay G j=G:=by
    unfold R.Ay;simp only;rw[h0,if_pos (show R.Ef.timed=false from rfl)]
   rw[e];exact Hs hz l G hn.2 (fun i hi=>hs i (List.mem_cons_of_mem _ hi))
theorem Gj{α β:Type}(f:α->β->α)(a:α)(l:List β)(k:Nat)(x:β)(h:l[k]?=some x):(l.take (k+1)).foldl f a=f ((l.take k).foldl f a) x:=by
 rw[List.take_add_one,h];simp
theorem LW.ZR{p:Pl}{F:Ag}{G:R.Wd}{w:World}(h:LW p F G w):
  Calls Tryz.prog 37 #[ptr p.s] w fun e w'=>e=.returned (.tuple #[])/\∃F',LW p F' ((List.range 9).foldl R.Ay G) w'/\Ah F F' w w':=by
 have hfold:(List.range 9).foldl R.Ay G=(idx G.seen).foldl R.Ay G:=Hs (seen:=G.seen) (fun i r hr h0=>(h.CF.sn i r hr).zero h0) (List.range 9) G List.nodup_range (fun _ _=>rfl);rw[hfold];have hlen:=PY G.seen;refine(Pg w p.s (idx G.seen).length (fun k=>p.t.ql ((idx G.seen).getD k 0)) (fun O k wr=>∃F',LW p F' (((idx G.seen).take k).foldl R.Ay G) wr/\Ah F F' w wr/\wr.ownsRow w.heap.size 143 1 O (idx G.seen).length ((idx G.seen).map fun i=>ptr (p.t.ql i))/\∀j,O.ownBlock=some j->¬F' j) hlen ?_ ?_ ?_).mono ?_
 ·refine h.Eb.rem.mono ?_;rintro e w1 ⟨O,rfl,hrow,hb⟩;rw[MC,List.length_map]at hrow;refine⟨O,rfl,F,h.below hb,Ah.Aq F hb,hrow,fun j hj hF=>?_⟩;have h1:=((World.ownsRow.lt hrow) j hj).1;have h2:=h.lt j hF;omega
 ·rintro O k wr ⟨F',_,_,hrow,_⟩;exact Bu hrow
 ·rintro O k wr hk ⟨F',hw,hwt,hrow,hap⟩;have hik:(idx G.seen)[k]?=some ((idx G.seen)[k]):=List.getElem?_eq_getElem hk;have hgd:(idx G.seen).getD k 0=(idx G.seen)[k]:=by rw[List.getD_eq_getElem?_getD,hik];rfl
  rw[hgd];generalize hi:(idx G.seen)[k]=i at hik;have hmem:i∈idx G.seen:=List.mem_of_getElem? hik;have hin:GD G.seen i=true:=(List.mem_filter.1 hmem).2;have hi9:i<9:=by simpa using (List.mem_filter.1 hmem).1
  have hr:G.seen[i]?=some (R.D7 G i):=by
   have hl:i<G.seen.length:=by rw[h.CF.sl];exact hi9
   rw[R.Ex (List.getElem?_eq_getElem hl)];exact List.getElem?_eq_getElem hl
  have hne:(R.D7 G i).seq≠0:=by
   have:((G.seen[i]?).getD R.Ef).seq≠0:=by simpa [GD] using hin
   exact this
  have hnot:i ∉ (idx G.seen).take k:=fun hm=>by
   obtain⟨j,hj⟩:=List.mem_iff_getElem?.1 hm;rw[List.getElem?_take]at hj;split at hj
   ·have hjk:j=k:=by
     have hjl:=(List.getElem?_eq_some_iff.1 hj).1;exact(List.getElem?_inj hjl (Ka G.seen)).1 (hj.trans hik.symm)
    omega
   ·cases hj
  have hr':(((idx G.seen).take k).foldl R.Ay G).seen[i]?=some (R.D7 G i):=by rw[(Kv _ G).2.2 i hnot];exact hr
  obtain⟨y,hq,_⟩:=hw.q hr' hne;obtain⟨_,_,_,_,_,_,_,_,_,c9,_⟩:=Zf hq.blk;have hs:=hw.CF.sn i _ hr';rcases hrow.2 with ⟨_,h0⟩|⟨g,cap,cur,rfl,_,hg,_,_,hsz,htk⟩
  ·omega
  ·refine⟨g,cap,rfl,?_,y.wait,c9,fun hx=>?_,fun hx=>?_⟩
   ·have:((idx G.seen).map fun i=>ptr (p.t.ql i))[k]?=some (ptr (p.t.ql i)):=by rw[List.getElem?_map,hik];rfl
    rw[<-htk,List.getElem?_take,if_pos (by omega)]at this;simp[World.cell?,hg];simpa using this
   ·have ht:(R.D7 G i).timed=true:=by
     have:=hq.rel.wait;cases e:(R.D7 G i).timed with
     |true=>rfl
     |false=>rw[e]at this;simp at this;omega
    refine(hw.ZS hq ht).mono ?_;rintro e w' ⟨rfl,F'',g1,g2⟩;refine⟨rfl,F'',?_,hwt.trans g2,g2.keeps.row hrow (fun j hj=>hap j hj),fun j hj hF=>?_⟩
    ·rw[Gj R.Ay G _ k i hik];exact g1
    ·have hlt:=((World.ownsRow.lt hrow) j hj).2;rcases g2.fresh j hF with q|q
     ·exact hap j hj q
     ·omega
   ·have ht:(R.D7 G i).timed=false:=by
     have:=hq.rel.wait;cases e:(R.D7 G i).timed with
     |false=>rfl
     |true=>
      rw[e]at this;have:=(hs.timed e).2.1;simp at *;omega
    refine⟨F',?_,hwt,hrow,hap⟩;rw[Gj R.Ay G _ k i hik];have e:R.Ay (((idx G.seen).take k).foldl R.Ay G) i=((idx G.seen).take k).foldl R.Ay G:=by
     generalize ((idx G.seen).take k).foldl R.Ay G=K at hr';unfold R.Ay;simp only;rw[R.Ex hr',if_pos ht]
    rw[e];exact hw
 ·rintro e w' ⟨rfl,O,F',hw,hwt,_⟩;rw[List.take_length]at hw;exact⟨rfl,F',hw,hwt⟩
theorem LW.tick{p:Pl}{F:Ag}{G:R.Wd}{w:World}(h:LW p F G w):
  Calls Tryz.prog 15 #[ptr p.x] w fun e w'=>e=.returned (.tuple #[])/\∃F',LW p F' (R.FK G) w'/\Ah F F' w w':=by
 unfold R.FK;rw[GM];have hcf:=h.wf.cf;have e0:=h.wf.JL;unfold R.Cj at hcf;refine Po w p.x p.s p.cs G.Ad.length p.cap p.cb (fun n wr=>∃F',LW p F' (CQ G n) wr/\Ah F F' w wr) _ ⟨F,h,Ah.refl F w⟩ (cell_of h.bx 2 _ rfl) ?_ (by omega) ?_
 ·rintro i wr hi ⟨F',hw,hwt⟩;have e1:=hw.wf.JL;rw[ID,<-e0]at e1;have hlt:i<(CQ G i).Ad.length:=by omega
  obtain⟨cur,h1,h2⟩:=hw.VY;refine⟨by simp[World.cell?,h1,h2 i hlt],?_⟩;refine(hw.Cn hlt).mono ?_;rintro e w' ⟨rfl,F'',q1,q2⟩;exact⟨rfl,F'',by rw[Fp];exact q1,hwt.trans q2⟩
 ·rintro wr ⟨F',hw,hwt⟩;refine⟨cell_of hw.bx 1 _ rfl,?_⟩;refine hw.ZR.mono ?_;rintro e w' ⟨rfl,F'',q1,q2⟩;exact⟨rfl,F'',q1,hwt.trans q2⟩
end Go.Proofs.YtblomippkddgiaaGreatDoor
