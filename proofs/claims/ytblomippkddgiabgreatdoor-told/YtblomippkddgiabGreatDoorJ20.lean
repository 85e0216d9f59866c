import Derived.Test.YtblomippkddgiabGreatDoorJ19
set_option maxRecDepth 100000
set_option maxHeartbeats 4000000
namespace Go.Proofs.YtblomippkddgiabGreatDoor
open Go.RowKit
variable {F:Aq}{i:Nat}{p:Pl}{G:R.Wd}{w:World}
theorem Ul(w:World)(s b:Nat)(wt tr rt:Int)(aa:World->Prop)(s2:w.cell? ⟨s,2,none⟩=some (.int .i64 rt))(a9:w.cell? ⟨b,9,none⟩=some (.int .i64 wt))(JB:w.cell? ⟨b,10,none⟩=some (.int .i64 tr))(z9:w.frozen? ⟨b,9,none⟩=false)(aj:w.frozen? ⟨b,10,none⟩=false)(ac:¬s=b)(ai:1<=wt/\wt<=8)(ah:0<=tr/\tr<=6)
  (HA:Hid (1<wt\/tr=0->aa (w.setCell ⟨b,9,none⟩ (.int .i64 (wt-1)))))
  (HC:Hid (wt=1->0<tr->Calls Tryz.prog 169 #[ptr s,ptr b] (((w.setCell ⟨b,9,none⟩ (.int .i64 (wt-1))).setCell ⟨b,10,none⟩ (.int .i64 (tr-1))).setCell ⟨b,9,none⟩ (.int .i64 rt)) fun e w'=>e=.returned (.tuple #[])/\aa w')):
  Calls Tryz.prog 100 #[ptr s,ptr b] w fun e w'=>e=.returned (.tuple #[])/\aa w':=by
 have e1:IntKind.i64.wrap (wt-1)=wt-1:=by rw[IntKind.wrap_i64];omega
 have e2:IntKind.i64.wrap (tr-1)=tr-1:=by rw[IntKind.wrap_i64];omega
 have ad:¬b=s:=fun e=>ac e.symm
 have af:=lt_of_cell s2;have ag:=lt_of_cell a9;by_cases h1:1<wt
 ·have q1:0<wt-1:=by omega
  have HP:=Ac ((Aa HA) (afJ h1));clear HA HC;go_enter Tryz.func100,Tryz.ntmps100;go_wp2;refine C8 0 rfl ?_;go_wp2;refine EQ ?_;go_wp2;go_returns;exact⟨rfl,Aa HP⟩
 ·have ab:wt=1:=by omega
  by_cases h2:tr=0
  ·have HP:=Ac ((Aa HA) (afM h2));clear HA HC;subst ab h2;go_enter Tryz.func100,Tryz.ntmps100;go_wp2;refine C8 0 rfl ?_;go_wp2;refine EQ ?_;go_wp2;go_returns;exact⟨rfl,Aa HP⟩
  ·have h3:0<tr:=by omega
   have HP:=Ac ((Aa HC) ab h3);clear HA HC;subst ab;go_enter Tryz.func100,Tryz.ntmps100;go_wp2;refine C8 0 rfl ?_;go_wp2
   go_step3
   refine⟨rfl,?_⟩;show Code.wp Tryz.prog _ _ _ _;go_wp2_with (first|(go_at_call 169;refine(Aa HP).mono ?_;rintro e w3 ⟨rfl,ae⟩))
   refine Lf ?_;go_wp2;go_returns;exact⟨rfl,ae⟩
theorem LW.aek(h:LW p F G w){r:R.Sn}{y:JH}(hq:Qe p G w i r y)(ht:r.timed=true):
  Calls Tryz.prog 100 #[ptr p.s,ptr (p.t.ql i)] w fun e w'=>e=.returned (.tuple #[])/\∃F',LW p F' (R.AJ G i) w'/\Ap F F' w w':=by
 have hs:=h.Db.sn i r hq.seen;obtain⟨t1,t3,t4⟩:=hs.timed ht;have aa:=hq.rel;have ew:y.wait=r.wait:=by rw[aa.wait,if_pos ht]
 have et:=aa.tries ht;have ad:=h.wf.cf;unfold R.BD at ad;obtain⟨_,_,_,_,_,_,_,_,_,c9,ac⟩:=Qb hq.blk;rw[ew]at c9;rw[et]at ac;have z:∀{r':R.Sn},r'.seq=r.seq->(r'.seq=0->r'=R.Cs):=fun e q=>absurd (e ▸ q) hq.ne
 have ab:R.AJ G i=if 1<r.wait then R.AB G i {r with wait:=r.wait-1} else if r.tries=0 then R.AB G i {r with wait:=r.wait-1,timed:=false} else R.AL (R.AB G i {r with wait:=G.c.Ay,tries:=r.tries-1}) i:=by
  unfold R.AJ;simp only;rw[R.Bn hq.seen,if_neg (by simp[ht])]
 rw[ab];refine Ul w p.s (p.t.ql i) r.wait r.tries G.c.Ay _ (h.BN.cell 2 _ rfl) c9 ac (open_list hq.blk) (open_list hq.blk) (h.abO hq) t3 t4 ?_ ?_
 ·intro hx;by_cases h1:1<r.wait
  ·rw[if_pos h1];obtain⟨q1,_,q2⟩:=h.Ix (r':={r with wait:=r.wait-1}) (y':={y with wait:=r.wait-1}) hq hq.ne (Ah _) (Eb (j:=9) (v:=.int .i64 (r.wait-1)) hq.blk rfl) ⟨aa.client,aa.Ae,aa.line,aa.seq,aa.uid,aa.state,aa.asked,aa.ans,by simp[ht],aa.tries⟩ ⟨z rfl,hs.seq,hs.some,hs.Ga,hs.wait,hs.ans,fun _=>⟨t1,by simp only;omega,t4⟩⟩;exact⟨F,q1,q2⟩
  ·have h2:r.tries=0:=by omega
   rw[if_neg h1,if_pos h2];obtain⟨q1,_,q2⟩:=h.Ix (r':={r with wait:=r.wait-1,timed:=false}) (y':={y with wait:=r.wait-1}) hq hq.ne (Ah _) (Eb (j:=9) (v:=.int .i64 (r.wait-1)) hq.blk rfl) ⟨aa.client,aa.Ae,aa.line,aa.seq,aa.uid,aa.state,aa.asked,aa.ans,by simp only[if_neg (show ¬(false:Bool)=true by decide)];omega,by simp⟩ ⟨z rfl,hs.seq,hs.some,hs.Ga,hs.wait,hs.ans,by simp⟩;exact⟨F,q1,q2⟩
 ·intro h1 h2;rw[if_neg (by omega),if_neg (by omega)];obtain⟨q1,q0,q2⟩:=h.Ix (r':={r with wait:=G.c.Ay,tries:=r.tries-1}) (y':={y with wait:=G.c.Ay,tries:=r.tries-1}) hq hq.ne (((Ah _).trans (Ah _)).trans (Ah _)) (Eb (j:=9) (v:=.int .i64 G.c.Ay) (y:={y with wait:=r.wait-1,tries:=r.tries-1}) (Eb (j:=10) (v:=.int .i64 (r.tries-1)) (y:={y with wait:=r.wait-1}) (Eb (j:=9) (v:=.int .i64 (r.wait-1)) hq.blk rfl) rfl) rfl) ⟨aa.client,aa.Ae,aa.line,aa.seq,aa.uid,aa.state,aa.asked,aa.ans,by simp[ht],by simp⟩ ⟨z rfl,hs.seq,hs.some,hs.Ga,hs.wait,hs.ans,fun _=>⟨t1,by simp only;omega,by simp only;omega⟩⟩;refine(q1.Nr q0 t1).mono ?_;rintro e w' ⟨rfl,F',g1,g2⟩;exact⟨rfl,F',g1,q2.trans g2⟩
theorem Uj(w:World)(s n:Nat)(bs:Nat->Nat)(J:Value->Nat->World->Prop)(hn:n<=9)
  (ad:Hid (Calls Tryz.prog 99 #[ptr s] w fun e w'=>∃O,e=.returned O/\J O 0 w'))
  (HS:Hid (∀O k wr,J O k wr->∃a c,O=.slice a n c))
  (HR:Hid (∀O k wr,k<n->J O k wr->∃g c,O=.slice (some ⟨g,0,none⟩) n c/\wr.cell? ⟨g,k,none⟩=some (ptr (bs k))/\∃x,wr.cell? ⟨bs k,9,none⟩=some (.int .i64 x)/\(0<x->Calls Tryz.prog 100 #[ptr s,ptr (bs k)] wr fun e w'=>e=.returned (.tuple #[])/\J O (k+1) w')/\(¬0<x->J O (k+1) wr))):
  Calls Tryz.prog 59 #[ptr s] w fun e w'=>e=.returned (.tuple #[])/\∃O,J O n w':=by
 go_enter Tryz.func59,Tryz.ntmps59;go_wp2_with fail
 refine(Aa ad).mono ?_;rintro e w1 ⟨O,rfl,hJ⟩;obtain⟨a,c,hO⟩:=(Aa HS) O 0 w1 hJ;subst hO;have H0:=Ac hJ;clear hJ;go_wp2;go_loopw [7] (fun iv wr=>∃k:Nat,k<=n/\iv=.int .i64 k/\J (.slice a n c) k wr) (fun iv _=>n-(intOf iv).toNat)
 case atStart=>exact⟨0,af8 _,rfl,Aa H0⟩
 case round=>
  obtain⟨k,hk,rfl,hJ⟩:=hrel;by_cases ae:k<n
  ·obtain⟨g,c',hO,ab,x,hx,aa,ac⟩:=(Aa HR) _ k wr ae hJ;cases hO;have HY:=Ac aa;have HN:=Ac ac;clear aa ac hJ;by_cases h1:0<x
   ·have HC:=Ac ((Aa HY) h1);go_wp2_with (first|(go_at_call 100;refine(Aa HC).mono ?_;rintro e w3 ⟨rfl,af⟩))
    go_roundw
    case rel=>exact⟨k+1,by omega,by go_num,af⟩
    case measure=>simp[intOf];omega
   ·have HI:=Ac ((Aa HN) (by omega));go_wp2;go_roundw
    case rel=>exact⟨k+1,by omega,by go_num,Aa HI⟩
    case measure=>simp[intOf];omega
  ·obtain rfl:k=n:=by omega
   have HI:=Ac hJ;clear hJ;go_wp2;go_returns;exact⟨rfl,_,Aa HI⟩
def FW(G:R.Wd)(i n:Nat):R.Wd:=(List.range n).foldl (fun (G:R.Wd) (k:Nat)=>R.AU G (i:Int) (k:Int)) G
theorem Jy(G:R.Wd)(i n:Nat):FW G i (n+1)=R.AU (FW G i n) i n:=by
 simp[FW,List.range_succ]
theorem abr(G:R.Wd)(to:Int)(p:Pk):(R.Bg G to p).c=G.c:=by unfold R.Bg;split<;>rfl
theorem N2(G:R.Wd)(to:Int)(p:Pk):(R.Bg G to p).Ad=G.Ad:=by unfold R.Bg;split<;>rfl
theorem Uo(G:R.Wd)(i k:Nat):(R.AU G i k).c=G.c:=by
 unfold R.AU R.AA R.Fw;simp only;repeat' split
 all_goals first|rfl|(rw[abr];rfl)
theorem P7(G:R.Wd)(i n:Nat):(FW G i n).c=G.c:=by
 induction n with
 |zero=>rfl
 |succ n ih=>rw[Jy,Uo,ih]
theorem N4{k:Nat}{l:R.Ln}(hl:R.BH G i k=l)(h:¬l.state=1):R.AU G i k=G:=by
 unfold R.AU;simp only[hl];rw[if_pos h]
def Jf(G:R.Wd)(n:Nat):R.Wd:=(List.range n).foldl (fun (G:R.Wd) (i:Nat)=>YtblomippkddgiabGreatDoor.FW G i G.c.lines.toNat) G
theorem ND(G:R.Wd)(n:Nat):Jf G (n+1)=YtblomippkddgiabGreatDoor.FW (Jf G n) n (Jf G n).c.lines.toNat:=by
 simp[Jf,List.range_succ]
theorem abz(G:R.Wd)(n:Nat):(Jf G n).c=G.c:=by
 induction n with
 |zero=>rfl
 |succ n ih=>rw[ND,P7,ih]
theorem P8(G:R.Wd):R.EG G=Jf G G.Ad.length:=rfl
theorem Xh(w:World)(cb lb nl:Nat)(I:Nat->World->Prop)(h0:I 0 w)(hc:Hid (∀k wr,I k wr->wr.cell? ⟨cb,3,none⟩=some (.slice (some ⟨lb,0,none⟩) nl nl)))
  (hr:Hid (∀k wr,k<nl->I k wr->∃st,wr.cell? ⟨lb,k*10,none⟩=some (.int .i64 st)/\(st=1->Calls Tryz.prog 98 #[ptr cb,.int .i64 (k:Int)] wr fun e w'=>e=.returned (.tuple #[])/\I (k+1) w')/\(¬st=1->I (k+1) wr))) (hn:nl<=1000):
  Calls Tryz.prog 58 #[ptr cb] w fun e w'=>e=.returned (.tuple #[])/\I nl w':=by
 have b3:=(Aa hc) 0 w h0;have H0:=Ac h0;clear h0;go_enter Tryz.func58,Tryz.ntmps58;go_wp2;go_loopw [8] (fun iv wr=>∃k:Nat,k<=nl/\iv=.int .i64 k/\I k wr) (fun iv _=>nl-(intOf iv).toNat)
 case atStart=>exact⟨0,af8 _,rfl,Aa H0⟩
 case round=>
  obtain⟨k,hk,rfl,hI⟩:=hrel;have d3:=(Aa hc) k wr hI;by_cases ac:k<nl
  ·obtain⟨st,ae,aa,ab⟩:=(Aa hr) k wr ac hI;have HY:=Ac aa;have HN:=Ac ab;clear aa ab;by_cases h1:st=1
   ·have HC:=Ac ((Aa HY) h1);subst h1;go_wp2_with (first|(go_at_call 98;refine(Aa HC).mono ?_;rintro e w3 ⟨rfl,ad⟩))
    go_roundw
    case rel=>exact⟨k+1,by omega,by go_num,ad⟩
    case measure=>simp[intOf];omega
   ·have e1:(st==1)=false:=by simpa using h1
    have HI:=Ac ((Aa HN) h1);go_wp2;go_roundw
    case rel=>exact⟨k+1,by omega,by go_num,Aa HI⟩
    case measure=>simp[intOf];omega
  ·obtain rfl:k=nl:=by omega
   go_wp2;go_returns;exact⟨rfl,hI⟩
theorem Up(w:World)(x sv cs n cap:Nat)(cb:Nat->Nat)(I:Nat->World->Prop)(aa:World->Prop)(h0:I 0 w)(hx:w.cell? ⟨x,2,none⟩=some (.slice (some ⟨cs,0,none⟩) n cap))
  (hr:Hid (∀i wr,i<n->I i wr->wr.cell? ⟨cs,i,none⟩=some (ptr (cb i))/\Calls Tryz.prog 58 #[ptr (cb i)] wr fun e w'=>e=.returned (.tuple #[])/\I (i+1) w')) (hn:n<=1000)
  (hs:Hid (∀wr,I n wr->wr.cell? ⟨x,1,none⟩=some (ptr sv)/\Calls Tryz.prog 59 #[ptr sv] wr fun e w'=>e=.returned (.tuple #[])/\aa w')):
  Calls Tryz.prog 32 #[ptr x] w fun e w'=>e=.returned (.tuple #[])/\aa w':=by
 have H0:=Ac h0;clear h0;go_enter Tryz.func32,Tryz.ntmps32;go_wp2;go_loopw [9] (fun iv wr=>∃k:Nat,k<=n/\iv=.int .i64 k/\I k wr) (fun iv _=>n-(intOf iv).toNat)
 case atStart=>exact⟨0,af8 _,rfl,Aa H0⟩
 case round=>
  obtain⟨k,hk,rfl,hI⟩:=hrel;by_cases ac:k<n
  ·obtain⟨ad,hC⟩:=(Aa hr) k wr ac hI;have HC:=Ac hC;clear hC;go_wp2_with (first|(go_at_call 58;refine(Aa HC).mono ?_;rintro e w3 ⟨rfl,ab⟩))
   go_roundw
   case rel=>exact⟨k+1,by omega,by go_num,ab⟩
   case measure=>simp[intOf];omega
  ·obtain rfl:k=n:=by omega
   obtain⟨ad,hC⟩:=(Aa hs) wr hI;have HC:=Ac hC;clear hC;go_wp2_with (first|(go_at_call 59;refine(Aa HC).mono ?_;rintro e w3 ⟨rfl,ab⟩))
   go_returns;exact⟨rfl,ab⟩
theorem LW.FW(h:LW p F G w)(hi:i<G.Ad.length):
  Calls Tryz.prog 58 #[ptr (p.cb i)] w fun e w'=>e=.returned (.tuple #[])/\∃F',LW p F' (YtblomippkddgiabGreatDoor.FW G i G.c.lines.toNat) w'/\Ap F F' w w':=by
 have get:∀{F':Aq} {n:Nat} {wr:World},LW p F' (YtblomippkddgiabGreatDoor.FW G i n) wr->∃c,(YtblomippkddgiabGreatDoor.FW G i n).Ad[i]?=some c/\c.lines.length=G.c.lines.toNat:=fun {F' n wr} hw=>by
  have e1:=hw.wf.Gt;have e0:=h.wf.Gt;rw[P7,<-e0]at e1;have ab:i<(YtblomippkddgiabGreatDoor.FW G i n).Ad.length:=by omega
  refine⟨_,afH ab,?_⟩;have:=(hw.wf.cl i _ (afH ab)).lines;rw[P7]at this;omega
 have ah:∀{F':Aq} {n:Nat} {wr:World},LW p F' (YtblomippkddgiabGreatDoor.FW G i n) wr->wr.cell? ⟨p.cb i,3,none⟩=some (.slice (some ⟨p.lb i,0,none⟩) G.c.lines.toNat G.c.lines.toNat):=fun {F' n wr} hw=>by
  obtain⟨c,hc,hl⟩:=get hw;have:=(Ic hw hc).a3;rw[hl]at this;exact this
 have af:=h.wf.cf;unfold R.BD at af;refine Xh w (p.cb i) (p.lb i) G.c.lines.toNat (fun n wr=>∃F',LW p F' (YtblomippkddgiabGreatDoor.FW G i n) wr/\Ap F F' w wr) ⟨F,h,Ap.refl F w⟩ ?_ ?_ (by omega)
 ·rintro k wr ⟨F',hw,_⟩;exact ah hw
 ·rintro k wr hk ⟨F',hw,ac⟩;obtain⟨c,hc,hl⟩:=get hw;have aa:c.lines[k]?=some (c.lines[k]'(by omega)):=afH (by omega);obtain⟨xs,x,hL,hR,hx,ad,ag,_⟩:=hw.line hc aa;refine⟨x.state,ag.a0,fun h1=>?_,fun h1=>?_⟩
  ·refine(hw.wait hc aa (by rw[<-ad.state];exact h1)).mono ?_;rintro e w' ⟨rfl,ae,q1,q2⟩;exact⟨rfl,ae,by rw[Jy];exact q1,ac.trans q2⟩
  ·refine⟨F',?_,ac⟩;rw[Jy,N4 (R.CR hc aa) (by rw[<-ad.state];exact h1)];exact hw
def J4(seen:List R.Sn)(i:Nat):Bool:=decide (((seen[i]?).getD R.Cs).seq≠0)
def idx(seen:List R.Sn):List Nat:=(List.range 9).filter (J4 seen)
theorem Rt(t:SP)(seen:List R.Sn)(n:Nat):Gw (qf t seen) n=((List.range n).filter (J4 seen)).map fun i=>ptr (t.ql i):=by
 induction n with
 |zero=>rfl
 |succ n ih=>
  rw[KI,ih,agx,List.filter_append,agw];unfold qf;by_cases h:((seen[n]?).getD R.Cs).seq=0
  ·simp[h,J4]
  ·simp[h,J4]
theorem Nk(t:SP)(seen:List R.Sn):Gw (qf t seen) 9=(idx seen).map fun i=>ptr (t.ql i):=Rt t seen 9
theorem On(seen:List R.Sn):(idx seen).Nodup:=(List.nodup_range).filter _
theorem UW(seen:List R.Sn):(idx seen).length<=9:=by
 have:=List.length_filter_le (J4 seen) (List.range 9);rw[List.length_range]at this;exact this
theorem KL(G:R.Wd){j:Nat}(h:i≠j)(r:R.Sn):(R.AB G j r).seen[i]?=G.seen[i]?:=by
 unfold R.AB;simp only;rw[afV,if_neg (fun e=>h e.symm)]
theorem IC(G:R.Wd)(j:Nat):(R.AJ G j).Aj=G.Aj/\(R.AJ G j).c=G.c/\∀i,i≠j->(R.AJ G j).seen[i]?=G.seen[i]?:=by
 unfold R.AJ;simp only;repeat' split
 ·exact⟨rfl,rfl,fun i _=>rfl⟩
 ·exact⟨rfl,rfl,fun i hi=>KL G hi _⟩
 ·exact⟨rfl,rfl,fun i hi=>KL G hi _⟩
 ·exact⟨by rw[C4];rfl,by rw[Kd];rfl,fun i hi=>by rw[Hq];exact KL G hi _⟩
theorem OM:∀(l:List Nat) (G:R.Wd),(l.foldl R.AJ G).Aj=G.Aj/\(l.foldl R.AJ G).c=G.c/\∀i,i ∉ l->(l.foldl R.AJ G).seen[i]?=G.seen[i]?
 |[],G=>⟨rfl,rfl,fun _ _=>rfl⟩
 |j :: l,G=>by
  obtain⟨a1,a2,a3⟩:=OM l (R.AJ G j);obtain⟨b1,b2,b3⟩:=IC G j;rw[ag2];refine⟨a1.trans b1,a2.trans b2,fun i hi=>?_⟩;simp only[agR,not_or]at hi;exact(a3 i hi.2).trans (b3 i hi.1)
theorem KO{seen:List R.Sn}(hz:∀(i:Nat) (r:R.Sn),seen[i]?=some r->r.seq=0->r=R.Cs):∀(l:List Nat) (G:R.Wd),l.Nodup->(∀i∈l,G.seen[i]?=seen[i]?)->l.foldl R.AJ G=(l.filter (J4 seen)).foldl R.AJ G
 |[],G,_,_=>rfl
 |j :: l,G,hn,hs=>by
  rw[List.nodup_cons]at hn;rw[ag2,List.filter_cons];by_cases h:J4 seen j=true
  ·rw[if_pos h,ag2];refine KO hz l (R.AJ G j) hn.2 (fun i hi=>?_);rw[(IC G j).2.2 i (fun e=>hn.1 (e ▸ hi))];exact hs i (agC _ hi)
  ·rw[if_neg h];have h0:R.AY G j=R.Cs:=by
    unfold R.AY;rw[hs j agQ];have h:((seen[j]?).getD R.Cs).seq=0:=by simpa [J4] using h
    cases hr:seen[j]? with
    |none=>rfl
    |some r=>
     rw[hr]at h;rw[hz j r hr (by simpa using h)];rfl
   have e:R.AJ G j=G:=by
    unfold R.AJ;simp only;rw[h0,if_pos (show R.Cs.timed=false from rfl)]
   rw[e];exact KO hz l G hn.2 (fun i hi=>hs i (agC _ hi))
theorem Jr{α β:Type}(f:α->β->α)(a:α)(l:List β)(k:Nat)(x:β)(h:l[k]?=some x):(l.take (k+1)).foldl f a=f ((l.take k).foldl f a) x:=by
 rw[agH,h];simp
theorem LW.aei(h:LW p F G w):
  Calls Tryz.prog 59 #[ptr p.s] w fun e w'=>e=.returned (.tuple #[])/\∃F',LW p F' ((List.range 9).foldl R.AJ G) w'/\Ap F F' w w':=by
 have ac:(List.range 9).foldl R.AJ G=(idx G.seen).foldl R.AJ G:=KO (seen:=G.seen) (fun i r hr h0=>(h.Db.sn i r hr).zero h0) (List.range 9) G List.nodup_range (fun _ _=>rfl);rw[ac];have ah:=UW G.seen;refine(Uj w p.s (idx G.seen).length (fun k=>p.t.ql ((idx G.seen).getD k 0)) (fun O k wr=>∃F',LW p F' (((idx G.seen).take k).foldl R.AJ G) wr/\Ap F F' w wr/\wr.ownsRow w.heap.size 137 1 O (idx G.seen).length ((idx G.seen).map fun i=>ptr (p.t.ql i))/\∀j,O.ownBlock=some j->¬F' j) ah ?_ ?_ ?_).mono ?_
 ·refine h.BN.rem.mono ?_;rintro e w1 ⟨O,rfl,aa,hb⟩;rw[Nk,af0]at aa;refine⟨O,rfl,F,h.below hb,Ap.Al F hb,aa,fun j hj hF=>?_⟩;have h1:=((World.ownsRow.lt aa) j hj).1;have h2:=h.lt j hF;omega
 ·rintro O k wr ⟨F',_,_,aa,_⟩;exact AX aa
 ·rintro O k wr hk ⟨F',hw,af,aa,ag⟩;have ab:(idx G.seen)[k]?=some ((idx G.seen)[k]):=afH hk;have ak:(idx G.seen).getD k 0=(idx G.seen)[k]:=by rw[afX,ab];rfl
  rw[ak];generalize hi:(idx G.seen)[k]=i at ab;have ad:i∈idx G.seen:=afU ab;have am:J4 G.seen i=true:=(ag6.1 ad).2;have al:i<9:=by simpa using (ag6.1 ad).1
  have hr:G.seen[i]?=some (R.AY G i):=by
   have hl:i<G.seen.length:=by rw[h.Db.sl];exact al
   rw[R.Bn (afH hl)];exact afH hl
  have ao:(R.AY G i).seq≠0:=by
   have:((G.seen[i]?).getD R.Cs).seq≠0:=by simpa [J4] using am
   exact this
  have ai:i ∉ (idx G.seen).take k:=fun hm=>by
   obtain⟨j,hj⟩:=agY.1 hm;rw[af7]at hj;split at hj
   ·have ar:j=k:=by
     have an:=(afG.1 hj).1;exact(List.getElem?_inj an (On G.seen)).1 (hj.trans ab.symm)
    omega
   ·cases hj
  have ae:(((idx G.seen).take k).foldl R.AJ G).seen[i]?=some (R.AY G i):=by rw[(OM _ G).2.2 i ai];exact hr
  obtain⟨y,hq,_⟩:=hw.q ae ao;obtain⟨_,_,_,_,_,_,_,_,_,c9,_⟩:=Qb hq.blk;have hs:=hw.Db.sn i _ ae;rcases aa.2 with ⟨_,h0⟩|⟨g,cap,aq,rfl,_,hg,_,_,av,ap⟩
  ·omega
  ·refine⟨g,cap,rfl,?_,y.wait,c9,fun hx=>?_,fun hx=>?_⟩
   ·have:((idx G.seen).map fun i=>ptr (p.t.ql i))[k]?=some (ptr (p.t.ql i)):=by rw[afW,ab];rfl
    rw[<-ap,af7,if_pos (by omega)]at this;simp[World.cell?,hg];simpa using this
   ·have ht:(R.AY G i).timed=true:=by
     have:=hq.rel.wait;cases e:(R.AY G i).timed with
     |true=>rfl
     |false=>rw[e]at this;simp at this;omega
    refine(hw.aek hq ht).mono ?_;rintro e w' ⟨rfl,aj,g1,g2⟩;refine⟨rfl,aj,?_,af.trans g2,g2.keeps.row aa (fun j hj=>ag j hj),fun j hj hF=>?_⟩
    ·rw[Jr R.AJ G _ k i ab];exact g1
    ·have au:=((World.ownsRow.lt aa) j hj).2;rcases g2.fresh j hF with q|q
     ·exact ag j hj q
     ·omega
   ·have ht:(R.AY G i).timed=false:=by
     have:=hq.rel.wait;cases e:(R.AY G i).timed with
     |false=>rfl
     |true=>
      rw[e]at this;have:=(hs.timed e).2.1;simp at *;omega
    refine⟨F',?_,af,aa,ag⟩;rw[Jr R.AJ G _ k i ab];have e:R.AJ (((idx G.seen).take k).foldl R.AJ G) i=((idx G.seen).take k).foldl R.AJ G:=by
     generalize ((idx G.seen).take k).foldl R.AJ G=K at ae;unfold R.AJ;simp only;rw[R.Bn ae,if_pos ht]
    rw[e];exact hw
 ·rintro e w' ⟨rfl,O,F',hw,af,_⟩;rw[agW]at hw;exact⟨rfl,F',hw,af⟩
theorem LW.tick(h:LW p F G w):
  Calls Tryz.prog 32 #[ptr p.x] w fun e w'=>e=.returned (.tuple #[])/\∃F',LW p F' (R.IB G) w'/\Ap F F' w w':=by
 unfold R.IB;rw[P8];have ad:=h.wf.cf;have e0:=h.wf.Gt;unfold R.BD at ad;refine Up w p.x p.s p.cs G.Ad.length p.cap p.cb (fun n wr=>∃F',LW p F' (Jf G n) wr/\Ap F F' w wr) _ ⟨F,h,Ap.refl F w⟩ (cell_of h.bx 2 _ rfl) ?_ (by omega) ?_
 ·rintro i wr hi ⟨F',hw,ab⟩;have e1:=hw.wf.Gt;rw[abz,<-e0]at e1;have ac:i<(Jf G i).Ad.length:=by omega
  obtain⟨ae,h1,h2⟩:=hw.XH;refine⟨by simp[World.cell?,h1,h2 i ac],?_⟩;refine(hw.FW ac).mono ?_;rintro e w' ⟨rfl,aa,q1,q2⟩;exact⟨rfl,aa,by rw[ND];exact q1,ab.trans q2⟩
 ·rintro wr ⟨F',hw,ab⟩;refine⟨cell_of hw.bx 1 _ rfl,?_⟩;refine hw.aei.mono ?_;rintro e w' ⟨rfl,aa,q1,q2⟩;exact⟨rfl,aa,q1,ab.trans q2⟩
abbrev BK:Array Value:=#[.int .i64 0,.int .i64 0,.string {data:=#[105]},.string {data:=#[99]},.int .i64 0,.int .i64 1,.string {data:=#[98]},.string {data:=#[99]},.int .i64 1,.int .i64 0,.string {data:=#[115]},.string {data:=#[99]},.int .i64 1,.int .i64 1,.string {data:=#[99]},.string {data:=#[113,52,115]},.int .i64 2,.int .i64 0,.string {data:=#[114,40,101,51,113,51,105,41]},.string {data:=#[117,40,98,113,51,105,41]}]
theorem i0(w:World):(Instr.index 312 (.agg BK) (.int .i64 0)).run Tryz.prog w=.ok (.agg #[.int .i64 0,.int .i64 0,.string {data:=#[105]},.string {data:=#[99]}]) w:=by kernel_rfl
theorem i1(w:World):(Instr.index 312 (.agg BK) (.int .i64 1)).run Tryz.prog w=.ok (.agg #[.int .i64 0,.int .i64 1,.string {data:=#[98]},.string {data:=#[99]}]) w:=by kernel_rfl
theorem i2(w:World):(Instr.index 312 (.agg BK) (.int .i64 2)).run Tryz.prog w=.ok (.agg #[.int .i64 1,.int .i64 0,.string {data:=#[115]},.string {data:=#[99]}]) w:=by kernel_rfl
theorem i3(w:World):(Instr.index 312 (.agg BK) (.int .i64 3)).run Tryz.prog w=.ok (.agg #[.int .i64 1,.int .i64 1,.string {data:=#[99]},.string {data:=#[113,52,115]}]) w:=by kernel_rfl
theorem i4(w:World):(Instr.index 312 (.agg BK) (.int .i64 4)).run Tryz.prog w=.ok (.agg #[.int .i64 2,.int .i64 0,.string {data:=#[114,40,101,51,113,51,105,41]},.string {data:=#[117,40,98,113,51,105,41]}]) w:=by kernel_rfl
theorem Cm(k:Int)(w:World):
  Calls Tryz.prog 143 #[.int .i64 k] w fun e w'=>e=.returned (.bool (k==0 || k==1 || k==2))/\w'=w:=by
 by_cases h0:k=0
 ·subst h0;go_enter Tryz.func143,Tryz.ntmps143;go_wp2
  go_ret
  exact⟨rfl,rfl⟩
 by_cases h1:k=1
 ·subst h1;go_enter Tryz.func143,Tryz.ntmps143;go_wp2
  go_ret
  exact⟨rfl,rfl⟩
 by_cases h2:k=2
 ·subst h2;go_enter Tryz.func143,Tryz.ntmps143;go_wp2
  go_ret
  exact⟨rfl,rfl⟩
 have e0:(k==0)=false:=by simpa using h0
 have e1:(k==1)=false:=by simpa using h1
 have e2:(k==2)=false:=by simpa using h2
 go_enter Tryz.func143,Tryz.ntmps143;go_wp2
 go_ret
 exact⟨by rw[e0,e1,e2];rfl,rfl⟩
theorem V1(k:Int)(w:World)(h:k<0\/2<k):
  Calls Tryz.prog 143 #[.int .i64 k] w fun e w'=>e=.returned (.bool false)/\w'=w:=by
 refine(Cm k w).mono ?_;rintro e w' ⟨rfl,rfl⟩;have e0:(k==0)=false:=by simp;omega
 have e1:(k==1)=false:=by simp;omega
 have e2:(k==2)=false:=by simp;omega
 rw[e0,e1,e2];exact⟨rfl,rfl⟩
theorem acJ(w:World)(tt:TypeId)(fr:Nat×Nat)(hg:w.heap[0]?=some (.cells BK tt fr)):
  Calls Tryz.prog 183 #[.int .i64 0,.int .i64 0] w fun e w'=>e=.returned (.tuple #[.string {data:=#[105]},.string {data:=#[99]},.int .i64 0])/\Below w.heap.size w w':=by
 have j0:=i0;have j1:=i1;have j2:=i2;have j3:=i3;have j4:=i4;go_enter Tryz.func183,Tryz.ntmps183;go_wp2_with (first|(go_at_call 143;refine(Cm _ _).mono ?_;rintro e w' ⟨rfl,rfl⟩)|(refine wpList_load_row rfl 312 _ rfl 0 rfl tt _ fr _ hg Tryz.underlying312 rfl (by kernel_rfl) ?_))
 refine wp_loop_rounds 1 ?_;rw[rounds_succ];go_wp2
 go_region
 go_wp2
 go_ret3
 refine⟨rfl,?_⟩;repeat (first|exact Below.refl _ _|refine Below.drew ?_|refine Below.alloc ?_ (by simp;try omega) _)
theorem acK(w:World)(tt:TypeId)(fr:Nat×Nat)(hg:w.heap[0]?=some (.cells BK tt fr)):
  Calls Tryz.prog 183 #[.int .i64 0,.int .i64 1] w fun e w'=>e=.returned (.tuple #[.string {data:=#[98]},.string {data:=#[99]},.int .i64 0])/\Below w.heap.size w w':=by
 have j0:=i0;have j1:=i1;have j2:=i2;have j3:=i3;have j4:=i4;go_enter Tryz.func183,Tryz.ntmps183;go_wp2_with (first|(go_at_call 143;refine(Cm _ _).mono ?_;rintro e w' ⟨rfl,rfl⟩)|(refine wpList_load_row rfl 312 _ rfl 0 rfl tt _ fr _ hg Tryz.underlying312 rfl (by kernel_rfl) ?_))
 refine wp_loop_rounds 2 ?_;rw[rounds_succ];go_wp2;rw[rounds_succ];go_wp2
 go_region
 go_wp2
 go_ret3
 refine⟨rfl,?_⟩;repeat (first|exact Below.refl _ _|refine Below.drew ?_|refine Below.alloc ?_ (by simp;try omega) _)
theorem acM(w:World)(tt:TypeId)(fr:Nat×Nat)(hg:w.heap[0]?=some (.cells BK tt fr)):
  Calls Tryz.prog 183 #[.int .i64 1,.int .i64 0] w fun e w'=>e=.returned (.tuple #[.string {data:=#[115]},.string {data:=#[99]},.int .i64 0])/\Below w.heap.size w w':=by
 have j0:=i0;have j1:=i1;have j2:=i2;have j3:=i3;have j4:=i4;go_enter Tryz.func183,Tryz.ntmps183;go_wp2_with (first|(go_at_call 143;refine(Cm _ _).mono ?_;rintro e w' ⟨rfl,rfl⟩)|(refine wpList_load_row rfl 312 _ rfl 0 rfl tt _ fr _ hg Tryz.underlying312 rfl (by kernel_rfl) ?_))
 refine wp_loop_rounds 3 ?_;rw[rounds_succ];go_wp2;rw[rounds_succ];go_wp2;rw[rounds_succ];go_wp2
 go_region
 go_wp2
 go_ret3
 refine⟨rfl,?_⟩;repeat (first|exact Below.refl _ _|refine Below.drew ?_|refine Below.alloc ?_ (by simp;try omega) _)
theorem acN(w:World)(tt:TypeId)(fr:Nat×Nat)(hg:w.heap[0]?=some (.cells BK tt fr)):
  Calls Tryz.prog 183 #[.int .i64 1,.int .i64 1] w fun e w'=>e=.returned (.tuple #[.string {data:=#[99]},.string {data:=#[113,52,115]},.int .i64 0])/\Below w.heap.size w w':=by
 have j0:=i0;have j1:=i1;have j2:=i2;have j3:=i3;have j4:=i4;go_enter Tryz.func183,Tryz.ntmps183;go_wp2_with (first|(go_at_call 143;refine(Cm _ _).mono ?_;rintro e w' ⟨rfl,rfl⟩)|(refine wpList_load_row rfl 312 _ rfl 0 rfl tt _ fr _ hg Tryz.underlying312 rfl (by kernel_rfl) ?_))
 refine wp_loop_rounds 4 ?_;rw[rounds_succ];go_wp2;rw[rounds_succ];go_wp2;rw[rounds_succ];go_wp2;rw[rounds_succ];go_wp2
 go_region
 go_wp2
 go_ret3
 refine⟨rfl,?_⟩;repeat (first|exact Below.refl _ _|refine Below.drew ?_|refine Below.alloc ?_ (by simp;try omega) _)
theorem acP(w:World)(tt:TypeId)(fr:Nat×Nat)(hg:w.heap[0]?=some (.cells BK tt fr)):
  Calls Tryz.prog 183 #[.int .i64 2,.int .i64 0] w fun e w'=>e=.returned (.tuple #[.string {data:=#[114,40,101,51,113,51,105,41]},.string {data:=#[117,40,98,113,51,105,41]},.int .i64 0])/\Below w.heap.size w w':=by
 have j0:=i0;have j1:=i1;have j2:=i2;have j3:=i3;have j4:=i4;go_enter Tryz.func183,Tryz.ntmps183;go_wp2_with (first|(go_at_call 143;refine(Cm _ _).mono ?_;rintro e w' ⟨rfl,rfl⟩)|(refine wpList_load_row rfl 312 _ rfl 0 rfl tt _ fr _ hg Tryz.underlying312 rfl (by kernel_rfl) ?_))
 refine wp_loop_rounds 5 ?_;rw[rounds_succ];go_wp2;rw[rounds_succ];go_wp2;rw[rounds_succ];go_wp2;rw[rounds_succ];go_wp2;rw[rounds_succ];go_wp2
 go_region
 go_wp2
 go_ret3
 refine⟨rfl,?_⟩;repeat (first|exact Below.refl _ _|refine Below.drew ?_|refine Below.alloc ?_ (by simp;try omega) _)
theorem acL(p:Int)(h0:¬p=0)(h1:¬p=1)(w:World)(tt:TypeId)(fr:Nat×Nat)(hg:w.heap[0]?=some (.cells BK tt fr)):
  Calls Tryz.prog 183 #[.int .i64 0,.int .i64 p] w fun e w'=>e=.returned (.tuple #[.string {data:=#[]},.string {data:=#[]},.int .i64 16])/\Below w.heap.size w w':=by
 have e0:((0:Int)==p)=false:=by simp;omega
 have e1:((1:Int)==p)=false:=by simp;omega
 have j0:=i0;have j1:=i1;have j2:=i2;have j3:=i3;have j4:=i4;go_enter Tryz.func183,Tryz.ntmps183;go_wp2_with (first|(go_at_call 143;refine(Cm _ _).mono ?_;rintro e w' ⟨rfl,rfl⟩)|(refine wpList_load_row rfl 312 _ rfl 0 rfl tt _ fr _ hg Tryz.underlying312 rfl (by kernel_rfl) ?_))
 refine wp_loop_rounds 6 ?_;rw[rounds_succ];go_wp2;rw[rounds_succ];go_wp2;rw[rounds_succ];go_wp2;rw[rounds_succ];go_wp2;rw[rounds_succ];go_wp2;rw[rounds_succ];go_wp2
 go_ret3
 refine⟨rfl,?_⟩;repeat (first|exact Below.refl _ _|refine Below.drew ?_|refine Below.alloc ?_ (by simp;try omega) _)
theorem acO(p:Int)(h0:¬p=0)(h1:¬p=1)(w:World)(tt:TypeId)(fr:Nat×Nat)(hg:w.heap[0]?=some (.cells BK tt fr)):
  Calls Tryz.prog 183 #[.int .i64 1,.int .i64 p] w fun e w'=>e=.returned (.tuple #[.string {data:=#[]},.string {data:=#[]},.int .i64 16])/\Below w.heap.size w w':=by
 have e0:((0:Int)==p)=false:=by simp;omega
 have e1:((1:Int)==p)=false:=by simp;omega
 have j0:=i0;have j1:=i1;have j2:=i2;have j3:=i3;have j4:=i4;go_enter Tryz.func183,Tryz.ntmps183;go_wp2_with (first|(go_at_call 143;refine(Cm _ _).mono ?_;rintro e w' ⟨rfl,rfl⟩)|(refine wpList_load_row rfl 312 _ rfl 0 rfl tt _ fr _ hg Tryz.underlying312 rfl (by kernel_rfl) ?_))
 refine wp_loop_rounds 6 ?_;rw[rounds_succ];go_wp2;rw[rounds_succ];go_wp2;rw[rounds_succ];go_wp2;rw[rounds_succ];go_wp2;rw[rounds_succ];go_wp2;rw[rounds_succ];go_wp2
 go_ret3
 refine⟨rfl,?_⟩;repeat (first|exact Below.refl _ _|refine Below.drew ?_|refine Below.alloc ?_ (by simp;try omega) _)
theorem acQ(p:Int)(h0:¬p=0)(w:World)(tt:TypeId)(fr:Nat×Nat)(hg:w.heap[0]?=some (.cells BK tt fr)):
  Calls Tryz.prog 183 #[.int .i64 2,.int .i64 p] w fun e w'=>e=.returned (.tuple #[.string {data:=#[]},.string {data:=#[]},.int .i64 16])/\Below w.heap.size w w':=by
 have e0:((0:Int)==p)=false:=by simp;omega
 have j0:=i0;have j1:=i1;have j2:=i2;have j3:=i3;have j4:=i4;go_enter Tryz.func183,Tryz.ntmps183;go_wp2_with (first|(go_at_call 143;refine(Cm _ _).mono ?_;rintro e w' ⟨rfl,rfl⟩)|(refine wpList_load_row rfl 312 _ rfl 0 rfl tt _ fr _ hg Tryz.underlying312 rfl (by kernel_rfl) ?_))
 refine wp_loop_rounds 6 ?_;rw[rounds_succ];go_wp2;rw[rounds_succ];go_wp2;rw[rounds_succ];go_wp2;rw[rounds_succ];go_wp2;rw[rounds_succ];go_wp2;rw[rounds_succ];go_wp2
 go_ret3
 refine⟨rfl,?_⟩;repeat (first|exact Below.refl _ _|refine Below.drew ?_|refine Below.alloc ?_ (by simp;try omega) _)
theorem acR(k p:Int)(w:World)(h:k<0\/2<k):
  Calls Tryz.prog 183 #[.int .i64 k,.int .i64 p] w fun e w'=>e=.returned (.tuple #[.string {data:=#[]},.string {data:=#[]},.int .i64 9])/\Below w.heap.size w w':=by
 have HH:Hid (k<0\/2<k):=h;clear h;go_enter Tryz.func183,Tryz.ntmps183;go_wp2_with (first|(go_at_call 143;refine(V1 _ _ HH.out).mono ?_;rintro e w' ⟨rfl,rfl⟩))
 go_ret3
 exact⟨rfl,Below.refl _ _⟩
def Hs(k p:Int):ByteArray:=if k=0/\p=0 then {data:=#[105]} else if k=0/\p=1 then {data:=#[98]} else if k=1/\p=0 then {data:=#[115]} else if k=1/\p=1 then {data:=#[99]} else if k=2/\p=0 then {data:=#[114,40,101,51,113,51,105,41]} else {data:=#[]}
def Ue(k p:Int):ByteArray:=if k=0/\p=0 then {data:=#[99]} else if k=0/\p=1 then {data:=#[99]} else if k=1/\p=0 then {data:=#[99]} else if k=1/\p=1 then {data:=#[113,52,115]} else if k=2/\p=0 then {data:=#[117,40,98,113,51,105,41]} else {data:=#[]}
def KM(k p:Int):Int:=if k<0\/2<k then 9 else if k=0/\p=0 then 0 else if k=0/\p=1 then 0 else if k=1/\p=0 then 0 else if k=1/\p=1 then 0 else if k=2/\p=0 then 0 else 16
theorem ZL{Q:Int->Int->Prop}(k p:Int)(ad:∀k p,k<0\/2<k->Q k p)(aa:Q 0 0)(ab:Q 0 1)(h10:Q 1 0)(h11:Q 1 1)(ac:Q 2 0)(h0:∀p,¬p=0->¬p=1->Q 0 p)(h1:∀p,¬p=0->¬p=1->Q 1 p)(h2:∀p,¬p=0->Q 2 p):Q k p:=by
 by_cases a:k<0\/2<k
 ·exact ad k p a
 have hk:k=0\/k=1\/k=2:=by omega
 rcases hk with rfl|rfl|rfl
 ·by_cases b:p=0
  ·subst b;exact aa
  ·by_cases c:p=1
   ·subst c;exact ab
   ·exact h0 p b c
 ·by_cases b:p=0
  ·subst b;exact h10
  ·by_cases c:p=1
   ·subst c;exact h11
   ·exact h1 p b c
 ·by_cases b:p=0
  ·subst b;exact ac
  ·exact h2 p b
abbrev DY(k p:Int):Value:=.tuple #[.string (Hs k p),.string (Ue k p),.int .i64 (KM k p)]
theorem acU(k p:Int)(h:k<0\/2<k):DY k p=.tuple #[.string {data:=#[]},.string {data:=#[]},.int .i64 9]:=by
 have a0:¬k=0:=by omega
 have a1:¬k=1:=by omega
 have a2:¬k=2:=by omega
 simp[DY,Hs,Ue,KM,a0,a1,a2,h]
theorem abT(p:Int)(h0:¬p=0)(h1:¬p=1):DY 0 p=.tuple #[.string {data:=#[]},.string {data:=#[]},.int .i64 16]:=by
 simp[DY,Hs,Ue,KM,h0,h1]
theorem abU(p:Int)(h0:¬p=0)(h1:¬p=1):DY 1 p=.tuple #[.string {data:=#[]},.string {data:=#[]},.int .i64 16]:=by
 simp[DY,Hs,Ue,KM,h0,h1]
theorem abV(p:Int)(h0:¬p=0):DY 2 p=.tuple #[.string {data:=#[]},.string {data:=#[]},.int .i64 16]:=by
 simp[DY,Hs,Ue,KM,h0]
theorem Vi(k p:Int)(w:World)(tt:TypeId)(fr:Nat×Nat)(hg:w.heap[0]?=some (.cells BK tt fr)):
  Calls Tryz.prog 183 #[.int .i64 k,.int .i64 p] w fun e w'=>e=.returned (DY k p)/\Below w.heap.size w w':=by
 refine ZL (Q:=fun k p=>Calls Tryz.prog 183 #[.int .i64 k,.int .i64 p] w fun e w'=>e=.returned (DY k p)/\Below w.heap.size w w') k p ?_ ?_ ?_ ?_ ?_ ?_ ?_ ?_ ?_
 ·intro k p h;rw[acU k p h];exact acR k p w h
 ·exact acJ w tt fr hg
 ·exact acK w tt fr hg
 ·exact acM w tt fr hg
 ·exact acN w tt fr hg
 ·exact acP w tt fr hg
 ·intro p h0 h1;rw[abT p h0 h1];exact acL p h0 h1 w tt fr hg
 ·intro p h0 h1;rw[abU p h0 h1];exact acO p h0 h1 w tt fr hg
 ·intro p h0;rw[abV p h0];exact acQ p h0 w tt fr hg
theorem adN{w1:World}{tt:TypeId}{fr:Nat×Nat}(hg:w.heap[0]?=some (.cells BK tt fr))(hb:Below w.heap.size w w1):w1.heap[0]?=some (.cells BK tt fr):=by
 have h0:0<w.heap.size:=by
  rcases agy 0 w.heap.size with h|h
  ·exact h
  ·rw[ags h]at hg;cases hg
 rw[hb.block 0 h0];exact hg
theorem aeE:DY 2 0=.tuple #[.string {data:=#[114,40,101,51,113,51,105,41]},.string {data:=#[117,40,98,113,51,105,41]},.int .i64 0]:=rfl
end Go.Proofs.YtblomippkddgiabGreatDoor
