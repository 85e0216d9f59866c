import Derived.Test.YtblomippkddgiabGreatDoorJ42
set_option maxRecDepth 100000
set_option maxHeartbeats 2000000
namespace Go.Proofs.YtblomippkddgiabGreatDoor
open Go.RowKit
variable {F:Aq}{v:List V.It}{B i u:Nat}{p:Pl}{M:R.Bk}{G:R.Wd}{w:World}
theorem Vd{A n size:Nat}{e:TypeId}{v:Value}{xs:List Value}(h:w.ownsRow A e size v n xs)(hB:B<=A):w.ownsRow B e size v n xs:=by
 refine⟨h.1,?_⟩;rcases h.2 with q|⟨g,cap,aa,q1,q2,q3⟩
 ·exact afJ q
 ·exact afM ⟨g,cap,aa,q1,agM hB q2,q3⟩
theorem Mq:∀(ks:List Bool) (v:List V.It),ks.length=v.length->v.length<=(V.bytesOf ks v).length
 |[],[],_=>afI _
 |[],_ :: _,h=>by simp at h
 |_ :: _,[],h=>by simp at h
 |k :: ks,x :: v,h=>by
  have ih:=Mq ks v (by simpa using h);have h2:1<=(V.EE k x).length:=by
   cases k
   ·exact Nat.le_of_ble_eq_true rfl
   ·simp[V.EE,V.A5]
  simp only[V.bytesOf,afS,af1];omega
theorem aaD{g:Nat->Nat}{f p:Nat}{ks:List Bool}(he:V.CF g f p v=some (ks,[])):ks.length=v.length:=by
 obtain⟨h1,h4⟩:=V.Gp _ _ _ _ _ _ he;have:=congrArg List.length h1;rw[agf]at this;simp at this;omega
theorem GL{t:ByteArray}{v:List R.It}{bs:List UInt8}(h:R.Ba t v=some bs):v.length<=70:=by
 obtain⟨hc,ks,he,h1,h2⟩:=V.Ef (R.DF h);have:=Mq ks v (aaD he);omega
def Sc(o:Option R.En)(w:World)(e:Ending)(w':World):Prop:=(match o with
 |none=>e=.returned (.tuple #[.agg UR.toArray,.int .i64 9])
 |some x=>∃X Y,e=.returned (.tuple #[.agg #[.int .i64 x.client,.int .i64 x.Ae,.int .i64 x.line,.int .i64 x.seq,.int .i64 x.proc,X,Y],.int .i64 0])/\V.Row w' w.heap.size X x.arg/\V.Row w' w.heap.size Y x.result)/\Below w.heap.size w w'
theorem Og{xa:Option Addr}{xn xc:Nat}{v:List R.It}(hn:v.length<=1000)(h:∀wa,Below w.heap.size w wa->BF wa F (.slice xa xn xc) v):
  ∀wa,Below w.heap.size w wa->Calls Tryz.prog 39 #[.slice xa xn xc] wa fun e w'=>(∃ra rn rc,e=.returned (.slice ra rn rc)/\∀wb,Af (fun k=>w.heap.size<=k/\k<wa.heap.size) w' wb->V.Row wb w.heap.size (.slice ra rn rc) v)/\Below wa.heap.size wa w':=by
 intro wa hb;refine(Qp (h wa hb) hn).mono ?_;rintro e w' ⟨⟨O,rfl,hR,_⟩,aa⟩;obtain⟨ra,rn,rc,rfl⟩:=Ar hR;refine⟨⟨ra,rn,rc,rfl,fun wb hk=>?_⟩,aa⟩;have:=hk.row hR (fun j hj q=>by have:=(World.ownsRow.lt hR j hj).1;omega);exact Vd this hb.size
theorem LW.acF(h:LW p F G w)(hI:R.Inv M G)(u k:Int):
  Calls Tryz.prog 21 #[ptr p.s,.int .i64 u,.int .i64 k] w (Sc (R.DJ G u k) w):=by
 have hL:∀wa,Below w.heap.size w wa->Calls Tryz.prog 20 #[ptr p.s,.int .i64 u] wa fun e w'=>e=.returned (.tuple #[.int .i64 (R.I4 G u).1,.int .i64 (R.I4 G u).2])/\Below wa.heap.size wa w':=fun wa hb=>(h.below hb).aed u
 have no:((R.I4 G u).2≠0\/k<0\/(R.I4 G u).1<=k)->R.DJ G u k=none->Calls Tryz.prog 21 #[ptr p.s,.int .i64 u,.int .i64 k] w (Sc (R.DJ G u k) w):=fun h1 h2=>by
  rw[h2];exact Yc w p.s u k _ _ hL h1
 have ax:p.t.zs.length=G.Ab.length:=by rw[<-h.BN.zs,af0]
 have ak:=h.wf.sv;by_cases hm:R.Ip G u
 ·by_cases hk:0<=k/\k<((R.Ho G u).length:Int)
  ·have au:=hm;unfold R.Ip at au;obtain⟨n,rfl⟩:∃n:Nat,u=(n:Int)+1:=⟨(u-1).toNat,by omega⟩;obtain⟨j,rfl⟩:∃j:Nat,k=(j:Int):=⟨k.toNat,by omega⟩;have hn:n<G.Ab.length:=by omega
   have hs:G.Ab[n]?=some G.Ab[n]:=afH hn;obtain⟨z,hz,ai⟩:=KV h.BN.zs hs;obtain⟨g,cap,aj,hK,hg,aw,k0,k1,k2,_⟩:=h.BN.Jt hz;obtain⟨es,he,ag,ad⟩:=(h.BN.each z (afU hz)).log;have af:R.Ho G ((n:Int)+1)=es.map (·.1):=by
    unfold R.Ho;rw[show ((n:Int)+1-1).toNat=n by omega,hs,<-ai,he];rfl
   rw[af,af0]at hk;have ae:j<es.length:=by omega
   have ac:es[j]?=some es[j]:=afH ae;have ab:es[j]∈es:=agr ae;generalize es[j]=y at ac ab;have an:R.DJ G ((n:Int)+1) (j:Int)=some y.1:=by
    unfold R.DJ;rw[if_pos ⟨hm,by omega⟩,af];simp[ac]
   have aq:R.I4 G ((n:Int)+1)=((es.length:Int),0):=by
    unfold R.I4;rw[if_pos hm,af,af0]
   rw[aq]at hL;rw[an];have ap:y.1∈G.Ab[n].log:=by
    rw[<-ai,<-he];exact List.mem_map_of_mem ab
   obtain⟨d,rb,d1,d2,d3,d4,d5,d6⟩:=((hI.lg n _ hs).each y.1 ap).some;have f1:y.1.arg.length<=1000:=by
    rw[d4];have:=GL (hI.bk _ _ d1).1.bs;omega
   have f2:y.1.result.length<=1000:=by
    have:=GL d5;omega
   rcases ag.2 with ⟨_,h0⟩|⟨lb,dc,ah,am,_,ao,al,_,_,av⟩
   ·omega
   ·have q:∀c,c<7->ah[j*7+c]?=(EX y)[c]?:=fun c hc=>by
     rw[<-E7 Ti es j c y ac hc,<-av,af7,if_pos (by omega)];simp
    have cl:∀c v,c<7->(EX y)[c]?=some v->w.cell? ⟨lb,j*7+c,none⟩=some v:=fun c v hc hv=>by
     simp[World.cell?,ao,q c hc,hv]
    have aa:∀{X:Value} {l:List R.It},BF w F X l->∃xa xn xc,X=.slice xa xn xc:=fun hx=>by
     rcases hx with ⟨_,rfl⟩|⟨b,off,cap,aj,_,rfl,_⟩
     ·exact⟨_,_,_,rfl⟩
     ·exact⟨_,_,_,rfl⟩
    obtain⟨i1,i2⟩:=ad y ab;have e5:=cl 5 _ (by omega) rfl;have e6:=cl 6 _ (by omega) rfl;obtain⟨xa,xn,xc,hX⟩:=aa i1;obtain⟨ya,yn,yc,hY⟩:=aa i2;rw[hX]at i1 e5;rw[hY]at i2 e6;rw[am]at k2;have keep:∀{X:Value} {l:List R.It},BF w F X l->∀wa,Below w.heap.size w wa->BF wa F X l:=fun hx wa hb=>hx.keep (Af.Al hb (fun _=>False)) (fun _ _ _ _ q=>q) (fun _ q=>q)
    have h6:w.cell? ⟨p.s,6,none⟩=some (.slice (some ⟨g,0,none⟩) p.t.zs.length cap):=by
     have:=cell_of h.BN.bs 6 p.t.K rfl;rw[hK]at this;exact this
    have ar:=lt_of_cell h6;refine(VR w p.s g n lb es.length dc j (es.length:Int) y.1.client y.1.Ae y.1.line y.1.seq y.1.proc xa ya xn xc yn yc (fun X w'=>V.Row w' w.heap.size X y.1.arg) (fun X w'=>V.Row w' w.heap.size X y.1.result) (by omega) ae k2 (cl 0 _ (by omega) rfl) (cl 1 _ (by omega) rfl) (cl 2 _ (by omega) rfl) (cl 3 _ (by omega) rfl) (cl 4 _ (by omega) rfl) e5 e6 hL (fun wa hb=>Ey wa p.s g n p.t.zs.length cap ((hb.cell (p:=⟨p.s,6,none⟩) ar).trans h6) (by omega) (by omega)) (Og f1 (keep i1)) (Og f2 (keep i2))).mono ?_;rintro e w' ⟨X,Y,rfl,r1,r2,r3⟩;exact⟨⟨X,Y,rfl,r1,r2⟩,r3⟩
  ·refine no ?_ ?_
   ·right;unfold R.I4;rw[if_pos hm];simp only;omega
   ·unfold R.DJ;split
    ·rw[ag1];omega
    ·rfl
 ·refine no ?_ ?_
  ·left;unfold R.I4;rw[if_neg hm];simp
  ·unfold R.DJ;rw[if_neg (fun q=>hm q.1)]
theorem LW.entry(h:LW p F G w)(hI:R.Inv M G)(u k:Int):
  Calls Tryz.prog 10 #[ptr p.x,.int .i64 u,.int .i64 k] w (Sc (R.DJ G u k) w):=by
 have x1:w.cell? ⟨p.x,1,none⟩=some (ptr p.s):=cell_of h.bx 1 _ rfl;have ad:=lt_of_cell x1;have HL:=Ac ((h.below ((Below.refl _ _).alloc (afI _) (.cells UR.toArray 45))).acF hI u k);generalize R.DJ G u k=Z at *;clear h hI;cases Z with
 |none=>
  have ab:Hid (Calls Tryz.prog 21 #[ptr p.s,.int .i64 u,.int .i64 k] (w.alloc (.cells UR.toArray 45)) fun e w'=>e=.returned (.tuple #[.agg #[.int .i64 0,.int .i64 0,.int .i64 0,.int .i64 0,.int .i64 0,.slice none 0 0,.slice none 0 0],.int .i64 9])/\Below (w.alloc (.cells UR.toArray 45)).heap.size (w.alloc (.cells UR.toArray 45)) w'):=Aa HL;clear HL;go_enter Tryz.func10,Tryz.ntmps10;go_wp2_with (go_at_call 21;refine(Aa ab).mono ?_;rintro e w1 ⟨rfl,aa⟩;obtain⟨b1,b4⟩:=Ku aa;obtain⟨f0,f1,f2,f3,f4,f5,f6,fz,_⟩:=GR b1 (Af.refl _ w1);have ac:=lt_of_block b1;have HX:=Ac b1;have HB:=Ac b4;clear aa b4 b1)
  refine AQ _ (IG (Aa HX) (.int .i64 0) (.int .i64 0) (.int .i64 0) (.int .i64 0) (.int .i64 0) (.slice none 0 0) (.slice none 0 0)) ?_;rintro W ⟨g0,g1,g2,g3,g4,g5,g6,gz,gk⟩;have HK:=Ac gk;clear gk;go_wp2
  (try simp only[Exit.inBlock,Exit.then])
  refine bodyPost_ret (by simp[results,Tryz.results10,go_sem,g0,g1,g2,g3,g4,g5,g6];try rfl) rfl ?_;exact⟨rfl,Gh (Aa HB) (Aa HK)⟩
 |some x=>
  have ab:Hid (Calls Tryz.prog 21 #[ptr p.s,.int .i64 u,.int .i64 k] (w.alloc (.cells UR.toArray 45)) fun e w'=>(∃xa xn xc ya yn yc,e=.returned (.tuple #[.agg #[.int .i64 x.client,.int .i64 x.Ae,.int .i64 x.line,.int .i64 x.seq,.int .i64 x.proc,.slice xa xn xc,.slice ya yn yc],.int .i64 0])/\V.Row w' (w.heap.size+1) (.slice xa xn xc) x.arg/\V.Row w' (w.heap.size+1) (.slice ya yn yc) x.result)/\Below (w.alloc (.cells UR.toArray 45)).heap.size (w.alloc (.cells UR.toArray 45)) w'):=by
   refine(Aa HL).mono ?_;rintro e w' ⟨⟨X,Y,rfl,r1,r2⟩,hb⟩;rw[show (w.alloc (.cells UR.toArray 45)).heap.size=w.heap.size+1 by simp]at r1 r2;obtain⟨xa,xn,xc,rfl⟩:=Ar r1;obtain⟨ya,yn,yc,rfl⟩:=Ar r2;exact⟨⟨xa,xn,xc,ya,yn,yc,rfl,r1,r2⟩,hb⟩
  clear HL;go_enter Tryz.func10,Tryz.ntmps10;go_wp2_with (go_at_call 21;refine(Aa ab).mono ?_;rintro e w1 ⟨⟨xa,xn,xc,ya,yn,yc,rfl,r1,r2⟩,aa⟩;obtain⟨b1,b4⟩:=Ku aa;obtain⟨f0,f1,f2,f3,f4,f5,f6,fz,_⟩:=GR b1 (Af.refl _ w1);have ac:=lt_of_block b1;have HX:=Ac b1;have HB:=Ac b4;have R1:=Ac r1;have R2:=Ac r2;clear aa b4 b1 r1 r2)
  refine AQ _ (IG (Aa HX) (.int .i64 x.client) (.int .i64 x.Ae) (.int .i64 x.line) (.int .i64 x.seq) (.int .i64 x.proc) (.slice xa xn xc) (.slice ya yn yc)) ?_;rintro W ⟨g0,g1,g2,g3,g4,g5,g6,gz,gk⟩;have HK:=Ac gk;have HR:Hid (∀{O:Value} {v:List V.It},V.Row w1 (w.heap.size+1) O v->V.Row W w.heap.size O v):=fun {O v} hR=>Vd ((Aa HK).row hR (fun j hj e=>by have:=(World.ownsRow.lt hR j hj).1;omega)) (by omega)
  clear gk;go_wp2
  (try simp only[Exit.inBlock,Exit.then])
  refine bodyPost_ret (by simp[results,Tryz.results10,go_sem,g0,g1,g2,g3,g4,g5,g6];try rfl) rfl ?_;exact⟨⟨_,_,rfl,(Aa HR) (Aa R1),(Aa HR) (Aa R2)⟩,Gh (Aa HB) (Aa HK)⟩
theorem Rz(w:World)(a b:Option Addr)(c d:Nat):Calls Tryz.prog 13 #[.slice a 0 c,.slice b 0 d] w fun e w'=>e=.returned (.bool true)/\Below w.heap.size w w':=by
 go_enter Tryz.func13,Tryz.ntmps13;go_wp2;go_loopw [5] (fun iv wr=>iv=.int .i64 0/\Below w.heap.size w wr) (fun _ _=>0)
 case atStart=>exact⟨rfl,Below.refl _ _⟩
 case round=>
  obtain⟨rfl,hb⟩:=hrel;have HB:=Ac hb;clear hb;go_wp2;go_returns;exact⟨rfl,Aa HB⟩
theorem WJ(w:World)(l:List V.It)(n ab ao ac bb bo bc:Nat)(hn:l.length=n)(ad:n<=1000000)(hA:∀j x,l[j]?=some x->w.cell? ⟨ab,ao+j*2,none⟩=some (.int .i64 x.1)/\w.cell? ⟨ab,ao+j*2+1,none⟩=some (.string x.2))(hB:∀j x,l[j]?=some x->w.cell? ⟨bb,bo+j*2,none⟩=some (.int .i64 x.1)/\w.cell? ⟨bb,bo+j*2+1,none⟩=some (.string x.2)):
  Calls Tryz.prog 13 #[.slice (some ⟨ab,ao,none⟩) n ac,.slice (some ⟨bb,bo,none⟩) n bc] w fun e w'=>e=.returned (.bool true)/\Below w.heap.size w w':=by
 have HA:Hid (∀j x wr,Below w.heap.size w wr->l[j]?=some x->(wr.cell? ⟨ab,ao+j*2,none⟩=some (.int .i64 x.1)/\wr.cell? ⟨ab,ao+j*2+1,none⟩=some (.string x.2))/\(wr.cell? ⟨bb,bo+j*2,none⟩=some (.int .i64 x.1)/\wr.cell? ⟨bb,bo+j*2+1,none⟩=some (.string x.2))):=fun j x wr hb hx=>
  ⟨⟨(hb.cell (p:=⟨ab,_,none⟩) (lt_of_cell (hA j x hx).1)).trans (hA j x hx).1,(hb.cell (p:=⟨ab,_,none⟩) (lt_of_cell (hA j x hx).1)).trans (hA j x hx).2⟩,(hb.cell (p:=⟨bb,_,none⟩) (lt_of_cell (hB j x hx).1)).trans (hB j x hx).1,(hb.cell (p:=⟨bb,_,none⟩) (lt_of_cell (hB j x hx).1)).trans (hB j x hx).2⟩
 clear hA hB;have HN:=Ac hn;clear hn;go_enter Tryz.func13,Tryz.ntmps13;go_wp2;go_loopw [5] (fun iv wr=>∃i:Nat,i<=n/\iv=.int .i64 i/\Below w.heap.size w wr) (fun iv _=>n-(intOf iv).toNat)
 case atStart=>exact⟨0,af8 _,rfl,Below.refl _ _⟩
 case round=>
  obtain⟨i,hi,rfl,hb⟩:=hrel;by_cases aa:i<n
  ·have hx:l[i]?=some (l[i]'(by have:=Aa HN;omega)):=afH _;generalize l[i]'(by have:=Aa HN;omega)=x at hx;obtain⟨x1,x2⟩:=x;obtain⟨⟨a0,a1⟩,b0,b1⟩:=(Aa HA) i (x1,x2) wr hb hx;simp only at a0 a1 b0 b1;have q1:(0:Int)<=(i:Int):=by omega
   have q3:IntKind.i64.wrap ((i:Int)+1)=(i:Int)+1:=by rw[IntKind.wrap_i64];omega
   have q2:(i:Int)<(n:Int):=by omega
   have HB:=Ac (fun k=>below_drewN hb k);have HI:=Ac hi;clear hb hx hi;go_wp2_with fail
   go_quiet (fail);go_wp2;go_roundw
   case rel=>exact⟨i+1,by omega,by go_num,(Aa HB) _⟩
   case measure=>simp[intOf];omega
  ·obtain rfl:i=n:=by omega
   have HB:=Ac hb;clear hb hi;go_wp2;go_returns;exact⟨rfl,Aa HB⟩
theorem RA(w:World)(A B:Value)(l:List V.It)(hA:V.Items w A l)(hB:V.Items w B l)(hl:l.length<=1000):Calls Tryz.prog 13 #[A,B] w fun e w'=>e=.returned (.bool true)/\Below w.heap.size w w':=by
 obtain⟨a,c,rfl,_,hA⟩:=hA;obtain⟨b,d,rfl,_,hB⟩:=hB;rcases hA with rfl|⟨ab,ao,rfl,_,hA⟩
 ·exact Rz w a b c d
 ·rcases hB with rfl|⟨bb,bo,rfl,_,hB⟩
  ·exact Rz w _ b c d
  ·exact WJ w l l.length ab ao c bb bo d rfl (by omega) hA hB
theorem KJ{X:Value}(h:V.Row w B X v):V.Items w X v:=by
 by_cases hv:v=[]
 ·subst hv;obtain⟨a,c,rfl⟩:=AX h;exact⟨a,c,rfl,af8 _,afJ rfl⟩
 ·unfold V.Row at h;rw[JY]at h;exact(TA h hv).items
theorem FX{sv:List R.Sv}(hu:u<=sv.length):CH sv u i <+: A9 sv:=by
 unfold CH;by_cases h:u<sv.length
 ·rw[afH h];simp only[af9,af2];refine⟨sv[u].log.drop i++A9 (sv.drop (u+1)),?_⟩;rw[agk,<-agk _ (sv[u].log.drop i),agX];exact(N9 h).symm
 ·rw[af5 (by omega),af6 (by omega)];simp
theorem acb{sv:List R.Sv}{K:R.Key}(hu:u<=sv.length)(h1:Cq K (A9 sv)=1):Cq K (CH sv u i)<=1:=by
 rw[<-h1];exact List.Sublist.countP_le (FX hu).sublist
structure JG(w:World)(r x lf sq nl ns ci kk:Nat)(nu lf0 sqv:Int):Prop where
 r0:w.cell? ⟨r,0,none⟩=some (ptr x)
 r6:w.cell? ⟨r,6,none⟩=some (.slice (some ⟨lf,0,none⟩) nl nl)
 r7:w.cell? ⟨r,7,none⟩=some (.slice (some ⟨sq,0,none⟩) ns ns)
 KG:w.cell? ⟨r,10,none⟩=some (.int .i64 nu)
 l0:w.cell? ⟨lf,ci,none⟩=some (.int .i64 lf0)
 s0:w.cell? ⟨sq,kk,none⟩=some (.int .i64 sqv)
theorem JG.below{w':World}{r x lf sq nl ns ci kk:Nat}{nu aa ab:Int}(h:JG w r x lf sq nl ns ci kk nu aa ab)(hB:w.heap.size<=B)(hb:Below B w w'):JG w' r x lf sq nl ns ci kk nu aa ab:=
 ⟨(hb.cell (p:=⟨r,0,none⟩) (afT (lt_of_cell h.r0) hB)).trans h.r0,(hb.cell (p:=⟨r,6,none⟩) (afT (lt_of_cell h.r0) hB)).trans h.r6,(hb.cell (p:=⟨r,7,none⟩) (afT (lt_of_cell h.r0) hB)).trans h.r7,(hb.cell (p:=⟨r,10,none⟩) (afT (lt_of_cell h.r0) hB)).trans h.KG,(hb.cell (p:=⟨lf,ci,none⟩) (afT (lt_of_cell h.l0) hB)).trans h.l0,(hb.cell (p:=⟨sq,kk,none⟩) (afT (lt_of_cell h.s0) hB)).trans h.s0⟩
theorem TI(w:World)(r x lf sq nl ns ci li kk:Nat)(nu af aa st:Int)(h:JG w r x lf sq nl ns ci kk nu af aa)(ai:kk<ns)(e3:IntKind.i64.wrap (3*(ci:Int))=3*(ci:Int))(e4:IntKind.i64.wrap (3*(ci:Int)+(li:Int))=(kk:Int))(ae:¬st=2)(ad:st=0↔aa=0)
  (ac:Calls Tryz.prog 19 #[ptr x,.int .i64 (ci:Int),.int .i64 (li:Int)] w fun e w'=>(∃oa oc,e=.returned (.tuple #[.agg #[.int .i64 st,.int .i64 aa,.slice oa 0 oc],.int .i64 0]))/\Below w.heap.size w w'):
  Calls Tryz.prog 8 #[ptr r,.int .i64 (ci:Int),.int .i64 (li:Int)] w fun e w'=>e=.returned (.bool true)/\Below w.heap.size w w':=by
 have HS:=Ac ac;have aj:(kk:Int)<(ns:Int):=by omega
 have ah:(0:Int)<=(kk:Int):=by omega
 have e5:(st==2)=false:=by simpa using ae
 have e6:(st==0)=(aa==0):=by
  rw[Bool.eq_iff_iff];simpa using ad
 have HR:Hid (∀w',Below w.heap.size w w'->JG w' r x lf sq nl ns ci kk nu af aa):=fun w' hb=>h.below (afI _) hb
 obtain⟨r0,r6,r7,KG,l0,s0⟩:=h;clear ac ae ad;go_enter Tryz.func8,Tryz.ntmps8;go_wp2_with (go_at_call 19;refine(Aa HS).mono ?_;rintro e w1 ⟨⟨oa,oc,rfl⟩,ab⟩;clear HS r0 r6 r7 KG l0 s0;obtain⟨r0,r6,r7,KG,l0,s0⟩:=(Aa HR) w1 ab;have ak:=lt_of_cell r0;have al:=lt_of_cell s0;have HB:=Ac ab;have ag:=Ac ab.size;clear ab)
 go_returns;exact⟨rfl,(Aa HB).alloc (Aa ag) _⟩
theorem QU(w:World)(r x lf sq nl ns ci li kk:Nat)(ab aa:Int)(sv:List R.Sv)(res:List R.It)(h:JG w r x lf sq nl ns ci kk (sv.length:Int) ab aa)(bi:kk<ns)(be:ci<nl)(e3:IntKind.i64.wrap (3*(ci:Int))=3*(ci:Int))(e4:IntKind.i64.wrap (3*(ci:Int)+(li:Int))=(kk:Int))(hq:¬aa=0)(bq:sv.length<=255)(aY:∀s∈sv,s.log.length<=3000000)
  (b9:res.length<=1000) (aq:Cq ⟨ci,ab,li,aa⟩ (A9 sv)=1) (ar:∀e∈A9 sv,R.Bl e=⟨ci,ab,li,aa⟩->e.result=res)
  (aK:Calls Tryz.prog 19 #[ptr x,.int .i64 (ci:Int),.int .i64 (li:Int)] w fun e w'=>(∃oa on oc,e=.returned (.tuple #[.agg #[.int .i64 2,.int .i64 aa,.slice oa on oc],.int .i64 0])/\V.Items w' (.slice oa on oc) res)/\Below w.heap.size w w')
  (aL:∀wr (u:Nat) (s:R.Sv),Below w.heap.size w wr->sv[u]?=some s->Calls Tryz.prog 9 #[ptr x,.int .i64 ((u:Int)+1)] wr fun e w'=>e=.returned (.tuple #[.int .i64 (s.log.length:Int),.int .i64 0])/\Below wr.heap.size wr w')
  (aM:∀wr (u i:Nat) (s:R.Sv) (y:R.En),Below w.heap.size w wr->sv[u]?=some s->s.log[i]?=some y->Calls Tryz.prog 10 #[ptr x,.int .i64 ((u:Int)+1),.int .i64 (i:Int)] wr fun e w'=>(∃xa xn xc ya yn yc,e=.returned (.tuple #[.agg #[.int .i64 y.client,.int .i64 y.Ae,.int .i64 y.line,.int .i64 y.seq,.int .i64 y.proc,.slice xa xn xc,.slice ya yn yc],.int .i64 0])/\V.Items w' (.slice ya yn yc) y.result)/\Below wr.heap.size wr w'):
  Calls Tryz.prog 8 #[ptr r,.int .i64 (ci:Int),.int .i64 (li:Int)] w fun e w'=>e=.returned (.bool true)/\Below w.heap.size w w':=by
 have HS:=Ac aK;have HL:Hid (∀wr (u:Nat) (s:R.Sv),Below w.heap.size w wr->sv[u]?=some s->Calls Tryz.prog 9 #[ptr x,.int .i64 ((u:Int)+1)] wr fun e w'=>e=.returned (.tuple #[.int .i64 (s.log.length:Int),.int .i64 0])/\Below wr.heap.size wr w'):=aL;have HE:Hid (∀wr (u i:Nat) (s:R.Sv) (y:R.En),Below w.heap.size w wr->sv[u]?=some s->s.log[i]?=some y->Calls Tryz.prog 10 #[ptr x,.int .i64 ((u:Int)+1),.int .i64 (i:Int)] wr fun e w'=>(∃xa xn xc ya yn yc,e=.returned (.tuple #[.agg #[.int .i64 y.client,.int .i64 y.Ae,.int .i64 y.line,.int .i64 y.seq,.int .i64 y.proc,.slice xa xn xc,.slice ya yn yc],.int .i64 0])/\V.Items w' (.slice ya yn yc) y.result)/\Below wr.heap.size wr w'):=aM;have bj:(kk:Int)<(ns:Int):=by omega
 have bh:(0:Int)<=(kk:Int):=by omega
 have bf:(ci:Int)<(nl:Int):=by omega
 have bd:(0:Int)<=(ci:Int):=by omega
 have e6:(aa==0)=false:=by simpa using hq
 have HR:Hid (∀w',Below w.heap.size w w'->JG w' r x lf sq nl ns ci kk (sv.length:Int) ab aa):=fun w' hb=>h.below (afI _) hb
 have an:=Ac aq;have aB:Hid (∀e∈A9 sv,R.Bl e=⟨ci,ab,li,aa⟩->e.result=res):=ar;have b5:Hid (∀s∈sv,s.log.length<=3000000):=aY;obtain⟨r0,r6,r7,KG,l0,s0⟩:=h;clear aK aL aM aq ar hq aY;go_enter Tryz.func8,Tryz.ntmps8;go_wp2_with (go_at_call 19;refine(Aa HS).mono ?_;rintro e w1 ⟨⟨oa,on,oc,rfl,aS⟩,aE⟩;clear HS r0 r6 r7 KG l0 s0;obtain⟨r0,r6,r7,KG,l0,s0⟩:=(Aa HR) w1 aE;have aw:=lt_of_cell r0;have ax:=lt_of_cell s0;have aN:=Ac aE;have b4:=Ac aS;clear aE aS)
 have am:Hid ((w1.alloc (.cells #[.int .i64 2,.int .i64 aa,.slice oa on oc] 64)).heap[w1.heap.size]?=some (.cells #[.int .i64 2,.int .i64 aa,.slice oa on oc] 64 (0,0))):=heap_alloc_new w1 _;have al:Hid (Below w1.heap.size w1 (w1.alloc (.cells #[.int .i64 2,.int .i64 aa,.slice oa on oc] 64))):=(Below.refl _ _).alloc (afI _) _;have aR:Hid (w1.heap.size<(w1.alloc (.cells #[.int .i64 2,.int .i64 aa,.slice oa on oc] 64)).heap.size):=by
  show w1.heap.size<_;simp
 refine FD (fun W=>W.heap[w1.heap.size]?=some (.cells #[.int .i64 2,.int .i64 aa,.slice oa on oc] 64 (0,0))/\Below w1.heap.size w1 W/\w1.heap.size<W.heap.size) ⟨Aa am,Aa al,Aa aR⟩ ?_;clear am al aR r0 r6 r7 KG l0 s0 aw ax;rintro W ⟨ac,aF,ay⟩;have ak:=(Aa aN).trans (aF.mono (Aa aN).size);have av:Hid (∀wr,Below W.heap.size W wr->(Below w.heap.size w wr/\JG wr r x lf sq nl ns ci kk (sv.length:Int) ab aa)/\wr.cell? ⟨w1.heap.size,2,none⟩=some (.slice oa on oc)/\V.Items wr (.slice oa on oc) res/\w1.heap.size<wr.heap.size):=fun wr hb=>by
  have h1:Below w.heap.size w wr:=ak.trans (hb.mono ak.size);exact⟨⟨h1,(Aa HR) wr h1⟩,(hb.cell (p:=⟨w1.heap.size,2,none⟩) ay).trans (cell_of ac 2 _ rfl),((Aa b4).below aF).below hb,afT ay hb.size⟩
 obtain⟨⟨-,r0,r6,r7,KG,l0,s0⟩,-⟩:=(Aa av) W (Below.refl _ _);have x1:W.cell? ⟨w1.heap.size,1,none⟩=some (.int .i64 aa):=cell_of ac 1 _ rfl;have x0:W.cell? ⟨w1.heap.size,0,none⟩=some (.int .i64 2):=cell_of ac 0 _ rfl;have aw:=lt_of_cell r0;have ax:=lt_of_cell s0;clear ac aF ay ak;go_wp2;go_loopw [10,11] (fun tv uv wr=>∃u:Nat,u<=sv.length/\uv=.int .i64 ((u:Int)+1)/\tv=.int .i64 (Cq ⟨ci,ab,li,aa⟩ (CH sv u 0):Int)/\Below W.heap.size W wr) (fun _ uv _=>sv.length+1-(intOf uv).toNat)
 case atStart=>exact⟨0,af8 _,rfl,rfl,Below.refl _ _⟩
 case round=>
  obtain⟨u,hu,rfl,rfl,hb⟩:=hrel;clear r0 r6 r7 KG l0 s0 x0 x1 aw ax;obtain⟨⟨ae,r0,r6,r7,KG,l0,s0⟩,x2,hI,ay⟩:=(Aa av) wr hb;by_cases aZ:u<sv.length
  ·have hs:sv[u]?=some sv[u]:=afH aZ;have aH:=(Aa b5) sv[u] (agr aZ);generalize sv[u]=s at hs aH;have bo:((u:Int)+1<=(sv.length:Int)):=by omega
   have HC:=Ac ((Aa HL) wr u s ae hs);have HS:=Ac hs;have au:=Ac hb;clear hb ae hI x2 hs;go_wp2_with (go_at_call 9;refine(Aa HC).mono ?_;rintro e w2 ⟨rfl,aU⟩;have b2:=Ac ((Aa au).trans (aU.mono (Aa au).size));clear aU HC)
   go_loopw [10,14] (fun tv iv wr=>∃i:Nat,i<=s.log.length/\iv=.int .i64 (i:Int)/\tv=.int .i64 (Cq ⟨ci,ab,li,aa⟩ (CH sv u i):Int)/\Below W.heap.size W wr) (fun _ iv _=>s.log.length-(intOf iv).toNat)
   case atStart=>exact⟨0,af8 _,rfl,rfl,Aa b2⟩
   case round=>
    obtain⟨i,hi,rfl,rfl,hb⟩:=hrel;clear r0 r6 r7 KG l0 s0;obtain⟨⟨ae,r0,r6,r7,KG,l0,s0⟩,x2,hI,ba⟩:=(Aa av) _ hb;by_cases aI:i<s.log.length
    ·have hy:s.log[i]?=some s.log[i]:=afH aI;generalize s.log[i]=y at hy;have bp:(i:Int)<(s.log.length:Int):=by omega
     have HC:=Ac ((Aa HE) _ u i s y ae (Aa HS) hy);have aJ:=IV (Aa HS) hy;have aX:Cq ⟨ci,ab,li,aa⟩ (CH sv u (i+1))=Cq ⟨ci,ab,li,aa⟩ (CH sv u i)+Cq ⟨ci,ab,li,aa⟩ [y]:=by rw[aJ,SI]
     have ap:y∈A9 sv:=(FX (i:=i+1) hu).subset (by rw[aJ];simp);have b7:=acb (i:=i) hu (Aa an);have aP:=Ac aX;have az:=Ac ap;have ad:=Ac hb;generalize Cq ⟨ci,ab,li,aa⟩ (CH sv u i)=N at *;have br:IntKind.i64.wrap ((N:Int)+1)=(N:Int)+1:=by rw[IntKind.wrap_i64];omega
     have bc:IntKind.i64.wrap ((i:Int)+1)=(i:Int)+1:=by rw[IntKind.wrap_i64];omega
     clear hb ae hI x2 hy aX ap aJ;go_wp2_with (go_at_call 10;refine(Aa HC).mono ?_;rintro e w3 ⟨⟨xa,xn,xc,ya,yn,yc,rfl,aT⟩,aV⟩;have aO:=Ac ((Aa ad).trans (aV.mono (Aa ad).size));have aQ:=Ac aT;clear aV aT HC)
     have am:Hid ((w3.alloc (.cells #[.int .i64 y.client,.int .i64 y.Ae,.int .i64 y.line,.int .i64 y.seq,.int .i64 y.proc,.slice xa xn xc,.slice ya yn yc] 45)).heap[w3.heap.size]?=some (.cells #[.int .i64 y.client,.int .i64 y.Ae,.int .i64 y.line,.int .i64 y.seq,.int .i64 y.proc,.slice xa xn xc,.slice ya yn yc] 45 (0,0))):=heap_alloc_new w3 _;have al:Hid (Below w3.heap.size w3 (w3.alloc (.cells #[.int .i64 y.client,.int .i64 y.Ae,.int .i64 y.line,.int .i64 y.seq,.int .i64 y.proc,.slice xa xn xc,.slice ya yn yc] 45))):=(Below.refl _ _).alloc (afI _) _;refine FD (fun V=>V.heap[w3.heap.size]?=some (.cells #[.int .i64 y.client,.int .i64 y.Ae,.int .i64 y.line,.int .i64 y.seq,.int .i64 y.proc,.slice xa xn xc,.slice ya yn yc] 45 (0,0))/\Below w3.heap.size w3 V) ⟨Aa am,Aa al⟩ ?_;clear am al r0 r6 r7 KG l0 s0;rintro W3 ⟨ac,aj⟩;have ai:=(Aa aO).trans (aj.mono (Aa aO).size);obtain⟨⟨-,r0,r6,r7,KG,l0,s0⟩,x2,hI,bb⟩:=(Aa av) W3 ai;have y0:W3.cell? ⟨w3.heap.size,0,none⟩=some (.int .i64 y.client):=cell_of ac 0 _ rfl;have y1:W3.cell? ⟨w3.heap.size,1,none⟩=some (.int .i64 y.Ae):=cell_of ac 1 _ rfl;have y2:W3.cell? ⟨w3.heap.size,2,none⟩=some (.int .i64 y.line):=cell_of ac 2 _ rfl;have y3:W3.cell? ⟨w3.heap.size,3,none⟩=some (.int .i64 y.seq):=cell_of ac 3 _ rfl;have y6:W3.cell? ⟨w3.heap.size,6,none⟩=some (.slice ya yn yc):=cell_of ac 6 _ rfl;have aw:=lt_of_cell r0;have ax:=lt_of_cell l0;have bl:=lt_of_cell y0;have af:=Ac (fun n=>below_drewN ai n);have aC:Hid (y.result=res->∀n,Calls Tryz.prog 13 #[.slice ya yn yc,.slice oa on oc] (W3.drewN n) fun e w'=>e=.returned (.bool true)/\Below (W3.drewN n).heap.size (W3.drewN n) w'):=fun e n=>by
      have h1:V.Items (W3.drewN n) (.slice ya yn yc) y.result:=((Aa aQ).below aj).below (below_drewN (Below.refl _ _) n);rw[e]at h1;exact RA _ _ _ res h1 (hI.below (below_drewN (Below.refl _ _) n)) b9
     have h4:(y.client==(ci:Int))=false\/((y.client==(ci:Int))=true/\(y.Ae==ab)=false)\/((y.client==(ci:Int))=true/\(y.Ae==ab)=true/\(y.line==(li:Int))=false)\/((y.client==(ci:Int))=true/\(y.Ae==ab)=true/\(y.line==(li:Int))=true/\(y.seq==aa)=false)\/((y.client==(ci:Int))=true/\(y.Ae==ab)=true/\(y.line==(li:Int))=true/\(y.seq==aa)=true):=by
      cases (y.client==(ci:Int))<;>cases (y.Ae==ab)<;>cases (y.line==(li:Int))<;>cases (y.seq==aa)<;>simp
     have aA:Hid (((y.client==(ci:Int))&&(y.Ae==ab)&&(y.line==(li:Int))&&(y.seq==aa))=false->Cq ⟨ci,ab,li,aa⟩ [y]=0):=fun e=>by
      refine Qq (fun z hz q=>?_);obtain rfl:z=y:=by simpa using hz
      unfold R.Bl at q;simp only[R.Key.mk.injEq]at q;simp[q.1,q.2.1,q.2.2.1,q.2.2.2]at e
     have ah:Hid ((y.client==(ci:Int))=true->(y.Ae==ab)=true->(y.line==(li:Int))=true->(y.seq==aa)=true->R.Bl y=⟨ci,ab,li,aa⟩):=fun a1 a2 a3 a4=>by
      unfold R.Bl;simp only[R.Key.mk.injEq];exact⟨by simpa using a1,by simpa using a2,by simpa using a3,by simpa using a4⟩
     clear ac aj ai hI aQ;rcases h4 with q1|⟨q1,q2⟩|⟨q1,q2,q3⟩|⟨q1,q2,q3,q4⟩|⟨q1,q2,q3,q4⟩;rotate_left 4
     ·have aG:=(Aa ah) q1 q2 q3 q4;have aD:=Ac ((Aa aC) ((Aa aB) y (Aa az) aG));have h1:Cq ⟨ci,ab,li,aa⟩ [y]=1:=by
       unfold Cq;simp[aG]
      have ag:=Ac h1;clear aG h1 aC ah aA;go_wp2_with fail
      go_quiet (fail);go_wp2_with (go_at_call 13;refine((Aa aD) _).mono ?_;rintro e w4 ⟨rfl,aW⟩;have b3:=Ac aW;clear aW)
      go_roundw
      case rel=>exact⟨i+1,by omega,by go_num,by rw[Aa aP,Aa ag];rfl,((Aa af) _).trans ((Aa b3).mono ((Aa af) _).size)⟩
      case measure=>simp[intOf];omega
     all_goals
      have h0:=(Aa aA) (by simp_all);have ag:=Ac h0;clear h0 aC ah aA;go_wp2_with fail
      go_quiet (fail);go_wp2_with fail
      go_roundw
      case rel=>exact⟨i+1,by omega,by go_num,by rw[Aa aP,Aa ag];rfl,(Aa af) _⟩
      case measure=>simp[intOf];omega
    ·obtain rfl:i=s.log.length:=by omega
     have b1:=OP (Aa HS);have bc:IntKind.i64.wrap ((u:Int)+1+1)=(u:Int)+1+1:=by rw[IntKind.wrap_i64];omega
     have ad:=Ac hb;have b6:=Ac b1;clear hb ae hI x2 b1;go_wp2;go_roundw
     case rel=>exact⟨u+1,by omega,by go_num,by rw[<-Aa b6],Aa ad⟩
     case measure=>simp[intOf];omega
  ·obtain rfl:u=sv.length:=by omega
   have bg:¬((sv.length:Int)+1<=(sv.length:Int)):=by omega
   have ao:Cq ⟨ci,ab,li,aa⟩ (CH sv sv.length 0)=1:=by rw[R0];exact Aa an
   rw[ao];have au:=Ac ae;clear hb ae hI x2 ao;go_wp2;go_returns;exact⟨rfl,Aa au⟩
end Go.Proofs.YtblomippkddgiabGreatDoor
