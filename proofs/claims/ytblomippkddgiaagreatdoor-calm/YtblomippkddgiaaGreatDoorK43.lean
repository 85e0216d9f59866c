import Derived.Test.YtblomippkddgiaaGreatDoorK42
set_option maxRecDepth 100000
set_option maxHeartbeats 2000000
namespace Go.Proofs.YtblomippkddgiaaGreatDoor
open Go.RowKit
theorem TC{w:World}{A B n size:Nat}{e:TypeId}{v:Value}{xs:List Value}(h:w.ownsRow A e size v n xs)(hB:B<=A):w.ownsRow B e size v n xs:=by
 refine⟨h.1,?_⟩;rcases h.2 with q|⟨g,cap,cur,q1,q2,q3⟩
 ·exact Or.inl q
 ·exact Or.inr ⟨g,cap,cur,q1,Nat.le_trans hB q2,q3⟩
theorem KV:∀(ks:List Bool) (v:List V.It),ks.length=v.length->v.length<=(V.bytesOf ks v).length
 |[],[],_=>Nat.le_refl _
 |[],_ :: _,h=>by simp at h
 |_ :: _,[],h=>by simp at h
 |k :: ks,x :: v,h=>by
  have ih:=KV ks v (by simpa using h);have h2:1<=(V.El k x).length:=by
   cases k
   ·exact Nat.le_of_ble_eq_true rfl
   ·simp[V.El,V.AX]
  simp only[V.bytesOf,List.length_append,List.length_cons];omega
theorem YV{g:Nat->Nat}{f p:Nat}{v:List V.It}{ks:List Bool}(he:V.Ct g f p v=some (ks,[])):ks.length=v.length:=by
 obtain⟨h1,h4⟩:=V.FM _ _ _ _ _ _ he;have:=congrArg List.length h1;rw[List.length_drop]at this;simp at this;omega
theorem EY{t:ByteArray}{v:List R.It}{bs:List UInt8}(h:R.AV t v=some bs):v.length<=70:=by
 obtain⟨hc,ks,he,h1,h2⟩:=V.D5 (R.Bv h);have:=KV ks v (YV he);omega
def QI(o:Option R.En)(w:World)(e:Ending)(w':World):Prop:=(match o with
 |none=>e=.returned (.tuple #[.agg Tg.toArray,.int .i64 9])
 |some x=>∃X Y,e=.returned (.tuple #[.agg #[.int .i64 x.client,.int .i64 x.Ag,.int .i64 x.line,.int .i64 x.seq,.int .i64 x.proc,X,Y],.int .i64 0])/\V.Row w' w.heap.size X x.arg/\V.Row w' w.heap.size Y x.result)/\Below w.heap.size w w'
theorem MO{w:World}{F:Aq}{xa:Option Addr}{xn xc:Nat}{v:List R.It}(hn:v.length<=1000)(h:∀wa,Below w.heap.size w wa->BD wa F (.slice xa xn xc) v):
  ∀wa,Below w.heap.size w wa->Calls Tryz.prog 74 #[.slice xa xn xc] wa fun e w'=>(∃ra rn rc,e=.returned (.slice ra rn rc)/\∀wb,Af (fun k=>w.heap.size<=k/\k<wa.heap.size) w' wb->V.Row wb w.heap.size (.slice ra rn rc) v)/\Below wa.heap.size wa w':=by
 intro wa hb;refine(OO (h wa hb) hn).mono ?_;rintro e w' ⟨⟨O,rfl,hR,_⟩,hb'⟩;obtain⟨ra,rn,rc,rfl⟩:=Ar hR;refine⟨⟨ra,rn,rc,rfl,fun wb hk=>?_⟩,hb'⟩;have:=hk.row hR (fun j hj q=>by have:=(World.ownsRow.lt hR j hj).1;omega);exact TC this hb.size
theorem LW.aa0{p:Pl}{F:Aq}{G:R.Wd}{w:World}(h:LW p F G w){M:R.Bk}(hI:R.Inv M G)(u k:Int):
  Calls Tryz.prog 80 #[ptr p.s,.int .i64 u,.int .i64 k] w (QI (R.Dr G u k) w):=by
 have hL:∀wa,Below w.heap.size w wa->Calls Tryz.prog 79 #[ptr p.s,.int .i64 u] wa fun e w'=>e=.returned (.tuple #[.int .i64 (R.Iw G u).1,.int .i64 (R.Iw G u).2])/\Below wa.heap.size wa w':=fun wa hb=>(h.below hb).acr u
 have no:((R.Iw G u).2≠0\/k<0\/(R.Iw G u).1<=k)->R.Dr G u k=none->Calls Tryz.prog 80 #[ptr p.s,.int .i64 u,.int .i64 k] w (QI (R.Dr G u k) w):=fun h1 h2=>by
  rw[h2];exact Wm w p.s u k _ _ hL h1
 have hzl:p.t.zs.length=G.Ac.length:=by rw[<-h.Co.zs,List.length_map]
 have h255:=h.wf.sv;by_cases hm:R.Ho G u
 ·by_cases hk:0<=k/\k<((R.Jt G u).length:Int)
  ·have hm':=hm;unfold R.Ho at hm';obtain⟨n,rfl⟩:∃n:Nat,u=(n:Int)+1:=⟨(u-1).toNat,by omega⟩;obtain⟨j,rfl⟩:∃j:Nat,k=(j:Int):=⟨k.toNat,by omega⟩;have hn:n<G.Ac.length:=by omega
   have hs:G.Ac[n]?=some G.Ac[n]:=List.getElem?_eq_getElem hn;obtain⟨z,hz,hz1⟩:=Mh h.Co.zs hs;obtain⟨g,cap,cur,hK,hg,hFg,k0,k1,k2,_⟩:=h.Co.JR hz;obtain⟨es,he,hrow,hits⟩:=(h.Co.each z (List.mem_of_getElem? hz)).log;have hlo:R.Jt G ((n:Int)+1)=es.map (·.1):=by
    unfold R.Jt;rw[show ((n:Int)+1-1).toNat=n by omega,hs,<-hz1,he];rfl
   rw[hlo,List.length_map]at hk;have hjl:j<es.length:=by omega
   have hes:es[j]?=some es[j]:=List.getElem?_eq_getElem hjl;have hmem:es[j]∈es:=List.getElem_mem hjl;generalize es[j]=y at hes hmem;have hen:R.Dr G ((n:Int)+1) (j:Int)=some y.1:=by
    unfold R.Dr;rw[if_pos ⟨hm,by omega⟩,hlo];simp[hes]
   have hlp:R.Iw G ((n:Int)+1)=((es.length:Int),0):=by
    unfold R.Iw;rw[if_pos hm,hlo,List.length_map]
   rw[hlp]at hL;rw[hen];have hln:y.1∈G.Ac[n].log:=by
    rw[<-hz1,<-he];exact List.mem_map_of_mem hmem
   obtain⟨d,rb,d1,d2,d3,d4,d5,d6⟩:=((hI.lg n _ hs).each y.1 hln).some;have f1:y.1.arg.length<=1000:=by
    rw[d4];have:=EY (hI.bk _ _ d1).1.bs;omega
   have f2:y.1.result.length<=1000:=by
    have:=EY d5;omega
   rcases hrow.2 with ⟨_,h0⟩|⟨lb,dc,lcur,hdn,_,hlb,hcap,_,_,htk⟩
   ·omega
   ·have q:∀c,c<7->lcur[j*7+c]?=(EJ y)[c]?:=fun c hc=>by
     rw[<-GG Rk es j c y hes hc,<-htk,List.getElem?_take,if_pos (by omega)];simp
    have cl:∀c v,c<7->(EJ y)[c]?=some v->w.cell? ⟨lb,j*7+c,none⟩=some v:=fun c v hc hv=>by
     simp[World.cell?,hlb,q c hc,hv]
    have cellIt:∀{X:Value} {l:List R.It},BD w F X l->∃xa xn xc,X=.slice xa xn xc:=fun hx=>by
     rcases hx with ⟨_,rfl⟩|⟨b,off,cap,cur,_,rfl,_⟩
     ·exact⟨_,_,_,rfl⟩
     ·exact⟨_,_,_,rfl⟩
    obtain⟨i1,i2⟩:=hits y hmem;have e5:=cl 5 _ (by omega) rfl;have e6:=cl 6 _ (by omega) rfl;obtain⟨xa,xn,xc,hX⟩:=cellIt i1;obtain⟨ya,yn,yc,hY⟩:=cellIt i2;rw[hX]at i1 e5;rw[hY]at i2 e6;rw[hdn]at k2;have keep:∀{X:Value} {l:List R.It},BD w F X l->∀wa,Below w.heap.size w wa->BD wa F X l:=fun hx wa hb=>hx.keep (Af.Aj hb (fun _=>False)) (fun _ _ _ _ q=>q) (fun _ q=>q)
    have h6:w.cell? ⟨p.s,6,none⟩=some (.slice (some ⟨g,0,none⟩) p.t.zs.length cap):=by
     have:=cell_of h.Co.bs 6 p.t.K rfl;rw[hK]at this;exact this
    have hls:=lt_of_cell h6;refine(Uq w p.s g n lb es.length dc j (es.length:Int) y.1.client y.1.Ag y.1.line y.1.seq y.1.proc xa ya xn xc yn yc (fun X w'=>V.Row w' w.heap.size X y.1.arg) (fun X w'=>V.Row w' w.heap.size X y.1.result) (by omega) hjl k2 (cl 0 _ (by omega) rfl) (cl 1 _ (by omega) rfl) (cl 2 _ (by omega) rfl) (cl 3 _ (by omega) rfl) (cl 4 _ (by omega) rfl) e5 e6 hL (fun wa hb=>EG wa p.s g n p.t.zs.length cap ((hb.cell (p:=⟨p.s,6,none⟩) hls).trans h6) (by omega) (by omega)) (MO f1 (keep i1)) (MO f2 (keep i2))).mono ?_;rintro e w' ⟨X,Y,rfl,r1,r2,r3⟩;exact⟨⟨X,Y,rfl,r1,r2⟩,r3⟩
  ·refine no ?_ ?_
   ·right;unfold R.Iw;rw[if_pos hm];simp only;omega
   ·unfold R.Dr;split
    ·rw[List.getElem?_eq_none_iff];omega
    ·rfl
 ·refine no ?_ ?_
  ·left;unfold R.Iw;rw[if_neg hm];simp
  ·unfold R.Dr;rw[if_neg (fun q=>hm q.1)]
theorem LW.entry{p:Pl}{F:Aq}{G:R.Wd}{w:World}(h:LW p F G w){M:R.Bk}(hI:R.Inv M G)(u k:Int):
  Calls Tryz.prog 45 #[ptr p.x,.int .i64 u,.int .i64 k] w (QI (R.Dr G u k) w):=by
 have x1:w.cell? ⟨p.x,1,none⟩=some (ptr p.s):=cell_of h.bx 1 _ rfl;have hlx:=lt_of_cell x1;have HL:=Ab ((h.below ((Below.refl _ _).alloc (Nat.le_refl _) (.cells Tg.toArray 98))).aa0 hI u k);generalize R.Dr G u k=Z at *;clear h hI;cases Z with
 |none=>
  have HL2:Hid (Calls Tryz.prog 80 #[ptr p.s,.int .i64 u,.int .i64 k] (w.alloc (.cells Tg.toArray 98)) fun e w'=>e=.returned (.tuple #[.agg #[.int .i64 0,.int .i64 0,.int .i64 0,.int .i64 0,.int .i64 0,.slice none 0 0,.slice none 0 0],.int .i64 9])/\Below (w.alloc (.cells Tg.toArray 98)).heap.size (w.alloc (.cells Tg.toArray 98)) w'):=Aa HL;clear HL;go_enter Tryz.func45,Tryz.ntmps45;go_wp2_with (go_at_call 80;refine(Aa HL2).mono ?_;rintro e w1 ⟨rfl,hw1⟩;obtain⟨b1,b4⟩:=JN hw1;obtain⟨f0,f1,f2,f3,f4,f5,f6,fz,_⟩:=Gq b1 (Af.refl _ w1);have hl1:=lt_of_block b1;have HX:=Ab b1;have HB:=Ab b4;clear hw1 b4 b1)
  refine AL _ (Ig (Aa HX) (.int .i64 0) (.int .i64 0) (.int .i64 0) (.int .i64 0) (.int .i64 0) (.slice none 0 0) (.slice none 0 0)) ?_;rintro W ⟨g0,g1,g2,g3,g4,g5,g6,gz,gk⟩;have HK:=Ab gk;clear gk;go_wp2
  (try simp only[Exit.inBlock,Exit.then])
  refine bodyPost_ret (by simp[results,Tryz.results45,go_sem,g0,g1,g2,g3,g4,g5,g6];try rfl) rfl ?_;exact⟨rfl,FJ (Aa HB) (Aa HK)⟩
 |some x=>
  have HL2:Hid (Calls Tryz.prog 80 #[ptr p.s,.int .i64 u,.int .i64 k] (w.alloc (.cells Tg.toArray 98)) fun e w'=>(∃xa xn xc ya yn yc,e=.returned (.tuple #[.agg #[.int .i64 x.client,.int .i64 x.Ag,.int .i64 x.line,.int .i64 x.seq,.int .i64 x.proc,.slice xa xn xc,.slice ya yn yc],.int .i64 0])/\V.Row w' (w.heap.size+1) (.slice xa xn xc) x.arg/\V.Row w' (w.heap.size+1) (.slice ya yn yc) x.result)/\Below (w.alloc (.cells Tg.toArray 98)).heap.size (w.alloc (.cells Tg.toArray 98)) w'):=by
   refine(Aa HL).mono ?_;rintro e w' ⟨⟨X,Y,rfl,r1,r2⟩,hb⟩;rw[show (w.alloc (.cells Tg.toArray 98)).heap.size=w.heap.size+1 by simp]at r1 r2;obtain⟨xa,xn,xc,rfl⟩:=Ar r1;obtain⟨ya,yn,yc,rfl⟩:=Ar r2;exact⟨⟨xa,xn,xc,ya,yn,yc,rfl,r1,r2⟩,hb⟩
  clear HL;go_enter Tryz.func45,Tryz.ntmps45;go_wp2_with (go_at_call 80;refine(Aa HL2).mono ?_;rintro e w1 ⟨⟨xa,xn,xc,ya,yn,yc,rfl,r1,r2⟩,hw1⟩;obtain⟨b1,b4⟩:=JN hw1;obtain⟨f0,f1,f2,f3,f4,f5,f6,fz,_⟩:=Gq b1 (Af.refl _ w1);have hl1:=lt_of_block b1;have HX:=Ab b1;have HB:=Ab b4;have R1:=Ab r1;have R2:=Ab r2;clear hw1 b4 b1 r1 r2)
  refine AL _ (Ig (Aa HX) (.int .i64 x.client) (.int .i64 x.Ag) (.int .i64 x.line) (.int .i64 x.seq) (.int .i64 x.proc) (.slice xa xn xc) (.slice ya yn yc)) ?_;rintro W ⟨g0,g1,g2,g3,g4,g5,g6,gz,gk⟩;have HK:=Ab gk;have HR:Hid (∀{O:Value} {v:List V.It},V.Row w1 (w.heap.size+1) O v->V.Row W w.heap.size O v):=fun {O v} hR=>TC ((Aa HK).row hR (fun j hj e=>by have:=(World.ownsRow.lt hR j hj).1;omega)) (by omega)
  clear gk;go_wp2
  (try simp only[Exit.inBlock,Exit.then])
  refine bodyPost_ret (by simp[results,Tryz.results45,go_sem,g0,g1,g2,g3,g4,g5,g6];try rfl) rfl ?_;exact⟨⟨_,_,rfl,(Aa HR) (Aa R1),(Aa HR) (Aa R2)⟩,FJ (Aa HB) (Aa HK)⟩
theorem Qi(w:World)(a b:Option Addr)(c d:Nat):Calls Tryz.prog 46 #[.slice a 0 c,.slice b 0 d] w fun e w'=>e=.returned (.bool true)/\Below w.heap.size w w':=by
 go_enter Tryz.func46,Tryz.ntmps46;go_wp2;go_loopw [5] (fun iv wr=>iv=.int .i64 0/\Below w.heap.size w wr) (fun _ _=>0)
 case atStart=>exact⟨rfl,Below.refl _ _⟩
 case round=>
  obtain⟨rfl,hb⟩:=hrel;have HB:=Ab hb;clear hb;go_wp2;go_returns;exact⟨rfl,Aa HB⟩
theorem U6(w:World)(l:List V.It)(n ab ao ac bb bo bc:Nat)(hn:l.length=n)(hnl:n<=1000000)(hA:∀j x,l[j]?=some x->w.cell? ⟨ab,ao+j*2,none⟩=some (.int .i64 x.1)/\w.cell? ⟨ab,ao+j*2+1,none⟩=some (.string x.2))(hB:∀j x,l[j]?=some x->w.cell? ⟨bb,bo+j*2,none⟩=some (.int .i64 x.1)/\w.cell? ⟨bb,bo+j*2+1,none⟩=some (.string x.2)):
  Calls Tryz.prog 46 #[.slice (some ⟨ab,ao,none⟩) n ac,.slice (some ⟨bb,bo,none⟩) n bc] w fun e w'=>e=.returned (.bool true)/\Below w.heap.size w w':=by
 have HA:Hid (∀j x wr,Below w.heap.size w wr->l[j]?=some x->(wr.cell? ⟨ab,ao+j*2,none⟩=some (.int .i64 x.1)/\wr.cell? ⟨ab,ao+j*2+1,none⟩=some (.string x.2))/\(wr.cell? ⟨bb,bo+j*2,none⟩=some (.int .i64 x.1)/\wr.cell? ⟨bb,bo+j*2+1,none⟩=some (.string x.2))):=fun j x wr hb hx=>
  ⟨⟨(hb.cell (p:=⟨ab,_,none⟩) (lt_of_cell (hA j x hx).1)).trans (hA j x hx).1,(hb.cell (p:=⟨ab,_,none⟩) (lt_of_cell (hA j x hx).1)).trans (hA j x hx).2⟩,(hb.cell (p:=⟨bb,_,none⟩) (lt_of_cell (hB j x hx).1)).trans (hB j x hx).1,(hb.cell (p:=⟨bb,_,none⟩) (lt_of_cell (hB j x hx).1)).trans (hB j x hx).2⟩
 clear hA hB;have HN:=Ab hn;clear hn;go_enter Tryz.func46,Tryz.ntmps46;go_wp2;go_loopw [5] (fun iv wr=>∃i:Nat,i<=n/\iv=.int .i64 i/\Below w.heap.size w wr) (fun iv _=>n-(intOf iv).toNat)
 case atStart=>exact⟨0,Nat.zero_le _,rfl,Below.refl _ _⟩
 case round=>
  obtain⟨i,hi,rfl,hb⟩:=hrel;by_cases hlt:i<n
  ·have hx:l[i]?=some (l[i]'(by have:=Aa HN;omega)):=List.getElem?_eq_getElem _;generalize l[i]'(by have:=Aa HN;omega)=x at hx;obtain⟨x1,x2⟩:=x;obtain⟨⟨a0,a1⟩,b0,b1⟩:=(Aa HA) i (x1,x2) wr hb hx;simp only at a0 a1 b0 b1;have q1:(0:Int)<=(i:Int):=by omega
   have q3:IntKind.i64.wrap ((i:Int)+1)=(i:Int)+1:=by rw[IntKind.wrap_i64];omega
   have q2:(i:Int)<(n:Int):=by omega
   have HB:=Ab (fun k=>below_drewN hb k);have HI:=Ab hi;clear hb hx hi;go_wp2_with fail
   go_quiet (fail);go_wp2;go_roundw
   case rel=>exact⟨i+1,by omega,by go_num,(Aa HB) _⟩
   case measure=>simp[intOf];omega
  ·obtain rfl:i=n:=by omega
   have HB:=Ab hb;clear hb hi;go_wp2;go_returns;exact⟨rfl,Aa HB⟩
theorem XZ(w:World)(A B:Value)(l:List V.It)(hA:V.Items w A l)(hB:V.Items w B l)(hl:l.length<=1000):Calls Tryz.prog 46 #[A,B] w fun e w'=>e=.returned (.bool true)/\Below w.heap.size w w':=by
 obtain⟨a,c,rfl,_,hA⟩:=hA;obtain⟨b,d,rfl,_,hB⟩:=hB;rcases hA with rfl|⟨ab,ao,rfl,_,hA⟩
 ·exact Qi w a b c d
 ·rcases hB with rfl|⟨bb,bo,rfl,_,hB⟩
  ·exact Qi w _ b c d
  ·exact U6 w l l.length ab ao c bb bo d rfl (by omega) hA hB
theorem EU{w:World}{B:Nat}{X:Value}{v:List V.It}(h:V.Row w B X v):V.Items w X v:=by
 by_cases hv:v=[]
 ·subst hv;obtain⟨a,c,rfl⟩:=Bg h;exact⟨a,c,rfl,Nat.zero_le _,Or.inl rfl⟩
 ·unfold V.Row at h;rw[Jm]at h;exact(Ry h hv).items
theorem Kr{sv:List R.Sv}{u i:Nat}(hu:u<=sv.length):GR sv u i <+: Cq sv:=by
 unfold GR;by_cases h:u<sv.length
 ·rw[List.getElem?_eq_getElem h];simp only[Option.map_some,Option.getD_some];refine⟨sv[u].log.drop i++Cq (sv.drop (u+1)),?_⟩;rw[List.append_assoc,<-List.append_assoc _ (sv[u].log.drop i),List.take_append_drop];exact(TS h).symm
 ·rw[List.getElem?_eq_none (by omega),List.take_of_length_le (by omega)];simp
theorem aay{sv:List R.Sv}{u i:Nat}{K:R.Key}(hu:u<=sv.length)(h1:Cc K (Cq sv)=1):Cc K (GR sv u i)<=1:=by
 rw[<-h1];exact List.Sublist.countP_le (Kr hu).sublist
structure Ja(w:World)(r x lf sq nl ns ci kk:Nat)(nu lf0 sqv:Int):Prop where
 r0:w.cell? ⟨r,0,none⟩=some (ptr x)
 r6:w.cell? ⟨r,6,none⟩=some (.slice (some ⟨lf,0,none⟩) nl nl)
 r7:w.cell? ⟨r,7,none⟩=some (.slice (some ⟨sq,0,none⟩) ns ns)
 R3:w.cell? ⟨r,10,none⟩=some (.int .i64 nu)
 l0:w.cell? ⟨lf,ci,none⟩=some (.int .i64 lf0)
 s0:w.cell? ⟨sq,kk,none⟩=some (.int .i64 sqv)
theorem Ja.below{w w':World}{r x lf sq nl ns ci kk:Nat}{nu lf0 sqv:Int}(h:Ja w r x lf sq nl ns ci kk nu lf0 sqv){B:Nat}(hB:w.heap.size<=B)(hb:Below B w w'):Ja w' r x lf sq nl ns ci kk nu lf0 sqv:=
 ⟨(hb.cell (p:=⟨r,0,none⟩) (Nat.lt_of_lt_of_le (lt_of_cell h.r0) hB)).trans h.r0,(hb.cell (p:=⟨r,6,none⟩) (Nat.lt_of_lt_of_le (lt_of_cell h.r0) hB)).trans h.r6,(hb.cell (p:=⟨r,7,none⟩) (Nat.lt_of_lt_of_le (lt_of_cell h.r0) hB)).trans h.r7,(hb.cell (p:=⟨r,10,none⟩) (Nat.lt_of_lt_of_le (lt_of_cell h.r0) hB)).trans h.R3,(hb.cell (p:=⟨lf,ci,none⟩) (Nat.lt_of_lt_of_le (lt_of_cell h.l0) hB)).trans h.l0,(hb.cell (p:=⟨sq,kk,none⟩) (Nat.lt_of_lt_of_le (lt_of_cell h.s0) hB)).trans h.s0⟩
theorem RL(w:World)(r x lf sq nl ns ci li kk:Nat)(nu lf0 sqv st:Int)(h:Ja w r x lf sq nl ns ci kk nu lf0 sqv)(hkk:kk<ns)(e3:IntKind.i64.wrap (3*(ci:Int))=3*(ci:Int))(e4:IntKind.i64.wrap (3*(ci:Int)+(li:Int))=(kk:Int))(hst:¬st=2)(hid:st=0↔sqv=0)
  (H16:Calls Tryz.prog 16 #[ptr x,.int .i64 (ci:Int),.int .i64 (li:Int)] w fun e w'=>(∃oa oc,e=.returned (.tuple #[.agg #[.int .i64 st,.int .i64 sqv,.slice oa 0 oc],.int .i64 0]))/\Below w.heap.size w w'):
  Calls Tryz.prog 20 #[ptr r,.int .i64 (ci:Int),.int .i64 (li:Int)] w fun e w'=>e=.returned (.bool true)/\Below w.heap.size w w':=by
 have HS:=Ab H16;have hkl:(kk:Int)<(ns:Int):=by omega
 have hk0:(0:Int)<=(kk:Int):=by omega
 have e5:(st==2)=false:=by simpa using hst
 have e6:(st==0)=(sqv==0):=by
  rw[Bool.eq_iff_iff];simpa using hid
 have HR:Hid (∀w',Below w.heap.size w w'->Ja w' r x lf sq nl ns ci kk nu lf0 sqv):=fun w' hb=>h.below (Nat.le_refl _) hb
 obtain⟨r0,r6,r7,R3,l0,s0⟩:=h;clear H16 hst hid;go_enter Tryz.func20,Tryz.ntmps20;go_wp2_with (go_at_call 16;refine(Aa HS).mono ?_;rintro e w1 ⟨⟨oa,oc,rfl⟩,hb1⟩;clear HS r0 r6 r7 R3 l0 s0;obtain⟨r0,r6,r7,R3,l0,s0⟩:=(Aa HR) w1 hb1;have hl1:=lt_of_cell r0;have hl2:=lt_of_cell s0;have HB:=Ab hb1;have HBS:=Ab hb1.size;clear hb1)
 go_returns;exact⟨rfl,(Aa HB).alloc (Aa HBS) _⟩
theorem Pz(w:World)(r x lf sq nl ns ci li kk:Nat)(lf0 sqv:Int)(sv:List R.Sv)(res:List R.It)(h:Ja w r x lf sq nl ns ci kk (sv.length:Int) lf0 sqv)(hkk:kk<ns)(hci:ci<nl)(e3:IntKind.i64.wrap (3*(ci:Int))=3*(ci:Int))(e4:IntKind.i64.wrap (3*(ci:Int)+(li:Int))=(kk:Int))(hq:¬sqv=0)(hsl:sv.length<=255)(hll:∀s∈sv,s.log.length<=3000000)
  (hrl:res.length<=1000) (hone:Cc ⟨ci,lf0,li,sqv⟩ (Cq sv)=1) (hres:∀e∈Cq sv,R.CX e=⟨ci,lf0,li,sqv⟩->e.result=res)
  (H16:Calls Tryz.prog 16 #[ptr x,.int .i64 (ci:Int),.int .i64 (li:Int)] w fun e w'=>(∃oa on oc,e=.returned (.tuple #[.agg #[.int .i64 2,.int .i64 sqv,.slice oa on oc],.int .i64 0])/\V.Items w' (.slice oa on oc) res)/\Below w.heap.size w w')
  (H44:∀wr (u:Nat) (s:R.Sv),Below w.heap.size w wr->sv[u]?=some s->Calls Tryz.prog 44 #[ptr x,.int .i64 ((u:Int)+1)] wr fun e w'=>e=.returned (.tuple #[.int .i64 (s.log.length:Int),.int .i64 0])/\Below wr.heap.size wr w')
  (H45:∀wr (u i:Nat) (s:R.Sv) (y:R.En),Below w.heap.size w wr->sv[u]?=some s->s.log[i]?=some y->Calls Tryz.prog 45 #[ptr x,.int .i64 ((u:Int)+1),.int .i64 (i:Int)] wr fun e w'=>(∃xa xn xc ya yn yc,e=.returned (.tuple #[.agg #[.int .i64 y.client,.int .i64 y.Ag,.int .i64 y.line,.int .i64 y.seq,.int .i64 y.proc,.slice xa xn xc,.slice ya yn yc],.int .i64 0])/\V.Items w' (.slice ya yn yc) y.result)/\Below wr.heap.size wr w'):
  Calls Tryz.prog 20 #[ptr r,.int .i64 (ci:Int),.int .i64 (li:Int)] w fun e w'=>e=.returned (.bool true)/\Below w.heap.size w w':=by
 have HS:=Ab H16;have HL:Hid (∀wr (u:Nat) (s:R.Sv),Below w.heap.size w wr->sv[u]?=some s->Calls Tryz.prog 44 #[ptr x,.int .i64 ((u:Int)+1)] wr fun e w'=>e=.returned (.tuple #[.int .i64 (s.log.length:Int),.int .i64 0])/\Below wr.heap.size wr w'):=H44;have HE:Hid (∀wr (u i:Nat) (s:R.Sv) (y:R.En),Below w.heap.size w wr->sv[u]?=some s->s.log[i]?=some y->Calls Tryz.prog 45 #[ptr x,.int .i64 ((u:Int)+1),.int .i64 (i:Int)] wr fun e w'=>(∃xa xn xc ya yn yc,e=.returned (.tuple #[.agg #[.int .i64 y.client,.int .i64 y.Ag,.int .i64 y.line,.int .i64 y.seq,.int .i64 y.proc,.slice xa xn xc,.slice ya yn yc],.int .i64 0])/\V.Items w' (.slice ya yn yc) y.result)/\Below wr.heap.size wr w'):=H45;have hkl:(kk:Int)<(ns:Int):=by omega
 have hk0:(0:Int)<=(kk:Int):=by omega
 have hcl:(ci:Int)<(nl:Int):=by omega
 have hc0:(0:Int)<=(ci:Int):=by omega
 have e6:(sqv==0)=false:=by simpa using hq
 have HR:Hid (∀w',Below w.heap.size w w'->Ja w' r x lf sq nl ns ci kk (sv.length:Int) lf0 sqv):=fun w' hb=>h.below (Nat.le_refl _) hb
 have HONE:=Ab hone;have HRES:Hid (∀e∈Cq sv,R.CX e=⟨ci,lf0,li,sqv⟩->e.result=res):=hres;have HLL:Hid (∀s∈sv,s.log.length<=3000000):=hll;obtain⟨r0,r6,r7,R3,l0,s0⟩:=h;clear H16 H44 H45 hone hres hq hll;go_enter Tryz.func20,Tryz.ntmps20;go_wp2_with (go_at_call 16;refine(Aa HS).mono ?_;rintro e w1 ⟨⟨oa,on,oc,rfl,hI1⟩,hb1⟩;clear HS r0 r6 r7 R3 l0 s0;obtain⟨r0,r6,r7,R3,l0,s0⟩:=(Aa HR) w1 hb1;have hl1:=lt_of_cell r0;have hl2:=lt_of_cell s0;have HB1:=Ab hb1;have HI1:=Ab hI1;clear hb1 hI1)
 have HBX:Hid ((w1.alloc (.cells #[.int .i64 2,.int .i64 sqv,.slice oa on oc] 46)).heap[w1.heap.size]?=some (.cells #[.int .i64 2,.int .i64 sqv,.slice oa on oc] 46 (0,0))):=heap_alloc_new w1 _;have HBB:Hid (Below w1.heap.size w1 (w1.alloc (.cells #[.int .i64 2,.int .i64 sqv,.slice oa on oc] 46))):=(Below.refl _ _).alloc (Nat.le_refl _) _;have HSZ:Hid (w1.heap.size<(w1.alloc (.cells #[.int .i64 2,.int .i64 sqv,.slice oa on oc] 46)).heap.size):=by
  show w1.heap.size<_;simp
 refine D7 (fun W=>W.heap[w1.heap.size]?=some (.cells #[.int .i64 2,.int .i64 sqv,.slice oa on oc] 46 (0,0))/\Below w1.heap.size w1 W/\w1.heap.size<W.heap.size) ⟨Aa HBX,Aa HBB,Aa HSZ⟩ ?_;clear HBX HBB HSZ r0 r6 r7 R3 l0 s0 hl1 hl2;rintro W ⟨hbx,hbW,hsz⟩;have hbwW:=(Aa HB1).trans (hbW.mono (Aa HB1).size);have HKW:Hid (∀wr,Below W.heap.size W wr->(Below w.heap.size w wr/\Ja wr r x lf sq nl ns ci kk (sv.length:Int) lf0 sqv)/\wr.cell? ⟨w1.heap.size,2,none⟩=some (.slice oa on oc)/\V.Items wr (.slice oa on oc) res/\w1.heap.size<wr.heap.size):=fun wr hb=>by
  have h1:Below w.heap.size w wr:=hbwW.trans (hb.mono hbwW.size);exact⟨⟨h1,(Aa HR) wr h1⟩,(hb.cell (p:=⟨w1.heap.size,2,none⟩) hsz).trans (cell_of hbx 2 _ rfl),((Aa HI1).below hbW).below hb,Nat.lt_of_lt_of_le hsz hb.size⟩
 obtain⟨⟨-,r0,r6,r7,R3,l0,s0⟩,-⟩:=(Aa HKW) W (Below.refl _ _);have x1:W.cell? ⟨w1.heap.size,1,none⟩=some (.int .i64 sqv):=cell_of hbx 1 _ rfl;have x0:W.cell? ⟨w1.heap.size,0,none⟩=some (.int .i64 2):=cell_of hbx 0 _ rfl;have hl1:=lt_of_cell r0;have hl2:=lt_of_cell s0;clear hbx hbW hsz hbwW;go_wp2;go_loopw [10,11] (fun tv uv wr=>∃u:Nat,u<=sv.length/\uv=.int .i64 ((u:Int)+1)/\tv=.int .i64 (Cc ⟨ci,lf0,li,sqv⟩ (GR sv u 0):Int)/\Below W.heap.size W wr) (fun _ uv _=>sv.length+1-(intOf uv).toNat)
 case atStart=>exact⟨0,Nat.zero_le _,rfl,rfl,Below.refl _ _⟩
 case round=>
  obtain⟨u,hu,rfl,rfl,hb⟩:=hrel;clear r0 r6 r7 R3 l0 s0 x0 x1 hl1 hl2;obtain⟨⟨hbw,r0,r6,r7,R3,l0,s0⟩,x2,hI,hsz⟩:=(Aa HKW) wr hb;by_cases hlt:u<sv.length
  ·have hs:sv[u]?=some sv[u]:=List.getElem?_eq_getElem hlt;have hlen:=(Aa HLL) sv[u] (List.getElem_mem hlt);generalize sv[u]=s at hs hlen;have hle:((u:Int)+1<=(sv.length:Int)):=by omega
   have HC:=Ab ((Aa HL) wr u s hbw hs);have HS:=Ab hs;have HBr:=Ab hb;clear hb hbw hI x2 hs;go_wp2_with (go_at_call 44;refine(Aa HC).mono ?_;rintro e w2 ⟨rfl,hb2⟩;have HB2:=Ab ((Aa HBr).trans (hb2.mono (Aa HBr).size));clear hb2 HC)
   go_loopw [10,14] (fun tv iv wr=>∃i:Nat,i<=s.log.length/\iv=.int .i64 (i:Int)/\tv=.int .i64 (Cc ⟨ci,lf0,li,sqv⟩ (GR sv u i):Int)/\Below W.heap.size W wr) (fun _ iv _=>s.log.length-(intOf iv).toNat)
   case atStart=>exact⟨0,Nat.zero_le _,rfl,rfl,Aa HB2⟩
   case round=>
    obtain⟨i,hi,rfl,rfl,hb⟩:=hrel;clear r0 r6 r7 R3 l0 s0;obtain⟨⟨hbw,r0,r6,r7,R3,l0,s0⟩,x2,hI,hsz2⟩:=(Aa HKW) _ hb;by_cases hlt2:i<s.log.length
    ·have hy:s.log[i]?=some s.log[i]:=List.getElem?_eq_getElem hlt2;generalize s.log[i]=y at hy;have hq1:(i:Int)<(s.log.length:Int):=by omega
     have HC:=Ab ((Aa HE) _ u i s y hbw (Aa HS) hy);have hup:=Vu (Aa HS) hy;have hcn:Cc ⟨ci,lf0,li,sqv⟩ (GR sv u (i+1))=Cc ⟨ci,lf0,li,sqv⟩ (GR sv u i)+Cc ⟨ci,lf0,li,sqv⟩ [y]:=by rw[hup,Q6]
     have hmem:y∈Cq sv:=(Kr (i:=i+1) hu).subset (by rw[hup];simp);have hle1:=aay (i:=i) hu (Aa HONE);have HCN:=Ab hcn;have HMEM:=Ab hmem;have HBr2:=Ab hb;generalize Cc ⟨ci,lf0,li,sqv⟩ (GR sv u i)=N at *;have hw1:IntKind.i64.wrap ((N:Int)+1)=(N:Int)+1:=by rw[IntKind.wrap_i64];omega
     have hw2:IntKind.i64.wrap ((i:Int)+1)=(i:Int)+1:=by rw[IntKind.wrap_i64];omega
     clear hb hbw hI x2 hy hcn hmem hup;go_wp2_with (go_at_call 45;refine(Aa HC).mono ?_;rintro e w3 ⟨⟨xa,xn,xc,ya,yn,yc,rfl,hI3⟩,hb3⟩;have HB3:=Ab ((Aa HBr2).trans (hb3.mono (Aa HBr2).size));have HI3:=Ab hI3;clear hb3 hI3 HC)
     have HBX:Hid ((w3.alloc (.cells #[.int .i64 y.client,.int .i64 y.Ag,.int .i64 y.line,.int .i64 y.seq,.int .i64 y.proc,.slice xa xn xc,.slice ya yn yc] 98)).heap[w3.heap.size]?=some (.cells #[.int .i64 y.client,.int .i64 y.Ag,.int .i64 y.line,.int .i64 y.seq,.int .i64 y.proc,.slice xa xn xc,.slice ya yn yc] 98 (0,0))):=heap_alloc_new w3 _;have HBB:Hid (Below w3.heap.size w3 (w3.alloc (.cells #[.int .i64 y.client,.int .i64 y.Ag,.int .i64 y.line,.int .i64 y.seq,.int .i64 y.proc,.slice xa xn xc,.slice ya yn yc] 98))):=(Below.refl _ _).alloc (Nat.le_refl _) _;refine D7 (fun V=>V.heap[w3.heap.size]?=some (.cells #[.int .i64 y.client,.int .i64 y.Ag,.int .i64 y.line,.int .i64 y.seq,.int .i64 y.proc,.slice xa xn xc,.slice ya yn yc] 98 (0,0))/\Below w3.heap.size w3 V) ⟨Aa HBX,Aa HBB⟩ ?_;clear HBX HBB r0 r6 r7 R3 l0 s0;rintro W3 ⟨hbx,hbW3⟩;have hb33:=(Aa HB3).trans (hbW3.mono (Aa HB3).size);obtain⟨⟨-,r0,r6,r7,R3,l0,s0⟩,x2,hI,hsz3⟩:=(Aa HKW) W3 hb33;have y0:W3.cell? ⟨w3.heap.size,0,none⟩=some (.int .i64 y.client):=cell_of hbx 0 _ rfl;have y1:W3.cell? ⟨w3.heap.size,1,none⟩=some (.int .i64 y.Ag):=cell_of hbx 1 _ rfl;have y2:W3.cell? ⟨w3.heap.size,2,none⟩=some (.int .i64 y.line):=cell_of hbx 2 _ rfl;have y3:W3.cell? ⟨w3.heap.size,3,none⟩=some (.int .i64 y.seq):=cell_of hbx 3 _ rfl;have y6:W3.cell? ⟨w3.heap.size,6,none⟩=some (.slice ya yn yc):=cell_of hbx 6 _ rfl;have hl1:=lt_of_cell r0;have hl2:=lt_of_cell l0;have hl3:=lt_of_cell y0;have HB33:=Ab (fun n=>below_drewN hb33 n);have HSM:Hid (y.result=res->∀n,Calls Tryz.prog 46 #[.slice ya yn yc,.slice oa on oc] (W3.drewN n) fun e w'=>e=.returned (.bool true)/\Below (W3.drewN n).heap.size (W3.drewN n) w'):=fun e n=>by
      have h1:V.Items (W3.drewN n) (.slice ya yn yc) y.result:=((Aa HI3).below hbW3).below (below_drewN (Below.refl _ _) n);rw[e]at h1;exact XZ _ _ _ res h1 (hI.below (below_drewN (Below.refl _ _) n)) hrl
     have h4:(y.client==(ci:Int))=false\/((y.client==(ci:Int))=true/\(y.Ag==lf0)=false)\/((y.client==(ci:Int))=true/\(y.Ag==lf0)=true/\(y.line==(li:Int))=false)\/((y.client==(ci:Int))=true/\(y.Ag==lf0)=true/\(y.line==(li:Int))=true/\(y.seq==sqv)=false)\/((y.client==(ci:Int))=true/\(y.Ag==lf0)=true/\(y.line==(li:Int))=true/\(y.seq==sqv)=true):=by
      cases (y.client==(ci:Int))<;>cases (y.Ag==lf0)<;>cases (y.line==(li:Int))<;>cases (y.seq==sqv)<;>simp
     have HNO:Hid (((y.client==(ci:Int))&&(y.Ag==lf0)&&(y.line==(li:Int))&&(y.seq==sqv))=false->Cc ⟨ci,lf0,li,sqv⟩ [y]=0):=fun e=>by
      refine OP (fun z hz q=>?_);obtain rfl:z=y:=by simpa using hz
      unfold R.CX at q;simp only[R.Key.mk.injEq]at q;simp[q.1,q.2.1,q.2.2.1,q.2.2.2]at e
     have HYES:Hid ((y.client==(ci:Int))=true->(y.Ag==lf0)=true->(y.line==(li:Int))=true->(y.seq==sqv)=true->R.CX y=⟨ci,lf0,li,sqv⟩):=fun a1 a2 a3 a4=>by
      unfold R.CX;simp only[R.Key.mk.injEq];exact⟨by simpa using a1,by simpa using a2,by simpa using a3,by simpa using a4⟩
     clear hbx hbW3 hb33 hI HI3;rcases h4 with q1|⟨q1,q2⟩|⟨q1,q2,q3⟩|⟨q1,q2,q3,q4⟩|⟨q1,q2,q3,q4⟩;rotate_left 4
     ·have hky:=(Aa HYES) q1 q2 q3 q4;have HSM2:=Ab ((Aa HSM) ((Aa HRES) y (Aa HMEM) hky));have h1:Cc ⟨ci,lf0,li,sqv⟩ [y]=1:=by
       unfold Cc;simp[hky]
      have HCN2:=Ab h1;clear hky h1 HSM HYES HNO;go_wp2_with fail
      go_quiet (fail);go_wp2_with (go_at_call 46;refine((Aa HSM2) _).mono ?_;rintro e w4 ⟨rfl,hb4⟩;have HB4:=Ab hb4;clear hb4)
      go_roundw
      case rel=>exact⟨i+1,by omega,by go_num,by rw[Aa HCN,Aa HCN2];rfl,((Aa HB33) _).trans ((Aa HB4).mono ((Aa HB33) _).size)⟩
      case measure=>simp[intOf];omega
     all_goals
      have h0:=(Aa HNO) (by simp_all);have HCN2:=Ab h0;clear h0 HSM HYES HNO;go_wp2_with fail
      go_quiet (fail);go_wp2_with fail
      go_roundw
      case rel=>exact⟨i+1,by omega,by go_num,by rw[Aa HCN,Aa HCN2];rfl,(Aa HB33) _⟩
      case measure=>simp[intOf];omega
    ·obtain rfl:i=s.log.length:=by omega
     have hnx:=Vt (Aa HS);have hw2:IntKind.i64.wrap ((u:Int)+1+1)=(u:Int)+1+1:=by rw[IntKind.wrap_i64];omega
     have HBr2:=Ab hb;have HNX:=Ab hnx;clear hb hbw hI x2 hnx;go_wp2;go_roundw
     case rel=>exact⟨u+1,by omega,by go_num,by rw[<-Aa HNX],Aa HBr2⟩
     case measure=>simp[intOf];omega
  ·obtain rfl:u=sv.length:=by omega
   have hgt:¬((sv.length:Int)+1<=(sv.length:Int)):=by omega
   have hall:Cc ⟨ci,lf0,li,sqv⟩ (GR sv sv.length 0)=1:=by rw[Yu];exact Aa HONE
   rw[hall];have HBr:=Ab hbw;clear hb hbw hI x2 hall;go_wp2;go_returns;exact⟨rfl,Aa HBr⟩
end Go.Proofs.YtblomippkddgiaaGreatDoor
