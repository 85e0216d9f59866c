import Derived.Test.YtblomippkddgiaaGreatDoorK49
import Derived.Deep.CutRange
set_option maxRecDepth 100000
set_option maxHeartbeats 40000000
namespace Go.Proofs.YtblomippkddgiaaGreatDoor
open Go.RowKit
theorem VZ(cl ln rt tr tb:Int)(va:Option Addr)(vn vc:Nat)(hcl:In64 cl)(hln:In64 ln)(hrt:In64 rt)(htr:In64 tr)(htb:In64 tb)(w:World)(hV:KN w va vn)(hvn:vn<=maxLen)(ht:DU w):
  Calls Tryz.prog 6 #[Uc cl ln rt tr tb,.slice va vn vc] w fun e w'=>e=.returned (.bool true)/\Below w.heap.size w w':=by
 have H8:=Ab (fun w=>R6 cl ln rt tr tb hcl hln hrt htr htb w);have HT:=Ab ht;have HV:Hid (KN w va vn):=hV;have hvl:vn<=9223372036854775807:=hvn;clear hcl hln hrt htr htb ht hV hvn;obtain⟨BX,hBX⟩:∃BX,w.alloc (.cells #[.int .i64 cl,.int .i64 ln,.int .i64 rt,.int .i64 tr,.int .i64 tb] 26)=BX:=⟨_,rfl⟩;have HB0:Hid (Below w.heap.size w BX):=by
  rw[<-hBX];exact(Below.refl _ _).alloc (Nat.le_refl _) _
 have hbx:BX.heap[w.heap.size]?=some (.cells #[.int .i64 cl,.int .i64 ln,.int .i64 rt,.int .i64 tr,.int .i64 tb] 26 (0,0)):=by
  rw[<-hBX];exact heap_alloc_new w _
 have HBX:=Ab hBX;have HCB:=Ab hbx;have hlx:=lt_of_block hbx;clear hBX hbx;go_enter Tryz.func6,Tryz.ntmps6;go_wp2_with fail
 rw[Aa HBX];refine((Aa H8) _).mono ?_;rintro e w1 ⟨⟨c,hc,rfl⟩,hb1⟩;have hx1:=(hb1.block w.heap.size hlx).trans (Aa HCB);have c0:w1.cell? ⟨w.heap.size,0,none⟩=some (.int .i64 cl):=cell_of hx1 0 _ rfl;have c1:w1.cell? ⟨w.heap.size,1,none⟩=some (.int .i64 ln):=cell_of hx1 1 _ rfl;have c2:w1.cell? ⟨w.heap.size,2,none⟩=some (.int .i64 rt):=cell_of hx1 2 _ rfl;have c3:w1.cell? ⟨w.heap.size,3,none⟩=some (.int .i64 tr):=cell_of hx1 3 _ rfl;have c4:w1.cell? ⟨w.heap.size,4,none⟩=some (.int .i64 tb):=cell_of hx1 4 _ rfl;have z0:w1.frozen? ⟨w.heap.size,0,none⟩=false:=D4 hx1 0;have z1:w1.frozen? ⟨w.heap.size,1,none⟩=false:=D4 hx1 1;have z2:w1.frozen? ⟨w.heap.size,2,none⟩=false:=D4 hx1 2;have z3:w1.frozen? ⟨w.heap.size,3,none⟩=false:=D4 hx1 3;have z4:w1.frozen? ⟨w.heap.size,4,none⟩=false:=D4 hx1 4;have hlt1:=lt_of_block hx1;have HB1:=Ab ((Aa HB0).trans (hb1.mono (by omega)));have HX1:=Ab hx1;have HC:=Ab hc;clear hb1 hx1 H8 HCB HBX;have hkey:=QZ (Aa HX1) (Aa HB1) (.int .i64 c.Ad) (.int .i64 c.lines) (.int .i64 c.Be) (.int .i64 c.tries) (.int .i64 c.table);obtain⟨W2,hW2⟩:∃W2,((((w1.setCell ⟨w.heap.size,0,none⟩ (.int .i64 c.Ad)).setCell ⟨w.heap.size,1,none⟩ (.int .i64 c.lines)).setCell ⟨w.heap.size,2,none⟩ (.int .i64 c.Be)).setCell ⟨w.heap.size,3,none⟩ (.int .i64 c.tries)).setCell ⟨w.heap.size,4,none⟩ (.int .i64 c.table)=W2:=⟨_,rfl⟩;rw[hW2]at hkey;obtain⟨hx2,hb2⟩:=hkey;have HW2:=Ab hW2;have HX2:=Ab hx2;have HB2:=Ab hb2;have hlt2:=lt_of_block hx2;clear hW2 hx2 hb2;go_wp2_with fail
 rw[Aa HW2];have hT2:=(Aa HT).below (Aa HB2);have hp2:0<W2.heap.size:=by omega
 refine(TX W2 W2 c hc (Below.refl _ _) hT2 hp2).mono ?_;rintro e w3 ⟨q,p,D,K,rfl,hB3⟩;have hq:∀w,(binOp .eql 28 (ptr q.r) (.pointer none)).run Tryz.prog w=.ok (.bool false) w:=fun w=>by kernel_rfl
 have HS3:=Ab (And.intro hB3 (OI hc D K));have HTR:Hid (∀{s:RS} {G:R.Wd} {wr:World},A9 W2 q p c s G wr->((wr.cell? ⟨w.heap.size,0,none⟩=some (.int .i64 c.Ad)/\wr.cell? ⟨w.heap.size,1,none⟩=some (.int .i64 c.lines)/\wr.cell? ⟨w.heap.size,4,none⟩=some (.int .i64 c.table))/\w.heap.size<wr.heap.size)/\KN wr va vn/\Below w.heap.size w wr):=fun {s G wr} h=>by
  have hb:=(Aa HB2).trans (h.below.mono (Aa HB2).size);exact⟨⟨⟨(h.below.cell (p:=⟨w.heap.size,0,none⟩) hlt2).trans (cell_of (Aa HX2) 0 _ rfl),(h.below.cell (p:=⟨w.heap.size,1,none⟩) hlt2).trans (cell_of (Aa HX2) 1 _ rfl),(h.below.cell (p:=⟨w.heap.size,4,none⟩) hlt2).trans (cell_of (Aa HX2) 4 _ rfl)⟩,Nat.lt_of_lt_of_le hlt2 h.below.size⟩,(Aa HV).below hb,hb⟩
 clear hB3 hT2 c0 c1 c2 c3 c4 z0 z1 z2 z3 z4 HX1 HB1 HW2 HB0;have hcf:=hc;unfold R.BL at hcf;have hN9:=YK hc;have hwcl:IntKind.i64.wrap (c.Ad*c.lines)=c.Ad*c.lines:=by
  have h1:c.Ad=1\/c.Ad=2\/c.Ad=3:=by omega
  rw[IntKind.wrap_i64];rcases h1 with h1|h1|h1<;>(rw[h1];omega)
 have hl0:¬c.lines=0:=by omega
 have hl1:(c.lines==0)=false:=by simpa using hl0
 go_wp2_with fail
 go_loopw [6] (fun iv wr=>∃(i:Nat) (n:Int) (s:RS) (M:R.Bk) (G:R.Wd),i<=max vn 1/\iv=.int .i64 (i:Int)/\A9 W2 q p c s G wr/\GU c n s M G) (fun iv _=>max vn 1-(intOf iv).toNat)
 case atStart=>exact⟨0,0,_,_,_,Nat.zero_le _,rfl,(Aa HS3).1,(Aa HS3).2⟩
 case round=>
  obtain⟨i,n,s,M,G,hi,rfl,hB,hC⟩:=hrel;obtain⟨⟨⟨k0,k1,k4⟩,lc⟩,hMv,hbw⟩:=(Aa HTR) hB;have lr:=hB.cells.RN;have r9:=hB.cells.a9;obtain⟨tp,E,F,hri,-⟩:=hB.run;obtain⟨ma,mc,hMs⟩:=Bg hri.M;rw[hMs]at r9;by_cases hlt:i<max vn 1
  ·have hwi:IntKind.i64.wrap ((i:Int)+1)=((i+1:Nat):Int):=by rw[IntKind.wrap_i64];omega
   have hcase:(i<vn/\∃vb off x0 x1 x2 x3,va=some ⟨vb,off,none⟩/\(In64 x1/\In64 x2/\In64 x3)/\wr.cell? ⟨vb,off+i*4,none⟩=some (.int .i64 x0)/\wr.cell? ⟨vb,off+i*4+1,none⟩=some (.int .i64 x1)/\wr.cell? ⟨vb,off+i*4+2,none⟩=some (.int .i64 x2)/\wr.cell? ⟨vb,off+i*4+3,none⟩=some (.int .i64 x3))\/(¬i<vn/\i<1):=by
    by_cases h1:i<vn
    ·rcases hMv with h|⟨vb,off,e,hx⟩
     ·omega
     ·obtain⟨y0,y1,y2,y3,⟨_,j1,j2,j3⟩,d⟩:=hx i h1;exact Or.inl ⟨h1,vb,off,y0,y1,y2,y3,e,⟨j1,j2,j3⟩,d⟩
    ·exact Or.inr ⟨h1,by omega⟩
   have HBB:=Ab hB;have HCC:=Ab hC;clear hB hC hMv hbw hri hMs k0 k1 k4;rcases hcase with ⟨h1,vb,off,x0,x1,x2,x3,rfl,hin,d0,d1,d2,d3⟩|⟨h1,h2⟩;all_goals
    first
    |(have ld:=lt_of_cell d0;have q1:(i:Int)<(vn:Int):=(by omega);have HMV:=Ab (WY wr (k:=x0) hin);go_wp2_with fail;refine D7 (fun W=>aao wr W) (Aa HMV) ?_;clear HMV d0 d1 d2 d3 hin)
    |(have q1:¬(i:Int)<(vn:Int):=(by omega);have q2:(i:Int)<1:=(by omega);have HMV:=Ab (WY wr (k:=0) abu);go_wp2_with fail;refine D7 (fun W=>aao wr W) (Aa HMV) ?_;clear HMV)
    rintro W ⟨y0,y1,y2,y3,hin,hx,hbW⟩;have HBE:=Ab (And.intro (((Aa HBB).beside hbW hx (Nat.le_refl _))) (Aa HCC).k);clear hx hbW HBB HCC r9 lr lc;generalize wr.heap.size=mb at *;go_loopw [9] (fun kv wk=>∃(k:Nat) (s':RS) (M':R.Bk) (G':R.Wd),k<=DV c/\kv=.int .i64 (k:Int)/\Beside W2 mb (.cells #[.int .i64 y0,.int .i64 y1,.int .i64 y2,.int .i64 y3] 53 (0,0)) q p c s' G' wk/\MD c n s.made.length k s' M' G') (fun kv _=>DV c-(intOf kv).toNat)
    case atStart=>exact⟨0,s,M,G,Nat.zero_le _,rfl,(Aa HBE).1,(Aa HBE).2⟩
    case round=>
     obtain⟨k,s',M',G',hk,rfl,hBe,hK⟩:=hrel;obtain⟨⟨⟨k0,k1,k4⟩,lc⟩,-,-⟩:=(Aa HTR) hBe.both;have m1:wr.cell? ⟨mb,1,none⟩=some (.int .i64 y1):=cell_of hBe.mem 1 _ rfl;have m2:wr.cell? ⟨mb,2,none⟩=some (.int .i64 y2):=cell_of hBe.mem 2 _ rfl;have m3:wr.cell? ⟨mb,3,none⟩=some (.int .i64 y3):=cell_of hBe.mem 3 _ rfl;have lm:=lt_of_cell m1;by_cases hlt2:k<DV c
     ·obtain⟨e1,e2,e3,e4⟩:=Zi hc hlt2;have e1':IntKind.i64.wrap ((k:Int) / c.lines)=((CW c k).1:Int):=by rw[<-Int.tdiv_eq_ediv_of_nonneg (by omega)];exact e1
      have hwk:IntKind.i64.wrap ((k:Int)+1)=((k+1:Nat):Int):=by rw[IntKind.wrap_i64];omega
      obtain⟨A1,hA1⟩:∃A1,IntKind.i64.wrap (y1+(k:Int))=A1:=⟨_,rfl⟩;obtain⟨B1,hB1⟩:∃B1,IntKind.i64.wrap (y2+(k:Int))=B1:=⟨_,rfl⟩;obtain⟨kd,hkd,HPK⟩:=BU A1 3 (hA1 ▸ MY _) (by omega) (by omega);have HPK':=Ab HPK;have HCL:Hid (∀W',Below wr.heap.size wr W'->Calls Tryz.prog 12 #[ptr q.r,.int .i64 ((CW c k).1:Int),.int .i64 ((CW c k).2:Int),.int .i64 (kd:Int),.int .i64 B1,.int .i64 y3] W' fun e w'=>e=.returned (.bool true)/\∃s'' M'' G'',Beside W2 mb (.cells #[.int .i64 y0,.int .i64 y1,.int .i64 y2,.int .i64 y3] 53 (0,0)) q p c s'' G'' w'/\MD c n s.made.length (k+1) s'' M'' G''):=fun W' hb=>T9 hK (hBe.still hb) hlt2 hkd B1 y3 (hB1 ▸ MY _) hin.2.2
      clear HPK hBe hK;go_wp2_with fail
      go_region_held3 (fun w'=>w'.cell? ⟨w.heap.size,1,none⟩=some (.int .i64 c.lines)/\w'.cell? ⟨mb,1,none⟩=some (.int .i64 y1)/\w'.cell? ⟨mb,2,none⟩=some (.int .i64 y2)/\w'.cell? ⟨mb,3,none⟩=some (.int .i64 y3)) (go_keep) (first
       |(go_at_call 11;refine((Aa HPK') _).mono ?_;rintro e w5 ⟨rfl,hw5⟩;rw[hw5];clear hw5)
       |(go_at_call 12;refine((Aa HCL) _ (by first|exact Below.refl _ _|exact(Below.refl _ _).drew)).mono ?_;rintro e w6 ⟨rfl,s6,M6,G6,hB6,hK6⟩;have v1:=((Aa HTR) hB6.both).1.1.2.1;have v2:w6.cell? ⟨mb,1,none⟩=some (.int .i64 y1):=cell_of hB6.mem 1 _ rfl;have v3:w6.cell? ⟨mb,2,none⟩=some (.int .i64 y2):=cell_of hB6.mem 2 _ rfl;have v4:w6.cell? ⟨mb,3,none⟩=some (.int .i64 y3):=cell_of hB6.mem 3 _ rfl;have HO:=Ab (And.intro hB6 hK6);clear hB6 hK6))
      go_wp2_with fail
      go_roundw
      case rel=>exact⟨k+1,s6,M6,G6,by omega,by go_num,(Aa HO).1,(Aa HO).2⟩
      case measure=>simp[intOf];omega
     ·obtain rfl:k=DV c:=by omega
      have HFL:=Ab (Ua hK hBe.both);have hq2:=Zu hc hlt2;clear hBe hK m1 m2 m3;rcases hq2 with q2|⟨q2,q3⟩;all_goals
       go_wp2_with fail
       refine(Aa HFL).mono ?_;rintro e w7 ⟨G7,n7,K7,rfl,hB7,hC7⟩;have HC7:=Ab hC7;have HB7:=Ab hB7;have HMADE:=Ab hC7.made;have hK9:=hC7.few;have hml:=hC7.agree.ml;clear hB7 hC7 HFL k0 k1 k4 lc lm q2;go_wp2_with fail
       go_loopw [11,12] (fun nv kv wk=>∃k3:Nat,k3<=K7/\kv=.int .i64 (k3:Int)/\nv=.int .i64 (JC G7 c K7 k3)/\A9 W2 q p c s' G7 wk) (fun _ kv _=>K7-(intOf kv).toNat)
       case atStart=>exact⟨0,Nat.zero_le _,rfl,rfl,Aa HB7⟩
       case round=>
        obtain⟨k3,hk3,rfl,rfl,hB8⟩:=hrel;have r0:=hB8.cells.a0;have r9:=hB8.cells.a9;have r12:=hB8.cells.a12;have lr:=hB8.cells.RN;have hrun:=hB8.run;obtain⟨tp8,E8,F8,hri,-⟩:=hrun;have hwd:IntKind.i64.wrap ((s'.made.length:Int)-(s.made.length:Int))=(K7:Int):=by
         have:=Aa HMADE;rw[IntKind.wrap_i64];omega
        by_cases hlt3:k3<K7
        ·obtain⟨z,cl',z1,z2,z3,z4,hat,hst,hsq,kd,f,t,bs,rb,hNd⟩:=(Aa HC7).needs hlt3;obtain⟨g,gc,hM',hMc⟩:=XW hri.M (by have:=Aa HMADE;omega);rw[hM']at r9;obtain⟨mi,hmi⟩:∃mi:Nat,s.made.length+k3=mi:=⟨_,rfl⟩;rw[hmi]at z1;have hwm:IntKind.i64.wrap ((s.made.length:Int)+(k3:Int))=(mi:Int):=by
          have:=Aa HMADE;rw[IntKind.wrap_i64];omega
         have hmi0:(0:Int)<=(mi:Int):=by omega
         have hmi1:(mi:Int)<(s'.made.length:Int):=by
          have:=Aa HMADE;omega
         have hmi2:mi<s'.made.length:=by omega
         have hk3w:IntKind.i64.wrap ((k3:Int)+1)=((k3+1:Nat):Int):=by rw[IntKind.wrap_i64];omega
         have hIz:=hri.args z (List.mem_of_getElem? z1);obtain⟨za,zn,zc,hzs⟩:=WC hIz;have hcell:∀j v,(DF z)[j]?=some v->wr.cell? ⟨g,mi*7+j,none⟩=some v:=fun j v hv=>by
          have hj:j<7:=(List.getElem?_eq_some_iff.1 hv).1;exact hMc _ _ (by rw[GG PH s'.made mi j z z1 hj];exact hv)
         have b0:wr.cell? ⟨g,mi*7,none⟩=some (.int .i64 z.1.client):=hcell 0 _ rfl;have b1:wr.cell? ⟨g,mi*7+1,none⟩=some (.int .i64 z.1.Ag):=hcell 1 _ rfl;have b2:wr.cell? ⟨g,mi*7+2,none⟩=some (.int .i64 z.1.line):=hcell 2 _ rfl;have b3:wr.cell? ⟨g,mi*7+3,none⟩=some (.int .i64 z.1.seq):=hcell 3 _ rfl;have b4:wr.cell? ⟨g,mi*7+4,none⟩=some (.int .i64 z.1.uid):=hcell 4 _ rfl;have b5:wr.cell? ⟨g,mi*7+5,none⟩=some (.int .i64 z.1.proc):=hcell 5 _ rfl;have b6:wr.cell? ⟨g,mi*7+6,none⟩=some (.slice za zn zc):=hcell 6 _ (by rw[<-hzs];rfl);have lg:=lt_of_cell b0;have hku:=hNd.uid;have h255:s'.kinds.length<=255:=by
          rw[(Aa HC7).agree.kinds,List.length_map];exact(Aa HC7).agree.inv.wf.sv
         obtain⟨kb,kc,hKs,hKc⟩:=XW hri.K (by omega);rw[hKs]at r12;obtain⟨un,hun⟩:∃un:Nat,(z.1.uid-1).toNat=un:=⟨_,rfl⟩;have hwu:IntKind.i64.wrap (z.1.uid-1)=(un:Int):=by rw[IntKind.wrap_i64];omega
         have hun0:(0:Int)<=(un:Int):=by omega
         have hun1:(un:Int)<(s'.kinds.length:Int):=by omega
         have kk0:wr.cell? ⟨kb,un,none⟩=some (.int .i64 kd):=hKc _ _ (EB (hun ▸ hNd.kind));have HKK:=Ab (And.intro r12 kk0);obtain⟨vv,hV⟩:∃vv:Int,2*(((2+bs.length+7) / 8:Nat):Int)+2*(((rb.length+7) / 8:Nat):Int)-2=vv:=⟨_,rfl⟩;have hws:IntKind.i64.wrap (JC G7 c K7 k3-vv)=JC G7 c K7 (k3+1):=by
          have h1:=Nh (G:=G7) (c:=c) hlt3;have h2:=(Aa HC7).sum (K7-(k3+1)) (k3+1) (by omega);have h3:=hNd.cnt;rw[hV]at h3;rw[IntKind.wrap_i64];omega
         have HVV:=Ab hV;have hal:z.1.arg.length<=1000:=by have:=EY hNd.arg;omega
         have hrl:(R.AQ G7 (CW c k3)).result.length<=1000:=by have:=EY hNd.res;omega
         have HB8:=Ab hB8;have HIZ:=Ab hIz;have HZ:=Ab (And.intro z1 (And.intro z2 (And.intro z3 z4)));have HAT:=Ab (And.intro hat (And.intro hst (And.intro hsq hNd)));have HHS:=Ab hzs;clear hB8 hri hMc hcell hIz z1 z2 z3 z4 hat hst hsq hNd hzs hM' r12 hmi hKs hKc hun kk0 hku h255 hV;obtain⟨W3,hW3⟩:∃W3,wr.alloc (.cells #[.int .i64 z.1.client,.int .i64 z.1.Ag,.int .i64 z.1.line,.int .i64 z.1.seq,.int .i64 z.1.uid,.int .i64 z.1.proc,.slice za zn zc] 55)=W3:=⟨_,rfl⟩;have hb3:Below wr.heap.size wr W3:=by rw[<-hW3];exact(Below.refl _ _).alloc (Nat.le_refl _) _
         have hx3:W3.heap[wr.heap.size]?=some (.cells #[.int .i64 z.1.client,.int .i64 z.1.Ag,.int .i64 z.1.line,.int .i64 z.1.seq,.int .i64 z.1.uid,.int .i64 z.1.proc,.slice za zn zc] 55 (0,0)):=by rw[<-hW3];exact heap_alloc_new wr _
         have HST:Hid (∀W',Below W3.heap.size W3 W'->(W'.cell? ⟨q.r,0,none⟩=some (ptr q.x)/\W'.cell? ⟨wr.heap.size,0,none⟩=some (.int .i64 z.1.client)/\W'.cell? ⟨wr.heap.size,2,none⟩=some (.int .i64 z.1.line))/\Calls Tryz.prog 16 #[ptr q.x,.int .i64 z.1.client,.int .i64 z.1.line] W' fun e w'=>(∃oa on oc,e=.returned (.tuple #[.agg #[.int .i64 2,.int .i64 z.1.seq,.slice oa on oc],.int .i64 0])/\V.Row w' W'.heap.size (.slice oa on oc) (R.AQ G7 (CW c k3)).result)/\Below W'.heap.size W' w'):=fun W' hb=>by
          have hB':=((Aa HB8).still hb3).still hb;refine⟨⟨hB'.cells.a0,(hb.cell (p:=⟨wr.heap.size,0,none⟩) (lt_of_block hx3)).trans (cell_of hx3 0 _ rfl),(hb.cell (p:=⟨wr.heap.size,2,none⟩) (lt_of_block hx3)).trans (cell_of hx3 2 _ rfl)⟩,?_⟩;obtain⟨hat,hst,hsq,_⟩:=Aa HAT;have:=hB'.acv (Aa HC7).agree hat.cl hat.ln;rw[hst,hsq,<-(Aa HZ).2.2.2,<-(Aa HZ).2.1,<-(Aa HZ).2.2.1]at this;exact this
         have HSS:Hid (∀W',Below W3.heap.size W3 W'->∀w',Below W'.heap.size W' w'->w'.cell? ⟨q.r,0,none⟩=some (ptr q.x)/\w'.cell? ⟨wr.heap.size,0,none⟩=some (.int .i64 z.1.client)/\w'.cell? ⟨wr.heap.size,2,none⟩=some (.int .i64 z.1.line)):=fun W' h1 w' h2=>((Aa HST) w' (h1.trans (h2.mono h1.size))).1
         have HX3:=Ab hx3;have HB3:=Ab hb3;have HW3:=Ab hW3;obtain⟨y0',y1',y2'⟩:=((Aa HST) W3 (Below.refl _ _)).1;have lx3:=lt_of_block hx3;have lr3:q.r<W3.heap.size:=Nat.lt_of_lt_of_le lr hb3.size;clear hW3 hx3 hb3;go_wp2_with fail
         rw[Aa HW3];clear b0 b1 b2 b3 b4 b5 b6 r0 r9 lg
         go_cut [14,15] from 87 to 155 (fun sv ev wx=>aap W3 z.1.seq (R.AQ G7 (CW c k3)).result sv ev wx)
         case first=>
          refine WK.begin (S:=(fun w'=>w'.cell? ⟨q.r,0,none⟩=some (ptr q.x)/\w'.cell? ⟨wr.heap.size,0,none⟩=some (.int .i64 z.1.client)/\w'.cell? ⟨wr.heap.size,2,none⟩=some (.int .i64 z.1.line))) (T:=fun _=>True) (k:=13) (by kernel_rfl) ?_ trivial ?_
          ·exact⟨y0',y1',y2'⟩
          refine WK.take (i:=0) (v:=?_) rfl (by kernel_rfl) (by kernel_rfl) (by kernel_rfl) rfl (fun _ _ _ h=>h) (Or.inl ⟨by rfl,?_⟩) ?_;rotate_left
          ·intro w hSw;try dsimp only at hSw
           go_simp;try with_reducible rfl
          try simp only[Act.put,List.setIfInBounds_toArray,List.set_cons_zero,List.set_cons_succ,List.getElem_toArray,List.getElem_cons_zero]
          refine WK.take (i:=1) (v:=?_) rfl (by kernel_rfl) (by kernel_rfl) (by kernel_rfl) rfl (fun _ _ _ h=>h) (Or.inl ⟨by rfl,?_⟩) ?_;rotate_left
          ·intro w hSw;try dsimp only at hSw
           go_simp;try with_reducible rfl
          try simp only[Act.put,List.setIfInBounds_toArray,List.set_cons_zero,List.set_cons_succ,List.getElem_toArray,List.getElem_cons_zero,List.getElem_cons_succ]
          refine WK.take (i:=2) (v:=?_) rfl (by kernel_rfl) (by kernel_rfl) (by kernel_rfl) rfl (fun _ _ _ h=>h) (Or.inl ⟨by rfl,?_⟩) ?_;rotate_left
          ·intro w hSw;try dsimp only at hSw
           go_simp;try with_reducible rfl
          try simp only[Act.put,List.setIfInBounds_toArray,List.set_cons_zero,List.set_cons_succ,List.getElem_toArray,List.getElem_cons_zero,List.getElem_cons_succ]
          refine WK.take (i:=3) (v:=?_) rfl (by kernel_rfl) (by kernel_rfl) (by kernel_rfl) rfl (fun _ _ _ h=>h) (Or.inl ⟨by rfl,?_⟩) ?_;rotate_left
          ·intro w hSw;try dsimp only at hSw
           go_simp;try with_reducible rfl
          try simp only[Act.put,List.setIfInBounds_toArray,List.set_cons_zero,List.set_cons_succ,List.getElem_toArray,List.getElem_cons_zero,List.getElem_cons_succ]
          refine WK.take (i:=4) (v:=?_) rfl (by kernel_rfl) (by kernel_rfl) (by kernel_rfl) rfl (fun _ _ _ h=>h) (Or.inl ⟨by rfl,?_⟩) ?_;rotate_left
          ·intro w hSw;try dsimp only at hSw
           go_simp;try with_reducible rfl
          try simp only[Act.put,List.setIfInBounds_toArray,List.set_cons_zero,List.set_cons_succ,List.getElem_toArray,List.getElem_cons_zero,List.getElem_cons_succ]
          refine WK.take (i:=5) (v:=?_) rfl (by kernel_rfl) (by kernel_rfl) (by kernel_rfl) rfl (fun _ _ _ h=>h) (Or.inl ⟨by rfl,?_⟩) ?_;rotate_left
          ·intro w hSw;try dsimp only at hSw
           go_simp;try with_reducible rfl
          try simp only[Act.put,List.setIfInBounds_toArray,List.set_cons_zero,List.set_cons_succ,List.getElem_toArray,List.getElem_cons_zero,List.getElem_cons_succ]
          refine WK.take (i:=6) (v:=?_) rfl (by kernel_rfl) (by kernel_rfl) (by kernel_rfl) rfl (fun _ _ _ h=>h) (Or.inl ⟨by rfl,?_⟩) ?_;rotate_left
          ·intro w hSw;try dsimp only at hSw
           go_simp;try with_reducible rfl
          try simp only[Act.put,List.setIfInBounds_toArray,List.set_cons_zero,List.set_cons_succ,List.getElem_toArray,List.getElem_cons_zero,List.getElem_cons_succ]
          refine WK.take (i:=7) (v:=?_) rfl (by kernel_rfl) (by kernel_rfl) (by kernel_rfl) rfl (fun _ _ _ h=>h) (Or.inl ⟨by rfl,?_⟩) ?_;rotate_left
          ·intro w hSw;try dsimp only at hSw
           go_simp;try with_reducible rfl
          try simp only[Act.put,List.setIfInBounds_toArray,List.set_cons_zero,List.set_cons_succ,List.getElem_toArray,List.getElem_cons_zero,List.getElem_cons_succ]
          refine WK.two (i:=8) (j:=12) (by kernel_rfl) rfl rfl (fun K hK=>?_) (fun K hK=>?_)
          ·go_simp
           (go_at_call 16;refine((Aa HST) _ ((Below.refl _ _).drew)).2.mono ?_;rintro e w9 ⟨⟨oa,on,oc,rfl,hR9⟩,hb9⟩;have hs9:=(Aa HSS) _ ((Below.refl _ _).drew) _ hb9;obtain⟨v0,v1,v2⟩:=hs9;have HR9:=Ab hR9;have HB9:=Ab hb9;have lq9:=lt_of_cell v0;have lx9:=lt_of_cell v1;clear hR9 hb9)
           go_wp2_with fail
           refine hK.out _ _ ⟨v0,v1,v2⟩ trivial ?_;clear hK K;try simp only[Act.put,List.setIfInBounds_toArray,List.set_cons_zero,List.set_cons_succ,List.getElem_toArray,List.getElem_cons_zero,List.getElem_cons_succ]
           refine WK.take (i:=9) (v:=?_) rfl (by kernel_rfl) (by kernel_rfl) (by kernel_rfl) rfl (fun _ _ _ h=>h) (Or.inl ⟨by rfl,?_⟩) ?_;rotate_left
           ·intro w hSw;try dsimp only at hSw
            go_simp;try with_reducible rfl
           try simp only[Act.put,List.setIfInBounds_toArray,List.set_cons_zero,List.set_cons_succ,List.getElem_toArray,List.getElem_cons_zero,List.getElem_cons_succ]
           refine WK.take (i:=10) (v:=?_) rfl (by kernel_rfl) (by kernel_rfl) (by kernel_rfl) rfl (fun _ _ _ h=>h) (Or.inl ⟨by rfl,?_⟩) ?_;rotate_left
           ·intro w hSw;try dsimp only at hSw
            go_simp;try with_reducible rfl
           try simp only[Act.put,List.setIfInBounds_toArray,List.set_cons_zero,List.set_cons_succ,List.getElem_toArray,List.getElem_cons_zero,List.getElem_cons_succ]
           refine WK.take (i:=11) (v:=?_) rfl (by kernel_rfl) (by kernel_rfl) (by kernel_rfl) rfl (fun _ _ _ h=>h) (Or.inl ⟨by rfl,?_⟩) ?_;rotate_left
           ·intro w hSw;try dsimp only at hSw
            go_simp;try with_reducible rfl
           try simp only[Act.put,List.setIfInBounds_toArray,List.set_cons_zero,List.set_cons_succ,List.getElem_toArray,List.getElem_cons_zero,List.getElem_cons_succ]
           refine WK.one (i:=12) (by kernel_rfl) rfl (fun K hK=>?_);go_simp;refine hK.out _ _ (by go_keep) trivial ?_;clear hK K;try simp only[Act.put,List.setIfInBounds_toArray,List.set_cons_zero,List.set_cons_succ,List.getElem_toArray,List.getElem_cons_zero,List.getElem_cons_succ]
           refine WK.store (by kernel_rfl) rfl (fun K hK=>?_);go_simp;refine hK.out _ _ (by first|go_keep|exact Yh v0 v1 v2 (by omega)) ?_;clear hK K;try simp only[Act.put,List.setIfInBounds_toArray,List.set_cons_zero,List.set_cons_succ,List.getElem_toArray,List.getElem_cons_zero,List.getElem_cons_succ]
           refine WK.take (i:=14) (v:=?_) rfl (by kernel_rfl) (by kernel_rfl) (by kernel_rfl) rfl (fun _ _ _ h=>h) (Or.inl ⟨by rfl,?_⟩) ?_;rotate_left
           ·intro w hSw;try dsimp only at hSw
            go_simp;try with_reducible rfl
           try simp only[Act.put,List.setIfInBounds_toArray,List.set_cons_zero,List.set_cons_succ,List.getElem_toArray,List.getElem_cons_zero,List.getElem_cons_succ]
           refine WK.done (by kernel_rfl) ?_;go_wp2_with fail
           go_meet
           case rel=>exact TY (Below.refl _ _).drew (Aa HB9) (Aa HR9)
          ·go_simp;refine hK.out _ _ (by go_keep) trivial ?_;clear hK K;try simp only[Act.put,List.setIfInBounds_toArray,List.set_cons_zero,List.set_cons_succ,List.getElem_toArray,List.getElem_cons_zero,List.getElem_cons_succ]
           refine WK.one (i:=8) (by kernel_rfl) rfl (fun K hK=>?_);go_simp
           (go_at_call 16;refine((Aa HST) _ (((Below.refl _ _).drew).alloc (Nat.le_refl _) _)).2.mono ?_;rintro e w9 ⟨⟨oa,on,oc,rfl,hR9⟩,hb9⟩;have hs9:=(Aa HSS) _ (((Below.refl _ _).drew).alloc (Nat.le_refl _) _) _ hb9;obtain⟨v0,v1,v2⟩:=hs9;have hz:w9.heap[W3.heap.size]?=some (.cells #[.int .i64 0,.int .i64 0,.slice none 0 0] 46 (0,0)):=(hb9.block W3.heap.size (by simp)).trans (heap_alloc_new W3.drew _);have s0:w9.cell? ⟨W3.heap.size,0,none⟩=some (.int .i64 0):=cell_of hz 0 _ rfl;have s1:w9.cell? ⟨W3.heap.size,1,none⟩=some (.int .i64 0):=cell_of hz 1 _ rfl;have s2:w9.cell? ⟨W3.heap.size,2,none⟩=some (.slice none 0 0):=cell_of hz 2 _ rfl;have f0:w9.frozen? ⟨W3.heap.size,0,none⟩=false:=D4 hz 0;have f1:w9.frozen? ⟨W3.heap.size,1,none⟩=false:=D4 hz 1;have f2:w9.frozen? ⟨W3.heap.size,2,none⟩=false:=D4 hz 2;have ls:=lt_of_block hz;clear hz;have HR9:=Ab hR9;have HB9:=Ab hb9;have lq9:=lt_of_cell v0;have lx9:=lt_of_cell v1;clear hR9 hb9)
           go_wp2_with fail
           refine hK.out _ _ ⟨v0,v1,v2⟩ trivial ?_;clear hK K;try simp only[Act.put,List.setIfInBounds_toArray,List.set_cons_zero,List.set_cons_succ,List.getElem_toArray,List.getElem_cons_zero,List.getElem_cons_succ]
           refine WK.take (i:=9) (v:=?_) rfl (by kernel_rfl) (by kernel_rfl) (by kernel_rfl) rfl (fun _ _ _ h=>h) (Or.inl ⟨by rfl,?_⟩) ?_;rotate_left
           ·intro w hSw;try dsimp only at hSw
            go_simp;try with_reducible rfl
           try simp only[Act.put,List.setIfInBounds_toArray,List.set_cons_zero,List.set_cons_succ,List.getElem_toArray,List.getElem_cons_zero,List.getElem_cons_succ]
           refine WK.take (i:=10) (v:=?_) rfl (by kernel_rfl) (by kernel_rfl) (by kernel_rfl) rfl (fun _ _ _ h=>h) (Or.inl ⟨by rfl,?_⟩) ?_;rotate_left
           ·intro w hSw;try dsimp only at hSw
            go_simp;try with_reducible rfl
           try simp only[Act.put,List.setIfInBounds_toArray,List.set_cons_zero,List.set_cons_succ,List.getElem_toArray,List.getElem_cons_zero,List.getElem_cons_succ]
           refine WK.take (i:=11) (v:=?_) rfl (by kernel_rfl) (by kernel_rfl) (by kernel_rfl) rfl (fun _ _ _ h=>h) (Or.inl ⟨by rfl,?_⟩) ?_;rotate_left
           ·intro w hSw;try dsimp only at hSw
            go_simp;try with_reducible rfl
           try simp only[Act.put,List.setIfInBounds_toArray,List.set_cons_zero,List.set_cons_succ,List.getElem_toArray,List.getElem_cons_zero,List.getElem_cons_succ]
           refine WK.store (by kernel_rfl) rfl (fun K hK=>?_);go_simp;refine hK.out _ _ (by first|go_keep|exact Yh v0 v1 v2 (by omega)) ?_;clear hK K;try simp only[Act.put,List.setIfInBounds_toArray,List.set_cons_zero,List.set_cons_succ,List.getElem_toArray,List.getElem_cons_zero,List.getElem_cons_succ]
           refine WK.take (i:=14) (v:=?_) rfl (by kernel_rfl) (by kernel_rfl) (by kernel_rfl) rfl (fun _ _ _ h=>h) (Or.inl ⟨by rfl,?_⟩) ?_;rotate_left
           ·intro w hSw;try dsimp only at hSw
            go_simp;try with_reducible rfl
           try simp only[Act.put,List.setIfInBounds_toArray,List.set_cons_zero,List.set_cons_succ,List.getElem_toArray,List.getElem_cons_zero,List.getElem_cons_succ]
           refine WK.done (by kernel_rfl) ?_;go_wp2_with fail
           go_meet
           case rel=>exact T5 (Below.refl _ _).drew rfl (Aa HB9) (Aa HR9)
         case rest=>
          obtain⟨sb,oa,on,oc,rfl,rfl,hxs,hIs,hbc⟩:=hcut;have hbw8:Below wr.heap.size wr wc:=(Aa HB3).trans (hbc.mono (Aa HB3).size);have hxc:=(hbc.block _ (lt_of_block (Aa HX3))).trans (Aa HX3);have HSK:Hid (∀w',Below wc.heap.size wc w'->(w'.heap[wr.heap.size]?=some (.cells #[.int .i64 z.1.client,.int .i64 z.1.Ag,.int .i64 z.1.line,.int .i64 z.1.seq,.int .i64 z.1.uid,.int .i64 z.1.proc,.slice za zn zc] 55 (0,0))/\w'.heap[sb]?=some (.cells #[.int .i64 2,.int .i64 z.1.seq,.slice oa on oc] 46 (0,0)))/\(w'.cell? ⟨q.r,12,none⟩=some (.slice (some ⟨kb,0,none⟩) s'.kinds.length kc)/\w'.cell? ⟨kb,un,none⟩=some (.int .i64 kd))/\A9 W2 q p c s' G7 w'/\V.Items w' (.slice oa on oc) (R.AQ G7 (CW c k3)).result/\V.Items w' (.slice za zn zc) z.1.arg):=fun w' h=>by
           have h1:=hbw8.trans (h.mono hbw8.size);obtain⟨g1,g2⟩:=Aa HKK;refine⟨⟨(h.block _ (lt_of_block hxc)).trans hxc,(h.block _ (lt_of_block hxs)).trans hxs⟩,⟨(h1.cell (p:=⟨q.r,12,none⟩) (lt_of_cell g1)).trans g1,(h1.cell (p:=⟨kb,un,none⟩) (lt_of_cell g2)).trans g2⟩,(Aa HB8).still h1,hIs.below h,?_⟩;have:=(Aa HIZ).items.below h1;rw[Aa HHS]at this;exact this
          have HND:Hid (∀W',Below wc.heap.size wc W'->Calls Tryz.prog 19 #[.agg #[.int .i64 z.1.client,.int .i64 z.1.Ag,.int .i64 z.1.line,.int .i64 z.1.seq,.int .i64 z.1.uid,.int .i64 z.1.proc,.slice za zn zc],.int .i64 kd,.slice oa on oc] W' fun e w'=>e=.returned (.int .i64 vv)/\Below W'.heap.size W' w'):=fun W' h=>by
           obtain⟨_,_,hB',hR',hI'⟩:=(Aa HSK) W' h;obtain⟨_,_,_,hNd⟩:=Aa HAT;have:=Xb z.1 za oa zn zc on oc kd W' hB'.t0 hI' hR' hNd.sig hNd.arg hNd.res hNd.pos hal hrl;rw[Aa HVV]at this;exact this
          have HLK:Hid (∀W',Below wc.heap.size wc W'->Calls Tryz.prog 20 #[ptr q.r,.int .i64 z.1.client,.int .i64 z.1.line] W' fun e w'=>e=.returned (.bool true)/\Below W'.heap.size W' w'):=fun W' h=>by
           obtain⟨_,_,hB',_⟩:=(Aa HSK) W' h;obtain⟨hat,_⟩:=Aa HAT;have:=hB'.Zn (Aa HC7).agree hat.cl hat.ln;rw[<-(Aa HZ).2.1,<-(Aa HZ).2.2.1]at this;exact this
          have s0:wc.cell? ⟨sb,0,none⟩=some (.int .i64 2):=cell_of hxs 0 _ rfl;have s1:wc.cell? ⟨sb,1,none⟩=some (.int .i64 z.1.seq):=cell_of hxs 1 _ rfl;have s2:wc.cell? ⟨sb,2,none⟩=some (.slice oa on oc):=cell_of hxs 2 _ rfl;have x0':wc.cell? ⟨wr.heap.size,0,none⟩=some (.int .i64 z.1.client):=cell_of hxc 0 _ rfl;have x1':wc.cell? ⟨wr.heap.size,1,none⟩=some (.int .i64 z.1.Ag):=cell_of hxc 1 _ rfl;have x2':wc.cell? ⟨wr.heap.size,2,none⟩=some (.int .i64 z.1.line):=cell_of hxc 2 _ rfl;have x3':wc.cell? ⟨wr.heap.size,3,none⟩=some (.int .i64 z.1.seq):=cell_of hxc 3 _ rfl;have x4':wc.cell? ⟨wr.heap.size,4,none⟩=some (.int .i64 z.1.uid):=cell_of hxc 4 _ rfl;have x5':wc.cell? ⟨wr.heap.size,5,none⟩=some (.int .i64 z.1.proc):=cell_of hxc 5 _ rfl;have x6':wc.cell? ⟨wr.heap.size,6,none⟩=some (.slice za zn zc):=cell_of hxc 6 _ rfl;obtain⟨-,⟨r12,kk0⟩,-⟩:=(Aa HSK) wc (Below.refl _ _);have lsb:=lt_of_cell s0;have lxb:=lt_of_cell x0';have lrq:=lt_of_cell r12;have lkb:=lt_of_cell kk0;clear hxs hIs hbc hbw8 hxc y0' y1' y2' lx3 lr3;go_wp2_with fail
          go_region_held3 (fun w'=>w'.cell? ⟨wr.heap.size,0,none⟩=some (.int .i64 z.1.client)/\w'.cell? ⟨wr.heap.size,1,none⟩=some (.int .i64 z.1.Ag)/\w'.cell? ⟨wr.heap.size,2,none⟩=some (.int .i64 z.1.line)/\w'.cell? ⟨wr.heap.size,3,none⟩=some (.int .i64 z.1.seq)/\w'.cell? ⟨wr.heap.size,4,none⟩=some (.int .i64 z.1.uid)/\w'.cell? ⟨wr.heap.size,5,none⟩=some (.int .i64 z.1.proc)/\w'.cell? ⟨wr.heap.size,6,none⟩=some (.slice za zn zc)/\w'.cell? ⟨q.r,12,none⟩=some (.slice (some ⟨kb,0,none⟩) s'.kinds.length kc)/\w'.cell? ⟨kb,un,none⟩=some (.int .i64 kd)/\w'.cell? ⟨sb,2,none⟩=some (.slice oa on oc)) (go_keep) ((go_at_call 19;refine((Aa HND) _ (by first|exact Below.refl _ _|exact(Below.refl _ _).drew)).mono ?_;rintro e w10 ⟨rfl,hb10⟩;have hbd:=(Below.refl wc.heap.size wc).drew.trans (hb10.mono (Nat.le_refl _));obtain⟨⟨j1,j2⟩,⟨j3,j4⟩,-⟩:=(Aa HSK) w10 hbd;have t0:w10.cell? ⟨wr.heap.size,0,none⟩=some (.int .i64 z.1.client):=cell_of j1 0 _ rfl;have t1:w10.cell? ⟨wr.heap.size,1,none⟩=some (.int .i64 z.1.Ag):=cell_of j1 1 _ rfl;have t2:w10.cell? ⟨wr.heap.size,2,none⟩=some (.int .i64 z.1.line):=cell_of j1 2 _ rfl;have t3:w10.cell? ⟨wr.heap.size,3,none⟩=some (.int .i64 z.1.seq):=cell_of j1 3 _ rfl;have t4:w10.cell? ⟨wr.heap.size,4,none⟩=some (.int .i64 z.1.uid):=cell_of j1 4 _ rfl;have t5:w10.cell? ⟨wr.heap.size,5,none⟩=some (.int .i64 z.1.proc):=cell_of j1 5 _ rfl;have t6:w10.cell? ⟨wr.heap.size,6,none⟩=some (.slice za zn zc):=cell_of j1 6 _ rfl;have t7:w10.cell? ⟨sb,2,none⟩=some (.slice oa on oc):=cell_of j2 2 _ rfl;have lt10:=lt_of_block j1;have HBD:=Ab hbd;clear hb10 hbd j1 j2))
          have HL10:=Ab ((Aa HLK) w10 (Aa HBD));have HE10:Hid (∀w',Below w10.heap.size w10 w'->A9 W2 q p c s' G7 w'):=fun w' h=>((Aa HSK) w' ((Aa HBD).trans (h.mono (Aa HBD).size))).2.2.1
          clear s0 s1 s2 x0' x1' x2' x3' x4' x5' x6' r12 kk0 HND HLK HSK;go_wp2_with fail
          refine(Aa HL10).mono ?_;rintro e w11 ⟨rfl,hb11⟩;have HB11:=Ab ((Aa HE10) w11 hb11);clear hb11;go_wp2_with fail
          go_roundw
          case rel=>exact⟨k3+1,by omega,by go_num,rfl,Aa HB11⟩
          case measure=>simp[intOf];omega
        ·obtain rfl:k3=K7:=by omega
         rw[Qs];have HB8:=Ab hB8;obtain⟨ma8,mc8,hMs⟩:=Bg hri.M;rw[hMs]at r9;have hnk:¬(k3:Int)<(k3:Int):=by omega
         clear hB8 hri hMs r12 r0;go_wp2_with fail
         go_roundw
         case rel=>exact⟨i+1,n7,s',M',G7,by omega,by go_num,Aa HB8,(Aa HC7).next⟩
         case measure=>simp[intOf];omega
  ·have hno:¬(i:Int)<(vn:Int):=by omega
   have hno2:¬(i:Int)<1:=by omega
   clear hB hC hMv hri hMs k0 k1 k4 r9;have HBW:=Ab hbw;clear hbw;go_wp2_with fail
   go_returns;exact⟨rfl,Aa HBW⟩
end Go.Proofs.YtblomippkddgiaaGreatDoor
