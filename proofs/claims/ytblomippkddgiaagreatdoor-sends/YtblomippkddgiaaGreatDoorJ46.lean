import Derived.Test.YtblomippkddgiaaGreatDoorJ40
import Derived.Test.YtblomippkddgiaaGreatDoorJ45
set_option maxRecDepth 100000
set_option maxHeartbeats 4000000
namespace Go.Proofs.YtblomippkddgiaaGreatDoor
open Go.RowKit
def TI(x:Nat)(F:Ag)(w:World)(G:R.Wd)(wr:World):Prop:=∃v F',RW x v F' G wr/\Ah F F' w wr
structure PL(x:Nat)(F:Ag)(w:World)(G:R.Wd)(i k:Nat)(wr:World)(g cap lb N NL:Nat)(l:R.Ln):Prop where
 x1:wr.cell? ⟨x,1,none⟩=some (.int .i64 (NL:Int))
 x2:wr.cell? ⟨x,2,none⟩=some (.int .i64 G.c.Al)
 x9:wr.cell? ⟨x,9,none⟩=some (.slice (some ⟨g,0,none⟩) N cap)
 c2:wr.cell? ⟨g,i*3+2,none⟩=some (.slice (some ⟨lb,0,none⟩) NL NL)
 ln:XF wr lb k l
 z:∀o,wr.frozen? ⟨lb,o,none⟩=false
 ok:R.Nc l
 rt:1<=G.c.Al/\G.c.Al<=8
 idle:¬l.state=1->TI x F w (R.AB G i k) wr
 less:l.state=1->1<l.wait->TI x F w (R.AB G i k) (wr.setCell ⟨lb,k*11+9,none⟩ (.int .i64 (l.wait-1)))
 over:l.state=1->¬1<l.wait->l.tries=0->TI x F w (R.AB G i k) ((wr.setCell ⟨lb,k*11+9,none⟩ (.int .i64 (l.wait-1))).setCell ⟨lb,k*11+1,none⟩ (.int .i64 3))
 piece:l.state=1->¬1<l.wait->¬l.tries=0->8*l.Az<(l.message.length:Int)->∀W,Below wr.heap.size (((wr.setCell ⟨lb,k*11+9,none⟩ (.int .i64 (l.wait-1))).setCell ⟨lb,k*11+10,none⟩ (.int .i64 (l.tries-1))).setCell ⟨lb,k*11+9,none⟩ (.int .i64 G.c.Al)) W->Calls Tryz.prog 165 #[Av x,.int .i64 (i:Int),.int .i64 (k:Int),.bool true] W fun e w'=>e=.returned (.tuple #[])/\TI x F w (R.AB G i k) w'
 XP:l.state=1->¬1<l.wait->¬l.tries=0->¬8*l.Az<(l.message.length:Int)->∃Ax,(∀W,Below wr.heap.size (((wr.setCell ⟨lb,k*11+9,none⟩ (.int .i64 (l.wait-1))).setCell ⟨lb,k*11+10,none⟩ (.int .i64 (l.tries-1))).setCell ⟨lb,k*11+9,none⟩ (.int .i64 G.c.Al)) W->Calls Tryz.prog 166 #[Av x,.int .i64 (i:Int),.int .i64 (k:Int),.int .i64 3] W fun e w'=>e=.returned (.agg #[.int .i64 3,.int .i64 (i:Int),.int .i64 Ax,.int .i64 (k:Int),.int .i64 l.seq,.int .i64 l.uid,.int .i64 0,.int .i64 1,.bool false,.string ⟨#[]⟩])/\Below W.heap.size W w')/\∀W,Below wr.heap.size (((wr.setCell ⟨lb,k*11+9,none⟩ (.int .i64 (l.wait-1))).setCell ⟨lb,k*11+10,none⟩ (.int .i64 (l.tries-1))).setCell ⟨lb,k*11+9,none⟩ (.int .i64 G.c.Al)) W->Calls Tryz.prog 167 #[Av x,.int .i64 (-1),.agg #[.int .i64 3,.int .i64 (i:Int),.int .i64 Ax,.int .i64 (k:Int),.int .i64 l.seq,.int .i64 l.uid,.int .i64 0,.int .i64 1,.bool true,.string ⟨#[]⟩]] W fun e w'=>e=.returned (.tuple #[])/\TI x F w (R.AB G i k) w'
theorem Fj{wr:World}{a b c:Addr}{u v y:Value}:(((wr.setCell a u).setCell b v).setCell c y).heap.size=wr.heap.size:=by simp[World.setCell]
theorem U8{x:Nat}{F:Ag}{w:World}{G:R.Wd}{i k N NL:Nat}{wr:World}(h:TI x F w G wr)(hN:G.Ad.length=N)(hNL:G.c.lines=(NL:Int))(hi:i<N)(hk:k<NL):∃g cap lb l,PL x F w G i k wr g cap lb N NL l:=by
 obtain⟨v,F',hR,hW⟩:=h;obtain⟨c,hc⟩:∃c,G.Ad[i]?=some c:=⟨_,List.getElem?_eq_getElem (by omega)⟩;have hln:=(hR.wf.cl i c hc).lines;obtain⟨l,hl⟩:∃l,c.lines[k]?=some l:=⟨_,List.getElem?_eq_getElem (by omega)⟩;obtain⟨g,cap,z,zl,hA⟩:=hR.at hc;have hok:=(hR.wf.cl i c hc).line k l hl;have hcf:=hR.wf.cf;unfold R.Cj at hcf;have hx9:=hA.x9;have hc2:=hA.c2;rw[hN]at hx9;rw[show c.lines.length=NL by omega]at hc2;refine⟨g,cap,z.2.lb,l,⟨cell_of hR.bx 1 _ (by rw[<-hNL];rfl),cell_of hR.bx 2 _ rfl,hx9,hc2,hA.cells hl,fun o=>open_list hA.lb,hok,hcf.2.2.1,fun hs=>?_,fun hs hw=>?_,fun hs hw ht=>?_,fun hs hw ht hm W hb=>?_,fun hs hw ht hm=>?_⟩⟩
 ·rw[Gf (R.Bc hc hl) hs];exact⟨v,F',hR,hW⟩
 ·obtain⟨v2,F2,a1,a2⟩:=hR.Uj hc hA hl hs hw;exact⟨v2,F2,a1,hW.trans a2⟩
 ·obtain⟨v2,F2,a1,a2⟩:=hR.timeout hc hA hl hs hw ht;exact⟨v2,F2,a1,hW.trans a2⟩
 ·obtain⟨v2,F2,a1,a2⟩:=hR.again hc hA hl hs ht rfl;have hc3:(R.Ar G i k {l with wait:=G.c.Al,tries:=l.tries-1}).Ad[i]?=some {c with lines:=c.lines.set k {l with wait:=G.c.Al,tries:=l.tries-1}}:=by rw[R.BK,hc];simp
  have hl3:(c.lines.set k {l with wait:=G.c.Al,tries:=l.tries-1})[k]?=some {l with wait:=G.c.Al,tries:=l.tries-1}:=List.getElem?_set_self (List.getElem?_eq_some_iff.1 hl).1;have hb':Below (((wr.setCell ⟨z.2.lb,k*11+9,none⟩ (.int .i64 (l.wait-1))).setCell ⟨z.2.lb,k*11+10,none⟩ (.int .i64 (l.tries-1))).setCell ⟨z.2.lb,k*11+9,none⟩ (.int .i64 G.c.Al)).heap.size (((wr.setCell ⟨z.2.lb,k*11+9,none⟩ (.int .i64 (l.wait-1))).setCell ⟨z.2.lb,k*11+10,none⟩ (.int .i64 (l.tries-1))).setCell ⟨z.2.lb,k*11+9,none⟩ (.int .i64 G.c.Al)) W:=by rw[Fj];exact hb
  refine((a1.below hb').Kn hc3 hl3 hs (by unfold R.Ak;simp only;omega) true).mono ?_;rintro e w' ⟨rfl,v3,F3,b1,b2⟩;refine⟨rfl,v3,F3,?_,hW.trans (a2.trans ((Ah.Aq F2 hb').trans b2))⟩;have eT:R.AB G i k=R.A9 (R.Ar G i k {l with wait:=G.c.Al,tries:=l.tries-1}) i k true:=by
   unfold R.AB;simp only[R.Bc hc hl];rw[if_neg (by omega),if_neg hw,if_neg ht,if_pos hm]
  rw[eT];exact b1
 ·obtain⟨v2,F2,a1,a2⟩:=hR.again hc hA hl hs ht rfl;have hc3:(R.Ar G i k {l with wait:=G.c.Al,tries:=l.tries-1}).Ad[i]?=some {c with lines:=c.lines.set k {l with wait:=G.c.Al,tries:=l.tries-1}}:=by rw[R.BK,hc];simp
  have hl3:(c.lines.set k {l with wait:=G.c.Al,tries:=l.tries-1})[k]?=some {l with wait:=G.c.Al,tries:=l.tries-1}:=List.getElem?_set_self (List.getElem?_eq_some_iff.1 hl).1;refine⟨c.Ax,fun W hb=>?_,fun W hb=>?_⟩
  ·have hb':Below (((wr.setCell ⟨z.2.lb,k*11+9,none⟩ (.int .i64 (l.wait-1))).setCell ⟨z.2.lb,k*11+10,none⟩ (.int .i64 (l.tries-1))).setCell ⟨z.2.lb,k*11+9,none⟩ (.int .i64 G.c.Al)).heap.size (((wr.setCell ⟨z.2.lb,k*11+9,none⟩ (.int .i64 (l.wait-1))).setCell ⟨z.2.lb,k*11+10,none⟩ (.int .i64 (l.tries-1))).setCell ⟨z.2.lb,k*11+9,none⟩ (.int .i64 G.c.Al)) W:=by rw[Fj];exact hb
   exact(a1.below hb').UU hc3 hl3 3
  ·have hb':Below (((wr.setCell ⟨z.2.lb,k*11+9,none⟩ (.int .i64 (l.wait-1))).setCell ⟨z.2.lb,k*11+10,none⟩ (.int .i64 (l.tries-1))).setCell ⟨z.2.lb,k*11+9,none⟩ (.int .i64 G.c.Al)).heap.size (((wr.setCell ⟨z.2.lb,k*11+9,none⟩ (.int .i64 (l.wait-1))).setCell ⟨z.2.lb,k*11+10,none⟩ (.int .i64 (l.tries-1))).setCell ⟨z.2.lb,k*11+9,none⟩ (.int .i64 G.c.Al)) W:=by rw[Fj];exact hb
   have hpr:=R.Ii (a1.wf) hc3 hl3 hs;have hpv:pv (R.Cr (R.Ar G i k {l with wait:=G.c.Al,tries:=l.tries-1}) i k {l with wait:=G.c.Al,tries:=l.tries-1})=.agg #[.int .i64 3,.int .i64 (i:Int),.int .i64 c.Ax,.int .i64 (k:Int),.int .i64 l.seq,.int .i64 l.uid,.int .i64 0,.int .i64 1,.bool true,.string ⟨#[]⟩]:=by
    rw[show c.Ax=R.Jd (R.Ar G i k {l with wait:=G.c.Al,tries:=l.tries-1}) i from (R.DR hc3).symm];rfl
   rw[<-hpv];refine((a1.below hb').send (-1) _ hpr).mono ?_;rintro e w' ⟨rfl,v3,F3,b1,b2⟩;refine⟨rfl,v3,F3,?_,hW.trans (a2.trans ((Ah.Aq F2 hb').trans b2))⟩;have eT:R.AB G i k=R.BM (R.Ar G i k {l with wait:=G.c.Al,tries:=l.tries-1}) (-1) (R.Cr (R.Ar G i k {l with wait:=G.c.Al,tries:=l.tries-1}) i k {l with wait:=G.c.Al,tries:=l.tries-1}):=by
    unfold R.AB;simp only[R.Bc hc hl];rw[if_neg (by omega),if_neg hw,if_neg ht,if_neg hm];unfold R.Fg;rw[R.Bc hc3 hl3];rfl
   rw[eT];exact b1
theorem TI.facts{x:Nat}{F:Ag}{w:World}{G:R.Wd}{wr:World}(h:TI x F w G wr):(∃a cap,wr.cell? ⟨x,9,none⟩=some (.slice a G.Ad.length cap))/\wr.cell? ⟨x,1,none⟩=some (.int .i64 G.c.lines)/\∃sn,wr.cell? ⟨x,11,none⟩=some (.slice (some ⟨sn,0,none⟩) 9 9)/\∀i,i<9->wr.cell? ⟨sn,i*10+7,none⟩=some (.bool false):=by
 obtain⟨v,F',hR,_⟩:=h;obtain⟨a,cap,hC⟩:=AR hR.cl;have hlen:v.zc.length=G.Ad.length:=by rw[<-hR.zc,List.length_map]
 rw[hlen]at hC;refine⟨⟨a,cap,cell_of hR.bx 9 _ (by rw[<-hC];rfl)⟩,cell_of hR.bx 1 _ rfl,v.Sn,cell_of hR.bx 11 _ rfl,fun i hi=>?_⟩;have h1:=hR.seen;rw[hR.CF.2.1]at h1;refine Bi h1 ?_;have:=CW Qm (List.replicate 9 R.Ef) i 7 R.Ef (by rw[List.getElem?_replicate,if_pos hi]) (by omega);rw[this];rfl
theorem DJ{w:World}{b o o':Nat}{v:Value}(h:o≠o'):(w.setCell ⟨b,o,none⟩ v).cell? ⟨b,o',none⟩=w.cell? ⟨b,o',none⟩:=World.cell?_setCell_other w _ _ v (fun e=>h (congrArg Addr.off e))
theorem OU(w:World)(x:Nat)(F:Ag)(G:R.Wd)(N NL:Nat)(hN:G.Ad.length=N)(hNL:G.c.lines=(NL:Int))(hN3:N<=3)(hNL3:NL<=3)(h:TI x F w G w):
  Calls Tryz.prog 97 #[Av x] w fun e w'=>e=.returned (.tuple #[])/\TI x F w (CQ G N) w':=by
 have H0:=Ab h;have HRA:Hid (∀(i k:Nat) (wr:World),TI x F w (Cn (CQ G i) i k) wr->i<N->k<NL->∃g cap lb l,PL x F w (Cn (CQ G i) i k) i k wr g cap lb N NL l):=fun i k wr ht hi hk=>U8 ht (by rw[Hr,Ku,hN]) (by rw[GL,ID];exact hNL) hi hk
 have HFA:Hid (∀(i k:Nat) (wr:World),TI x F w (Cn (CQ G i) i k) wr->(∃a cap,wr.cell? ⟨x,9,none⟩=some (.slice a N cap))/\wr.cell? ⟨x,1,none⟩=some (.int .i64 (NL:Int))):=fun i k wr ht=>by
  have:=ht.facts;rw[Hr,Ku,hN,GL,ID,hNL]at this;exact⟨this.1,this.2.1⟩
 have HSN:Hid (∀(i k:Nat) (wr:World),TI x F w (Cn (CQ G i) i k) wr->∃sn,wr.cell? ⟨x,11,none⟩=some (.slice (some ⟨sn,0,none⟩) 9 9)/\∀i,i<9->wr.cell? ⟨sn,i*10+7,none⟩=some (.bool false)):=fun i k wr ht=>ht.facts.2.2
 have HSU:Hid (∀(i k:Nat) (wr:World),TI x F w (R.AB (Cn (CQ G i) i k) i k) wr->TI x F w (Cn (CQ G i) i (k+1)) wr):=fun i k wr ht=>by
  rw[Ey];exact ht
 have HSW:Hid (∀(i:Nat) (wr:World),TI x F w (Cn (CQ G i) i NL) wr->TI x F w (Cn (CQ G (i+1)) (i+1) 0) wr):=fun i wr ht=>by
  have e:(CQ G i).c.lines.toNat=NL:=by rw[ID,hNL];omega
  show TI x F w (CQ G (i+1)) wr;rw[Fp,e];exact ht
 clear h hN hNL;obtain⟨⟨a0,cap0,y9⟩,y1⟩:=(Aa HFA) 0 0 w (Aa H0);go_enter Tryz.func97,Tryz.ntmps97;go_wp2_with fail
 go_loopw [2] (fun iv wr=>∃i:Nat,i<=N/\iv=.int .i64 (i:Int)/\TI x F w (Cn (CQ G i) i 0) wr) (fun iv _=>N-(intOf iv).toNat)
 case atStart=>exact⟨0,Nat.zero_le _,rfl,Aa H0⟩
 case round=>
  obtain⟨i,hi,rfl,hT⟩:=hrel;obtain⟨⟨a1,cap1,z9⟩,z1⟩:=(Aa HFA) i 0 _ hT;have hx:=lt_of_cell z9;by_cases hlt:i<N
  ·have HT:=Ab hT;clear hT y9 y1;go_wp2_with fail
   go_loopw [3] (fun kv wr=>∃k:Nat,k<=NL/\kv=.int .i64 (k:Int)/\TI x F w (Cn (CQ G i) i k) wr) (fun kv _=>NL-(intOf kv).toNat)
   case atStart=>exact⟨0,Nat.zero_le _,rfl,Aa HT⟩
   case round=>
    obtain⟨k,hk,rfl,hT2⟩:=hrel;clear z9 z1;by_cases hlk:k<NL
    ·obtain⟨g,cap,lb,l,hR⟩:=(Aa HRA) i k _ hT2 hlt hlk;obtain⟨x1,x2,x9,c2,hL,hz,hok,hrt,r1,r2,r3,r4,r5⟩:=hR;have R1:=Ab r1;have R2:=Ab r2;have R3:=Ab r3;have R4:=Ab r4;have R5:=Ab r5;obtain⟨l0,l1,l2,l3,l4,l5,l6,l7,l8,l9,l10⟩:=hL;have hz1:=hz (k*11+1);have hz9:=hz (k*11+9);have hz10:=hz (k*11+10);have hxx:=lt_of_cell x9;have hgg:=lt_of_cell c2;have hll:=lt_of_cell l0;have q0:(0:Int)<=(i:Int):=by omega
     have q1:(i:Int)<(N:Int):=by omega
     have q2:(0:Int)<=(k:Int):=by omega
     have q3:(k:Int)<(NL:Int):=by omega
     clear hT2 hz r1 r2 r3 r4 r5 l2 l4 l7 l8;by_cases hs:l.state=1
     ·obtain⟨o1,o2,o3,o4,o5,o6⟩:=hok.one hs;have ew:IntKind.i64.wrap (l.wait-1)=l.wait-1:=by rw[IntKind.wrap_i64];omega
      have et:IntKind.i64.wrap (l.tries-1)=l.tries-1:=by rw[IntKind.wrap_i64];omega
      by_cases hw:1<l.wait
      ·have HE:=Ab ((Aa HSU) i k _ ((Aa R2) hs hw));have hw0:0<l.wait-1:=by omega
       clear R1 R2 R3 R4 R5 hok;go_wp2_with fail
       go_roundw
       case rel=>exact⟨k+1,by omega,by go_num,Aa HE⟩
       case measure=>simp[intOf];omega
      ·have hw0:¬0<l.wait-1:=by omega
       by_cases ht:l.tries=0
       ·have HE:=Ab ((Aa HSU) i k _ ((Aa R3) hs hw ht));clear R1 R2 R3 R4 R5 hok;go_wp2_with fail
        go_roundw
        case rel=>exact⟨k+1,by omega,by go_num,Aa HE⟩
        case measure=>simp[intOf];omega
       ·have hR4:=Aa R4;have hR5:=Aa R5;have e8:IntKind.i64.wrap (8*l.Az)=8*l.Az:=by
         have:=o4.2;unfold R.Ak at this;rw[IntKind.wrap_i64];omega
        have hms:((str l.message).size:Int)=(l.message.length:Int):=by rw[Au]
        have ht0:(l.tries==0)=false:=by simpa using ht
        have R4':=Ab (hR4 hs hw ht);have R5':=Ab (hR5 hs hw ht);clear R1 R2 R3 R4 R5 hR4 hR5 hok;generalize (Cn (CQ G i) i k).c.Al=rt at *;obtain⟨W3,hW3⟩:∃W3,((wr.setCell ⟨lb,k*11+9,none⟩ (.int .i64 (l.wait-1))).setCell ⟨lb,k*11+10,none⟩ (.int .i64 (l.tries-1))).setCell ⟨lb,k*11+9,none⟩ (.int .i64 rt)=W3:=⟨_,rfl⟩;rw[hW3]at R4' R5';have m5:W3.cell? ⟨lb,k*11+5,none⟩=some (.string (str l.message)):=by
         rw[<-hW3,DJ (by omega),DJ (by omega),DJ (by omega)];exact l5
        have m6:W3.cell? ⟨lb,k*11+6,none⟩=some (.int .i64 l.Az):=by
         rw[<-hW3,DJ (by omega),DJ (by omega),DJ (by omega)];exact l6
        have hsz:W3.heap.size=wr.heap.size:=by rw[<-hW3];exact Fj
        have HW3:=Ab hW3;have HSZ:=Ab hsz;clear hW3 hsz;by_cases hm:8*l.Az<(l.message.length:Int)
        ·have R4'':=Ab ((Aa R4') hm);clear R4' R5';go_wp2_with fail
         rw[Aa HW3];go_region_held3 (fun w'=>w'.cell? ⟨lb,k*11+6,none⟩=some (.int .i64 l.Az)/\w'.cell? ⟨lb,k*11+5,none⟩=some (.string (str l.message))) (go_keep) (fail)
         go_wp2_with fail
         refine((Aa R4'') W3.drew (by rw[<-Aa HSZ];exact(Below.refl _ _).drew)).mono ?_;rintro e w4 ⟨rfl,hT4⟩;have HE:=Ab ((Aa HSU) i k _ hT4);clear hT4 R4'';go_wp2_with fail
         go_roundw
         case rel=>exact⟨k+1,by omega,by go_num,Aa HE⟩
         case measure=>simp[intOf];omega
        ·obtain⟨Ax,p1,p2⟩:=(Aa R5') hm;have P1:=Ab p1;have P2:=Ab p2;clear R4' R5' p1 p2;go_wp2_with fail
         rw[Aa HW3];go_region_held3 (fun w'=>w'.cell? ⟨lb,k*11+6,none⟩=some (.int .i64 l.Az)/\w'.cell? ⟨lb,k*11+5,none⟩=some (.string (str l.message))) (go_keep) (fail)
         go_wp2_with fail
         have hb3:Below wr.heap.size W3 W3.drew:=by rw[<-Aa HSZ];exact(Below.refl _ _).drew
         refine((Aa P1) W3.drew hb3).mono ?_;rintro e w4 ⟨rfl,hb4⟩;have hb34:Below wr.heap.size W3 w4:=hb3.trans (hb4.mono (by simp;rw[Aa HSZ];exact Nat.le_refl _));have P2':=Ab (fun (o:Obj)=>(Aa P2) (w4.alloc o) (hb34.alloc (by have:=hb34.size;rw[Aa HSZ]at this;exact this) o));clear P1 P2 hb3 hb4 hb34;go_wp2_with fail
         refine((Aa P2') _).mono ?_;rintro e w5 ⟨rfl,hT4⟩;have HE:=Ab ((Aa HSU) i k _ hT4);clear hT4 P2';go_wp2_with fail
         go_roundw
         case rel=>exact⟨k+1,by omega,by go_num,Aa HE⟩
         case measure=>simp[intOf];omega
     ·have HE:=Ab ((Aa HSU) i k _ ((Aa R1) hs));clear R1 R2 R3 R4 R5 hok;go_wp2_with fail
      go_roundw
      case rel=>exact⟨k+1,by omega,by go_num,Aa HE⟩
      case measure=>simp[intOf];omega
    ·obtain rfl:k=NL:=by omega
     have HE:=Ab ((Aa HSW) i _ hT2);have x1:=((Aa HFA) i k _ hT2).2;clear hT2;go_wp2_with fail
     go_roundw
     case rel=>exact⟨i+1,by omega,by go_num,Aa HE⟩
     case measure=>simp[intOf];omega
  ·obtain rfl:i=N:=by omega
   obtain⟨sn,s11,sf⟩:=(Aa HSN) i 0 _ hT;have SF:=Ab sf;have HT:=Ab hT;have hsn:=lt_of_cell s11;clear hT sf y9 y1;go_wp2_with fail
   go_loopw [6] (fun jv wq=>∃j:Nat,j<=9/\jv=.int .i64 (j:Int)/\wq=wr) (fun jv _=>9-(intOf jv).toNat)
   case atStart=>exact⟨0,by omega,rfl,rfl⟩
   case round=>
    obtain⟨j,hj,rfl,hwq⟩:=hrel;subst hwq;by_cases hlj:j<9
    ·have sj:=(Aa SF) j hlj;have p0:(0:Int)<=(j:Int):=by omega
     have p1:(j:Int)<9:=by omega
     go_wp2_with fail
     go_roundw
     case rel=>exact⟨j+1,by omega,by go_num,trivial⟩
     case measure=>simp[intOf];omega
    ·obtain rfl:j=9:=by omega
     go_wp2_with fail
     go_returns;exact⟨rfl,Aa HT⟩
theorem RW.tick{x:Nat}{v:RV}{F:Ag}{G:R.Wd}{w:World}(h:RW x v F G w):Calls Tryz.prog 97 #[Av x] w fun e w'=>e=.returned (.tuple #[])/\∃v' F',RW x v' F' (R.FK G) w'/\Ah F F' w w':=by
 have hcf:=h.wf.cf;have hn:=h.wf.JL;unfold R.Cj at hcf;refine(OU w x F G G.Ad.length G.c.lines.toNat rfl (by omega) (by omega) (by omega) ⟨v,F,h,Ah.refl F w⟩).mono ?_;rintro e w' ⟨rfl,v',F',h1,h2⟩;refine⟨rfl,v',F',?_,h2⟩;rw[<-GM]at h1;rw[Pn h1.CF.2.1];exact h1
def DI(G:R.Wd)(o:EM)(v:List R.It):R.Wd:=
 if o.kind=8 then (R.AJ G o.s o.a).2
 else if o.kind=9 then (R.AU G o.s).2
 else if o.kind=10 then (R.Bn G o.a o.s).2
 else if o.kind=11 then (R.Bf G o.a o.b o.c o.d v).2
 else if o.kind=13 then R.FK G
 else if o.kind=16 then (R.EF G o.a).2
 else if o.kind=17 then (R.D5 G o.a).2
 else if o.kind=18 then (R.D4 G o.a o.b o.c).2
 else G
structure XZ(o:EM)(v:List V.It)(A:Ag)(w:World):Prop where
 s:o.s.length<=1000000000000000
 items:V.Items w o.L v
 len:v.length<=9000000000000
 off:v≠[]->∀b off n c,o.L=.slice (some ⟨b,off,none⟩) n c->¬A b
 c:LA o.c
 on:LA o.on
def HF(b:Nat)(Ts:List Tw)(L:List V.Kp)(lv K:Value):Ag:=fun k=>V.Iu b L K k\/lv.ownBlock=some k\/∃t∈Ts,t.A4 k
def Zh(w0:World)(z:Nat->Option Obj)(b N:Nat)(Ts:List Tw)(i:Nat)(L:List V.Kp)(lv:Value)(G':R.Wd)(w':World):Prop:=∃t' L' K',Hn w0 z b N (Ts.set i t') L' lv K' w'/\t'.G=G'/\L'.length<=L.length+1
theorem Hn.twS{w0:World}{z:Nat->Option Obj}{b N N':Nat}{Ts:List Tw}{L:List V.Kp}{lv K:Value}{w w':World}(h:Hn w0 z b N Ts L lv K w){i:Nat}{t:Tw}(hi:Ts[i]?=some t){G':R.Wd}(hS:Ec N' t G' w w')(hN:N<=N'):Zh w0 z b N' Ts i L lv G' w':=by
 obtain⟨t',h1,h2,h3,h4,h5⟩:=hS;exact⟨t',L,K,h.step hi h1 h2 h3 h4 hN,h5,by omega⟩
theorem Ec.more{N N':Nat}{t:Tw}{G':R.Wd}{w w':World}(h:Ec N t G' w w')(hN:N<=N'):Ec N' t G' w w':=h.le hN
theorem ES(w:World)(b:Nat)(t:Tw)(o:EM)(hk:o.kind=8\/o.kind=9\/o.kind=10)(Q:World->Prop)(H:Hid (∀W1,(w.alloc (.cells #[ptr t.p.x,Av t.x] 109)).alloc (.cells o.cells 72)=W1->Calls Tryz.prog 95 #[t.val,o.val] W1 fun e w'=>e=.returned (.bool true)/\Q w')):
  Calls Tryz.prog 54 #[ptr b,t.val,o.val] w fun e w'=>e=.returned (.bool true)/\Q w':=by
 obtain⟨W1,hW1⟩:∃W1,(w.alloc (.cells #[ptr t.p.x,Av t.x] 109)).alloc (.cells o.cells 72)=W1:=⟨_,rfl⟩;have H1:=Ab ((Aa H) W1 hW1);have hx:Bx w.heap.size t o W1:=by
  rw[<-hW1];exact⟨(Fz w t o).2.1,(Fz w t o).2.2⟩
 have lw1:=lt_of_block hx.t;have lw2:=lt_of_block hx.o;have f0:W1.cell? ⟨w.heap.size+1,0,none⟩=some (.int .i64 o.kind):=cell_of hx.o 0 _ rfl;have HX:=Ab hx.bl;have HW1:=Ab hW1;clear hW1 H hx;obtain⟨q8,hq8⟩:∃q8,(o.kind==8)=q8:=⟨_,rfl⟩;obtain⟨q9,hq9⟩:∃q9,(o.kind==9)=q9:=⟨_,rfl⟩;obtain⟨q10,hq10⟩:∃q10,(o.kind==10)=q10:=⟨_,rfl⟩;have hq:q8=true\/(q8=false/\q9=true)\/(q8=false/\q9=false/\q10=true):=by
  rcases hk with hk|hk|hk
  ·exact Or.inl (by rw[<-hq8,hk];rfl)
  ·exact Or.inr (Or.inl ⟨by rw[<-hq8,hk];rfl,by rw[<-hq9,hk];rfl⟩)
  ·exact Or.inr (Or.inr ⟨by rw[<-hq8,hk];rfl,by rw[<-hq9,hk];rfl,by rw[<-hq10,hk];rfl⟩)
 clear hk;rcases hq with rfl|⟨rfl,rfl⟩|⟨rfl,rfl,rfl⟩;all_goals
  go_enter Tryz.func54,Tryz.ntmps54
  go_upto_region 1 with fail
  rw[Aa HW1]
  go_upto_region 5 with fail
  refine wp_region_list ?_;refine VJ rfl (.tmp 4) rfl w.heap.size 0 rfl t (Aa HX).t ?_;refine M3 rfl (.tmp 5) rfl (w.heap.size+1) 0 rfl o (Aa HX).o ?_;simp only[Act.put,List.setIfInBounds_toArray,List.set_cons_zero,List.set_cons_succ];go_wp2_with fail
  refine(Aa H1).mono ?_;rintro e w2 ⟨rfl,h2⟩;have H2:=Ab h2;clear h2;go_wp2;go_returns;exact⟨rfl,Aa H2⟩
theorem FM(w:World)(b:Nat)(t:Tw)(o:EM)(hk:o.kind=11\/o.kind=12)(Q:World->Prop)(H:Hid (∀W1,(w.alloc (.cells #[ptr t.p.x,Av t.x] 109)).alloc (.cells o.cells 72)=W1->Calls Tryz.prog 96 #[ptr b,t.val,o.val] W1 fun e w'=>e=.returned (.bool true)/\Q w')):
  Calls Tryz.prog 54 #[ptr b,t.val,o.val] w fun e w'=>e=.returned (.bool true)/\Q w':=by
 obtain⟨W1,hW1⟩:∃W1,(w.alloc (.cells #[ptr t.p.x,Av t.x] 109)).alloc (.cells o.cells 72)=W1:=⟨_,rfl⟩;have H1:=Ab ((Aa H) W1 hW1);have hx:Bx w.heap.size t o W1:=by
  rw[<-hW1];exact⟨(Fz w t o).2.1,(Fz w t o).2.2⟩
 have lw1:=lt_of_block hx.t;have lw2:=lt_of_block hx.o;have f0:W1.cell? ⟨w.heap.size+1,0,none⟩=some (.int .i64 o.kind):=cell_of hx.o 0 _ rfl;have HX:=Ab hx.bl;have HW1:=Ab hW1;clear hW1 H hx;have k8:(o.kind==8)=false:=by rcases hk with hk|hk<;>rw[hk]<;>rfl
 have k9:(o.kind==9)=false:=by rcases hk with hk|hk<;>rw[hk]<;>rfl
 have k10:(o.kind==10)=false:=by rcases hk with hk|hk<;>rw[hk]<;>rfl
 obtain⟨q11,hq11⟩:∃q11,(o.kind==11)=q11:=⟨_,rfl⟩;obtain⟨q12,hq12⟩:∃q12,(o.kind==12)=q12:=⟨_,rfl⟩;have hq:q11=true\/(q11=false/\q12=true):=by
  rcases hk with hk|hk
  ·exact Or.inl (by rw[<-hq11,hk];rfl)
  ·exact Or.inr ⟨by rw[<-hq11,hk];rfl,by rw[<-hq12,hk];rfl⟩
 clear hk;rcases hq with rfl|⟨rfl,rfl⟩;all_goals
  go_enter Tryz.func54,Tryz.ntmps54
  go_upto_region 1 with fail
  rw[Aa HW1]
  go_upto_region 8 with fail
  refine wp_region_list ?_;refine Fq rfl (.tmp 0) rfl (ptr b) rfl ?_;refine VJ rfl (.tmp 4) rfl w.heap.size 0 rfl t (Aa HX).t ?_;refine M3 rfl (.tmp 5) rfl (w.heap.size+1) 0 rfl o (Aa HX).o ?_;simp only[Act.put,List.setIfInBounds_toArray,List.set_cons_zero,List.set_cons_succ];go_wp2_with fail
  refine(Aa H1).mono ?_;rintro e w2 ⟨rfl,h2⟩;have H2:=Ab h2;clear h2;go_wp2;go_returns;exact⟨rfl,Aa H2⟩
theorem Dc(w:World)(b:Nat)(t:Tw)(o:EM)(hk:14<=o.kind/\o.kind<=19)(Q:World->Prop)(H:Hid (∀W1,(w.alloc (.cells #[ptr t.p.x,Av t.x] 109)).alloc (.cells o.cells 72)=W1->Calls Tryz.prog 102 #[t.val,o.val] W1 fun e w'=>e=.returned (.bool true)/\Q w')):
  Calls Tryz.prog 54 #[ptr b,t.val,o.val] w fun e w'=>e=.returned (.bool true)/\Q w':=by
 obtain⟨W1,hW1⟩:∃W1,(w.alloc (.cells #[ptr t.p.x,Av t.x] 109)).alloc (.cells o.cells 72)=W1:=⟨_,rfl⟩;have H1:=Ab ((Aa H) W1 hW1);have hx:Bx w.heap.size t o W1:=by
  rw[<-hW1];exact⟨(Fz w t o).2.1,(Fz w t o).2.2⟩
 have lw1:=lt_of_block hx.t;have lw2:=lt_of_block hx.o;have f0:W1.cell? ⟨w.heap.size+1,0,none⟩=some (.int .i64 o.kind):=cell_of hx.o 0 _ rfl;have HX:=Ab hx.bl;have HW1:=Ab hW1;have hf:∀n:Int,n<14\/19<n->(o.kind==n)=false:=fun n hn=>by simp;omega
 have k8:=hf 8 (by omega);have k9:=hf 9 (by omega);have k10:=hf 10 (by omega);have k11:=hf 11 (by omega);have k12:=hf 12 (by omega);have k13:=hf 13 (by omega);have k20:=hf 20 (by omega);have k21:=hf 21 (by omega);have k22:=hf 22 (by omega);have k23:=hf 23 (by omega);clear hW1 H hk hf hx;go_enter Tryz.func54,Tryz.ntmps54
 go_upto_region 1 with fail
 rw[Aa HW1]
 go_upto_region 24 with fail
 refine wp_region_list ?_;refine VJ rfl (.tmp 4) rfl w.heap.size 0 rfl t (Aa HX).t ?_;refine M3 rfl (.tmp 5) rfl (w.heap.size+1) 0 rfl o (Aa HX).o ?_;simp only[Act.put,List.setIfInBounds_toArray,List.set_cons_zero,List.set_cons_succ];go_wp2_with fail
 refine(Aa H1).mono ?_;rintro e w2 ⟨rfl,h2⟩;have H2:=Ab h2;clear h2;go_wp2;go_returns;exact⟨rfl,Aa H2⟩
theorem Lu{N:Nat}{t:Tw}{w:World}(h:Ci N t w)(b:Nat)(o:EM)(hk:o.kind=13):
  Calls Tryz.prog 54 #[ptr b,t.val,o.val] w fun e w'=>e=.returned (.bool true)/\Ec N t (R.FK t.G) w w':=by
 obtain⟨W1,hW1,hb1,hx,hT,hoff⟩:=Dp h o;have HW1:=Ab hW1;have H1:Hid (Calls Tryz.prog 15 #[ptr t.p.x] W1 fun e w2=>e=.returned (.tuple #[])/\Mid N t (R.FK t.G) W1 w2):=by
  refine hT.l.tick.mono ?_;rintro e w2 ⟨rfl,hM⟩;obtain⟨F',l,g⟩:=hM;exact⟨rfl,hT.Og l g⟩
 have k8:(o.kind==8)=false:=by rw[hk];rfl
 have k9:(o.kind==9)=false:=by rw[hk];rfl
 have k10:(o.kind==10)=false:=by rw[hk];rfl
 have k11:(o.kind==11)=false:=by rw[hk];rfl
 have k12:(o.kind==12)=false:=by rw[hk];rfl
 have k13:(o.kind==13)=true:=by rw[hk];rfl
 have HX:=Ab hx;have HB1:=Ab hb1;clear h hW1 hk hx hb1;go_enter Tryz.func54,Tryz.ntmps54;go_wp2_with fail
 rw[Aa HW1];refine(Aa H1).mono ?_;rintro e w2 ⟨rfl,hM⟩;have hy:=(Aa HX).stays hM hoff;have l1:=lt_of_block hy.t;have l2:=lt_of_block hy.o;have e1:w2.cell? ⟨w.heap.size,1,none⟩=some (Av t.x):=cell_of hy.t 1 _ rfl;have H2:Hid (Calls Tryz.prog 97 #[Av t.x] w2 fun e w3=>e=.returned (.tuple #[])/\Ec N t (R.FK t.G) w w3):=by
  refine hM.r.tick.mono ?_;rintro e w3 ⟨rfl,h3⟩;exact⟨rfl,Ec.ahead (Aa HB1) (hM.done h3 (Bd.sm hM.was.bd (R.Sm.tick _)))⟩
 clear hM hy H1 hT;go_wp2_with fail
 refine(Aa H2).mono ?_;rintro e w3 ⟨rfl,h3⟩;have H3:=Ab h3;clear h3 e1 H2;go_wp2;go_returns;exact⟨rfl,Aa H3⟩
end Go.Proofs.YtblomippkddgiaaGreatDoor
