import Derived.Test.YtblomippkddgiaaGreatDoorK35
import Derived.Laws.StructEq
set_option maxRecDepth 100000
set_option maxHeartbeats 4000000
namespace Go.Proofs.YtblomippkddgiaaGreatDoor
open Go.RowKit
theorem Vw(w:World)(s ci ni:Nat)(c1 c3 c4:Int)(h3:ci<3)(h3':ni<3)(h10:w.cell? ⟨s,10+ci*3+ni,none⟩=some (.pointer none)):
  Calls Tryz.prog 82 #[ptr s,.agg #[.int .i64 (ci:Int),.int .i64 c1,.int .i64 (ni:Int),.int .i64 c3,.int .i64 c4]] w fun e w'=>e=.returned (.bool false)/\Below w.heap.size w w':=by
 have HB:Hid (∀o n,Below w.heap.size w ((w.alloc o).drewN n)):=fun o n=>below_drewN ((Below.refl _ _).alloc (Nat.le_refl _) _) n
 have hl:=lt_of_cell h10;have q1:(0:Int)<=(ci:Int):=by omega
 have q2:(ci:Int)<3:=by omega
 have q3:(0:Int)<=(ni:Int):=by omega
 have q4:(ni:Int)<3:=by omega
 go_enter Tryz.func82,Tryz.ntmps82;go_wp2_with fail
 go_quiet (fail);go_wp2_with fail
 go_quiet (fail);go_wp2;go_returns;exact⟨rfl,below_drewN ((Aa HB) _ _) _⟩
theorem SK(w:World)(s q ci ni:Nat)(c1 c3 c4 y1 y3 y4 st:Int)(h3:ci<3)(h3':ni<3)(h10:w.cell? ⟨s,10+ci*3+ni,none⟩=some (ptr q))(d0:w.cell? ⟨q,0,none⟩=some (.int .i64 (ci:Int)))(d1:w.cell? ⟨q,1,none⟩=some (.int .i64 y1))(d2:w.cell? ⟨q,2,none⟩=some (.int .i64 (ni:Int)))(d3:w.cell? ⟨q,3,none⟩=some (.int .i64 y3))(d4:w.cell? ⟨q,4,none⟩=some (.int .i64 y4))(d5:w.cell? ⟨q,5,none⟩=some (.int .i64 st)):
  Calls Tryz.prog 82 #[ptr s,.agg #[.int .i64 (ci:Int),.int .i64 c1,.int .i64 (ni:Int),.int .i64 c3,.int .i64 c4]] w fun e w'=>e=.returned (.bool (decide (y1=c1/\y3=c3/\y4=c4/\st=1)))/\Below w.heap.size w w':=by
 have HB:Hid (∀o n,Below w.heap.size w ((w.alloc o).drewN n)):=fun o n=>below_drewN ((Below.refl _ _).alloc (Nat.le_refl _) _) n
 have hl:=lt_of_cell h10;have hlq:=lt_of_cell d0;have q1:(0:Int)<=(ci:Int):=by omega
 have q2:(ci:Int)<3:=by omega
 have q3:(0:Int)<=(ni:Int):=by omega
 have q4:(ni:Int)<3:=by omega
 by_cases h1:y1=c1
 ·have e1:(y1==c1)=true:=by simpa using h1
  by_cases h2:y3=c3
  ·have e2:(y3==c3)=true:=by simpa using h2
   by_cases h4:y4=c4
   ·have e4:(y4==c4)=true:=by simpa using h4
    by_cases h5:st=1
    ·have e5:(st==1)=true:=by simpa using h5
     rw[show decide (y1=c1/\y3=c3/\y4=c4/\st=1)=true by simp[h1,h2,h4,h5]];clear h1 h2 h4 h5;go_enter Tryz.func82,Tryz.ntmps82;go_wp2_with fail
     go_quiet (fail);go_wp2_with fail
     go_quiet (fail);go_wp2;go_returns;exact⟨rfl,below_drewN ((Aa HB) _ _) _⟩
    ·have e5:(st==1)=false:=by simpa using h5
     rw[show decide (y1=c1/\y3=c3/\y4=c4/\st=1)=false by simp[h5]];clear h1 h2 h4 h5;go_enter Tryz.func82,Tryz.ntmps82;go_wp2_with fail
     go_quiet (fail);go_wp2_with fail
     go_quiet (fail);go_wp2;go_returns;exact⟨rfl,below_drewN ((Aa HB) _ _) _⟩
   ·have e4:(y4==c4)=false:=by simpa using h4
    rw[show decide (y1=c1/\y3=c3/\y4=c4/\st=1)=false by simp[h4]];clear h1 h2 h4;go_enter Tryz.func82,Tryz.ntmps82;go_wp2_with fail
    go_quiet (fail);go_wp2_with fail
    go_quiet (fail);go_wp2;go_returns;exact⟨rfl,below_drewN ((Aa HB) _ _) _⟩
  ·have e2:(y3==c3)=false:=by simpa using h2
   rw[show decide (y1=c1/\y3=c3/\y4=c4/\st=1)=false by simp[h2]];clear h1 h2;go_enter Tryz.func82,Tryz.ntmps82;go_wp2_with fail
   go_quiet (fail);go_wp2_with fail
   go_quiet (fail);go_wp2;go_returns;exact⟨rfl,below_drewN ((Aa HB) _ _) _⟩
 ·have e1:(y1==c1)=false:=by simpa using h1
  rw[show decide (y1=c1/\y3=c3/\y4=c4/\st=1)=false by simp[h1]];clear h1;go_enter Tryz.func82,Tryz.ntmps82;go_wp2_with fail
  go_quiet (fail);go_wp2_with fail
  go_quiet (fail);go_wp2;go_returns;exact⟨rfl,below_drewN ((Aa HB) _ _) _⟩
theorem abK:∀args w,(callFunc 83 args).run Tryz.prog w=.ok (.enter 83 args) w:=fun _ _=>rfl
def Zj(j:R.Jb):Obj:=.cells #[.int .i64 j.client,.int .i64 j.Ag,.int .i64 j.line,.int .i64 j.seq,.int .i64 j.uid] 145
theorem Sg(w0:World)(s:Nat)(A:List R.Jb->World->Prop)(B C:R.Jb->List R.Jb->World->Prop)(P0 P1:World->Prop)(mu:World->Nat)(js0:List R.Jb)(hA:A js0 w0)
  (HM:Hid (∀js w,A js w->mu w=js.length))
  (HT0:Hid (∀w,A [] w->Calls Tryz.prog 81 #[ptr s] w fun e w'=>e=.returned (.tuple #[.agg #[.int .i64 0,.int .i64 0,.int .i64 0,.int .i64 0,.int .i64 0],.bool false])/\∀wa,Below w'.heap.size w' wa->P0 wa))
  (HT1:Hid (∀j js w,A (j :: js) w->Calls Tryz.prog 81 #[ptr s] w fun e w'=>e=.returned (.tuple #[.agg #[.int .i64 j.client,.int .i64 j.Ag,.int .i64 j.line,.int .i64 j.seq,.int .i64 j.uid],.bool true])/\∀wa,Below w'.heap.size w' wa->B j js wa))
  (HW:Hid (∀j js w,B j js w->Calls Tryz.prog 82 #[ptr s,.agg #[.int .i64 j.client,.int .i64 j.Ag,.int .i64 j.line,.int .i64 j.seq,.int .i64 j.uid]] w fun e w'=>Below w.heap.size w w'/\((e=.returned (.bool false)/\A js w')\/(e=.returned (.bool true)/\C j js w'))))
  (HC:Hid (∀j js w,C j js w->∃ci ni q:Nat,j.client=(ci:Int)/\j.line=(ni:Int)/\ci<3/\ni<3/\w.cell? ⟨s,10+ci*3+ni,none⟩=some (ptr q)/\Calls Tryz.prog 83 #[ptr s,ptr q] w.drew fun e w'=>e=.returned (.tuple #[])/\P1 w')):
  Calls Tryz.prog 48 #[ptr s] w0 fun e w'=>(e=.returned (.int .i64 19)/\P0 w')\/(e=.returned (.int .i64 0)/\P1 w'):=by
 have HA:=Ab hA;clear hA;go_enter Tryz.func48,Tryz.ntmps48;go_wp2_with fail
 refine wp_scope_jumps 0 (fun a w=>∃(js:List R.Jb) (u1 u3 u4 u5 u6 u7 u8 u9 u10 u11 u12 u13 u14 u15 u16 u17 u18 u19 u20 u21 u22 u23 u24 u25 u26 u27 u28:Value),a={tmps:=#[ptr s,u1,.int .i64 0,u3,u4,u5,u6,u7,u8,u9,u10,u11,u12,u13,u14,u15,u16,u17,u18,u19,u20,u21,u22,u23,u24,u25,u26,u27,u28],defers:=[]}/\A js w) (fun _ w=>mu w) rfl ?first ?pass
 case pass=>
  rintro a w ⟨js,u1,u3,u4,u5,u6,u7,u8,u9,u10,u11,u12,u13,u14,u15,u16,u17,u18,u19,u20,u21,u22,u23,u24,u25,u26,u27,u28,rfl,hA⟩;have hmu:=(Aa HM) js w hA;clear HA;cases js with
  |nil=>
   have HQ:=Ab ((Aa HT0) w hA);clear hA;go_wp2_with (first|(go_at_call 81;refine(Aa HQ).mono ?_;rintro e w1 ⟨rfl,hw1⟩;have HP:=Ab hw1;clear hw1))
   refine Js ?_;go_wp2;go_returns;exact Or.inl ⟨rfl,(Aa HP) _ ((Below.refl _ _).alloc (Nat.le_refl _) _)⟩
  |cons j js=>
   have HQ:=Ab ((Aa HT1) j js w hA);clear hA;go_wp2_with (first|(go_at_call 81;refine(Aa HQ).mono ?_;rintro e w1 ⟨rfl,hw1⟩;have HP:=Ab ((Aa HW) j js _ (hw1 _ ((Below.refl _ _).alloc (Nat.le_refl _) (Zj j))));clear hw1))
   refine(Aa HP).mono ?_;rintro e w2 ⟨hb2,⟨rfl,hA2⟩|⟨rfl,hC2⟩⟩
   ·have HA2:=Ab hA2;have hmu2:=(Aa HM) js w2 hA2;clear hA2 hb2;go_wp2
    go_step3
    exact⟨rfl,⟨js,_,_,_,_,_,_,_,_,_,_,_,_,_,_,_,_,_,_,_,_,_,_,_,_,_,_,_,rfl,Aa HA2⟩,by rw[hmu2,hmu];simp⟩
   ·obtain⟨ci,ni,q,hci,hni,h3,h3',hcell,hcall⟩:=(Aa HC) j js w2 hC2;have hbox:w2.heap[w1.heap.size]?=some (Zj j):=by
     rw[hb2.block _ (by simp)];exact heap_alloc_new w1 _
    have g0:w2.cell? ⟨w1.heap.size,0,none⟩=some (.int .i64 (ci:Int)):=by rw[<-hci];exact cell_of hbox 0 _ rfl
    have g2:w2.cell? ⟨w1.heap.size,2,none⟩=some (.int .i64 (ni:Int)):=by rw[<-hni];exact cell_of hbox 2 _ rfl
    have HD:=Ab hcall;have q1:(0:Int)<=(ci:Int):=by omega
    have q2:(ci:Int)<3:=by omega
    have q3:(0:Int)<=(ni:Int):=by omega
    have q4:(ni:Int)<3:=by omega
    clear hcall hC2 hb2 hbox hci hni;go_wp2_with fail
    go_region_law (refine AR rfl 83 #[.tmp 16,.tmp 27] #[81,143] rfl abK #[ptr s,ptr q] rfl _ (Aa HD) ?_;rintro e w3 ⟨rfl,hw3⟩;refine⟨_,rfl,?_⟩)
    all_goals
     go_wp2;refine Js ?_;go_wp2;go_returns;exact Or.inr ⟨rfl,hw3⟩
 case first=>
  have hA:=Aa HA;clear HA;generalize w0=w at hA ⊢;generalize js0=js at hA;go_wp2_with fail
  go_step3
  cases js with
  |nil=>
   have HQ:=Ab ((Aa HT0) w hA);clear hA;go_wp2_with (first|(go_at_call 81;refine(Aa HQ).mono ?_;rintro e w1 ⟨rfl,hw1⟩;have HP:=Ab hw1;clear hw1))
   refine Js ?_;go_wp2;go_returns;exact Or.inl ⟨rfl,(Aa HP) _ ((Below.refl _ _).alloc (Nat.le_refl _) _)⟩
  |cons j js=>
   have HQ:=Ab ((Aa HT1) j js w hA);clear hA;go_wp2_with (first|(go_at_call 81;refine(Aa HQ).mono ?_;rintro e w1 ⟨rfl,hw1⟩;have HP:=Ab ((Aa HW) j js _ (hw1 _ ((Below.refl _ _).alloc (Nat.le_refl _) (Zj j))));clear hw1))
   refine(Aa HP).mono ?_;rintro e w2 ⟨hb2,⟨rfl,hA2⟩|⟨rfl,hC2⟩⟩
   ·have HA2:=Ab hA2;have hmu2:=(Aa HM) js w2 hA2;clear hA2 hb2;go_wp2
    go_step3
    exact⟨rfl,⟨js,_,_,_,_,_,_,_,_,_,_,_,_,_,_,_,_,_,_,_,_,_,_,_,_,_,_,_,rfl,Aa HA2⟩⟩
   ·obtain⟨ci,ni,q,hci,hni,h3,h3',hcell,hcall⟩:=(Aa HC) j js w2 hC2;have hbox:w2.heap[w1.heap.size]?=some (Zj j):=by
     rw[hb2.block _ (by simp)];exact heap_alloc_new w1 _
    have g0:w2.cell? ⟨w1.heap.size,0,none⟩=some (.int .i64 (ci:Int)):=by rw[<-hci];exact cell_of hbox 0 _ rfl
    have g2:w2.cell? ⟨w1.heap.size,2,none⟩=some (.int .i64 (ni:Int)):=by rw[<-hni];exact cell_of hbox 2 _ rfl
    have HD:=Ab hcall;have q1:(0:Int)<=(ci:Int):=by omega
    have q2:(ci:Int)<3:=by omega
    have q3:(0:Int)<=(ni:Int):=by omega
    have q4:(ni:Int)<3:=by omega
    clear hcall hC2 hb2 hbox hci hni;go_wp2_with fail
    go_region_law (refine AR rfl 83 #[.tmp 16,.tmp 27] #[81,143] rfl abK #[ptr s,ptr q] rfl _ (Aa HD) ?_;rintro e w3 ⟨rfl,hw3⟩;refine⟨_,rfl,?_⟩)
    all_goals
     go_wp2;refine Js ?_;go_wp2;go_returns;exact Or.inr ⟨rfl,hw3⟩
structure Did(w:World)(F:Aq)(log:List R.En)(en:R.En)(b:Nat)(K:Value)(kind:Int)(W:Value)(O:Value)(out:List R.It)(w':World):Prop where
 row:V.Row w' w.heap.size O out
 keep:Af (fun k=>k=b\/K.ownBlock=some k) w w'
 works:∃K',Works w' (fun k=>F k\/(w.heap.size<=k/\k<w'.heap.size)) (log++[en]) b K' kind W/\(K'.ownBlock=K.ownBlock\/∃j,K'.ownBlock=some j/\w.heap.size<=j)
theorem NE(l:List R.En)(e:R.En):∀n,R.Bq (l++[e]) n=(if e.proc=0 then (R.Bq l n+R.Iv e.arg 0+65536) % 65536 else if R.Iv e.arg 0=1 then 0 else R.Bq l n):=by
 induction l with
 |nil=>intro n;rfl
 |cons a l ih=>intro n;exact ih _
theorem VY(w:World)(b:Nat)(N n:Int)(h:w.heap[b]?=some (.cells #[.int .u16 N] 330 (0,0))):
  Calls Tryz.prog 288 #[ptr b,.int .i64 n] w fun e w'=>e=.returned (.slice (some ⟨w.heap.size,0,none⟩) 1 1)/\w'=(w.setCell ⟨b,0,none⟩ (.int .u16 ((N+n+65536) % 65536))).alloc (.cells #[.int .i64 ((N+n+65536) % 65536),.string ⟨#[]⟩] 106):=by
 have c0:w.cell? ⟨b,0,none⟩=some (.int .u16 N):=cell_of h 0 _ rfl;have z0:w.frozen? ⟨b,0,none⟩=false:=open_list h;have hl:=lt_of_block h;have e1:IntKind.u16.wrap (N+IntKind.u16.wrap n)=(N+n+65536) % 65536:=by rw[wrap_u16,wrap_u16];omega
 have e2:wrap64 ((N+n+65536) % 65536)=(N+n+65536) % 65536:=by unfold wrap64;omega
 go_enter Tryz.func288,Tryz.ntmps288;go_wp2;go_returns;have e3:(N+n+65536) % 65536=(N+n) % 65536:=by omega
 rw[e3];exact⟨rfl,rfl⟩
theorem Uh(w:World)(b:Nat)(N:Int)(z:Bool)(h:w.heap[b]?=some (.cells #[.int .u16 N] 330 (0,0)))(hN:0<=N/\N<=65535):
  Calls Tryz.prog 289 #[ptr b,.bool z] w fun e w'=>e=.returned (.slice (some ⟨w.heap.size,0,none⟩) 1 1)/\w'=(if z=true then (w.setCell ⟨b,0,none⟩ (.int .u16 0)) else w).alloc (.cells #[.int .i64 N,.string ⟨#[]⟩] 106):=by
 have c0:w.cell? ⟨b,0,none⟩=some (.int .u16 N):=cell_of h 0 _ rfl;have z0:w.frozen? ⟨b,0,none⟩=false:=open_list h;have hl:=lt_of_block h;have e2:wrap64 N=N:=by unfold wrap64;omega
 cases z with
 |true=>
  rw[if_pos rfl];go_enter Tryz.func289,Tryz.ntmps289;go_wp2;go_returns;exact⟨rfl,rfl⟩
 |false=>
  rw[if_neg (by simp)];go_enter Tryz.func289,Tryz.ntmps289;go_wp2;go_returns;exact⟨rfl,rfl⟩
theorem row_one(w U:World)(hV:U.heap.size=w.heap.size)(n:Int)(s:ByteArray):V.Row (U.alloc (.cells #[.int .i64 n,.string s] 106)) w.heap.size (.slice (some ⟨w.heap.size,0,none⟩) 1 1) [(n,s)]:=by
 refine⟨rfl,Or.inr ⟨w.heap.size,1,#[.int .i64 n,.string s],rfl,Nat.le_refl _,?_,Nat.le_refl _,by decide,rfl,rfl⟩⟩;have:=heap_alloc_new U (.cells #[.int .i64 n,.string s] 106);rw[hV]at this;exact this
theorem K8(w:World)(F:Aq)(log:List R.En)(en:R.En)(b:Nat)(K W:Value)(h:Works w F log b K 0 W)(hbF:b<w.heap.size){X:Value}(hX:V.Items w X en.arg)(ha:∃x,en.arg=[x])(hp:en.proc=0\/en.proc=1)(hN:0<=R.Bq log 0/\R.Bq log 0<=65535):
  Calls Tryz.prog 287 #[ptr b,.int .i64 en.proc,X] w fun e w'=>∃O,e=.returned O/\Did w F log en b K 0 W O (R.Cs 0 log en.proc en.arg) w':=by
 obtain⟨x,hx⟩:=ha;rw[hx]at hX;obtain⟨a,cap,rfl,hcap,hc⟩:=hX;rcases hc with h0|⟨bb,off,rfl,hlt,hc⟩
 ·simp at h0
 obtain⟨c0,_⟩:=hc 0 x rfl;simp only[Nat.zero_mul,Nat.add_zero]at c0;have q1:(0:Int)<((1:Nat):Int):=by omega
 generalize hk0:(0:Int)=kd at h;cases h with
 |Fh=>cases hk0
 |IP=>cases hk0
 |counter hF hb hK=>
  have hne:b≠w.heap.size:=by omega
  have fin:∀(U:World) (M:Int),(U=w\/U=w.setCell ⟨b,0,none⟩ (.int .u16 M))->U.heap[b]?=some (.cells #[.int .u16 M] 330 (0,0))->M=R.Bq (log++[en]) 0->∀(n:Int),R.Cs 0 log en.proc en.arg=[(n,⟨#[]⟩)]->Did w F log en b K 0 (.iface 328 (ptr b)) (.slice (some ⟨w.heap.size,0,none⟩) 1 1) (R.Cs 0 log en.proc en.arg) (U.alloc (.cells #[.int .i64 n,.string ⟨#[]⟩] 106)):=fun U M hV hVb hM n hd=>by
   have hsz:U.heap.size=w.heap.size:=by
    rcases hV with rfl|rfl
    ·rfl
    ·simp
   have hkp:Af (fun k=>k=b\/K.ownBlock=some k) w U:=by
    rcases hV with rfl|rfl
    ·exact Af.refl _ _
    ·exact(Am _).mono (fun k _ e=>Or.inl e)
   rw[hd];refine⟨row_one w U hsz n _,hkp.alloc _,K,?_,Or.inl rfl⟩;have:(U.alloc (.cells #[.int .i64 n,.string ⟨#[]⟩] 106)).heap[b]?=some (.cells #[.int .u16 M] 330 (0,0)):=(Below.heap_alloc _ _ _ (by omega)).trans hVb;refine .counter (Or.inl hF) ?_ hK;rw[<-hM];exact this
  have hcn:=NE log en 0;have hargN:R.Iv en.arg 0=x.1:=by rw[hx];rfl
  rw[hargN]at hcn;rcases hp with hp|hp
  ·have e1:(en.proc==0)=true:=by simpa using hp
   have HC:=Ab (fun w1 (hw1:w1=w)=>by
    have:=VY w b (R.Bq log 0) x.1 hb;rw[<-hw1]at this;exact this)
   have HF:Hid (Did w F log en b K 0 (.iface 328 (ptr b)) (.slice (some ⟨w.heap.size,0,none⟩) 1 1) (R.Cs 0 log en.proc en.arg) ((w.setCell ⟨b,0,none⟩ (.int .u16 ((R.Bq log 0+x.1+65536) % 65536))).alloc (.cells #[.int .i64 ((R.Bq log 0+x.1+65536) % 65536),.string ⟨#[]⟩] 106))):=fin _ _ (Or.inr rfl) (Ak (cs:=[.int .u16 (R.Bq log 0)]) (off:=0) hb _) (by rw[hcn,if_pos hp]) _ (by unfold R.Cs;rw[if_pos rfl,if_pos hp,hargN];rfl);clear fin hb hcn hp hN;go_enter Tryz.func287,Tryz.ntmps287;go_wp2_with (first|(go_at_call 288;refine((Aa HC) _ rfl).mono ?_;rintro e w1 ⟨rfl,hw1⟩;have HW:=Ab hw1;clear hw1))
   go_returns;rw[Aa HW];exact⟨_,rfl,Aa HF⟩
  ·have e1:(en.proc==0)=false:=by simp[hp]
   have HF:Hid (Did w F log en b K 0 (.iface 328 (ptr b)) (.slice (some ⟨w.heap.size,0,none⟩) 1 1) (R.Cs 0 log en.proc en.arg) ((if (x.1==1)=true then (w.setCell ⟨b,0,none⟩ (.int .u16 0)) else w).alloc (.cells #[.int .i64 (R.Bq log 0),.string ⟨#[]⟩] 106))):=by
    have hd:R.Cs 0 log en.proc en.arg=[(R.Bq log 0,⟨#[]⟩)]:=by unfold R.Cs;rw[if_pos rfl,if_neg (by omega)];rfl
    by_cases h1:x.1=1
    ·rw[if_pos (by simpa using h1)];exact fin _ 0 (Or.inr rfl) (Ak (cs:=[.int .u16 (R.Bq log 0)]) (off:=0) hb _) (by rw[hcn,if_neg (by omega),if_pos h1]) _ hd
    ·rw[if_neg (by simpa using h1)];exact fin _ _ (Or.inl rfl) hb (by rw[hcn,if_neg (by omega),if_neg h1]) _ hd
   have HC:=Ab (Uh w b (R.Bq log 0) (x.1==1) hb hN);clear fin hb hcn hp hN;go_enter Tryz.func287,Tryz.ntmps287;go_wp2_with (first|(go_at_call 289;refine(Aa HC).mono ?_;rintro e w1 ⟨rfl,hw1⟩;have HW:=Ab hw1;clear hw1))
   go_returns;rw[Aa HW];exact⟨_,rfl,Aa HF⟩
theorem Mw(w:World)(cb lb nl k:Nat)(st:Int)(P:Pk)(Post:World->Prop)(hk:k<nl)(hP:P.line=(k:Int))(b3:w.cell? ⟨cb,3,none⟩=some (.slice (some ⟨lb,0,none⟩) nl nl))(hst:(P.part=0/\st=4)\/(¬P.part=0/\st=5))
  (HQ:Hid (∀wa,Below w.heap.size w wa->Calls Tryz.prog 121 #[.pointer (some ⟨lb,k*10,none⟩),.int .i64 st] wa fun e w'=>e=.returned (.tuple #[])/\Post w')):
  Calls Tryz.prog 143 #[ptr cb,pv P] w fun e w'=>e=.returned (.tuple #[])/\Post w':=by
 obtain⟨kd,cl,li,ln,sq',u,pa,o,pl,body⟩:=P;dsimp only[pv]at *;subst hP;have hl1:=lt_of_cell b3;have q1:(0:Int)<=(k:Int):=by omega
 have q2:(k:Int)<(nl:Int):=by omega
 have HB:Hid (∀o,Below w.heap.size w (w.alloc o)):=fun o=>(Below.refl _ _).alloc (Nat.le_refl _) _
 generalize str body=SB at *;rcases hst with ⟨h1,rfl⟩|⟨h1,rfl⟩
 ·have e1:(pa==0)=true:=by simpa using h1
  clear h1;go_enter Tryz.func143,Tryz.ntmps143;go_wp2_with fail
  go_quiet (fail);go_wp2_with (first|(go_at_call 121;refine((Aa HQ) _ (below_drewN ((Aa HB) _) _)).mono ?_;rintro e w3 ⟨rfl,hw3⟩))
  go_returns;exact⟨rfl,hw3⟩
 ·have e1:(pa==0)=false:=by simpa using h1
  clear h1;go_enter Tryz.func143,Tryz.ntmps143;go_wp2_with fail
  go_quiet (fail);go_wp2_with (first|(go_at_call 121;refine((Aa HQ) _ (below_drewN ((Aa HB) _) _)).mono ?_;rintro e w3 ⟨rfl,hw3⟩))
  go_returns;exact⟨rfl,hw3⟩
theorem R5(w:World)(cb lb nl k:Nat)(n m ac:Int)(P:Pk)(S C:ByteArray)(Post:World->Prop)(hk:k<nl)(hP:P.line=(k:Int))(b3:w.cell? ⟨cb,3,none⟩=some (.slice (some ⟨lb,0,none⟩) nl nl))(a5:w.cell? ⟨lb,k*10+5,none⟩=some (.string S))(a6:w.cell? ⟨lb,k*10+6,none⟩=some (.int .i64 ac))(a7:w.cell? ⟨lb,k*10+7,none⟩=some (.string C))(hn:1<=n/\n<=100)
  (H1:Hid (∀w,Calls Tryz.prog 187 #[.string S] w fun e w'=>e=.returned (.int .i64 n)/\w'=w))
  (H2:Hid (∀w,Calls Tryz.prog 187 #[.string C] w fun e w'=>e=.returned (.int .i64 m)/\w'=w))
  (hold:ac<n-1\/¬P.part=m)
  (HN:Hid (ac<n-1\/m<P.part->∀wa,Below w.heap.size w wa->Post wa))
  (HG:Hid (¬(ac<n-1)->P.part<m->∀wa,Below w.heap.size w wa->Calls Tryz.prog 201 #[ptr cb,pv P] wa fun e w'=>e=.returned (.tuple #[])/\Post w')):
  Calls Tryz.prog 142 #[ptr cb,pv P] w fun e w'=>e=.returned (.tuple #[])/\Post w':=by
 obtain⟨kd,cl,li,ln,sq',u,pa,o,pl,body⟩:=P;dsimp only[pv]at *;subst hP;have hl1:=lt_of_cell b3;have hl2:=lt_of_cell a6;have q1:(0:Int)<=(k:Int):=by omega
 have q2:(k:Int)<(nl:Int):=by omega
 have ew:IntKind.i64.wrap (n-1)=n-1:=by rw[IntKind.wrap_i64];omega
 have HB:Hid (∀o,Below w.heap.size w (w.alloc o)):=fun o=>(Below.refl _ _).alloc (Nat.le_refl _) _
 generalize str body=SB at *;have HF:Hid (∀m,Boxed w w (.cells #[.int .i64 kd,.int .i64 cl,.int .i64 li,.int .i64 (k:Int),.int .i64 sq',.int .i64 u,.int .i64 pa,.int .i64 o,.bool pl,.string SB] 41) ((w.alloc (.cells #[.int .i64 kd,.int .i64 cl,.int .i64 li,.int .i64 (k:Int),.int .i64 sq',.int .i64 u,.int .i64 pa,.int .i64 o,.bool pl,.string SB] 41)).drewN m)):=fun m=>⟨below_drewN ((Aa HB) _) m,heap_alloc_new w _⟩
 have HC:Hid (∀W,Boxed w w (.cells #[.int .i64 kd,.int .i64 cl,.int .i64 li,.int .i64 (k:Int),.int .i64 sq',.int .i64 u,.int .i64 pa,.int .i64 o,.bool pl,.string SB] 41) W->W.cell? ⟨lb,k*10+5,none⟩=some (.string S)/\W.cell? ⟨lb,k*10+6,none⟩=some (.int .i64 ac)/\W.cell? ⟨lb,k*10+7,none⟩=some (.string C)):=fun W hW=>⟨(hW.1.cell (p:=⟨lb,k*10+5,none⟩) hl2).trans a5,(hW.1.cell (p:=⟨lb,k*10+6,none⟩) hl2).trans a6,(hW.1.cell (p:=⟨lb,k*10+7,none⟩) hl2).trans a7⟩
 have HD:Hid (∀W,Boxed w w (.cells #[.int .i64 kd,.int .i64 cl,.int .i64 li,.int .i64 (k:Int),.int .i64 sq',.int .i64 u,.int .i64 pa,.int .i64 o,.bool pl,.string SB] 41) W->(W.cell? ⟨w.heap.size,0,none⟩=some (.int .i64 kd)/\W.cell? ⟨w.heap.size,1,none⟩=some (.int .i64 cl)/\W.cell? ⟨w.heap.size,2,none⟩=some (.int .i64 li)/\W.cell? ⟨w.heap.size,3,none⟩=some (.int .i64 (k:Int))/\W.cell? ⟨w.heap.size,4,none⟩=some (.int .i64 sq'))/\W.cell? ⟨w.heap.size,5,none⟩=some (.int .i64 u)/\W.cell? ⟨w.heap.size,6,none⟩=some (.int .i64 pa)/\W.cell? ⟨w.heap.size,7,none⟩=some (.int .i64 o)/\W.cell? ⟨w.heap.size,8,none⟩=some (.bool pl)/\W.cell? ⟨w.heap.size,9,none⟩=some (.string SB)):=fun W hW=>⟨⟨cell_of hW.2 0 _ rfl,cell_of hW.2 1 _ rfl,cell_of hW.2 2 _ rfl,cell_of hW.2 3 _ rfl,cell_of hW.2 4 _ rfl⟩,cell_of hW.2 5 _ rfl,cell_of hW.2 6 _ rfl,cell_of hW.2 7 _ rfl,cell_of hW.2 8 _ rfl,cell_of hW.2 9 _ rfl⟩
 by_cases h1:ac<n-1
 ·have HQ:=Ab ((Aa HN) (Or.inl h1));have e1:decide (ac<n-1)=true:=by simpa using h1
  clear HN HG hold;go_enter Tryz.func142,Tryz.ntmps142;go_wp2_with fail
  go_quiet (fail);go_wp2_with fail
  refine AL _ ((Aa HF) _) ?_;intro W hW;obtain⟨d5,d6,d7⟩:=(Aa HC) W hW;have hd:=(Aa HD) W hW;obtain⟨⟨f0,f1,f2,f3,f4⟩,f5,f6,f7,f8,f9⟩:=hd;have HB1:=Ab hW.1.drew;clear hW HF HC HD;go_region_held3 (fun w'=>w'.cell? ⟨lb,k*10+5,none⟩=some (.string S)/\w'.cell? ⟨lb,k*10+7,none⟩=some (.string C)) (go_keep) (first|(go_at_call 187;refine((Aa H1) _).mono ?_;rintro e w1 ⟨rfl,hw1⟩;rw[hw1];clear hw1)|(go_at_call 187;refine((Aa H2) _).mono ?_;rintro e w1 ⟨rfl,hw1⟩;rw[hw1];clear hw1))
  go_wp2;go_returns;exact⟨rfl,(Aa HQ) _ (Aa HB1)⟩
 ·have e1:decide (ac<n-1)=false:=by simpa using h1
  by_cases h2:m<pa
  ·have HQ:=Ab ((Aa HN) (Or.inr h2));have e2:decide (m<pa)=true:=by simpa using h2
   clear HN HG hold;go_enter Tryz.func142,Tryz.ntmps142;go_wp2_with fail
   go_quiet (fail);go_wp2_with fail
   refine AL _ ((Aa HF) _) ?_;intro W hW;obtain⟨d5,d6,d7⟩:=(Aa HC) W hW;have hd:=(Aa HD) W hW;obtain⟨⟨f0,f1,f2,f3,f4⟩,f5,f6,f7,f8,f9⟩:=hd;have HB1:=Ab hW.1.drew;clear hW HF HC HD;go_region_held3 (fun w'=>w'.cell? ⟨lb,k*10+5,none⟩=some (.string S)/\w'.cell? ⟨lb,k*10+7,none⟩=some (.string C)) (go_keep) (first|(go_at_call 187;refine((Aa H1) _).mono ?_;rintro e w1 ⟨rfl,hw1⟩;rw[hw1];clear hw1)|(go_at_call 187;refine((Aa H2) _).mono ?_;rintro e w1 ⟨rfl,hw1⟩;rw[hw1];clear hw1))
   go_wp2;go_returns;exact⟨rfl,(Aa HQ) _ (Aa HB1)⟩
  ·have h3:pa<m:=by omega
   have HQ:=Ab ((Aa HG) h1 h3);have e2:decide (m<pa)=false:=by simpa using h2
   clear HN HG hold;go_enter Tryz.func142,Tryz.ntmps142;go_wp2_with fail
   go_quiet (fail);go_wp2_with fail
   refine AL _ ((Aa HF) _) ?_;intro W hW;obtain⟨d5,d6,d7⟩:=(Aa HC) W hW;have hd:=(Aa HD) W hW;obtain⟨⟨f0,f1,f2,f3,f4⟩,f5,f6,f7,f8,f9⟩:=hd;have HB1:=Ab hW.1.drew;clear hW HF HC HD;go_region_held3 (fun w'=>w'.cell? ⟨lb,k*10+5,none⟩=some (.string S)/\w'.cell? ⟨lb,k*10+7,none⟩=some (.string C)) (go_keep) (first|(go_at_call 187;refine((Aa H1) _).mono ?_;rintro e w1 ⟨rfl,hw1⟩;rw[hw1];clear hw1)|(go_at_call 187;refine((Aa H2) _).mono ?_;rintro e w1 ⟨rfl,hw1⟩;rw[hw1];clear hw1))
   go_wp2_with (first|(go_at_call 201;refine((Aa HQ) _ (Aa HB1)).mono ?_;rintro e w3 ⟨rfl,hw3⟩))
   go_returns;exact⟨rfl,hw3⟩
end Go.Proofs.YtblomippkddgiaaGreatDoor
