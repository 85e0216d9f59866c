import Derived.Test.YtblomippkddgiaaGreatDoorJ31
set_option maxRecDepth 100000
set_option maxHeartbeats 4000000
namespace Go.Proofs.YtblomippkddgiaaGreatDoor
open Go.RowKit
theorem K9(w:World)(x:Nat)(a:Option Addr)(n cap:Nat)(cl li uid pr:Int)(V:Value)(x9:w.cell? ⟨x,9,none⟩=some (.slice a n cap))(h:cl<0\/(n:Int)<=cl):Calls Tryz.prog 163 #[Av x,.int .i64 cl,.int .i64 li,.int .i64 uid,.int .i64 pr,V] w fun e w'=>e=.returned (.tuple #[.int .i64 0,.int .i64 13])/\w'=w:=by
 have hx:=lt_of_cell x9;by_cases h0:cl<0
 ·go_enter Tryz.func163,Tryz.ntmps163;go_wp2;go_returns;exact⟨rfl,rfl⟩
 ·have h1:(n:Int)<=cl:=by omega
  go_enter Tryz.func163,Tryz.ntmps163;go_wp2;go_returns;exact⟨rfl,rfl⟩
theorem OA(w:World)(x:Nat)(a:Option Addr)(n cap:Nat)(cl li uid pr ln:Int)(V:Value)(x1:w.cell? ⟨x,1,none⟩=some (.int .i64 ln))(x9:w.cell? ⟨x,9,none⟩=some (.slice a n cap))(h0:¬cl<0)(h1:¬(n:Int)<=cl)(h:li<0\/ln<=li):Calls Tryz.prog 163 #[Av x,.int .i64 cl,.int .i64 li,.int .i64 uid,.int .i64 pr,V] w fun e w'=>e=.returned (.tuple #[.int .i64 0,.int .i64 14])/\w'=w:=by
 have hx:=lt_of_cell x9;by_cases h2:li<0
 ·go_enter Tryz.func163,Tryz.ntmps163;go_wp2;go_returns;exact⟨rfl,rfl⟩
 ·have h3:ln<=li:=by omega
  go_enter Tryz.func163,Tryz.ntmps163;go_wp2;go_returns;exact⟨rfl,rfl⟩
theorem DY{l:List Int}{j:Nat}{y u:Int}(hy:l[j]?=some y):decide (u∈l.take (j+1))=(decide (u∈l.take j) || (y==u)):=by
 rw[List.take_add_one,hy,Option.toList_some];by_cases h1:u∈l.take j
 ·simp[h1]
 ·by_cases h2:y=u
  ·simp[h2]
  ·have h3:¬u=y:=fun e=>h2 e.symm
   simp[h1,h2,h3]
theorem OB(w:World)(x g n cap i k nl gB nb cb:Nat)(ab:Option Addr)(uid pr:Int)(V:Value)(bound:List Int)(hi:i<n)(hk:k<nl)(hnb:bound.length=nb)(WB:nb<=9000000000000)(x1:w.cell? ⟨x,1,none⟩=some (.int .i64 (nl:Int)))(x9:w.cell? ⟨x,9,none⟩=some (.slice (some ⟨g,0,none⟩) n cap))(c1:w.cell? ⟨g,i*3+1,none⟩=some (.slice ab nb cb))(hB:∀(j:Nat) (y:Int),bound[j]?=some y->ab=some ⟨gB,0,none⟩/\w.cell? ⟨gB,j,none⟩=some (.int .i64 y))(hno:uid ∉ bound):
  Calls Tryz.prog 163 #[Av x,.int .i64 (i:Int),.int .i64 (k:Int),.int .i64 uid,.int .i64 pr,V] w fun e w'=>e=.returned (.tuple #[.int .i64 0,.int .i64 15])/\w'=w:=by
 have p0:(0:Int)<=(i:Int):=by omega
 have p1:(i:Int)<(n:Int):=by omega
 have p2:¬(i:Int)<0:=by omega
 have p3:¬(n:Int)<=(i:Int):=by omega
 have p4:¬(k:Int)<0:=by omega
 have p5:¬(nl:Int)<=(k:Int):=by omega
 have hx:=lt_of_cell x9;have hg:=lt_of_cell c1;have HB:=Ab hB;clear hB;go_enter Tryz.func163,Tryz.ntmps163;go_wp2_with fail
 go_loopw [14,15] (fun bv iv wr=>∃j:Nat,j<=nb/\iv=.int .i64 (j:Int)/\bv=.bool (decide (uid∈bound.take j))/\wr=w) (fun _ iv _=>nb-(intOf iv).toNat)
 case atStart=>exact⟨0,Nat.zero_le _,rfl,by simp,rfl⟩
 case round=>
  obtain⟨j,hj,rfl,rfl,hwr⟩:=hrel;subst hwr;by_cases hlt:j<nb
  ·obtain⟨y,hy⟩:∃y,bound[j]?=some y:=⟨_,List.getElem?_eq_getElem (by omega)⟩;obtain⟨hab,cy⟩:=(Aa HB) j y hy;subst hab;have q0:(0:Int)<=(j:Int):=by omega
   have q1:(j:Int)<(nb:Int):=by omega
   have hst:=DY (u:=uid) hy;have hf1:decide (uid∈bound.take j)=false:=by
    simp;exact fun h=>hno (List.mem_of_mem_take h)
   have hf2:decide (uid∈bound.take (j+1))=false:=by
    simp;exact fun h=>hno (List.mem_of_mem_take h)
   have hyu:(y==uid)=false:=by
    rw[hf1,hf2]at hst;simpa using hst.symm
   rw[hf1];clear hst hf1;go_wp2_with fail
   go_roundw
   case rel=>exact⟨j+1,by omega,by go_num,by rw[hf2],trivial⟩
   case measure=>simp[intOf];omega
  ·obtain rfl:j=nb:=by omega
   have hf1:decide (uid∈bound.take j)=false:=by
    simp;exact fun h=>hno (List.mem_of_mem_take h)
   rw[hf1];clear hf1;go_wp2_with fail
   go_returns;exact⟨rfl,rfl⟩
structure KA(w:World)(x g n cap i k nl gB nb cb gV nV cV lb u:Nat)(ab:Option Addr)(bound:List Int)(kind rt tr:Int)(l:R.Ln):Prop where
 hi:i<n
 hk:k<nl
 hnb:bound.length=nb
 WB:nb<=9000000000000
 x1:w.cell? ⟨x,1,none⟩=some (.int .i64 (nl:Int))
 x2:w.cell? ⟨x,2,none⟩=some (.int .i64 rt)
 x3:w.cell? ⟨x,3,none⟩=some (.int .i64 tr)
 x7:w.cell? ⟨x,7,none⟩=some (.slice (some ⟨gV,0,none⟩) nV cV)
 x9:w.cell? ⟨x,9,none⟩=some (.slice (some ⟨g,0,none⟩) n cap)
 c1:w.cell? ⟨g,i*3+1,none⟩=some (.slice ab nb cb)
 c2:w.cell? ⟨g,i*3+2,none⟩=some (.slice (some ⟨lb,0,none⟩) nl nl)
 hB:∀(j:Nat) (y:Int),bound[j]?=some y->ab=some ⟨gB,0,none⟩/\w.cell? ⟨gB,j,none⟩=some (.int .i64 y)
 hu:u<nV
 Z3:nV<=255
 vk:w.cell? ⟨gV,u*3,none⟩=some (.int .i64 kind)
 ln:XF w lb k l
 z:∀o,w.frozen? ⟨lb,o,none⟩=false
 mem:((u:Int)+1)∈bound
 ne:lb≠x/\lb≠g
theorem Rz(w:World){x g n cap i k nl gB nb cb gV nV cV lb u:Nat}{ab:Option Addr}{bound:List Int}{kind rt tr:Int}{l:R.Ln}(hA:KA w x g n cap i k nl gB nb cb gV nV cV lb u ab bound kind rt tr l)(pr:Int)(V:Value)(e0:Int)(h0:(e0==0)=false)(A B:ByteArray)(H154:Hid (∀w,Calls Tryz.prog 155 #[.int .i64 kind,.int .i64 pr] w fun e w'=>e=.returned (.tuple #[.string A,.string B,.int .i64 e0])/\Below w.heap.size w w')):
  Calls Tryz.prog 163 #[Av x,.int .i64 (i:Int),.int .i64 (k:Int),.int .i64 ((u:Int)+1),.int .i64 pr,V] w fun e w'=>e=.returned (.tuple #[.int .i64 0,.int .i64 e0])/\Below w.heap.size w w':=by
 obtain⟨hi,hk,hnb,WB,x1,x2,x3,x7,x9,c1,c2,hB,hu,Z3,vk,hL,hz,hmem,hne⟩:=hA;have p0:(0:Int)<=(i:Int):=by omega
 have p1:(i:Int)<(n:Int):=by omega
 have p2:¬(i:Int)<0:=by omega
 have p3:¬(n:Int)<=(i:Int):=by omega
 have p4:¬(k:Int)<0:=by omega
 have p5:¬(nl:Int)<=(k:Int):=by omega
 have p6:(0:Int)<=(u:Int):=by omega
 have p7:(u:Int)<(nV:Int):=by omega
 have eu:IntKind.i64.wrap ((u:Int)+1-1)=(u:Int):=by rw[IntKind.wrap_i64];omega
 have eu2:IntKind.i64.wrap (u:Int)=(u:Int):=by rw[IntKind.wrap_i64];omega
 have hx:=lt_of_cell x9;have hg:=lt_of_cell c1;have HB:=Ab hB;have HL:=Ab hL;have HZ:=Ab hz;clear hB hL hz;go_enter Tryz.func163,Tryz.ntmps163;go_wp2_with fail
 go_loopw [14,15] (fun bv iv wr=>∃j:Nat,j<=nb/\iv=.int .i64 (j:Int)/\bv=.bool (decide (((u:Int)+1)∈bound.take j))/\wr=w) (fun _ iv _=>nb-(intOf iv).toNat)
 case atStart=>exact⟨0,Nat.zero_le _,rfl,by simp,rfl⟩
 case round=>
  obtain⟨j,hj,rfl,rfl,hwr⟩:=hrel;subst hwr;by_cases hlt:j<nb
  ·obtain⟨y,hy⟩:∃y,bound[j]?=some y:=⟨_,List.getElem?_eq_getElem (by omega)⟩;obtain⟨hab,cy⟩:=(Aa HB) j y hy;subst hab;have q0:(0:Int)<=(j:Int):=by omega
   have q1:(j:Int)<(nb:Int):=by omega
   have HST:=Ab (DY (u:=(u:Int)+1) hy);clear hy;cases hb:decide (((u:Int)+1)∈bound.take j) with
   |true=>
    rw[hb]at HST;clear hb;go_wp2_with fail
    go_roundw
    case rel=>exact⟨j+1,by omega,by go_num,by rw[Aa HST];rfl,trivial⟩
    case measure=>simp[intOf];omega
   |false=>
    rw[hb]at HST;clear hb;obtain⟨t,ht⟩:∃t,(y==(u:Int)+1)=t:=⟨_,rfl⟩;rw[ht]at HST;go_wp2_with fail
    go_roundw
    case rel=>exact⟨j+1,by omega,by go_num,by rw[Aa HST];rfl,trivial⟩
    case measure=>simp[intOf];omega
  ·obtain rfl:j=nb:=by omega
   have hf1:decide (((u:Int)+1)∈bound.take j)=true:=by
    rw[List.take_of_length_le (by omega)];simpa using hmem
   rw[hf1];clear hf1;go_wp2_with fail
   refine((Aa H154) _).mono ?_;rintro e w2 ⟨rfl,hb2⟩;have HB2:=Ab hb2;clear hb2;go_wp2_with fail
   go_returns;exact⟨rfl,Aa HB2⟩
theorem Ha(w:World){x g n cap i k nl gB nb cb gV nV cV lb u:Nat}{ab:Option Addr}{bound:List Int}{kind rt tr:Int}{l:R.Ln}(hA:KA w x g n cap i k nl gB nb cb gV nV cV lb u ab bound kind rt tr l)(pr:Int)(V:Value)(e0:Int)(fits:Bool)(A B:ByteArray)(H154:Hid (∀w,Calls Tryz.prog 155 #[.int .i64 kind,.int .i64 pr] w fun e w'=>e=.returned (.tuple #[.string A,.string B,.int .i64 0])/\w'=w))(H204:Hid (Calls Tryz.prog 207 #[.string A,V] w fun e w'=>e=.returned (.bool fits)/\Below w.heap.size w w'))(hcase:(fits=false/\e0=4)\/(fits=true/\l.state=1/\e0=17)\/(fits=true/\(l.state==1)=false/\l.seq=999/\e0=11)):
  Calls Tryz.prog 163 #[Av x,.int .i64 (i:Int),.int .i64 (k:Int),.int .i64 ((u:Int)+1),.int .i64 pr,V] w fun e w'=>e=.returned (.tuple #[.int .i64 0,.int .i64 e0])/\Below w.heap.size w w':=by
 obtain⟨hi,hk,hnb,WB,x1,x2,x3,x7,x9,c1,c2,hB,hu,Z3,vk,hL,hz,hmem,hne⟩:=hA;have p0:(0:Int)<=(i:Int):=by omega
 have p1:(i:Int)<(n:Int):=by omega
 have p2:¬(i:Int)<0:=by omega
 have p3:¬(n:Int)<=(i:Int):=by omega
 have p4:¬(k:Int)<0:=by omega
 have p5:¬(nl:Int)<=(k:Int):=by omega
 have p6:(0:Int)<=(u:Int):=by omega
 have p7:(u:Int)<(nV:Int):=by omega
 have eu:IntKind.i64.wrap ((u:Int)+1-1)=(u:Int):=by rw[IntKind.wrap_i64];omega
 have eu2:IntKind.i64.wrap (u:Int)=(u:Int):=by rw[IntKind.wrap_i64];omega
 have hx:=lt_of_cell x9;have hg:=lt_of_cell c1;have HB:=Ab hB;have HL:=Ab hL;have HZ:=Ab hz;clear hB hL hz;go_enter Tryz.func163,Tryz.ntmps163;go_wp2_with fail
 go_loopw [14,15] (fun bv iv wr=>∃j:Nat,j<=nb/\iv=.int .i64 (j:Int)/\bv=.bool (decide (((u:Int)+1)∈bound.take j))/\wr=w) (fun _ iv _=>nb-(intOf iv).toNat)
 case atStart=>exact⟨0,Nat.zero_le _,rfl,by simp,rfl⟩
 case round=>
  obtain⟨j,hj,rfl,rfl,hwr⟩:=hrel;subst hwr;by_cases hlt:j<nb
  ·obtain⟨y,hy⟩:∃y,bound[j]?=some y:=⟨_,List.getElem?_eq_getElem (by omega)⟩;obtain⟨hab,cy⟩:=(Aa HB) j y hy;subst hab;have q0:(0:Int)<=(j:Int):=by omega
   have q1:(j:Int)<(nb:Int):=by omega
   have HST:=Ab (DY (u:=(u:Int)+1) hy);clear hy;cases hb:decide (((u:Int)+1)∈bound.take j) with
   |true=>
    rw[hb]at HST;clear hb;go_wp2_with fail
    go_roundw
    case rel=>exact⟨j+1,by omega,by go_num,by rw[Aa HST];rfl,trivial⟩
    case measure=>simp[intOf];omega
   |false=>
    rw[hb]at HST;clear hb;obtain⟨t,ht⟩:∃t,(y==(u:Int)+1)=t:=⟨_,rfl⟩;rw[ht]at HST;go_wp2_with fail
    go_roundw
    case rel=>exact⟨j+1,by omega,by go_num,by rw[Aa HST];rfl,trivial⟩
    case measure=>simp[intOf];omega
  ·obtain rfl:j=nb:=by omega
   have hf1:decide (((u:Int)+1)∈bound.take j)=true:=by
    rw[List.take_of_length_le (by omega)];simpa using hmem
   rw[hf1];clear hf1;have q2:(0:Int)<=(k:Int):=by omega
   have q3:(k:Int)<(nl:Int):=by omega
   go_wp2_with fail
   refine((Aa H154) _).mono ?_;rintro e w2 ⟨rfl,hw2⟩;rw[hw2];clear hw2 H154;go_wp2_with fail
   refine(Aa H204).mono ?_;rintro e w3 ⟨rfl,hb3⟩;have y9:w3.cell? ⟨x,9,none⟩=some (.slice (some ⟨g,0,none⟩) n cap):=(hb3.cell (p:=⟨x,9,none⟩) hx).trans x9;have y2:w3.cell? ⟨g,i*3+2,none⟩=some (.slice (some ⟨lb,0,none⟩) nl nl):=(hb3.cell (p:=⟨g,_,none⟩) hg).trans c2;obtain⟨l0,l1,l2,l3,l4,l5,l6,l7,l8,l9,l10⟩:=(Aa HL).below hb3;have hx3:=lt_of_cell y9;have hg3:=lt_of_cell y2;have hl3:=lt_of_cell l0;have HB3:=Ab (show ∀o,Below _ _ (w3.alloc o) from fun o=>hb3.alloc hb3.size o);clear hb3 H204 x1 x2 x3 x7 x9 c1 c2 vk HB HL;rcases hcase with ⟨h1,h2⟩|⟨h1,h2,h3⟩|⟨h1,h2,h3,h4⟩
   ·subst h1 h2;go_wp2_with fail
    go_returns;exact⟨rfl,(Aa HB3) _⟩
   ·subst h1 h3;rw[h2]at l1;go_wp2_with fail
    go_returns;exact⟨rfl,(Aa HB3) _⟩
   ·subst h1 h4;rw[h3]at l0;go_wp2_with fail
    go_returns;exact⟨rfl,(Aa HB3) _⟩
theorem Vd{a b:World}(h:Below a.drew.heap.size a.drew b):Below a.heap.size a b:=⟨h.os,h.tape,h.output,h.size,h.block⟩
abbrev Vj(W:World)(lb k:Nat)(l:R.Ln):World:=((((((((((W.setCell ⟨lb,k*11,none⟩ (.int .i64 l.seq)).setCell ⟨lb,k*11+1,none⟩ (.int .i64 l.state)).setCell ⟨lb,k*11+2,none⟩ (.slice none 0 0)).setCell ⟨lb,k*11+3,none⟩ (.int .i64 l.uid)).setCell ⟨lb,k*11+4,none⟩ (.string l.to)).setCell ⟨lb,k*11+5,none⟩ (.string (str l.message))).setCell ⟨lb,k*11+6,none⟩ (.int .i64 l.Az)).setCell ⟨lb,k*11+7,none⟩ (.string (str l.came))).setCell ⟨lb,k*11+8,none⟩ (.int .i64 l.pieces)).setCell ⟨lb,k*11+9,none⟩ (.int .i64 l.wait)).setCell ⟨lb,k*11+10,none⟩ (.int .i64 l.tries)
theorem RA(w:World){x g n cap i k nl gB nb cb gV nV cV lb u:Nat}{ab:Option Addr}{bound:List Int}{kind rt tr:Int}{l:R.Ln}(hA:KA w x g n cap i k nl gB nb cb gV nV cV lb u ab bound kind rt tr l)(pr:Int)(V:Value)(A B:ByteArray)(two out:List UInt8)(Post:World->Prop)(hst:(l.state==1)=false)(hsq:(l.seq==999)=false)(hsb:0<=l.seq/\l.seq<=999)(hlen:two.length+out.length<=100)
  (H154:Hid (∀w,Calls Tryz.prog 155 #[.int .i64 kind,.int .i64 pr] w fun e w'=>e=.returned (.tuple #[.string A,.string B,.int .i64 0])/\w'=w)) (H204:Hid (Calls Tryz.prog 207 #[.string A,V] w fun e w'=>e=.returned (.bool true)/\Below w.heap.size w w')) (H216:Hid (∀w,Calls Tryz.prog 219 #[.int .i64 pr] w fun e w'=>e=.returned (.string (str two))/\Below w.heap.size w w')) (H205:Hid (∀W,Below w.heap.size w W->Calls Tryz.prog 208 #[.string A,V] W fun e w'=>e=.returned (.string (str out))/\Below W.heap.size W w'))
  (H164:Hid (∀W,Below w.heap.size w W->Calls Tryz.prog 165 #[Av x,.int .i64 (i:Int),.int .i64 (k:Int),.bool false] (Vj W lb k ⟨l.seq+1,1,[],(u:Int)+1,B,two++out,0,[],0,rt,tr⟩) fun e w'=>e=.returned (.tuple #[])/\Post w'/\∀b,w.heap.size<=b->b<W.heap.size->w'.heap[b]?=W.heap[b]?)):
  Calls Tryz.prog 163 #[Av x,.int .i64 (i:Int),.int .i64 (k:Int),.int .i64 ((u:Int)+1),.int .i64 pr,V] w fun e w'=>e=.returned (.tuple #[.int .i64 (l.seq+1),.int .i64 0])/\Post w':=by
 obtain⟨hi,hk,hnb,WB,x1,x2,x3,x7,x9,c1,c2,hB,hu,Z3,vk,hL,hz,hmem,hne⟩:=hA;obtain⟨hne1,hne2⟩:=hne;have hne1':=hne1.symm;have hne2':=hne2.symm;have hlbw:=lt_of_cell hL.l0;have p0:(0:Int)<=(i:Int):=by omega
 have p1:(i:Int)<(n:Int):=by omega
 have p2:¬(i:Int)<0:=by omega
 have p3:¬(n:Int)<=(i:Int):=by omega
 have p4:¬(k:Int)<0:=by omega
 have p5:¬(nl:Int)<=(k:Int):=by omega
 have p6:(0:Int)<=(u:Int):=by omega
 have p7:(u:Int)<(nV:Int):=by omega
 have eu:IntKind.i64.wrap ((u:Int)+1-1)=(u:Int):=by rw[IntKind.wrap_i64];omega
 have eu2:IntKind.i64.wrap (u:Int)=(u:Int):=by rw[IntKind.wrap_i64];omega
 have hx:=lt_of_cell x9;have hg:=lt_of_cell c1;have HB:=Ab hB;have HL:=Ab hL;have HZ:=Ab hz;clear hB hL hz;go_enter Tryz.func163,Tryz.ntmps163;go_wp2_with fail
 go_loopw [14,15] (fun bv iv wr=>∃j:Nat,j<=nb/\iv=.int .i64 (j:Int)/\bv=.bool (decide (((u:Int)+1)∈bound.take j))/\wr=w) (fun _ iv _=>nb-(intOf iv).toNat)
 case atStart=>exact⟨0,Nat.zero_le _,rfl,by simp,rfl⟩
 case round=>
  obtain⟨j,hj,rfl,rfl,hwr⟩:=hrel;subst hwr;by_cases hlt:j<nb
  ·obtain⟨y,hy⟩:∃y,bound[j]?=some y:=⟨_,List.getElem?_eq_getElem (by omega)⟩;obtain⟨hab,cy⟩:=(Aa HB) j y hy;subst hab;have q0:(0:Int)<=(j:Int):=by omega
   have q1:(j:Int)<(nb:Int):=by omega
   have HST:=Ab (DY (u:=(u:Int)+1) hy);clear hy;cases hb:decide (((u:Int)+1)∈bound.take j) with
   |true=>
    rw[hb]at HST;clear hb;go_wp2_with fail
    go_roundw
    case rel=>exact⟨j+1,by omega,by go_num,by rw[Aa HST];rfl,trivial⟩
    case measure=>simp[intOf];omega
   |false=>
    rw[hb]at HST;clear hb;obtain⟨t,ht⟩:∃t,(y==(u:Int)+1)=t:=⟨_,rfl⟩;rw[ht]at HST;go_wp2_with fail
    go_roundw
    case rel=>exact⟨j+1,by omega,by go_num,by rw[Aa HST];rfl,trivial⟩
    case measure=>simp[intOf];omega
  ·obtain rfl:j=nb:=by omega
   have hf1:decide (((u:Int)+1)∈bound.take j)=true:=by
    rw[List.take_of_length_le (by omega)];simpa using hmem
   rw[hf1];clear hf1;have q2:(0:Int)<=(k:Int):=by omega
   have q3:(k:Int)<(nl:Int):=by omega
   have es:IntKind.i64.wrap (l.seq+1)=l.seq+1:=by rw[IntKind.wrap_i64];omega
   go_wp2_with fail
   refine((Aa H154) _).mono ?_;rintro e w2 ⟨rfl,hw2⟩;rw[hw2];clear hw2 H154;go_wp2_with fail
   refine(Aa H204).mono ?_;rintro e w3 ⟨rfl,hb3⟩;have y9:w3.cell? ⟨x,9,none⟩=some (.slice (some ⟨g,0,none⟩) n cap):=(hb3.cell (p:=⟨x,9,none⟩) hx).trans x9;have y2:w3.cell? ⟨g,i*3+2,none⟩=some (.slice (some ⟨lb,0,none⟩) nl nl):=(hb3.cell (p:=⟨g,_,none⟩) hg).trans c2;have hL3:=(Aa HL).below hb3;obtain⟨l0,l1,l2,l3,l4,l5,l6,l7,l8,l9,l10⟩:=hL3;have hx3:=lt_of_cell y9;have hg3:=lt_of_cell y2;have hl3:=lt_of_cell l0;obtain⟨W4,hW4⟩:∃W4,w3.alloc (.cells #[.int .i64 l.seq,.int .i64 l.state,.slice none 0 0,.int .i64 l.uid,.string l.to,.string (str l.message),.int .i64 l.Az,.string (str l.came),.int .i64 l.pieces,.int .i64 l.wait,.int .i64 l.tries] 259)=W4:=⟨_,rfl⟩;have hb4:Below wr.heap.size wr W4:=by
    rw[<-hW4];exact hb3.alloc hb3.size _
   have hbx:W4.heap[w3.heap.size]?=some (.cells #[.int .i64 l.seq,.int .i64 l.state,.slice none 0 0,.int .i64 l.uid,.string l.to,.string (str l.message),.int .i64 l.Az,.string (str l.came),.int .i64 l.pieces,.int .i64 l.wait,.int .i64 l.tries] 259 (0,0)):=by
    rw[<-hW4];exact heap_alloc_new w3 _
   have z9:W4.cell? ⟨x,9,none⟩=some (.slice (some ⟨g,0,none⟩) n cap):=(hb4.cell (p:=⟨x,9,none⟩) hx).trans x9;have z2:W4.cell? ⟨g,i*3+2,none⟩=some (.slice (some ⟨lb,0,none⟩) nl nl):=(hb4.cell (p:=⟨g,_,none⟩) hg).trans c2;have zs:W4.cell? ⟨w3.heap.size,0,none⟩=some (.int .i64 l.seq):=cell_of hbx 0 _ rfl;have zr:W4.cell? ⟨x,2,none⟩=some (.int .i64 rt):=(hb4.cell (p:=⟨x,2,none⟩) hx).trans x2;have zt:W4.cell? ⟨x,3,none⟩=some (.int .i64 tr):=(hb4.cell (p:=⟨x,3,none⟩) hx).trans x3;have HW4:=Ab hW4;have HB4:=Ab hb4;have HBX:=Ab hbx;have hx4:=lt_of_cell z9;have hg4:=lt_of_cell z2;have hs4:=lt_of_cell zs;have hws:wr.heap.size<=w3.heap.size:=hb3.size;have hne3:lb≠w3.heap.size:=by omega
   have hne3':w3.heap.size≠lb:=by omega
   clear hb3 H204 x1 x2 x3 x7 x9 c1 c2 vk HB hW4 hb4 hbx;go_wp2_with fail
   rw[Aa HW4];clear y9 y2 l0 l1 l2 l3 l4 l5 l6 l7 l8 l9 l10 HW4;go_wp2_with fail
   have hcat:∀w,(Op.stringOp .add (str two) (str out)).run Tryz.prog w=.ok (.string (str (two++out))) w:=fun w=>by
    rw[<-FI];exact run_string_add_sum w _ _ (by rw[Au,Au];omega)
   go_region_held3 (fun w'=>w'.cell? ⟨x,9,none⟩=some (.slice (some ⟨g,0,none⟩) n cap)/\w'.cell? ⟨g,i*3+2,none⟩=some (.slice (some ⟨lb,0,none⟩) nl nl)/\w'.cell? ⟨w3.heap.size,0,none⟩=some (.int .i64 l.seq)/\w'.cell? ⟨x,2,none⟩=some (.int .i64 rt)/\w'.cell? ⟨x,3,none⟩=some (.int .i64 tr)) (go_keep) (first|(go_at_call 219;refine((Aa H216) _).mono ?_;clear H216;rintro e w5 ⟨rfl,hb5'⟩;have hb5:=Vd hb5';have a9:=(hb5.cell (p:=⟨x,9,none⟩) hx4).trans z9;have a2:=(hb5.cell (p:=⟨g,i*3+2,none⟩) hg4).trans z2;have aq:=(hb5.cell (p:=⟨w3.heap.size,0,none⟩) hs4).trans zs;have ar:=(hb5.cell (p:=⟨x,2,none⟩) hx4).trans zr;have atr:=(hb5.cell (p:=⟨x,3,none⟩) hx4).trans zt;have hx5:=lt_of_cell a9;have hg5:=lt_of_cell a2;have hs5:=lt_of_cell aq;have HB5:=Ab ((Aa HB4).trans (hb5.mono (Aa HB4).size));have HBX5:=Ab ((hb5.block _ hs4).trans (Aa HBX));clear hb5 hb5')|(go_at_call 208;refine((Aa H205) _ (Aa HB5)).mono ?_;clear H205;rintro e w6 ⟨rfl,hb6⟩;have b9:=(hb6.cell (p:=⟨x,9,none⟩) hx5).trans a9;have b2:=(hb6.cell (p:=⟨g,i*3+2,none⟩) hg5).trans a2;have bq:=(hb6.cell (p:=⟨w3.heap.size,0,none⟩) hs5).trans aq;have br:=(hb6.cell (p:=⟨x,2,none⟩) hx5).trans ar;have btr:=(hb6.cell (p:=⟨x,3,none⟩) hx5).trans atr;have HB6:=Ab ((Aa HB5).trans (hb6.mono (Aa HB5).size));have HBX6:=Ab ((hb6.block _ hs5).trans (Aa HBX5));have hL6:=(Aa HL).below (Aa HB6);obtain⟨l0,l1,l2,l3,l4,l5,l6,l7,l8,l9,l10⟩:=hL6;have hfz:∀o,w6.frozen? ⟨lb,o,none⟩=false:=fun o=>((Aa HB6).frozen (p:=⟨lb,o,none⟩) (lt_of_cell (Aa HL).l0)).trans ((Aa HZ) o);have f0:=hfz (k*11);have f1:=hfz (k*11+1);have f2:=hfz (k*11+2);have f3:=hfz (k*11+3);have f4:=hfz (k*11+4);have f5:=hfz (k*11+5);have f6:=hfz (k*11+6);have f7:=hfz (k*11+7);have f8:=hfz (k*11+8);have f9:=hfz (k*11+9);have f10:=hfz (k*11+10);clear hb6 hfz))
   have H164':=Ab ((Aa H164) w6 (Aa HB6));have hl6:w3.heap.size<w6.heap.size:=lt_of_block (Aa HBX6);clear H164 a9 a2 aq ar atr b9 b2 bq br btr f0 f1 f2 f3 f4 f5 f6 f7 f8 f9 f10 l0 l1 l2 l3 l4 l5 l6 l7 l8 l9 l10 z9 z2 zs zr zt HL HZ hcat;go_wp2_with fail
   refine(Aa H164').mono ?_;rintro e w7 ⟨rfl,hP,hkp⟩;have hbx7:=(hkp w3.heap.size hws hl6).trans (Aa HBX6);have s7:w7.cell? ⟨w3.heap.size,0,none⟩=some (.int .i64 l.seq):=cell_of hbx7 0 _ rfl;have HP:=Ab hP;clear hP hkp hbx7 H164' HBX6 HB6;go_wp2_with fail
   go_returns;exact⟨rfl,Aa HP⟩
theorem BH{w:World}{lb k j:Nat}{zl:List (R.Ln×Value)}{l l1:R.Ln}{u:Value}(hb:w.heap[lb]?=some (.cells (tab K4 zl).toArray 259 (0,0)))(hy:zl[k]?=some (l,.slice none 0 0))(hj:j<11)(e:K4 (l1,.slice none 0 0)=(K4 (l,.slice none 0 0)).set j u):(w.setCell ⟨lb,k*11+j,none⟩ u).heap[lb]?=some (.cells (tab K4 (zl.set k (l1,.slice none 0 0))).toArray 259 (0,0)):=by
 rw[<-Dy P9 zl k j _ _ u hy hj e];exact Ap hb u
theorem BG{w:World}{b o:Nat}(v:Value):Ae (fun k=>k=b) w (w.setCell ⟨b,o,none⟩ v):=Ae.setCell (F:=fun k=>k=b) (Ae.refl _ w) (p:=⟨b,o,none⟩) (Or.inl rfl) v
theorem RW.Uj{x:Nat}{v:RV}{F:Ag}{G:R.Wd}{w:World}(h:RW x v F G w){i k:Nat}{c:R.Cl}{g cap:Nat}{z:R.Cl×CE}{zl:List (R.Ln×Value)}{l:R.Ln}(hc:G.Ad[i]?=some c)(hA:VP x v G w i c g cap z zl)(hl:c.lines[k]?=some l)(h1:l.state=1)(hw:1<l.wait):∃v' F',RW x v' F' (R.AB G i k) (w.setCell ⟨z.2.lb,k*11+9,none⟩ (.int .i64 (l.wait-1)))/\Ah F F' w (w.setCell ⟨z.2.lb,k*11+9,none⟩ (.int .i64 (l.wait-1))):=by
 obtain⟨hy,hr,_⟩:=hA.line hl;have hok:=(h.wf.cl i c hc).line k l hl;obtain⟨o1,o2,o3,o4,o5,o6⟩:=hok.one h1;have eT:R.AB G i k=R.Ar G i k {l with wait:=l.wait-1}:=by
  unfold R.AB;simp only[R.Bc hc hl];rw[if_neg (by omega),if_pos hw]
 rw[eT];exact h.GG hc hA (l':={l with wait:=l.wait-1}) ⟨hok.seq,fun _=>⟨o1,o2,o3,o4,by simp only;omega,o6⟩⟩ hr (BG _) (BH hA.lb hy (by omega) rfl)
theorem RW.timeout{x:Nat}{v:RV}{F:Ag}{G:R.Wd}{w:World}(h:RW x v F G w){i k:Nat}{c:R.Cl}{g cap:Nat}{z:R.Cl×CE}{zl:List (R.Ln×Value)}{l:R.Ln}(hc:G.Ad[i]?=some c)(hA:VP x v G w i c g cap z zl)(hl:c.lines[k]?=some l)(h1:l.state=1)(hw:¬1<l.wait)(ht:l.tries=0):∃v' F',RW x v' F' (R.AB G i k) ((w.setCell ⟨z.2.lb,k*11+9,none⟩ (.int .i64 (l.wait-1))).setCell ⟨z.2.lb,k*11+1,none⟩ (.int .i64 3))/\Ah F F' w ((w.setCell ⟨z.2.lb,k*11+9,none⟩ (.int .i64 (l.wait-1))).setCell ⟨z.2.lb,k*11+1,none⟩ (.int .i64 3)):=by
 obtain⟨hy,hr,_⟩:=hA.line hl;have hki:=(List.getElem?_eq_some_iff.1 hy).1;have hok:=(h.wf.cl i c hc).line k l hl;have eT:R.AB G i k=R.Ar G i k {l with wait:=l.wait-1,state:=3}:=by
  unfold R.AB;simp only[R.Bc hc hl];rw[if_neg (by omega),if_neg hw,if_pos ht]
 rw[eT];refine h.GG hc hA (l':={l with wait:=l.wait-1,state:=3}) ⟨hok.seq,fun q=>absurd (show (3:Int)=1 from q) (by decide)⟩ hr ((BG _).trans (BG _)) ?_;have s1:=BH (l1:={l with wait:=l.wait-1}) hA.lb hy (j:=9) (u:=.int .i64 (l.wait-1)) (by omega) rfl;have s2:=BH (l:={l with wait:=l.wait-1}) (l1:={l with wait:=l.wait-1,state:=3}) s1 (List.getElem?_set_self hki) (j:=1) (u:=.int .i64 3) (by omega) rfl;rw[List.set_set]at s2;exact s2
theorem RW.again{x:Nat}{v:RV}{F:Ag}{G:R.Wd}{w:World}(h:RW x v F G w){i k:Nat}{c:R.Cl}{g cap:Nat}{z:R.Cl×CE}{zl:List (R.Ln×Value)}{l:R.Ln}(hc:G.Ad[i]?=some c)(hA:VP x v G w i c g cap z zl)(hl:c.lines[k]?=some l)(h1:l.state=1)(ht:¬l.tries=0){w':World}(hw':w'=((w.setCell ⟨z.2.lb,k*11+9,none⟩ (.int .i64 (l.wait-1))).setCell ⟨z.2.lb,k*11+10,none⟩ (.int .i64 (l.tries-1))).setCell ⟨z.2.lb,k*11+9,none⟩ (.int .i64 G.c.Al)):∃v' F',RW x v' F' (R.Ar G i k {l with wait:=G.c.Al,tries:=l.tries-1}) w'/\Ah F F' w w':=by
 obtain⟨hy,hr,_⟩:=hA.line hl;have hki:=(List.getElem?_eq_some_iff.1 hy).1;have hok:=(h.wf.cl i c hc).line k l hl;obtain⟨o1,o2,o3,o4,o5,o6⟩:=hok.one h1;have hcf:=h.wf.cf;unfold R.Cj at hcf;rw[hw'];refine h.GG hc hA (l':={l with wait:=G.c.Al,tries:=l.tries-1}) ⟨hok.seq,fun _=>⟨o1,o2,o3,o4,by simp only;omega,by simp only;omega⟩⟩ hr (((BG _).trans (BG _)).trans (BG _)) ?_;have s1:=BH (l1:={l with wait:=l.wait-1}) hA.lb hy (j:=9) (u:=.int .i64 (l.wait-1)) (by omega) rfl;have s2:=BH (l:={l with wait:=l.wait-1}) (l1:={l with wait:=l.wait-1,tries:=l.tries-1}) s1 (List.getElem?_set_self hki) (j:=10) (u:=.int .i64 (l.tries-1)) (by omega) rfl;rw[List.set_set]at s2;have s3:=BH (l:={l with wait:=l.wait-1,tries:=l.tries-1}) (l1:={l with wait:=G.c.Al,tries:=l.tries-1}) s2 (List.getElem?_set_self hki) (j:=9) (u:=.int .i64 G.c.Al) (by omega) rfl;rw[List.set_set]at s3;exact s3
end Go.Proofs.YtblomippkddgiaaGreatDoor
