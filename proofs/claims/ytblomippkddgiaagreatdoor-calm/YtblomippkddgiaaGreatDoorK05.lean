import Derived.Test.YtblomippkddgiaaGreatDoorK04
import Derived.Lib.AppendStr
set_option maxRecDepth 100000
set_option maxHeartbeats 1000000
namespace Go.Proofs.YtblomippkddgiaaGreatDoor.V
open Go.RowKit
theorem Vk(S:ByteArray):Lib.strCells S=Dx S.data.toList:=by
 unfold Lib.strCells Dx;rfl
theorem Sb{P:Program}(w:World)(base:Nat)(t u ty e:TypeId)(i:TypeInfo)(ht:P.underlying t=some (.slice e))(hu:P.underlying u=some .string)(hi:P.info? e=some i)(hz:i.zero=some (.int .u8 0))
  (hsize:i.size=1) (hby:i.bytes=1) (v:Value) (n:Nat) (xs:List Value) (hown:w.ownsRow base e 1 v n xs) (hn:1<=n) (s:ByteArray) (hsm:n+s.size<=100000000) (hbase:base<=w.heap.size):
  ∃v' w',(Builtin.append_ #[t,u] ty #[v,.string s]).run P w=.ok v' w'/\w'.ownsRow base e 1 v' (n+s.size) (xs++Lib.strCells s)/\w.grownBy w' v.ownBlock/\(v'.ownBlock=v.ownBlock\/v'.ownBlock=some w.heap.size):=by
 obtain⟨v',w',hr,h2,h3,h4⟩:=Lib.run_append_own_string (P:=P) w base t u ty e i ht hu hi hz hsize hby v n xs hown s (by unfold maxLen;omega) (by omega) hbase;refine⟨v',w',hr,h2,h3,?_⟩;have hxl:xs.length=n:=by simpa using hown.1
 have hcl:=fun g=>hown.cells (g:=g)
 rcases hown.2 with ⟨_,h0⟩|⟨g,cap,cur,rfl,hbg,hg,hnc,hcm,hcs,htake⟩
 ·omega
 ·by_cases hroom:n+s.size<=cap
  ·have hcs':cur.size=cap:=by simpa using hcs
   have hr2:=Lib.run_append_room_string (P:=P) w t u ty e i ht hu hi hsize g n cap cur hg s hroom (by omega);rw[hr]at hr2;cases hr2;exact Or.inl rfl
  ·have hr2:=Lib.run_append_grow_string (P:=P) w t u ty e i (.int .u8 0) ht hu hi hz ⟨g,0,none⟩ n cap xs (by rw[hsize];simpa using hxl) (hcl g rfl) s (by omega) (by omega) (by rw[hby];exact growslice_fits (by omega) (by omega));rw[hr]at hr2;cases hr2;exact Or.inr rfl
theorem Ky{P:Program}{ops:Array Oper}{o:Oper}{a:Act}{w:World}{K:Act->World->Prop}{Q:Exit->Act->World->Prop}{E:Prop}
  (hgd:o.guard=none) (sl x:Operand) (t u:TypeId) (ho:o.op=.call {callee:=.builtin .append,args:=#[sl,x],argTypes:=#[t,u]})
  (base:Nat) (e:TypeId) (i:TypeInfo) (ht:P.underlying t=some (.slice e)) (hu:P.underlying u=some .string) (hi:P.info? e=some i) (hz:i.zero=some (.int .u8 0))
  (hsize:i.size=1) (hby:i.bytes=1) (v:Value) (n:Nat) (xs:List Value) (hs:a.eval sl=v) (hown:w.ownsRow base e 1 v n xs) (hn:1<=n) (s:ByteArray) (hx:a.eval x=.string s) (hsm:n+s.size<=100000000) (hbase:base<=w.heap.size)
  (h:∀v' w',w'.ownsRow base e 1 v' (n+s.size) (xs++Lib.strCells s)->w.grownBy w' v.ownBlock->(v'.ownBlock=v.ownBlock\/v'.ownBlock=some w.heap.size)->K (a.put o.dst v') w'):
  if Region.wanted o (yielded ops a.tmps)=true then Oper.wp P o a w K Q else E:=by
 have hw:Region.wanted o (yielded ops a.tmps)=true:=by simp[Region.wanted,hgd]
 rw[if_pos hw];obtain⟨v',w',hr,h2,h3,h4⟩:=Sb (P:=P) w base t u o.type e i ht hu hi hz hsize hby v n xs hown hn s hsm hbase;unfold Oper.wp;simp[execOp,ho,resolve,invoke,builtin,hs,hx,hr,Result.andThen];exact h v' w' h2 h3 h4
theorem Yx{w0 w w1:World}{L O O1:Value}{v:List It}{out news:List UInt8}(h:WS w0 w L v O out)(hown:w1.ownsRow (w0.heap.size+1) 5 1 O1 (out.length+news.length) (Dx out++Dx news))(hg:w.grownBy w1 O.ownBlock)(hat:O1.ownBlock=O.ownBlock\/O1.ownBlock=some w.heap.size):
  Wr w1 w0.heap.size L O/\WS w0 (w1.setCell ⟨w0.heap.size,1,none⟩ O1) L v O1 (out++news)/\Wk w0.heap.size O O1 w (w1.setCell ⟨w0.heap.size,1,none⟩ O1):=by
 have hlt:=h.wr.lt;have hs1:=hg.size;have keep:∀k,k<w.heap.size->O.ownBlock≠some k->w1.heap[k]?=w.heap[k]?:=fun k hk hr=>hg.block k hk (fun e=>hr e.symm)
 have hrow:∀k,O.ownBlock=some k->w0.heap.size<k:=fun k hk=>(h.row hk).1
 have hwr:Wr w1 w0.heap.size L O:=by
  have:=h.wr;unfold Wr at this ⊢;rw[keep _ hlt (fun e=>by have:=hrow _ e;omega)];exact this
 refine⟨hwr,⟨hwr.set1 O1,h.items,?_,?_⟩,⟨by simp;omega,fun k hk hkb hr=>?_,?_⟩⟩
 ·exact(h.below.grown hg (by omega) (fun k hk=>by have:=hrow k hk;omega)).setCell (by simp) _
 ·have:=Jz (k:=w0.heap.size) (o:=1) (x:=O1) hown (by omega);rw[List.length_append];unfold Dx at this ⊢;rw[List.map_append];exact this
 ·rw[Below.heap_setCell _ _ _ _ (by simpa using hkb)];exact keep k hk hr
 ·rcases hat with h1|h1
  ·exact Or.inl h1
  ·exact Or.inr ⟨_,h1,by omega⟩
theorem FP(n:Nat)(w:World)(hn:n<=14):Calls Tryz.prog 284 #[.int .i64 n] w fun e w'=>e=.returned (.bool (n % 2==1))/\w'=w:=by
 have e:((n % 2==1:Bool))=(((n:Int) % 2==1:Bool)):=by
  rw[Bool.eq_iff_iff];simp;omega
 rw[e];go_enter Tryz.func284,Tryz.ntmps284;go_wp2
 go_ret
 exact⟨rfl,rfl⟩
theorem ZP(w0 w:World)(L O:Value)(x:It)(v:List It)(out:List UInt8)(h:WS w0 w L (x :: v) O out)(hn:v.length<=9000000000000)(hN:x.1=0)(hS:x.2.size<=14)(hol:out.length<=1000000):
  Calls Tryz.prog 282 #[.pointer (some ⟨w0.heap.size,0,none⟩)] w fun e w'=>e=.returned (.tuple #[])/\∃L' O',WS w0 w' L' v O' (out++El true x)/\Wk w0.heap.size O O' w w':=by
 have H1:=Ab (Gt w0 w L O x v out h hn);clear h;obtain⟨N,S⟩:=x;simp only at H1 hS hN ⊢;subst hN;have hSI:¬(14:Int)<(S.size:Int):=by omega
 have HOD:=Ab (fun w=>FP S.size w hS);have HEN:Hid (El true (0,S)=AX (S.size:Int)++(S.data.toList++(if S.size % 2=1 then [0] else []))):=rfl;go_enter Tryz.func282,Tryz.ntmps282;go_wp2_with fail
 refine(Aa H1).mono ?_;rintro e w1 ⟨rfl,L',hws,hwk⟩;have hws2:=hws.go ((Below.refl w1.heap.size w1).alloc (Nat.le_refl _) (.cells #[.int .i64 0,.string S] 106));have H2:=Ab (J8 w0 _ L' O v out (S.size:Int) hws2.drew hol);have hrow:O.ownBlock≠some w1.heap.size:=fun e=>by have:=(hws.row e).2;omega
 have hbz:=hws.wr.lt;have hout:=hws2.wr.out;have HWK:=Ab hwk;obtain⟨sa,sn,sc,hsO⟩:=Ar hws2.own;subst hsO;clear hws hwk hws2;go_wp2_with fail
 go_region_with ((go_at_call 186;refine(Aa H2).mono ?_;rintro e w2 ⟨ta,tn,tc,rfl,hwr3,hws3,hwk3⟩;have t1:=hwr3.out;have t2:=hwr3.Qv))
 all_goals
  clear hwr3 t1 t2;generalize w2.setCell ⟨w0.heap.size,1,none⟩ (.slice ta tn tc)=W2 at *;have c1:W2.cell? ⟨w1.heap.size,1,none⟩=some (.string S):=(hwk3.cell (by simp) (by omega) hrow).trans (by simp[go_sem]);have hm2:w1.heap.size<W2.heap.size:=by have:=hwk3.size;simp at this;omega
  have hroW2:(Value.slice ta tn tc).ownBlock≠some w1.heap.size:=by
   intro e;rcases hwk3.row with h|⟨g,h,hg⟩
   ·exact hrow (h.symm.trans e)
   ·rw[e]at h;cases h;simp at hg;omega
  have HK3:=Ab ((Aa HWK).trans ((Wk.of_below (((Below.refl w1.heap.size w1).alloc (Nat.le_refl _) (.cells #[.int .i64 0,.string S] 106)).drew)).trans hwk3));have hO2:=hws3.wr.out;have HWS:=Ab hws3;have hw0:=hws3.wr.lt;have hl2:(AX (S.size:Int)).length=2:=rfl;obtain⟨i0,hi,hz0,hz1,hz2⟩:=info_parts info5;clear hws3 hwk3 H2 H1 HWK hout;go_wp2_with fail
  go_region_law (refine Ky rfl (.tmp 31) (.tmp 33) 199 9 rfl (w0.heap.size+1) 5 i0 Tryz.underlying199 Tryz.underlying9 hi hz0 hz1 hz2 _ (out++AX (S.size:Int)).length (Dx (out++AX (S.size:Int))) rfl (by exact(Aa HWS).own) (by simp;omega) S rfl (by rw[List.length_append];omega) (by exact hw0) ?_;intro v' wz hown hgrow hat;obtain⟨va,vn,vc,hvs⟩:=Ar hown;subst hvs;have hpush:=Yx (news:=S.data.toList) (Aa HWS).drew (by rw[<-Vk];simpa using hown) hgrow hat;obtain⟨hwr,hws4,hwk4⟩:=hpush;have k1:=hwr.out;have k2:=hwr.Qv)
  all_goals
   have d1:=(hwk4.cell (o:=1) (by exact hm2) (by omega) hroW2).trans c1;have HW4:=Ab hws4;have HK4:=Ab ((Aa HK3).trans ((Wk.of_below ((Below.refl W2.heap.size W2).drew)).trans hwk4));have o4:=hws4.wr.out;have z4:=hws4.wr.Qv;have l4:=hws4.wr.lt;clear hwr hws4 hwk4 k1 k2 hown hgrow hat HWS HK3 c1 hO2 hm2 hroW2 hrow;generalize wz.setCell {block:=w0.heap.size,off:=1} (Value.slice va vn vc)=W4 at *;by_cases hodd:S.size % 2=1
   ·have ho:(S.size % 2==1)=true:=by simp[hodd]
    rw[ho]at HOD;rw[if_pos hodd]at HEN;clear hodd ho;obtain⟨acc,hacc⟩:∃acc,acc=out++AX (S.size:Int)++S.data.toList:=⟨_,rfl⟩;have hal:acc.length<=1000100:=by
     have e2:S.data.toList.length=S.size:=Array.length_toList;rw[hacc,List.length_append,List.length_append,hl2,e2];omega
    rw[<-hacc]at HW4;have HACC:=Ab hacc;clear hacc;go_wp2_with fail
    refine((Aa HOD) _).mono ?_;rintro e w5 ⟨rfl,rfl⟩;go_wp2_with (at_builtin;refine wpList_append_own_at _ rfl (.tmp 45) (.tmp 46) 199 rfl (w0.heap.size+1) 5 i0 (.int .u8 0) 1 1 Tryz.underlying199 hi hz0 hz1 hz2 rfl (by decide) _ acc.length (Dx acc) rfl (by exact(Aa HW4).own.alloc _) ⟨w5.heap.size,0,none⟩ 1 1 (Dx [0]) rfl rfl (by exact cell_one_new _ _ _) (by exact JF _) (by unfold maxLen;omega) (by omega) (by simp;omega) ?_)
    intro O5 w6 hown5 hgrow5 _ hat5;obtain⟨ta,tn,tc,hts⟩:=Ar hown5;subst hts;obtain⟨hwr5,hws5,hwk5⟩:=TJ (news:=[0]) (Aa HW4) hown5 hgrow5 (by simpa using hat5);have k1:=hwr5.out;have k2:=hwr5.Qv;have HW5:=Ab hws5;have HK5:=Ab ((Aa HK4).trans hwk5);clear hown5 hgrow5 hat5 hwr5 hws5 hwk5;go_wp2
    go_end0
    refine⟨rfl,L',_,?_,Aa HK5⟩;rw[Aa HEN,<-List.append_assoc,<-List.append_assoc,<-Aa HACC];exact Aa HW5
   ·have ho:(S.size % 2==1)=false:=by simp[hodd]
    rw[ho]at HOD;rw[if_neg hodd,List.append_nil]at HEN;clear hodd ho;go_wp2_with fail
    refine((Aa HOD) _).mono ?_;rintro e w5 ⟨rfl,rfl⟩;go_wp2
    go_end0
    refine⟨rfl,L',_,?_,Aa HK4⟩;rw[Aa HEN,<-List.append_assoc];exact Aa HW4
theorem Vr(w0 w:World)(L O:Value)(out:List UInt8)(h:WS w0 w L [] O out):
  Calls Tryz.prog 282 #[.pointer (some ⟨w0.heap.size,0,none⟩)] w fun e w'=>e=Ax 4 0/\Below w0.heap.size w0 w':=by
 obtain⟨a,cap,hL,_,_⟩:=h.items;subst hL;have H1:=Ab (Tn w0.heap.size a cap O w h.wr);have hb:=h.below;clear h;go_enter Tryz.func282,Tryz.ntmps282;go_wp2_with fail
 refine(Aa H1).mono ?_;rintro e w1 ⟨rfl,hb1⟩;go_wp2;exact⟨rfl,rfl,hb.trans (hb1.mono hb.size)⟩
theorem Vp(w0 w:World)(L O:Value)(x:It)(v:List It)(out:List UInt8)(h:WS w0 w L (x :: v) O out)(hn:v.length<=9000000000000)(hN:(x.1 != 0)=true):
  Calls Tryz.prog 282 #[.pointer (some ⟨w0.heap.size,0,none⟩)] w fun e w'=>e=Ax 4 0/\Below w0.heap.size w0 w':=by
 have H1:=Ab (Gt w0 w L O x v out h hn);have HN:=Ab Dt;clear h;obtain⟨N,S⟩:=x;simp only at H1 hN;go_enter Tryz.func282,Tryz.ntmps282;go_wp2_with fail
 refine(Aa H1).mono ?_;rintro e w1 ⟨rfl,L',hws,hwk⟩;have hb:=hws.below;have hbz:=hb.size;clear hws hwk;go_wp2_with fail
 refine((Aa HN) _).mono ?_;rintro e w2 ⟨rfl,hb2⟩;go_wp2;exact⟨rfl,rfl,(hb.alloc (by omega) _).trans (hb2.mono (by simp;omega))⟩
theorem Vq(w0 w:World)(L O:Value)(x:It)(v:List It)(out:List UInt8)(h:WS w0 w L (x :: v) O out)(hn:v.length<=9000000000000)(hN:(x.1 != 0)=false)(hS:(14:Int)<(x.2.size:Int)):
  Calls Tryz.prog 282 #[.pointer (some ⟨w0.heap.size,0,none⟩)] w fun e w'=>e=Ax 4 0/\Below w0.heap.size w0 w':=by
 have H1:=Ab (Gt w0 w L O x v out h hn);have HN:=Ab Dt;clear h;obtain⟨N,S⟩:=x;simp only at H1 hN hS;go_enter Tryz.func282,Tryz.ntmps282;go_wp2_with fail
 refine(Aa H1).mono ?_;rintro e w1 ⟨rfl,L',hws,hwk⟩;have hb:=hws.below;have hbz:=hb.size;clear hws hwk;go_wp2_with fail
 refine((Aa HN) _).mono ?_;rintro e w2 ⟨rfl,hb2⟩;go_wp2;exact⟨rfl,rfl,(hb.alloc (by omega) _).trans (hb2.mono (by simp;omega))⟩
abbrev Bh(c:Int)(x1:Int)(a:Option Addr)(n k:Nat):Obj:=.cells #[.int .u8 c,.int .i64 x1,.slice a n k] 153
def KB(er:Nat)(A B:World->Prop)(e:Ending)(w:World):Prop:=(e=Ax er 0/\A w)\/(e=.returned (.tuple #[])/\B w)
def YA(er:Nat)(A:World->Prop)(B:Int->World->Prop)(e:Ending)(w:World):Prop:=(e=Ax er 0/\A w)\/∃i,e=.returned (.int .i64 i)/\B i w
def QJ (tid fn : Nat) (ptr : Addr) : Prop := (∀ w, (method 460 tid (.pointer (some ptr)) "errand/value.number").run Tryz.prog w = .ok (fn, .pointer (some ptr)) w) ∧ ∀ args w, (callFunc fn args).run Tryz.prog w = .ok (.enter fn args) w
def abx (tid fn : Nat) (ptr : Addr) : Prop := (∀ w, (method 460 tid (.pointer (some ptr)) "errand/value.text").run Tryz.prog w = .ok (fn, .pointer (some ptr)) w) ∧ ∀ args w, (callFunc fn args).run Tryz.prog w = .ok (.enter fn args) w
theorem abj(tid fn er:Nat)(ptr:Addr)(hm:QJ tid fn ptr)(w:World)(x1:Int)(a0:Option Addr)(n0 k0:Nat)(A:World->Prop)(B:Int->World->Prop)
  (HN:Calls Tryz.prog fn #[.pointer (some ptr),.int .i64 0,.int .i64 1] (w.alloc (Bh 98 x1 a0 n0 k0)) (YA er A B)):
  Calls Tryz.prog 125 #[.agg #[.int .u8 98,.int .i64 x1,.slice a0 n0 k0],.iface tid (.pointer (some ptr))] w (KB er A fun w'=>∃i,B i w'):=by
 obtain⟨hm1,hm2⟩:=hm;have HNN:=Ab HN;clear HN;go_enter Tryz.func125,Tryz.ntmps125;go_wp2_with fail
 refine(Aa HNN).mono ?_;rintro e w1 (⟨rfl,hA⟩|⟨i,rfl,hB⟩)
 ·go_wp2;exact⟨rfl,Or.inl ⟨rfl,hA⟩⟩
 ·go_wp2
  go_end0
  exact Or.inr ⟨rfl,i,hB⟩
theorem abk(tid fn er:Nat)(ptr:Addr)(hm:QJ tid fn ptr)(w:World)(x1:Int)(a0:Option Addr)(n0 k0:Nat)(A:World->Prop)(B:Int->World->Prop)
  (HN:Calls Tryz.prog fn #[.pointer (some ptr),.int .i64 0,.int .i64 65535] (w.alloc (Bh 99 x1 a0 n0 k0)) (YA er A B)):
  Calls Tryz.prog 125 #[.agg #[.int .u8 99,.int .i64 x1,.slice a0 n0 k0],.iface tid (.pointer (some ptr))] w (KB er A fun w'=>∃i,B i w'):=by
 obtain⟨hm1,hm2⟩:=hm;have HNN:=Ab HN;clear HN;go_enter Tryz.func125,Tryz.ntmps125;go_wp2_with fail
 refine(Aa HNN).mono ?_;rintro e w1 (⟨rfl,hA⟩|⟨i,rfl,hB⟩)
 ·go_wp2;exact⟨rfl,Or.inl ⟨rfl,hA⟩⟩
 ·go_wp2
  go_end0
  exact Or.inr ⟨rfl,i,hB⟩
theorem abm(tid fn er:Nat)(ptr:Addr)(hm:QJ tid fn ptr)(w:World)(x1:Int)(a0:Option Addr)(n0 k0:Nat)(A:World->Prop)(B:Int->World->Prop)
  (HN:Calls Tryz.prog fn #[.pointer (some ptr),.int .i64 (-32768),.int .i64 32767] (w.alloc (Bh 105 x1 a0 n0 k0)) (YA er A B)):
  Calls Tryz.prog 125 #[.agg #[.int .u8 105,.int .i64 x1,.slice a0 n0 k0],.iface tid (.pointer (some ptr))] w (KB er A fun w'=>∃i,B i w'):=by
 obtain⟨hm1,hm2⟩:=hm;have HNN:=Ab HN;clear HN;go_enter Tryz.func125,Tryz.ntmps125;go_wp2_with fail
 refine(Aa HNN).mono ?_;rintro e w1 (⟨rfl,hA⟩|⟨i,rfl,hB⟩)
 ·go_wp2;exact⟨rfl,Or.inl ⟨rfl,hA⟩⟩
 ·go_wp2
  go_end0
  exact Or.inr ⟨rfl,i,hB⟩
theorem abl(tid fn er:Nat)(ptr:Addr)(hm:QJ tid fn ptr)(w:World)(x1:Int)(a0:Option Addr)(n0 k0:Nat)(A:World->Prop)(B:Int->World->Prop)(hx:0<=x1/\x1<=9)
  (HN:Calls Tryz.prog fn #[.pointer (some ptr),.int .i64 0,.int .i64 (x1-1)] (w.alloc (Bh 101 x1 a0 n0 k0)) (YA er A B)):
  Calls Tryz.prog 125 #[.agg #[.int .u8 101,.int .i64 x1,.slice a0 n0 k0],.iface tid (.pointer (some ptr))] w (KB er A fun w'=>∃i,B i w'):=by
 obtain⟨hm1,hm2⟩:=hm;have HNN:=Ab HN;clear HN;go_enter Tryz.func125,Tryz.ntmps125;go_wp2_with fail
 refine(Aa HNN).mono ?_;rintro e w1 (⟨rfl,hA⟩|⟨i,rfl,hB⟩)
 ·go_wp2;exact⟨rfl,Or.inl ⟨rfl,hA⟩⟩
 ·go_wp2
  go_end0
  exact Or.inr ⟨rfl,i,hB⟩
theorem abp(tid fn er:Nat)(ptr:Addr)(hm:abx tid fn ptr)(w:World)(x1:Int)(a0:Option Addr)(n0 k0:Nat)(A B:World->Prop)
  (HN:Calls Tryz.prog fn #[.pointer (some ptr)] (w.alloc (Bh 115 x1 a0 n0 k0)) (KB er A B)):
  Calls Tryz.prog 125 #[.agg #[.int .u8 115,.int .i64 x1,.slice a0 n0 k0],.iface tid (.pointer (some ptr))] w (KB er A B):=by
 obtain⟨hm1,hm2⟩:=hm;have HNN:=Ab HN;clear HN;go_enter Tryz.func125,Tryz.ntmps125;go_wp2_with fail
 refine(Aa HNN).mono ?_;rintro e w1 (⟨rfl,hA⟩|⟨rfl,hB⟩)
 ·go_wp2;exact⟨rfl,Or.inl ⟨rfl,hA⟩⟩
 ·go_wp2
  go_end0
  exact Or.inr ⟨rfl,hB⟩
theorem abh(tid er:Nat)(ptr:Addr)(w:World)(x1:Int)(g n0 k0:Nat)(y0 y1:Int)(ya:Option Addr)(yn yk:Nat)(A B:World->Prop)(hn:0<n0)
  (f0:∀o,(w.alloc o).cell? ⟨g,0,none⟩=some (.int .u8 y0)) (f1:∀o,(w.alloc o).cell? ⟨g,1,none⟩=some (.int .i64 y1)) (f2:∀o,(w.alloc o).cell? ⟨g,2,none⟩=some (.slice ya yn yk))
  (HT:Calls Tryz.prog 193 #[.int .i64 x1,.agg #[.int .u8 y0,.int .i64 y1,.slice ya yn yk],.iface tid (.pointer (some ptr))] (w.alloc (Bh 97 x1 (some ⟨g,0,none⟩) n0 k0)).drew (KB er A B)):
  Calls Tryz.prog 125 #[.agg #[.int .u8 97,.int .i64 x1,.slice (some ⟨g,0,none⟩) n0 k0],.iface tid (.pointer (some ptr))] w (KB er A B):=by
 have HTT:=Ab HT;clear HT;go_enter Tryz.func125,Tryz.ntmps125;go_wp2_with fail
 go_region_with (go_at_call 193;refine(Aa HTT).mono ?_;rintro e w1 (⟨rfl,hA⟩|⟨rfl,hB⟩);focus (go_wp2;exact⟨rfl,Or.inl ⟨rfl,hA⟩⟩))
 all_goals
  go_wp2
  go_end0
  exact Or.inr ⟨rfl,hB⟩
theorem abn(tid fn er:Nat)(ptr:Addr)(hm:QJ tid fn ptr)(w:World)(x1:Int)(g n0 k0:Nat)(y0 y1:Int)(ya:Option Addr)(yn yk:Nat)(A B:World->Prop)(N:Int->World->Prop)(hn:0<n0)
  (HN:Calls Tryz.prog fn #[.pointer (some ptr),.int .i64 0,.int .i64 x1] (w.alloc (Bh 113 x1 (some ⟨g,0,none⟩) n0 k0)) (YA er A N))
  (hN:∀i w',N i w'->w'.cell? ⟨w.heap.size,2,none⟩=some (.slice (some ⟨g,0,none⟩) n0 k0)/\w'.cell? ⟨g,0,none⟩=some (.int .u8 y0)/\w'.cell? ⟨g,1,none⟩=some (.int .i64 y1)/\w'.cell? ⟨g,2,none⟩=some (.slice ya yn yk) /\
   Calls Tryz.prog 193 #[.int .i64 i,.agg #[.int .u8 y0,.int .i64 y1,.slice ya yn yk],.iface tid (.pointer (some ptr))] w' (KB er A B)):
  Calls Tryz.prog 125 #[.agg #[.int .u8 113,.int .i64 x1,.slice (some ⟨g,0,none⟩) n0 k0],.iface tid (.pointer (some ptr))] w (KB er A B):=by
 obtain⟨hm1,hm2⟩:=hm;have HNN:=Ab HN;have HNT:=Ab hN;clear HN hN;go_enter Tryz.func125,Tryz.ntmps125;go_wp2_with fail
 refine(Aa HNN).mono ?_;rintro e w1 (⟨rfl,hA⟩|⟨i,rfl,hB⟩)
 ·go_wp2;exact⟨rfl,Or.inl ⟨rfl,hA⟩⟩
 ·obtain⟨b2,f0,f1,f2,hT⟩:=(Aa HNT) i w1 hB;have HTT:=Ab hT;clear hT hB;go_wp2_with fail
  refine(Aa HTT).mono ?_;rintro e w2 (⟨rfl,hA⟩|⟨rfl,hB⟩)
  ·go_wp2;exact⟨rfl,Or.inl ⟨rfl,hA⟩⟩
  ·go_wp2
   go_end0
   exact Or.inr ⟨rfl,hB⟩
theorem abq(tid fn er:Nat)(ptr:Addr)(hm:QJ tid fn ptr)(w:World)(x1:Int)(g n0 k0:Nat)(A B:World->Prop)(N:Nat->World->Prop)(hn:n0<=6)
  (HN:Calls Tryz.prog fn #[.pointer (some ptr),.int .i64 0,.int .i64 ((n0:Int)-1)] (w.alloc (Bh 117 x1 (some ⟨g,0,none⟩) n0 k0)) (YA er A fun i w'=>∃j:Nat,i=j/\j<n0/\N j w'))
  (hN:∀j w',N j w'->∃y0 y1 ya yn yk,w'.cell? ⟨w.heap.size,2,none⟩=some (.slice (some ⟨g,0,none⟩) n0 k0)/\w'.cell? ⟨g,j*3,none⟩=some (.int .u8 y0)/\w'.cell? ⟨g,j*3+1,none⟩=some (.int .i64 y1)/\w'.cell? ⟨g,j*3+2,none⟩=some (.slice ya yn yk) /\
   Calls Tryz.prog 125 #[.agg #[.int .u8 y0,.int .i64 y1,.slice ya yn yk],.iface tid (.pointer (some ptr))] w' (KB er A B)):
  Calls Tryz.prog 125 #[.agg #[.int .u8 117,.int .i64 x1,.slice (some ⟨g,0,none⟩) n0 k0],.iface tid (.pointer (some ptr))] w (KB er A B):=by
 obtain⟨hm1,hm2⟩:=hm;have HNN:=Ab HN;have HNT:=Ab hN;clear HN hN;go_enter Tryz.func125,Tryz.ntmps125;go_wp2_with fail
 refine(Aa HNN).mono ?_;rintro e w1 (⟨rfl,hA⟩|⟨i,rfl,j,rfl,hj,hB⟩)
 ·go_wp2;exact⟨rfl,Or.inl ⟨rfl,hA⟩⟩
 ·obtain⟨y0,y1,ya,yn,yk,b2,f0,f1,f2,hT⟩:=(Aa HNT) j w1 hB;have HTT:=Ab hT;clear hT hB;go_wp2_with fail
  refine(Aa HTT).mono ?_;rintro e w2 (⟨rfl,hA⟩|⟨rfl,hB⟩)
  ·go_wp2;exact⟨rfl,Or.inl ⟨rfl,hA⟩⟩
  ·go_wp2
   go_end0
   exact Or.inr ⟨rfl,hB⟩
theorem abo(tid er:Nat)(ptr:Addr)(w:World)(x1:Int)(va:Option Addr)(n0 k0:Nat)(A:World->Prop)(I:Nat->World->Prop)(hn:n0<=6)(h0:I 0 (w.alloc (Bh 114 x1 va n0 k0)))
  (hI:∀j w',j<n0->I j w'->∃g y0 y1 ya yn yk,va=some ⟨g,0,none⟩/\w'.cell? ⟨g,j*3,none⟩=some (.int .u8 y0)/\w'.cell? ⟨g,j*3+1,none⟩=some (.int .i64 y1)/\w'.cell? ⟨g,j*3+2,none⟩=some (.slice ya yn yk) /\
   Calls Tryz.prog 125 #[.agg #[.int .u8 y0,.int .i64 y1,.slice ya yn yk],.iface tid (.pointer (some ptr))] (w'.alloc (.cells #[.int .u8 y0,.int .i64 y1,.slice ya yn yk] 153)) (KB er A (I (j+1)))):
  Calls Tryz.prog 125 #[.agg #[.int .u8 114,.int .i64 x1,.slice va n0 k0],.iface tid (.pointer (some ptr))] w (KB er A (I n0)):=by
 have H0:=Ab h0;have HII:=Ab hI;clear h0 hI;go_enter Tryz.func125,Tryz.ntmps125;go_wp2;go_loopw [61] (fun i wr=>∃k:Nat,k<=n0/\i=.int .i64 k/\I k wr) (fun i _=>n0-(intOf i).toNat)
 case atStart=>exact⟨0,Nat.zero_le _,rfl,Aa H0⟩
 case round=>
  obtain⟨k,hk,rfl,hIk⟩:=hrel;by_cases hlt:k<n0
  ·obtain⟨g,y0,y1,ya,yn,yk,rfl,f0,f1,f2,hT⟩:=(Aa HII) k wr hlt hIk;have HTT:=Ab hT;clear hT hIk;go_wp2_with fail
   refine(Aa HTT).mono ?_;rintro e w2 (⟨rfl,hA⟩|⟨rfl,hB⟩)
   ·go_wp2;exact⟨rfl,Or.inl ⟨rfl,hA⟩⟩
   ·have HB:=Ab hB;clear hB f0 f1 f2;go_wp2;go_roundw
    case rel=>exact⟨k+1,by omega,by go_num,Aa HB⟩
    case measure=>simp[intOf];omega
  ·obtain rfl:k=n0:=by omega
   have HB:=Ab hIk;clear hIk;go_wp2
   go_end0
   exact Or.inr ⟨rfl,Aa HB⟩
theorem SQ(tid er:Nat)(ptr:Addr)(w:World)(y0 y1:Int)(ya:Option Addr)(yn yk n:Nat)(A:World->Prop)(I:Nat->World->Prop)(hn:n<=9)(h0:I 0 (w.alloc (.cells #[.int .u8 y0,.int .i64 y1,.slice ya yn yk] 153)))
  (hI:∀j w',j<n->I j w'->w'.cell? ⟨w.heap.size,0,none⟩=some (.int .u8 y0)/\w'.cell? ⟨w.heap.size,1,none⟩=some (.int .i64 y1)/\w'.cell? ⟨w.heap.size,2,none⟩=some (.slice ya yn yk) /\
   Calls Tryz.prog 125 #[.agg #[.int .u8 y0,.int .i64 y1,.slice ya yn yk],.iface tid (.pointer (some ptr))] w' (KB er A (I (j+1)))):
  Calls Tryz.prog 193 #[.int .i64 n,.agg #[.int .u8 y0,.int .i64 y1,.slice ya yn yk],.iface tid (.pointer (some ptr))] w (KB er A (I n)):=by
 have H0:=Ab h0;have HII:=Ab hI;clear h0 hI;go_enter Tryz.func193,Tryz.ntmps193;go_wp2;go_loopw [7] (fun i wr=>∃k:Nat,k<=n/\i=.int .i64 k/\I k wr) (fun i _=>n-(intOf i).toNat)
 case atStart=>exact⟨0,Nat.zero_le _,rfl,Aa H0⟩
 case round=>
  obtain⟨k,hk,rfl,hIk⟩:=hrel;by_cases hlt:k<n
  ·obtain⟨f0,f1,f2,hT⟩:=(Aa HII) k wr hlt hIk;have HTT:=Ab hT;clear hT hIk;go_wp2_with fail
   refine(Aa HTT).mono ?_;rintro e w2 (⟨rfl,hA⟩|⟨rfl,hB⟩)
   ·go_wp2;exact⟨rfl,Or.inl ⟨rfl,hA⟩⟩
   ·have HB:=Ab hB;clear hB f0 f1 f2;go_wp2;go_roundw
    case rel=>exact⟨k+1,by omega,by go_num,Aa HB⟩
    case measure=>simp[intOf];omega
  ·obtain rfl:k=n:=by omega
   have HB:=Ab hIk;clear hIk;go_wp2
   go_end0
   exact Or.inr ⟨rfl,Aa HB⟩
structure Kept(O O':Nat->Prop)(w w':World):Prop where
 size:w.heap.size<=w'.heap.size
 block:∀k,k<w.heap.size->¬O k->w'.heap[k]?=w.heap[k]?
 row:∀k,O' k->O k\/w.heap.size<=k
theorem Kept.refl(O:Nat->Prop)(w:World):Kept O O w w:=⟨Nat.le_refl _,fun _ _ _=>rfl,fun _ h=>Or.inl h⟩
theorem Kept.trans{O O1 O2:Nat->Prop}{w w1 w2:World}(h:Kept O O1 w w1)(k:Kept O1 O2 w1 w2):Kept O O2 w w2:=by
 have hs:=h.size;refine⟨Nat.le_trans h.size k.size,fun i hi hr=>?_,fun i hi=>?_⟩
 ·rw[k.block i (by omega) (fun e=>?_),h.block i hi hr];rcases h.row i e with h1|h1
  ·exact hr h1
  ·omega
 ·rcases k.row i hi with h1|h1
  ·exact h.row i h1
  ·exact Or.inr (by omega)
theorem Kept.of_below{O:Nat->Prop}{w w':World}(h:Below w.heap.size w w'):Kept O O w w':=⟨h.size,fun k hk _=>h.block k hk,fun _ h=>Or.inl h⟩
theorem Kept.cell{O O':Nat->Prop}{w w':World}(h:Kept O O' w w'){k o:Nat}(hk:k<w.heap.size)(hr:¬O k):w'.cell? ⟨k,o,none⟩=w.cell? ⟨k,o,none⟩:=World.cell?_of_block (w:=w) (h.block k hk hr)
structure BI(σ:Type) where
 tid:Nat
 Ml:Nat
 Wq:Nat
 er:Nat
 ptr:Addr
 w0:World
 St:World->Nat->σ->(Nat->Prop)->Prop
 num:Int->Int->σ->Option (Int×σ)
 txt:σ->Option σ
variable {σ:Type}
abbrev BI.I(C:BI σ):Value:=.iface C.tid (.pointer (some C.ptr))
def BI.Lv(C:BI σ)(O:Nat->Prop)(c:Nat)(x':σ)(w w':World):Prop:=∃c' O',c'<=c/\C.St w' c' x' O'/\Kept O O' w w'
def BI.No(C:BI σ)(P:Prop)(w':World):Prop:=P/\Below C.w0.heap.size C.w0 w'
structure I8(C:BI σ):Prop where
 below:∀{w c x O},C.St w c x O->Below C.w0.heap.size C.w0 w
 fresh:∀{w c x O},C.St w c x O->∀k,O k->C.w0.heap.size<=k/\k<w.heap.size
 go:∀{w c x O w'},C.St w c x O->Below w.heap.size w w'->C.St w' c x O
 range:∀{lo hi x n x'},C.num lo hi x=some (n,x')->lo<=n/\n<=hi
 PI:QJ C.tid C.Ml C.ptr
 aaT:abx C.tid C.Wq C.ptr
 number:∀{w c x O} (lo hi:Int),C.St w c x O->c<=40000->(lo=0/\hi<=65535\/lo=-32768/\hi=32767)->Calls Tryz.prog C.Ml #[.pointer (some C.ptr),.int .i64 lo,.int .i64 hi] w
  (YA C.er (C.No (C.num lo hi x=none)) (fun i w'=>∃x',C.num lo hi x=some (i,x')/\C.Lv O (c+1) x' w w'))
 text:∀{w c x O},C.St w c x O->c<=40000->Calls Tryz.prog C.Wq #[.pointer (some C.ptr)] w
  (KB C.er (C.No (C.txt x=none)) (fun w'=>∃x',C.txt x=some x'/\C.Lv O (c+1) x' w w'))
def Ff(C:BI σ)(r:Option σ)(O:Nat->Prop)(c:Nat)(w:World):Ending->World->Prop:=
 KB C.er (C.No (r=none)) (fun w'=>∃x',r=some x'/\C.Lv O c x' w w')
def TM(C:BI σ)(T:Value)(E:σ->Option σ)(M:Nat):Prop:=∀w c x O,C.St w c x O->c+M<=40000->Calls Tryz.prog 125 #[T,C.I] w (Ff C (E x) O (c+M) w)
theorem TM.mono{C:BI σ}{T:Value}{E:σ->Option σ}{M M':Nat}(h:TM C T E M)(hm:M<=M'):TM C T E M':=by
 intro w c x O hs hc;refine(h w c x O hs (by omega)).mono ?_;rintro e w' (h|⟨rfl,x',hx,c',O',hc',h1⟩)
 ·exact Or.inl h
 ·exact Or.inr ⟨rfl,x',hx,c',O',by omega,h1⟩
def CV(E:Nat->σ->Option σ):List Nat->σ->Option σ
 |[],x=>some x
 |q :: qs,x=>(E q x).bind (CV E qs)
theorem Km(E:Nat->σ->Option σ):∀(a b:List Nat) (x:σ),CV E (a++b) x=(CV E a x).bind (CV E b):=by
 intro a;induction a with
 |nil=>intro b x;rfl
 |cons q a ih=>
  intro b x;simp only[List.cons_append,CV];cases E q x with
  |none=>rfl
  |some y=>exact ih b y
theorem Va{E:Nat->σ->Option σ}{qs:List Nat}{k q:Nat}(h:qs[k]?=some q)(x:σ):CV E (qs.take (k+1)) x=(CV E (qs.take k) x).bind (E q):=by
 rw[List.take_add_one,h,Km];congr 1;funext y;simp only[Option.toList_some,CV];cases E q y<;>rfl
theorem U9{E:Nat->σ->Option σ}{qs:List Nat}{x:σ}{k:Nat}(h:CV E (qs.take k) x=none):CV E qs x=none:=by
 rw[<-List.take_append_drop k qs,Km,h];rfl
def Aw(num:Int->Int->σ->Option (Int×σ))(txt:σ->Option σ)(g:Nat->Nat):Nat->Nat->σ->Option σ
 |0,_,_=>none
 |f+1,p,x=>
  if g p=115 then txt x
  else if g p=97 then CV (Aw num txt g f) (List.replicate (g (p+1)-48) (p+2)) x
  else if g p=114 then CV (Aw num txt g f) (Pt.kids g f p) x
  else (num (CG (g p)) (BO g f p) x).bind fun r=>
   if g p=117 then Aw num txt g f (partOf (Pt.kids g f p) r.1) r.2
   else if g p=113 then CV (Aw num txt g f) (List.replicate r.1.toNat (p+2)) r.2
   else some r.2
structure Far(C:BI σ)(E:Nat->σ->Option σ)(qs:List Nat)(x:σ)(c M:Nat)(O:Nat->Prop)(w:World)(k:Nat)(w':World)(xk:σ)(c':Nat)(O':Nat->Prop):Prop where
 seq:CV E (qs.take k) x=some xk
 le:c'<=c+k*M
 st:C.St w' c' xk O'
 kept:Kept O O' w w'
def aal(C:BI σ)(E:Nat->σ->Option σ)(qs:List Nat)(x:σ)(c M:Nat)(O:Nat->Prop)(w:World)(k:Nat)(w':World):Prop:=∃xk c' O',Far C E qs x c M O w k w' xk c' O'
theorem O9{C:BI σ}{E:Nat->σ->Option σ}{qs:List Nat}{x:σ}{c M:Nat}{O:Nat->Prop}{w w' w1:World}{k q:Nat}{xk:σ}{c':Nat}{O':Nat->Prop}(h:Far C E qs x c M O w k w' xk c' O')(hq:qs[k]?=some q)(h1:Kept O' O' w' w1):
  ∀e w2,Ff C (E q xk) O' (c'+M) w1 e w2->KB C.er (C.No (CV E qs x=none)) (aal C E qs x c M O w (k+1)) e w2:=by
 have hb:CV E (qs.take (k+1)) x=E q xk:=by rw[Va hq,h.seq];rfl
 rintro e w2 (⟨rfl,hn,hw⟩|⟨rfl,x',hx,c2,O2,hc2,hs2,hk2⟩)
 ·exact Or.inl ⟨rfl,U9 (hb.trans hn),hw⟩
 ·refine Or.inr ⟨rfl,x',c2,O2,hb.trans hx,?_,hs2,h.kept.trans (h1.trans hk2)⟩;have:=h.le;rw[Nat.add_mul,Nat.one_mul];omega
theorem Mb{C:BI σ}(hC:I8 C){y0 y1:Int}{ya:Option Addr}{yn yk:Nat}{E:Nat->σ->Option σ}{q M:Nat}(HK:TM C (.agg #[.int .u8 y0,.int .i64 y1,.slice ya yn yk]) (E q) M)(n:Nat)(hn:n<=9){w:World}{c:Nat}{x:σ}{O:Nat->Prop}(hs:C.St w c x O)(hc:c+n*M<=40000):
  Calls Tryz.prog 193 #[.int .i64 n,.agg #[.int .u8 y0,.int .i64 y1,.slice ya yn yk],C.I] w (Ff C (CV E (List.replicate n q) x) O (c+n*M) w):=by
 have hb0:=(Below.refl w.heap.size w).alloc (Nat.le_refl _) (.cells #[.int .u8 y0,.int .i64 y1,.slice ya yn yk] 153);have hfr:¬O w.heap.size:=fun h=>by have:=(hC.fresh hs _ h).2;omega
 obtain⟨t0,t1,t2,_⟩:=(Fe.new w (.int .u8 y0) (.int .i64 y1) (.slice ya yn yk)).facts;refine(SQ C.tid C.er C.ptr w y0 y1 ya yn yk n (C.No (CV E (List.replicate n q) x=none)) (aal C E (List.replicate n q) x c M O (w.alloc (.cells #[.int .u8 y0,.int .i64 y1,.slice ya yn yk] 153))) hn ⟨x,c,O,rfl,by omega,hC.go hs hb0,Kept.refl _ _⟩ ?_).mono ?_
 ·rintro j w' hj ⟨xj,c',O',h⟩;have hlt:w.heap.size<(w.alloc (.cells #[.int .u8 y0,.int .i64 y1,.slice ya yn yk] 153)).heap.size:=by simp
  refine⟨(h.kept.cell hlt hfr).trans t0,(h.kept.cell hlt hfr).trans t1,(h.kept.cell hlt hfr).trans t2,?_⟩;refine(HK w' c' xj O' h.st ?_).mono (O9 h (q:=q) ?_ (Kept.refl _ _))
  ·have e1:(j+1)*M<=n*M:=Nat.mul_le_mul_right M hj;rw[Nat.add_mul,Nat.one_mul]at e1;have:=h.le;omega
  ·rw[List.getElem?_replicate,if_pos hj]
 ·rintro e w' (h|⟨rfl,x',c',O',h⟩)
  ·exact Or.inl h
  ·refine Or.inr ⟨rfl,x',?_,c',O',h.le,h.st,(Kept.of_below hb0).trans h.kept⟩;have:=h.seq;rw[List.take_of_length_le (by simp)]at this;exact this
theorem UX{w0:World}{S:Nat->Prop}{g:Nat->Nat}{f p:Nat}{c0 c1 c2:Value}(h:EN w0 S g (f+1) p c0 c1 c2):c0=.int .u8 (g p)/\c1=.int .i64 (Bl g p)/\∃va vc,c2=.slice va (Pt.kids g f p).length vc/\(∀j q,(Pt.kids g f p)[j]?=some q->∃gb y0 y1 ya yn yk,va=some ⟨gb,0,none⟩ /\
   (∀w,Below w0.heap.size w0 w->w.cell? ⟨gb,j*3,none⟩=some (.int .u8 y0)/\w.cell? ⟨gb,j*3+1,none⟩=some (.int .i64 y1)/\w.cell? ⟨gb,j*3+2,none⟩=some (.slice ya yn yk))/\EN w0 S g f q (.int .u8 y0) (.int .i64 y1) (.slice ya yn yk)):=by
 obtain⟨h0,h1,xs,ho,hi⟩:=h;obtain⟨va,vc,hc2⟩:∃a c,c2=.slice a (Pt.kids g f p).length c:=by
  rcases ho.1.2 with ⟨rfl,h0⟩|⟨gb,cap,cur,rfl,_⟩
  ·exact⟨none,0,by rw[h0]⟩
  ·exact⟨_,_,rfl⟩
 refine⟨h0,h1,va,vc,hc2,fun j q hq=>?_⟩;obtain⟨d0,d1,d2,a0,a1,a2,hr⟩:=hi j q hq;subst hc2;obtain⟨gb,rfl,hgb⟩:∃gb,va=some ⟨gb,0,none⟩/\gb<w0.heap.size:=by
  rcases ho.1.2 with ⟨hv,h0⟩|⟨gb,cap,cur,hv,_,hh,_⟩
  ·rw[List.eq_nil_of_length_eq_zero h0]at hq;cases hq
  ·cases hv;exact⟨gb,rfl,lt_of_block hh⟩
 have hcl:=ho.1.cells (g:=gb) rfl;have ad:∀o,(⟨gb,0,none⟩:Addr).add o=⟨gb,o,none⟩:=fun o=>by simp[Addr.add];omega
 obtain⟨⟨x0,rfl⟩,⟨x1,rfl⟩,⟨ea,en,ec,rfl⟩⟩:=Bp hr;refine⟨gb,x0,x1,ea,en,ec,rfl,fun w hb=>⟨?_,?_,?_⟩,hr⟩
 ·rw[hb.cell (p:=⟨gb,j*3,none⟩) hgb,<-ad,Nat.mul_comm];exact hcl _ _ a0
 ·rw[hb.cell (p:=⟨gb,j*3+1,none⟩) hgb,<-ad,Nat.mul_comm];exact hcl _ _ a1
 ·rw[hb.cell (p:=⟨gb,j*3+2,none⟩) hgb,<-ad,Nat.mul_comm];exact hcl _ _ a2
theorem le_top{l:List Nat}{a:Nat}(h:a∈l):a<=Pt.top l:=by
 induction l with
 |nil=>cases h
 |cons b l ih=>
  simp only[Pt.top];rcases List.mem_cons.1 h with rfl|h
  ·omega
  ·have:=ih h;omega
def JH(C:BI σ)(s:ByteArray)(f:Nat):Prop:=∀p S c0 c1 c2,EN C.w0 S (nx s) f p c0 c1 c2->Mi s f p->TM C (.agg #[c0,c1,c2]) (Aw C.num C.txt (nx s) f p) (10 ^ Pt.Eh (nx s) f p)
end Go.Proofs.YtblomippkddgiaaGreatDoor.V
