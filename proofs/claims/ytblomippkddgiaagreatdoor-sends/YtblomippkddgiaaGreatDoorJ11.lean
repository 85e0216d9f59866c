import Derived.Test.YtblomippkddgiaaGreatDoorJ10
import Derived.Lib.AppendStr
set_option maxRecDepth 100000
set_option maxHeartbeats 1000000
namespace Go.Proofs.YtblomippkddgiaaGreatDoor.V
open Go.RowKit
theorem Ss(S:ByteArray):Lib.strCells S=DF S.data.toList:=by
 unfold Lib.strCells DF;rfl
theorem OX{P:Program}(w:World)(base:Nat)(t u ty e:TypeId)(i:TypeInfo)(ht:P.underlying t=some (.slice e))(hu:P.underlying u=some .string)(hi:P.info? e=some i)(hz:i.zero=some (.int .u8 0))
  (hsize:i.size=1) (hby:i.bytes=1) (v:Value) (n:Nat) (xs:List Value) (hown:w.ownsRow base e 1 v n xs) (hn:1<=n) (s:ByteArray) (hsm:n+s.size<=100000000) (hbase:base<=w.heap.size):
  ∃v' w',(Builtin.append_ #[t,u] ty #[v,.string s]).run P w=.ok v' w'/\w'.ownsRow base e 1 v' (n+s.size) (xs++Lib.strCells s)/\w.grownBy w' v.ownBlock/\(v'.ownBlock=v.ownBlock\/v'.ownBlock=some w.heap.size):=by
 obtain⟨v',w',hr,h2,h3,h4⟩:=Lib.run_append_own_string (P:=P) w base t u ty e i ht hu hi hz hsize hby v n xs hown s (by unfold maxLen;omega) (by omega) hbase;refine⟨v',w',hr,h2,h3,?_⟩;have hxl:xs.length=n:=by simpa using hown.1
 have hcl:=fun g=>hown.cells (g:=g)
 rcases hown.2 with ⟨_,h0⟩|⟨g,cap,cur,rfl,hbg,hg,hnc,hcm,hcs,htake⟩
 ·omega
 ·by_cases hroom:n+s.size<=cap
  ·have hcs':cur.size=cap:=by simpa using hcs
   have hr2:=Lib.run_append_room_string (P:=P) w t u ty e i ht hu hi hsize g n cap cur hg s hroom (by omega);rw[hr]at hr2;cases hr2;exact Or.inl rfl
  ·have hr2:=Lib.run_append_grow_string (P:=P) w t u ty e i (.int .u8 0) ht hu hi hz ⟨g,0,none⟩ n cap xs (by rw[hsize];simpa using hxl) (hcl g rfl) s (by omega) (by omega) (by rw[hby];exact growslice_fits (by omega) (by omega));rw[hr]at hr2;cases hr2;exact Or.inr rfl
theorem Ir{P:Program}{ops:Array Oper}{o:Oper}{a:Act}{w:World}{K:Act->World->Prop}{Q:Exit->Act->World->Prop}{E:Prop}
  (hgd:o.guard=none) (sl x:Operand) (t u:TypeId) (ho:o.op=.call {callee:=.builtin .append,args:=#[sl,x],argTypes:=#[t,u]})
  (base:Nat) (e:TypeId) (i:TypeInfo) (ht:P.underlying t=some (.slice e)) (hu:P.underlying u=some .string) (hi:P.info? e=some i) (hz:i.zero=some (.int .u8 0))
  (hsize:i.size=1) (hby:i.bytes=1) (v:Value) (n:Nat) (xs:List Value) (hs:a.eval sl=v) (hown:w.ownsRow base e 1 v n xs) (hn:1<=n) (s:ByteArray) (hx:a.eval x=.string s) (hsm:n+s.size<=100000000) (hbase:base<=w.heap.size)
  (h:∀v' w',w'.ownsRow base e 1 v' (n+s.size) (xs++Lib.strCells s)->w.grownBy w' v.ownBlock->(v'.ownBlock=v.ownBlock\/v'.ownBlock=some w.heap.size)->K (a.put o.dst v') w'):
  if Region.wanted o (yielded ops a.tmps)=true then Oper.wp P o a w K Q else E:=by
 have hw:Region.wanted o (yielded ops a.tmps)=true:=by simp[Region.wanted,hgd]
 rw[if_pos hw];obtain⟨v',w',hr,h2,h3,h4⟩:=OX (P:=P) w base t u o.type e i ht hu hi hz hsize hby v n xs hown hn s hsm hbase;unfold Oper.wp;simp[execOp,ho,resolve,invoke,builtin,hs,hx,hr,Result.andThen];exact h v' w' h2 h3 h4
theorem VL{w0 w w1:World}{L O O1:Value}{v:List It}{out news:List UInt8}(h:WS w0 w L v O out)(hown:w1.ownsRow (w0.heap.size+1) 5 1 O1 (out.length+news.length) (DF out++DF news))(hg:w.grownBy w1 O.ownBlock)(hat:O1.ownBlock=O.ownBlock\/O1.ownBlock=some w.heap.size):
  Wr w1 w0.heap.size L O/\WS w0 (w1.setCell ⟨w0.heap.size,1,none⟩ O1) L v O1 (out++news)/\Wk w0.heap.size O O1 w (w1.setCell ⟨w0.heap.size,1,none⟩ O1):=by
 have hlt:=h.wr.lt;have hs1:=hg.size;have keep:∀k,k<w.heap.size->O.ownBlock≠some k->w1.heap[k]?=w.heap[k]?:=fun k hk hr=>hg.block k hk (fun e=>hr e.symm)
 have hrow:∀k,O.ownBlock=some k->w0.heap.size<k:=fun k hk=>(h.row hk).1
 have hwr:Wr w1 w0.heap.size L O:=by
  have:=h.wr;unfold Wr at this ⊢;rw[keep _ hlt (fun e=>by have:=hrow _ e;omega)];exact this
 refine⟨hwr,⟨hwr.set1 O1,h.items,?_,?_⟩,⟨by simp;omega,fun k hk hkb hr=>?_,?_⟩⟩
 ·exact(h.below.grown hg (by omega) (fun k hk=>by have:=hrow k hk;omega)).setCell (by simp) _
 ·have:=Lf (k:=w0.heap.size) (o:=1) (x:=O1) hown (by omega);rw[List.length_append];unfold DF at this ⊢;rw[List.map_append];exact this
 ·rw[Below.heap_setCell _ _ _ _ (by simpa using hkb)];exact keep k hk hr
 ·rcases hat with h1|h1
  ·exact Or.inl h1
  ·exact Or.inr ⟨_,h1,by omega⟩
theorem Rb(n:Nat)(w:World)(hn:n<=14):Calls Tryz.prog 284 #[.int .i64 n] w fun e w'=>e=.returned (.bool (n % 2==1))/\w'=w:=by
 have e:((n % 2==1:Bool))=(((n:Int) % 2==1:Bool)):=by
  rw[Bool.eq_iff_iff];simp;omega
 rw[e];go_enter Tryz.func284,Tryz.ntmps284;go_wp2
 go_ret
 exact⟨rfl,rfl⟩
theorem Xq(w0 w:World)(L O:Value)(x:It)(v:List It)(out:List UInt8)(h:WS w0 w L (x :: v) O out)(hn:v.length<=9000000000000)(hN:x.1=0)(hS:x.2.size<=14)(hol:out.length<=1000000):
  Calls Tryz.prog 282 #[.pointer (some ⟨w0.heap.size,0,none⟩)] w fun e w'=>e=.returned (.tuple #[])/\∃L' O',WS w0 w' L' v O' (out++G6 true x)/\Wk w0.heap.size O O' w w':=by
 have H1:=Ab (Fb w0 w L O x v out h hn);clear h;obtain⟨N,S⟩:=x;simp only at H1 hS hN ⊢;subst hN;have hSI:¬(14:Int)<(S.size:Int):=by omega
 have HOD:=Ab (fun w=>Rb S.size w hS);have HEN:Hid (G6 true (0,S)=AF (S.size:Int)++(S.data.toList++(if S.size % 2=1 then [0] else []))):=rfl;go_enter Tryz.func282,Tryz.ntmps282;go_wp2_with fail
 refine(Aa H1).mono ?_;rintro e w1 ⟨rfl,L',hws,hwk⟩;have hws2:=hws.go ((Below.refl w1.heap.size w1).alloc (Nat.le_refl _) (.cells #[.int .i64 0,.string S] 106));have H2:=Ab (H9 w0 _ L' O v out (S.size:Int) hws2.drew hol);have hrow:O.ownBlock≠some w1.heap.size:=fun e=>by have:=(hws.row e).2;omega
 have hbz:=hws.wr.lt;have hout:=hws2.wr.out;have HWK:=Ab hwk;obtain⟨sa,sn,sc,hsO⟩:=Am hws2.own;subst hsO;clear hws hwk hws2;go_wp2_with fail
 go_region_with ((go_at_call 186;refine(Aa H2).mono ?_;rintro e w2 ⟨ta,tn,tc,rfl,hwr3,hws3,hwk3⟩;have t1:=hwr3.out;have t2:=hwr3.MY))
 all_goals
  clear hwr3 t1 t2;generalize w2.setCell ⟨w0.heap.size,1,none⟩ (.slice ta tn tc)=W2 at *;have c1:W2.cell? ⟨w1.heap.size,1,none⟩=some (.string S):=(hwk3.cell (by simp) (by omega) hrow).trans (by simp[go_sem]);have hm2:w1.heap.size<W2.heap.size:=by have:=hwk3.size;simp at this;omega
  have hroW2:(Value.slice ta tn tc).ownBlock≠some w1.heap.size:=by
   intro e;rcases hwk3.row with h|⟨g,h,hg⟩
   ·exact hrow (h.symm.trans e)
   ·rw[e]at h;cases h;simp at hg;omega
  have HK3:=Ab ((Aa HWK).trans ((Wk.of_below (((Below.refl w1.heap.size w1).alloc (Nat.le_refl _) (.cells #[.int .i64 0,.string S] 106)).drew)).trans hwk3));have hO2:=hws3.wr.out;have HWS:=Ab hws3;have hw0:=hws3.wr.lt;have hl2:(AF (S.size:Int)).length=2:=rfl;obtain⟨i0,hi,hz0,hz1,hz2⟩:=info_parts info5;clear hws3 hwk3 H2 H1 HWK hout;go_wp2_with fail
  go_region_law (refine Ir rfl (.tmp 31) (.tmp 33) 199 9 rfl (w0.heap.size+1) 5 i0 Tryz.underlying199 Tryz.underlying9 hi hz0 hz1 hz2 _ (out++AF (S.size:Int)).length (DF (out++AF (S.size:Int))) rfl (by exact(Aa HWS).own) (by simp;omega) S rfl (by rw[List.length_append];omega) (by exact hw0) ?_;intro v' wz hown hgrow hat;obtain⟨va,vn,vc,hvs⟩:=Am hown;subst hvs;have hpush:=VL (news:=S.data.toList) (Aa HWS).drew (by rw[<-Ss];simpa using hown) hgrow hat;obtain⟨hwr,hws4,hwk4⟩:=hpush;have k1:=hwr.out;have k2:=hwr.MY)
  all_goals
   have d1:=(hwk4.cell (o:=1) (by exact hm2) (by omega) hroW2).trans c1;have HW4:=Ab hws4;have HK4:=Ab ((Aa HK3).trans ((Wk.of_below ((Below.refl W2.heap.size W2).drew)).trans hwk4));have o4:=hws4.wr.out;have z4:=hws4.wr.MY;have l4:=hws4.wr.lt;clear hwr hws4 hwk4 k1 k2 hown hgrow hat HWS HK3 c1 hO2 hm2 hroW2 hrow;generalize wz.setCell {block:=w0.heap.size,off:=1} (Value.slice va vn vc)=W4 at *;by_cases hodd:S.size % 2=1
   ·have ho:(S.size % 2==1)=true:=by simp[hodd]
    rw[ho]at HOD;rw[if_pos hodd]at HEN;clear hodd ho;obtain⟨acc,hacc⟩:∃acc,acc=out++AF (S.size:Int)++S.data.toList:=⟨_,rfl⟩;have hal:acc.length<=1000100:=by
     have e2:S.data.toList.length=S.size:=Array.length_toList;rw[hacc,List.length_append,List.length_append,hl2,e2];omega
    rw[<-hacc]at HW4;have HACC:=Ab hacc;clear hacc;go_wp2_with fail
    refine((Aa HOD) _).mono ?_;rintro e w5 ⟨rfl,rfl⟩;go_wp2_with (at_builtin;refine wpList_append_own_at _ rfl (.tmp 45) (.tmp 46) 199 rfl (w0.heap.size+1) 5 i0 (.int .u8 0) 1 1 Tryz.underlying199 hi hz0 hz1 hz2 rfl (by decide) _ acc.length (DF acc) rfl (by exact(Aa HW4).own.alloc _) ⟨w5.heap.size,0,none⟩ 1 1 (DF [0]) rfl rfl (by exact cell_one_new _ _ _) (by exact GN _) (by unfold maxLen;omega) (by omega) (by simp;omega) ?_)
    intro O5 w6 hown5 hgrow5 _ hat5;obtain⟨ta,tn,tc,hts⟩:=Am hown5;subst hts;obtain⟨hwr5,hws5,hwk5⟩:=Qq (news:=[0]) (Aa HW4) hown5 hgrow5 (by simpa using hat5);have k1:=hwr5.out;have k2:=hwr5.MY;have HW5:=Ab hws5;have HK5:=Ab ((Aa HK4).trans hwk5);clear hown5 hgrow5 hat5 hwr5 hws5 hwk5;go_wp2
    go_end0
    refine⟨rfl,L',_,?_,Aa HK5⟩;rw[Aa HEN,<-List.append_assoc,<-List.append_assoc,<-Aa HACC];exact Aa HW5
   ·have ho:(S.size % 2==1)=false:=by simp[hodd]
    rw[ho]at HOD;rw[if_neg hodd,List.append_nil]at HEN;clear hodd ho;go_wp2_with fail
    refine((Aa HOD) _).mono ?_;rintro e w5 ⟨rfl,rfl⟩;go_wp2
    go_end0
    refine⟨rfl,L',_,?_,Aa HK4⟩;rw[Aa HEN,<-List.append_assoc];exact Aa HW4
theorem SI(w0 w:World)(L O:Value)(out:List UInt8)(h:WS w0 w L [] O out):
  Calls Tryz.prog 282 #[.pointer (some ⟨w0.heap.size,0,none⟩)] w fun e w'=>e=A5 4 0/\Below w0.heap.size w0 w':=by
 obtain⟨a,cap,hL,_,_⟩:=h.items;subst hL;have H1:=Ab (P7 w0.heap.size a cap O w h.wr);have hb:=h.below;clear h;go_enter Tryz.func282,Tryz.ntmps282;go_wp2_with fail
 refine(Aa H1).mono ?_;rintro e w1 ⟨rfl,hb1⟩;go_wp2;exact⟨rfl,rfl,hb.trans (hb1.mono hb.size)⟩
theorem SE(w0 w:World)(L O:Value)(x:It)(v:List It)(out:List UInt8)(h:WS w0 w L (x :: v) O out)(hn:v.length<=9000000000000)(hN:(x.1 != 0)=true):
  Calls Tryz.prog 282 #[.pointer (some ⟨w0.heap.size,0,none⟩)] w fun e w'=>e=A5 4 0/\Below w0.heap.size w0 w':=by
 have H1:=Ab (Fb w0 w L O x v out h hn);have HN:=Ab CM;clear h;obtain⟨N,S⟩:=x;simp only at H1 hN;go_enter Tryz.func282,Tryz.ntmps282;go_wp2_with fail
 refine(Aa H1).mono ?_;rintro e w1 ⟨rfl,L',hws,hwk⟩;have hb:=hws.below;have hbz:=hb.size;clear hws hwk;go_wp2_with fail
 refine((Aa HN) _).mono ?_;rintro e w2 ⟨rfl,hb2⟩;go_wp2;exact⟨rfl,rfl,(hb.alloc (by omega) _).trans (hb2.mono (by simp;omega))⟩
theorem SG(w0 w:World)(L O:Value)(x:It)(v:List It)(out:List UInt8)(h:WS w0 w L (x :: v) O out)(hn:v.length<=9000000000000)(hN:(x.1 != 0)=false)(hS:(14:Int)<(x.2.size:Int)):
  Calls Tryz.prog 282 #[.pointer (some ⟨w0.heap.size,0,none⟩)] w fun e w'=>e=A5 4 0/\Below w0.heap.size w0 w':=by
 have H1:=Ab (Fb w0 w L O x v out h hn);have HN:=Ab CM;clear h;obtain⟨N,S⟩:=x;simp only at H1 hN hS;go_enter Tryz.func282,Tryz.ntmps282;go_wp2_with fail
 refine(Aa H1).mono ?_;rintro e w1 ⟨rfl,L',hws,hwk⟩;have hb:=hws.below;have hbz:=hb.size;clear hws hwk;go_wp2_with fail
 refine((Aa HN) _).mono ?_;rintro e w2 ⟨rfl,hb2⟩;go_wp2;exact⟨rfl,rfl,(hb.alloc (by omega) _).trans (hb2.mono (by simp;omega))⟩
abbrev BP(c:Int)(x1:Int)(a:Option Addr)(n k:Nat):Obj:=.cells #[.int .u8 c,.int .i64 x1,.slice a n k] 153
def JM(er:Nat)(A B:World->Prop)(e:Ending)(w:World):Prop:=(e=A5 er 0/\A w)\/(e=.returned (.tuple #[])/\B w)
def XG(er:Nat)(A:World->Prop)(B:Int->World->Prop)(e:Ending)(w:World):Prop:=(e=A5 er 0/\A w)\/∃i,e=.returned (.int .i64 i)/\B i w
def Nf (tid fn : Nat) (ptr : Addr) : Prop := (∀ w, (method 460 tid (.pointer (some ptr)) "errand/value.number").run Tryz.prog w = .ok (fn, .pointer (some ptr)) w) ∧ ∀ args w, (callFunc fn args).run Tryz.prog w = .ok (.enter fn args) w
def Zi (tid fn : Nat) (ptr : Addr) : Prop := (∀ w, (method 460 tid (.pointer (some ptr)) "errand/value.text").run Tryz.prog w = .ok (fn, .pointer (some ptr)) w) ∧ ∀ args w, (callFunc fn args).run Tryz.prog w = .ok (.enter fn args) w
theorem YY(tid fn er:Nat)(ptr:Addr)(hm:Nf tid fn ptr)(w:World)(x1:Int)(a0:Option Addr)(n0 k0:Nat)(A:World->Prop)(B:Int->World->Prop)
  (HN:Calls Tryz.prog fn #[.pointer (some ptr),.int .i64 0,.int .i64 1] (w.alloc (BP 98 x1 a0 n0 k0)) (XG er A B)):
  Calls Tryz.prog 125 #[.agg #[.int .u8 98,.int .i64 x1,.slice a0 n0 k0],.iface tid (.pointer (some ptr))] w (JM er A fun w'=>∃i,B i w'):=by
 obtain⟨hm1,hm2⟩:=hm;have HNN:=Ab HN;clear HN;go_enter Tryz.func125,Tryz.ntmps125;go_wp2_with fail
 refine(Aa HNN).mono ?_;rintro e w1 (⟨rfl,hA⟩|⟨i,rfl,hB⟩)
 ·go_wp2;exact⟨rfl,Or.inl ⟨rfl,hA⟩⟩
 ·go_wp2
  go_end0
  exact Or.inr ⟨rfl,i,hB⟩
theorem YZ(tid fn er:Nat)(ptr:Addr)(hm:Nf tid fn ptr)(w:World)(x1:Int)(a0:Option Addr)(n0 k0:Nat)(A:World->Prop)(B:Int->World->Prop)
  (HN:Calls Tryz.prog fn #[.pointer (some ptr),.int .i64 0,.int .i64 65535] (w.alloc (BP 99 x1 a0 n0 k0)) (XG er A B)):
  Calls Tryz.prog 125 #[.agg #[.int .u8 99,.int .i64 x1,.slice a0 n0 k0],.iface tid (.pointer (some ptr))] w (JM er A fun w'=>∃i,B i w'):=by
 obtain⟨hm1,hm2⟩:=hm;have HNN:=Ab HN;clear HN;go_enter Tryz.func125,Tryz.ntmps125;go_wp2_with fail
 refine(Aa HNN).mono ?_;rintro e w1 (⟨rfl,hA⟩|⟨i,rfl,hB⟩)
 ·go_wp2;exact⟨rfl,Or.inl ⟨rfl,hA⟩⟩
 ·go_wp2
  go_end0
  exact Or.inr ⟨rfl,i,hB⟩
theorem Y1(tid fn er:Nat)(ptr:Addr)(hm:Nf tid fn ptr)(w:World)(x1:Int)(a0:Option Addr)(n0 k0:Nat)(A:World->Prop)(B:Int->World->Prop)
  (HN:Calls Tryz.prog fn #[.pointer (some ptr),.int .i64 (-32768),.int .i64 32767] (w.alloc (BP 105 x1 a0 n0 k0)) (XG er A B)):
  Calls Tryz.prog 125 #[.agg #[.int .u8 105,.int .i64 x1,.slice a0 n0 k0],.iface tid (.pointer (some ptr))] w (JM er A fun w'=>∃i,B i w'):=by
 obtain⟨hm1,hm2⟩:=hm;have HNN:=Ab HN;clear HN;go_enter Tryz.func125,Tryz.ntmps125;go_wp2_with fail
 refine(Aa HNN).mono ?_;rintro e w1 (⟨rfl,hA⟩|⟨i,rfl,hB⟩)
 ·go_wp2;exact⟨rfl,Or.inl ⟨rfl,hA⟩⟩
 ·go_wp2
  go_end0
  exact Or.inr ⟨rfl,i,hB⟩
theorem Y0(tid fn er:Nat)(ptr:Addr)(hm:Nf tid fn ptr)(w:World)(x1:Int)(a0:Option Addr)(n0 k0:Nat)(A:World->Prop)(B:Int->World->Prop)(hx:0<=x1/\x1<=9)
  (HN:Calls Tryz.prog fn #[.pointer (some ptr),.int .i64 0,.int .i64 (x1-1)] (w.alloc (BP 101 x1 a0 n0 k0)) (XG er A B)):
  Calls Tryz.prog 125 #[.agg #[.int .u8 101,.int .i64 x1,.slice a0 n0 k0],.iface tid (.pointer (some ptr))] w (JM er A fun w'=>∃i,B i w'):=by
 obtain⟨hm1,hm2⟩:=hm;have HNN:=Ab HN;clear HN;go_enter Tryz.func125,Tryz.ntmps125;go_wp2_with fail
 refine(Aa HNN).mono ?_;rintro e w1 (⟨rfl,hA⟩|⟨i,rfl,hB⟩)
 ·go_wp2;exact⟨rfl,Or.inl ⟨rfl,hA⟩⟩
 ·go_wp2
  go_end0
  exact Or.inr ⟨rfl,i,hB⟩
theorem Y4(tid fn er:Nat)(ptr:Addr)(hm:Zi tid fn ptr)(w:World)(x1:Int)(a0:Option Addr)(n0 k0:Nat)(A B:World->Prop)
  (HN:Calls Tryz.prog fn #[.pointer (some ptr)] (w.alloc (BP 115 x1 a0 n0 k0)) (JM er A B)):
  Calls Tryz.prog 125 #[.agg #[.int .u8 115,.int .i64 x1,.slice a0 n0 k0],.iface tid (.pointer (some ptr))] w (JM er A B):=by
 obtain⟨hm1,hm2⟩:=hm;have HNN:=Ab HN;clear HN;go_enter Tryz.func125,Tryz.ntmps125;go_wp2_with fail
 refine(Aa HNN).mono ?_;rintro e w1 (⟨rfl,hA⟩|⟨rfl,hB⟩)
 ·go_wp2;exact⟨rfl,Or.inl ⟨rfl,hA⟩⟩
 ·go_wp2
  go_end0
  exact Or.inr ⟨rfl,hB⟩
theorem YX(tid er:Nat)(ptr:Addr)(w:World)(x1:Int)(g n0 k0:Nat)(y0 y1:Int)(ya:Option Addr)(yn yk:Nat)(A B:World->Prop)(hn:0<n0)
  (f0:∀o,(w.alloc o).cell? ⟨g,0,none⟩=some (.int .u8 y0)) (f1:∀o,(w.alloc o).cell? ⟨g,1,none⟩=some (.int .i64 y1)) (f2:∀o,(w.alloc o).cell? ⟨g,2,none⟩=some (.slice ya yn yk))
  (HT:Calls Tryz.prog 193 #[.int .i64 x1,.agg #[.int .u8 y0,.int .i64 y1,.slice ya yn yk],.iface tid (.pointer (some ptr))] (w.alloc (BP 97 x1 (some ⟨g,0,none⟩) n0 k0)).drew (JM er A B)):
  Calls Tryz.prog 125 #[.agg #[.int .u8 97,.int .i64 x1,.slice (some ⟨g,0,none⟩) n0 k0],.iface tid (.pointer (some ptr))] w (JM er A B):=by
 have HTT:=Ab HT;clear HT;go_enter Tryz.func125,Tryz.ntmps125;go_wp2_with fail
 go_region_with (go_at_call 193;refine(Aa HTT).mono ?_;rintro e w1 (⟨rfl,hA⟩|⟨rfl,hB⟩);focus (go_wp2;exact⟨rfl,Or.inl ⟨rfl,hA⟩⟩))
 all_goals
  go_wp2
  go_end0
  exact Or.inr ⟨rfl,hB⟩
theorem Y2(tid fn er:Nat)(ptr:Addr)(hm:Nf tid fn ptr)(w:World)(x1:Int)(g n0 k0:Nat)(y0 y1:Int)(ya:Option Addr)(yn yk:Nat)(A B:World->Prop)(N:Int->World->Prop)(hn:0<n0)
  (HN:Calls Tryz.prog fn #[.pointer (some ptr),.int .i64 0,.int .i64 x1] (w.alloc (BP 113 x1 (some ⟨g,0,none⟩) n0 k0)) (XG er A N))
  (hN:∀i w',N i w'->w'.cell? ⟨w.heap.size,2,none⟩=some (.slice (some ⟨g,0,none⟩) n0 k0)/\w'.cell? ⟨g,0,none⟩=some (.int .u8 y0)/\w'.cell? ⟨g,1,none⟩=some (.int .i64 y1)/\w'.cell? ⟨g,2,none⟩=some (.slice ya yn yk) /\
   Calls Tryz.prog 193 #[.int .i64 i,.agg #[.int .u8 y0,.int .i64 y1,.slice ya yn yk],.iface tid (.pointer (some ptr))] w' (JM er A B)):
  Calls Tryz.prog 125 #[.agg #[.int .u8 113,.int .i64 x1,.slice (some ⟨g,0,none⟩) n0 k0],.iface tid (.pointer (some ptr))] w (JM er A B):=by
 obtain⟨hm1,hm2⟩:=hm;have HNN:=Ab HN;have HNT:=Ab hN;clear HN hN;go_enter Tryz.func125,Tryz.ntmps125;go_wp2_with fail
 refine(Aa HNN).mono ?_;rintro e w1 (⟨rfl,hA⟩|⟨i,rfl,hB⟩)
 ·go_wp2;exact⟨rfl,Or.inl ⟨rfl,hA⟩⟩
 ·obtain⟨b2,f0,f1,f2,hT⟩:=(Aa HNT) i w1 hB;have HTT:=Ab hT;clear hT hB;go_wp2_with fail
  refine(Aa HTT).mono ?_;rintro e w2 (⟨rfl,hA⟩|⟨rfl,hB⟩)
  ·go_wp2;exact⟨rfl,Or.inl ⟨rfl,hA⟩⟩
  ·go_wp2
   go_end0
   exact Or.inr ⟨rfl,hB⟩
theorem Y7(tid fn er:Nat)(ptr:Addr)(hm:Nf tid fn ptr)(w:World)(x1:Int)(g n0 k0:Nat)(A B:World->Prop)(N:Nat->World->Prop)(hn:n0<=6)
  (HN:Calls Tryz.prog fn #[.pointer (some ptr),.int .i64 0,.int .i64 ((n0:Int)-1)] (w.alloc (BP 117 x1 (some ⟨g,0,none⟩) n0 k0)) (XG er A fun i w'=>∃j:Nat,i=j/\j<n0/\N j w'))
  (hN:∀j w',N j w'->∃y0 y1 ya yn yk,w'.cell? ⟨w.heap.size,2,none⟩=some (.slice (some ⟨g,0,none⟩) n0 k0)/\w'.cell? ⟨g,j*3,none⟩=some (.int .u8 y0)/\w'.cell? ⟨g,j*3+1,none⟩=some (.int .i64 y1)/\w'.cell? ⟨g,j*3+2,none⟩=some (.slice ya yn yk) /\
   Calls Tryz.prog 125 #[.agg #[.int .u8 y0,.int .i64 y1,.slice ya yn yk],.iface tid (.pointer (some ptr))] w' (JM er A B)):
  Calls Tryz.prog 125 #[.agg #[.int .u8 117,.int .i64 x1,.slice (some ⟨g,0,none⟩) n0 k0],.iface tid (.pointer (some ptr))] w (JM er A B):=by
 obtain⟨hm1,hm2⟩:=hm;have HNN:=Ab HN;have HNT:=Ab hN;clear HN hN;go_enter Tryz.func125,Tryz.ntmps125;go_wp2_with fail
 refine(Aa HNN).mono ?_;rintro e w1 (⟨rfl,hA⟩|⟨i,rfl,j,rfl,hj,hB⟩)
 ·go_wp2;exact⟨rfl,Or.inl ⟨rfl,hA⟩⟩
 ·obtain⟨y0,y1,ya,yn,yk,b2,f0,f1,f2,hT⟩:=(Aa HNT) j w1 hB;have HTT:=Ab hT;clear hT hB;go_wp2_with fail
  refine(Aa HTT).mono ?_;rintro e w2 (⟨rfl,hA⟩|⟨rfl,hB⟩)
  ·go_wp2;exact⟨rfl,Or.inl ⟨rfl,hA⟩⟩
  ·go_wp2
   go_end0
   exact Or.inr ⟨rfl,hB⟩
theorem Y3(tid er:Nat)(ptr:Addr)(w:World)(x1:Int)(va:Option Addr)(n0 k0:Nat)(A:World->Prop)(I:Nat->World->Prop)(hn:n0<=6)(h0:I 0 (w.alloc (BP 114 x1 va n0 k0)))
  (hI:∀j w',j<n0->I j w'->∃g y0 y1 ya yn yk,va=some ⟨g,0,none⟩/\w'.cell? ⟨g,j*3,none⟩=some (.int .u8 y0)/\w'.cell? ⟨g,j*3+1,none⟩=some (.int .i64 y1)/\w'.cell? ⟨g,j*3+2,none⟩=some (.slice ya yn yk) /\
   Calls Tryz.prog 125 #[.agg #[.int .u8 y0,.int .i64 y1,.slice ya yn yk],.iface tid (.pointer (some ptr))] (w'.alloc (.cells #[.int .u8 y0,.int .i64 y1,.slice ya yn yk] 153)) (JM er A (I (j+1)))):
  Calls Tryz.prog 125 #[.agg #[.int .u8 114,.int .i64 x1,.slice va n0 k0],.iface tid (.pointer (some ptr))] w (JM er A (I n0)):=by
 have H0:=Ab h0;have HII:=Ab hI;clear h0 hI;go_enter Tryz.func125,Tryz.ntmps125;go_wp2;go_loopw [61] (fun i wr=>∃k:Nat,k<=n0/\i=.int .i64 k/\I k wr) (fun i _=>n0-(intOf i).toNat)
 case atStart=>exact⟨0,Nat.zero_le _,rfl,Aa H0⟩
 case round=>
  obtain⟨k,hk,rfl,hIk⟩:=hrel;by_cases hlt:k<n0
  ·obtain⟨g,y0,y1,ya,yn,yk,rfl,f0,f1,f2,hT⟩:=(Aa HII) k wr hlt hIk;have HTT:=Ab hT;clear hT hIk;go_wp2_with fail
   refine(Aa HTT).mono ?_;rintro e w2 (⟨rfl,hA⟩|⟨rfl,hB⟩)
   ·go_wp2;exact⟨rfl,Or.inl ⟨rfl,hA⟩⟩
   ·have HB:=Ab hB;clear hB f0 f1 f2;go_wp2;go_roundw
    case rel=>exact⟨k+1,by omega,by go_num,Aa HB⟩
    case measure=>simp[intOf];omega
  ·obtain rfl:k=n0:=by omega
   have HB:=Ab hIk;clear hIk;go_wp2
   go_end0
   exact Or.inr ⟨rfl,Aa HB⟩
theorem Pz(tid er:Nat)(ptr:Addr)(w:World)(y0 y1:Int)(ya:Option Addr)(yn yk n:Nat)(A:World->Prop)(I:Nat->World->Prop)(hn:n<=9)(h0:I 0 (w.alloc (.cells #[.int .u8 y0,.int .i64 y1,.slice ya yn yk] 153)))
  (hI:∀j w',j<n->I j w'->w'.cell? ⟨w.heap.size,0,none⟩=some (.int .u8 y0)/\w'.cell? ⟨w.heap.size,1,none⟩=some (.int .i64 y1)/\w'.cell? ⟨w.heap.size,2,none⟩=some (.slice ya yn yk) /\
   Calls Tryz.prog 125 #[.agg #[.int .u8 y0,.int .i64 y1,.slice ya yn yk],.iface tid (.pointer (some ptr))] w' (JM er A (I (j+1)))):
  Calls Tryz.prog 193 #[.int .i64 n,.agg #[.int .u8 y0,.int .i64 y1,.slice ya yn yk],.iface tid (.pointer (some ptr))] w (JM er A (I n)):=by
 have H0:=Ab h0;have HII:=Ab hI;clear h0 hI;go_enter Tryz.func193,Tryz.ntmps193;go_wp2;go_loopw [7] (fun i wr=>∃k:Nat,k<=n/\i=.int .i64 k/\I k wr) (fun i _=>n-(intOf i).toNat)
 case atStart=>exact⟨0,Nat.zero_le _,rfl,Aa H0⟩
 case round=>
  obtain⟨k,hk,rfl,hIk⟩:=hrel;by_cases hlt:k<n
  ·obtain⟨f0,f1,f2,hT⟩:=(Aa HII) k wr hlt hIk;have HTT:=Ab hT;clear hT hIk;go_wp2_with fail
   refine(Aa HTT).mono ?_;rintro e w2 (⟨rfl,hA⟩|⟨rfl,hB⟩)
   ·go_wp2;exact⟨rfl,Or.inl ⟨rfl,hA⟩⟩
   ·have HB:=Ab hB;clear hB f0 f1 f2;go_wp2;go_roundw
    case rel=>exact⟨k+1,by omega,by go_num,Aa HB⟩
    case measure=>simp[intOf];omega
  ·obtain rfl:k=n:=by omega
   have HB:=Ab hIk;clear hIk;go_wp2
   go_end0
   exact Or.inr ⟨rfl,Aa HB⟩
end Go.Proofs.YtblomippkddgiaaGreatDoor.V
