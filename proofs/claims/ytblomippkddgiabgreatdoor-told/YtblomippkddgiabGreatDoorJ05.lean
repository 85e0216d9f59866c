import Derived.Test.YtblomippkddgiabGreatDoorJ04
import Derived.Lib.AppendStr
set_option maxRecDepth 100000
set_option maxHeartbeats 1000000
namespace Go.Proofs.YtblomippkddgiabGreatDoor.V
open Go.RowKit
variable {qs:List Nat}{M c k:Nat}{O O':Nat→Prop}{w w' w0 w1:World}
theorem Xa(S:ByteArray):Lib.strCells S=DT S.data.toList:=by
 unfold Lib.strCells DT;rfl
theorem T6{P:Program}(w:World)(base:Nat)(t u ty e:TypeId)(i:TypeInfo)(ht:P.underlying t=some (.slice e))(hu:P.underlying u=some .string)(hi:P.info? e=some i)(hz:i.zero=some (.int .u8 0))
  (aa:i.size=1) (ag:i.bytes=1) (v:Value) (n:Nat) (xs:List Value) (ab:w.ownsRow base e 1 v n xs) (hn:1<=n) (s:ByteArray) (ap:n+s.size<=100000000) (ac:base<=w.heap.size):
  ∃v' w',(Builtin.append_ #[t,u] ty #[v,.string s]).run P w=.ok v' w'/\w'.ownsRow base e 1 v' (n+s.size) (xs++Lib.strCells s)/\w.grownBy w' v.ownBlock/\(v'.ownBlock=v.ownBlock\/v'.ownBlock=some w.heap.size):=by
 obtain⟨v',w',hr,h2,h3,h4⟩:=Lib.run_append_own_string (P:=P) w base t u ty e i ht hu hi hz aa ag v n xs ab s (by unfold maxLen;omega) (by omega) ac;refine⟨v',w',hr,h2,h3,?_⟩;have al:xs.length=n:=by simpa using ab.1
 have ai:=fun g=>ab.cells (g:=g)
 rcases ab.2 with ⟨_,h0⟩|⟨g,cap,af,rfl,am,hg,ao,an,aj,ah⟩
 ·omega
 ·by_cases ae:n+s.size<=cap
  ·have ak:af.size=cap:=by simpa using aj
   have ad:=Lib.run_append_room_string (P:=P) w t u ty e i ht hu hi aa g n cap af hg s ae (by omega);rw[hr]at ad;cases ad;exact afJ rfl
  ·have ad:=Lib.run_append_grow_string (P:=P) w t u ty e i (.int .u8 0) ht hu hi hz ⟨g,0,none⟩ n cap xs (by rw[aa];simpa using al) (ai g rfl) s (by omega) (by omega) (by rw[ag];exact growslice_fits (by omega) (by omega));rw[hr]at ad;cases ad;exact afM rfl
theorem LG{P:Program}{ad:Array Oper}{o:Oper}{a:Act}{K:Act->World->Prop}{Q:Exit->Act->World->Prop}{E:Prop}
  (af:o.guard=none) (sl x:Operand) (t u:TypeId) (ho:o.op=.call {callee:=.builtin .append,args:=#[sl,x],argTypes:=#[t,u]})
  (base:Nat) (e:TypeId) (i:TypeInfo) (ht:P.underlying t=some (.slice e)) (hu:P.underlying u=some .string) (hi:P.info? e=some i) (hz:i.zero=some (.int .u8 0))
  (ab:i.size=1) (ae:i.bytes=1) (v:Value) (n:Nat) (xs:List Value) (hs:a.eval sl=v) (ac:w.ownsRow base e 1 v n xs) (hn:1<=n) (s:ByteArray) (hx:a.eval x=.string s) (ag:n+s.size<=100000000) (aa:base<=w.heap.size)
  (h:∀v' w',w'.ownsRow base e 1 v' (n+s.size) (xs++Lib.strCells s)->w.grownBy w' v.ownBlock->(v'.ownBlock=v.ownBlock\/v'.ownBlock=some w.heap.size)->K (a.put o.dst v') w'):
  if Region.wanted o (yielded ad a.tmps)=true then Oper.wp P o a w K Q else E:=by
 have hw:Region.wanted o (yielded ad a.tmps)=true:=by simp[Region.wanted,af]
 rw[if_pos hw];obtain⟨v',w',hr,h2,h3,h4⟩:=T6 (P:=P) w base t u o.type e i ht hu hi hz ab ae v n xs ac hn s ag aa;unfold Oper.wp;simp[execOp,ho,resolve,invoke,builtin,hs,hx,hr,Result.andThen];exact h v' w' h2 h3 h4
theorem aac{L O O1:Value}{v:List It}{out news:List UInt8}(h:WS w0 w L v O out)(ab:w1.ownsRow (w0.heap.size+1) 5 1 O1 (out.length+news.length) (DT out++DT news))(hg:w.grownBy w1 O.ownBlock)(ad:O1.ownBlock=O.ownBlock\/O1.ownBlock=some w.heap.size):
  Wr w1 w0.heap.size L O/\WS w0 (w1.setCell ⟨w0.heap.size,1,none⟩ O1) L v O1 (out++news)/\Wk w0.heap.size O O1 w (w1.setCell ⟨w0.heap.size,1,none⟩ O1):=by
 have af:=h.wr.lt;have ag:=hg.size;have keep:∀k,k<w.heap.size->O.ownBlock≠some k->w1.heap[k]?=w.heap[k]?:=fun k hk hr=>hg.block k hk (fun e=>hr e.symm)
 have aa:∀k,O.ownBlock=some k->w0.heap.size<k:=fun k hk=>(h.row hk).1
 have ac:Wr w1 w0.heap.size L O:=by
  have:=h.wr;unfold Wr at this ⊢;rw[keep _ af (fun e=>by have:=aa _ e;omega)];exact this
 refine⟨ac,⟨ac.set1 O1,h.items,?_,?_⟩,⟨by simp;omega,fun k hk ae hr=>?_,?_⟩⟩
 ·exact(h.below.grown hg (by omega) (fun k hk=>by have:=aa k hk;omega)).setCell (by simp) _
 ·have:=Ka (k:=w0.heap.size) (o:=1) (x:=O1) ab (by omega);rw[afS];unfold DT at this ⊢;rw[agw];exact this
 ·rw[Below.heap_setCell _ _ _ _ (by simpa using ae)];exact keep k hk hr
 ·rcases ad with h1|h1
  ·exact afJ h1
  ·exact afM ⟨_,h1,by omega⟩
theorem Gs(n:Nat)(w:World)(hn:n<=14):Calls Tryz.prog 284 #[.int .i64 n] w fun e w'=>e=.returned (.bool (n % 2==1))/\w'=w:=by
 have e:((n % 2==1:Bool))=(((n:Int) % 2==1:Bool)):=by
  rw[Bool.eq_iff_iff];simp;omega
 rw[e];go_enter Tryz.func284,Tryz.ntmps284;go_wp2
 go_ret
 exact⟨rfl,rfl⟩
theorem aby(w0 w:World)(L O:Value)(x:It)(v:List It)(out:List UInt8)(h:WS w0 w L (x :: v) O out)(hn:v.length<=9000000000000)(hN:x.1=0)(hS:x.2.size<=14)(aR:out.length<=1000000):
  Calls Tryz.prog 282 #[.pointer (some ⟨w0.heap.size,0,none⟩)] w fun e w'=>e=.returned (.tuple #[])/\∃L' O',WS w0 w' L' v O' (out++EE true x)/\Wk w0.heap.size O O' w w':=by
 have H1:=Ac (GU w0 w L O x v out h hn);clear h;obtain⟨N,S⟩:=x;simp only at H1 hS hN ⊢;subst hN;have aW:¬(14:Int)<(S.size:Int):=by omega
 have ax:=Ac (fun w=>Gs S.size w hS);have aw:Hid (EE true (0,S)=A5 (S.size:Int)++(S.data.toList++(if S.size % 2=1 then [0] else []))):=rfl;go_enter Tryz.func282,Tryz.ntmps282;go_wp2_with fail
 refine(Aa H1).mono ?_;rintro e w1 ⟨rfl,L',az,aJ⟩;have ag:=az.go ((Below.refl w1.heap.size w1).alloc (afI _) (.cells #[.int .i64 0,.string S] 73));have H2:=Ac (K3 w0 _ L' O v out (S.size:Int) ag.drew aR);have al:O.ownBlock≠some w1.heap.size:=fun e=>by have:=(az.row e).2;omega
 have aY:=az.wr.lt;have aC:=ag.wr.out;have aG:=Ac aJ;obtain⟨sa,sn,sc,aS⟩:=Ar ag.own;subst aS;clear az aJ ag;go_wp2_with fail
 go_region_with ((go_at_call 202;refine(Aa H2).mono ?_;rintro e w2 ⟨ta,tn,tc,rfl,an,ah,ad⟩;have t1:=an.out;have t2:=an.RU))
 all_goals
  clear an t1 t2;generalize w2.setCell ⟨w0.heap.size,1,none⟩ (.slice ta tn tc)=W2 at *;have c1:W2.cell? ⟨w1.heap.size,1,none⟩=some (.string S):=(ad.cell (by simp) (by omega) al).trans (by simp[go_sem]);have aI:w1.heap.size<W2.heap.size:=by have:=ad.size;simp at this;omega
  have aj:(Value.slice ta tn tc).ownBlock≠some w1.heap.size:=by
   intro e;rcases ad.row with h|⟨g,h,hg⟩
   ·exact al (h.symm.trans e)
   ·rw[e]at h;cases h;simp at hg;omega
  have aE:=Ac ((Aa aG).trans ((Wk.of_below (((Below.refl w1.heap.size w1).alloc (afI _) (.cells #[.int .i64 0,.string S] 73)).drew)).trans ad));have aP:=ah.wr.out;have aB:=Ac ah;have aV:=ah.wr.lt;have aQ:(A5 (S.size:Int)).length=2:=rfl;obtain⟨i0,hi,aK,aL,aM⟩:=info_parts info5;clear ah ad H2 H1 aG aC;go_wp2_with fail
  go_region_law (refine LG rfl (.tmp 31) (.tmp 33) 281 9 rfl (w0.heap.size+1) 5 i0 Tryz.underlying281 Tryz.underlying9 hi aK aL aM _ (out++A5 (S.size:Int)).length (DT (out++A5 (S.size:Int))) rfl (by exact(Aa aB).own) (by simp;omega) S rfl (by rw[afS];omega) (by exact aV) ?_;intro v' wz ak ai aH;obtain⟨va,vn,vc,aU⟩:=Ar ak;subst aU;have ar:=aac (news:=S.data.toList) (Aa aB).drew (by rw[<-Xa];simpa using ak) ai aH;obtain⟨aD,ae,am⟩:=ar;have k1:=aD.out;have k2:=aD.RU)
  all_goals
   have d1:=(am.cell (o:=1) (by exact aI) (by omega) aj).trans c1;have ay:=Ac ae;have aF:=Ac ((Aa aE).trans ((Wk.of_below ((Below.refl W2.heap.size W2).drew)).trans am));have o4:=ae.wr.out;have z4:=ae.wr.RU;have l4:=ae.wr.lt;clear aD ae am k1 k2 ak ai aH aB aE c1 aP aI aj al;generalize wz.setCell {block:=w0.heap.size,off:=1} (Value.slice va vn vc)=W4 at *;by_cases aa:S.size % 2=1
   ·have ho:(S.size % 2==1)=true:=by simp[aa]
    rw[ho]at ax;rw[if_pos aa]at aw;clear aa ho;obtain⟨ap,af⟩:∃ap,ap=out++A5 (S.size:Int)++S.data.toList:=⟨_,rfl⟩;have aX:ap.length<=1000100:=by
     have e2:S.data.toList.length=S.size:=agG;rw[af,afS,afS,aQ,e2];omega
    rw[<-af]at ay;have aA:=Ac af;clear af;go_wp2_with fail
    refine((Aa ax) _).mono ?_;rintro e w5 ⟨rfl,rfl⟩;go_wp2_with (at_builtin;refine wpList_append_own_at _ rfl (.tmp 45) (.tmp 46) 281 rfl (w0.heap.size+1) 5 i0 (.int .u8 0) 1 1 Tryz.underlying281 hi aK aL aM rfl (by decide) _ ap.length (DT ap) rfl (by exact(Aa ay).own.alloc _) ⟨w5.heap.size,0,none⟩ 1 1 (DT [0]) rfl rfl (by exact cell_one_new _ _ _) (by exact Kj _) (by unfold maxLen;omega) (by omega) (by simp;omega) ?_)
    intro O5 w6 ac ab _ aq;obtain⟨ta,tn,tc,aT⟩:=Ar ac;subst aT;obtain⟨ao,av,au⟩:=Vl (news:=[0]) (Aa ay) ac ab (by simpa using aq);have k1:=ao.out;have k2:=ao.RU;have aO:=Ac av;have aN:=Ac ((Aa aF).trans au);clear ac ab aq ao av au;go_wp2
    go_end0
    refine⟨rfl,L',_,?_,Aa aN⟩;rw[Aa aw,<-agk,<-agk,<-Aa aA];exact Aa aO
   ·have ho:(S.size % 2==1)=false:=by simp[aa]
    rw[ho]at ax;rw[if_neg aa,agv]at aw;clear aa ho;go_wp2_with fail
    refine((Aa ax) _).mono ?_;rintro e w5 ⟨rfl,rfl⟩;go_wp2
    go_end0
    refine⟨rfl,L',_,?_,Aa aF⟩;rw[Aa aw,<-agk];exact Aa ay
theorem Xg(w0 w:World)(L O:Value)(out:List UInt8)(h:WS w0 w L [] O out):
  Calls Tryz.prog 282 #[.pointer (some ⟨w0.heap.size,0,none⟩)] w fun e w'=>e=Az 4 0/\Below w0.heap.size w0 w':=by
 obtain⟨a,cap,hL,_,_⟩:=h.items;subst hL;have H1:=Ac (UY w0.heap.size a cap O w h.wr);have hb:=h.below;clear h;go_enter Tryz.func282,Tryz.ntmps282;go_wp2_with fail
 refine(Aa H1).mono ?_;rintro e w1 ⟨rfl,aa⟩;go_wp2;exact⟨rfl,rfl,hb.trans (aa.mono hb.size)⟩
theorem Xe(w0 w:World)(L O:Value)(x:It)(v:List It)(out:List UInt8)(h:WS w0 w L (x :: v) O out)(hn:v.length<=9000000000000)(hN:(x.1 != 0)=true):
  Calls Tryz.prog 282 #[.pointer (some ⟨w0.heap.size,0,none⟩)] w fun e w'=>e=Az 4 0/\Below w0.heap.size w0 w':=by
 have H1:=Ac (GU w0 w L O x v out h hn);have HN:=Ac DL;clear h;obtain⟨N,S⟩:=x;simp only at H1 hN;go_enter Tryz.func282,Tryz.ntmps282;go_wp2_with fail
 refine(Aa H1).mono ?_;rintro e w1 ⟨rfl,L',aa,ac⟩;have hb:=aa.below;have ad:=hb.size;clear aa ac;go_wp2_with fail
 refine((Aa HN) _).mono ?_;rintro e w2 ⟨rfl,ab⟩;go_wp2;exact⟨rfl,rfl,(hb.alloc (by omega) _).trans (ab.mono (by simp;omega))⟩
theorem Xf(w0 w:World)(L O:Value)(x:It)(v:List It)(out:List UInt8)(h:WS w0 w L (x :: v) O out)(hn:v.length<=9000000000000)(hN:(x.1 != 0)=false)(hS:(14:Int)<(x.2.size:Int)):
  Calls Tryz.prog 282 #[.pointer (some ⟨w0.heap.size,0,none⟩)] w fun e w'=>e=Az 4 0/\Below w0.heap.size w0 w':=by
 have H1:=Ac (GU w0 w L O x v out h hn);have HN:=Ac DL;clear h;obtain⟨N,S⟩:=x;simp only at H1 hN hS;go_enter Tryz.func282,Tryz.ntmps282;go_wp2_with fail
 refine(Aa H1).mono ?_;rintro e w1 ⟨rfl,L',aa,ac⟩;have hb:=aa.below;have ad:=hb.size;clear aa ac;go_wp2_with fail
 refine((Aa HN) _).mono ?_;rintro e w2 ⟨rfl,ab⟩;go_wp2;exact⟨rfl,rfl,(hb.alloc (by omega) _).trans (ab.mono (by simp;omega))⟩
abbrev Bf(c:Int)(x1:Int)(a:Option Addr)(n k:Nat):Obj:=.cells #[.int .u8 c,.int .i64 x1,.slice a n k] 262
def LM(er:Nat)(A B:World->Prop)(e:Ending)(w:World):Prop:=(e=Az er 0/\A w)\/(e=.returned (.tuple #[])/\B w)
def OrN(er:Nat)(A:World->Prop)(B:Int->World->Prop)(e:Ending)(w:World):Prop:=(e=Az er 0/\A w)\/∃i,e=.returned (.int .i64 i)/\B i w
def Sd (tid fn : Nat) (ptr : Addr) : Prop := (∀ w, (method 463 tid (.pointer (some ptr)) "errand/value.number").run Tryz.prog w = .ok (fn, .pointer (some ptr)) w) ∧ ∀ args w, (callFunc fn args).run Tryz.prog w = .ok (.enter fn args) w
def adb (tid fn : Nat) (ptr : Addr) : Prop := (∀ w, (method 463 tid (.pointer (some ptr)) "errand/value.text").run Tryz.prog w = .ok (fn, .pointer (some ptr)) w) ∧ ∀ args w, (callFunc fn args).run Tryz.prog w = .ok (.enter fn args) w
theorem acX(tid fn er:Nat)(ptr:Addr)(hm:Sd tid fn ptr)(w:World)(x1:Int)(a0:Option Addr)(n0 k0:Nat)(A:World->Prop)(B:Int->World->Prop)
  (HN:Calls Tryz.prog fn #[.pointer (some ptr),.int .i64 0,.int .i64 1] (w.alloc (Bf 98 x1 a0 n0 k0)) (OrN er A B)):
  Calls Tryz.prog 225 #[.agg #[.int .u8 98,.int .i64 x1,.slice a0 n0 k0],.iface tid (.pointer (some ptr))] w (LM er A fun w'=>∃i,B i w'):=by
 obtain⟨ab,ac⟩:=hm;have aa:=Ac HN;clear HN;go_enter Tryz.func225,Tryz.ntmps225;go_wp2_with fail
 refine(Aa aa).mono ?_;rintro e w1 (⟨rfl,hA⟩|⟨i,rfl,hB⟩)
 ·go_wp2;exact⟨rfl,afJ ⟨rfl,hA⟩⟩
 ·go_wp2
  go_end0
  exact afM ⟨rfl,i,hB⟩
theorem acY(tid fn er:Nat)(ptr:Addr)(hm:Sd tid fn ptr)(w:World)(x1:Int)(a0:Option Addr)(n0 k0:Nat)(A:World->Prop)(B:Int->World->Prop)
  (HN:Calls Tryz.prog fn #[.pointer (some ptr),.int .i64 0,.int .i64 65535] (w.alloc (Bf 99 x1 a0 n0 k0)) (OrN er A B)):
  Calls Tryz.prog 225 #[.agg #[.int .u8 99,.int .i64 x1,.slice a0 n0 k0],.iface tid (.pointer (some ptr))] w (LM er A fun w'=>∃i,B i w'):=by
 obtain⟨ab,ac⟩:=hm;have aa:=Ac HN;clear HN;go_enter Tryz.func225,Tryz.ntmps225;go_wp2_with fail
 refine(Aa aa).mono ?_;rintro e w1 (⟨rfl,hA⟩|⟨i,rfl,hB⟩)
 ·go_wp2;exact⟨rfl,afJ ⟨rfl,hA⟩⟩
 ·go_wp2
  go_end0
  exact afM ⟨rfl,i,hB⟩
theorem ac0(tid fn er:Nat)(ptr:Addr)(hm:Sd tid fn ptr)(w:World)(x1:Int)(a0:Option Addr)(n0 k0:Nat)(A:World->Prop)(B:Int->World->Prop)
  (HN:Calls Tryz.prog fn #[.pointer (some ptr),.int .i64 (-32768),.int .i64 32767] (w.alloc (Bf 105 x1 a0 n0 k0)) (OrN er A B)):
  Calls Tryz.prog 225 #[.agg #[.int .u8 105,.int .i64 x1,.slice a0 n0 k0],.iface tid (.pointer (some ptr))] w (LM er A fun w'=>∃i,B i w'):=by
 obtain⟨ab,ac⟩:=hm;have aa:=Ac HN;clear HN;go_enter Tryz.func225,Tryz.ntmps225;go_wp2_with fail
 refine(Aa aa).mono ?_;rintro e w1 (⟨rfl,hA⟩|⟨i,rfl,hB⟩)
 ·go_wp2;exact⟨rfl,afJ ⟨rfl,hA⟩⟩
 ·go_wp2
  go_end0
  exact afM ⟨rfl,i,hB⟩
theorem acZ(tid fn er:Nat)(ptr:Addr)(hm:Sd tid fn ptr)(w:World)(x1:Int)(a0:Option Addr)(n0 k0:Nat)(A:World->Prop)(B:Int->World->Prop)(hx:0<=x1/\x1<=9)
  (HN:Calls Tryz.prog fn #[.pointer (some ptr),.int .i64 0,.int .i64 (x1-1)] (w.alloc (Bf 101 x1 a0 n0 k0)) (OrN er A B)):
  Calls Tryz.prog 225 #[.agg #[.int .u8 101,.int .i64 x1,.slice a0 n0 k0],.iface tid (.pointer (some ptr))] w (LM er A fun w'=>∃i,B i w'):=by
 obtain⟨ab,ac⟩:=hm;have aa:=Ac HN;clear HN;go_enter Tryz.func225,Tryz.ntmps225;go_wp2_with fail
 refine(Aa aa).mono ?_;rintro e w1 (⟨rfl,hA⟩|⟨i,rfl,hB⟩)
 ·go_wp2;exact⟨rfl,afJ ⟨rfl,hA⟩⟩
 ·go_wp2
  go_end0
  exact afM ⟨rfl,i,hB⟩
theorem ac3(tid fn er:Nat)(ptr:Addr)(hm:adb tid fn ptr)(w:World)(x1:Int)(a0:Option Addr)(n0 k0:Nat)(A B:World->Prop)
  (HN:Calls Tryz.prog fn #[.pointer (some ptr)] (w.alloc (Bf 115 x1 a0 n0 k0)) (LM er A B)):
  Calls Tryz.prog 225 #[.agg #[.int .u8 115,.int .i64 x1,.slice a0 n0 k0],.iface tid (.pointer (some ptr))] w (LM er A B):=by
 obtain⟨ab,ac⟩:=hm;have aa:=Ac HN;clear HN;go_enter Tryz.func225,Tryz.ntmps225;go_wp2_with fail
 refine(Aa aa).mono ?_;rintro e w1 (⟨rfl,hA⟩|⟨rfl,hB⟩)
 ·go_wp2;exact⟨rfl,afJ ⟨rfl,hA⟩⟩
 ·go_wp2
  go_end0
  exact afM ⟨rfl,hB⟩
theorem acW(tid er:Nat)(ptr:Addr)(w:World)(x1:Int)(g n0 k0:Nat)(y0 y1:Int)(ya:Option Addr)(yn yk:Nat)(A B:World->Prop)(hn:0<n0)
  (f0:∀o,(w.alloc o).cell? ⟨g,0,none⟩=some (.int .u8 y0)) (f1:∀o,(w.alloc o).cell? ⟨g,1,none⟩=some (.int .i64 y1)) (f2:∀o,(w.alloc o).cell? ⟨g,2,none⟩=some (.slice ya yn yk))
  (HT:Calls Tryz.prog 256 #[.int .i64 x1,.agg #[.int .u8 y0,.int .i64 y1,.slice ya yn yk],.iface tid (.pointer (some ptr))] (w.alloc (Bf 97 x1 (some ⟨g,0,none⟩) n0 k0)).drew (LM er A B)):
  Calls Tryz.prog 225 #[.agg #[.int .u8 97,.int .i64 x1,.slice (some ⟨g,0,none⟩) n0 k0],.iface tid (.pointer (some ptr))] w (LM er A B):=by
 have aa:=Ac HT;clear HT;go_enter Tryz.func225,Tryz.ntmps225;go_wp2_with fail
 go_region_with (go_at_call 256;refine(Aa aa).mono ?_;rintro e w1 (⟨rfl,hA⟩|⟨rfl,hB⟩);focus (go_wp2;exact⟨rfl,afJ ⟨rfl,hA⟩⟩))
 all_goals
  go_wp2
  go_end0
  exact afM ⟨rfl,hB⟩
theorem ac1(tid fn er:Nat)(ptr:Addr)(hm:Sd tid fn ptr)(w:World)(x1:Int)(g n0 k0:Nat)(y0 y1:Int)(ya:Option Addr)(yn yk:Nat)(A B:World->Prop)(N:Int->World->Prop)(hn:0<n0)
  (HN:Calls Tryz.prog fn #[.pointer (some ptr),.int .i64 0,.int .i64 x1] (w.alloc (Bf 113 x1 (some ⟨g,0,none⟩) n0 k0)) (OrN er A N))
  (hN:∀i w',N i w'->w'.cell? ⟨w.heap.size,2,none⟩=some (.slice (some ⟨g,0,none⟩) n0 k0)/\w'.cell? ⟨g,0,none⟩=some (.int .u8 y0)/\w'.cell? ⟨g,1,none⟩=some (.int .i64 y1)/\w'.cell? ⟨g,2,none⟩=some (.slice ya yn yk) /\
   Calls Tryz.prog 256 #[.int .i64 i,.agg #[.int .u8 y0,.int .i64 y1,.slice ya yn yk],.iface tid (.pointer (some ptr))] w' (LM er A B)):
  Calls Tryz.prog 225 #[.agg #[.int .u8 113,.int .i64 x1,.slice (some ⟨g,0,none⟩) n0 k0],.iface tid (.pointer (some ptr))] w (LM er A B):=by
 obtain⟨ad,ae⟩:=hm;have aa:=Ac HN;have ab:=Ac hN;clear HN hN;go_enter Tryz.func225,Tryz.ntmps225;go_wp2_with fail
 refine(Aa aa).mono ?_;rintro e w1 (⟨rfl,hA⟩|⟨i,rfl,hB⟩)
 ·go_wp2;exact⟨rfl,afJ ⟨rfl,hA⟩⟩
 ·obtain⟨b2,f0,f1,f2,hT⟩:=(Aa ab) i w1 hB;have ac:=Ac hT;clear hT hB;go_wp2_with fail
  refine(Aa ac).mono ?_;rintro e w2 (⟨rfl,hA⟩|⟨rfl,hB⟩)
  ·go_wp2;exact⟨rfl,afJ ⟨rfl,hA⟩⟩
  ·go_wp2
   go_end0
   exact afM ⟨rfl,hB⟩
theorem ac4(tid fn er:Nat)(ptr:Addr)(hm:Sd tid fn ptr)(w:World)(x1:Int)(g n0 k0:Nat)(A B:World->Prop)(N:Nat->World->Prop)(hn:n0<=6)
  (HN:Calls Tryz.prog fn #[.pointer (some ptr),.int .i64 0,.int .i64 ((n0:Int)-1)] (w.alloc (Bf 117 x1 (some ⟨g,0,none⟩) n0 k0)) (OrN er A fun i w'=>∃j:Nat,i=j/\j<n0/\N j w'))
  (hN:∀j w',N j w'->∃y0 y1 ya yn yk,w'.cell? ⟨w.heap.size,2,none⟩=some (.slice (some ⟨g,0,none⟩) n0 k0)/\w'.cell? ⟨g,j*3,none⟩=some (.int .u8 y0)/\w'.cell? ⟨g,j*3+1,none⟩=some (.int .i64 y1)/\w'.cell? ⟨g,j*3+2,none⟩=some (.slice ya yn yk) /\
   Calls Tryz.prog 225 #[.agg #[.int .u8 y0,.int .i64 y1,.slice ya yn yk],.iface tid (.pointer (some ptr))] w' (LM er A B)):
  Calls Tryz.prog 225 #[.agg #[.int .u8 117,.int .i64 x1,.slice (some ⟨g,0,none⟩) n0 k0],.iface tid (.pointer (some ptr))] w (LM er A B):=by
 obtain⟨ad,ae⟩:=hm;have aa:=Ac HN;have ab:=Ac hN;clear HN hN;go_enter Tryz.func225,Tryz.ntmps225;go_wp2_with fail
 refine(Aa aa).mono ?_;rintro e w1 (⟨rfl,hA⟩|⟨i,rfl,j,rfl,hj,hB⟩)
 ·go_wp2;exact⟨rfl,afJ ⟨rfl,hA⟩⟩
 ·obtain⟨y0,y1,ya,yn,yk,b2,f0,f1,f2,hT⟩:=(Aa ab) j w1 hB;have ac:=Ac hT;clear hT hB;go_wp2_with fail
  refine(Aa ac).mono ?_;rintro e w2 (⟨rfl,hA⟩|⟨rfl,hB⟩)
  ·go_wp2;exact⟨rfl,afJ ⟨rfl,hA⟩⟩
  ·go_wp2
   go_end0
   exact afM ⟨rfl,hB⟩
theorem ac2(tid er:Nat)(ptr:Addr)(w:World)(x1:Int)(va:Option Addr)(n0 k0:Nat)(A:World->Prop)(I:Nat->World->Prop)(hn:n0<=6)(h0:I 0 (w.alloc (Bf 114 x1 va n0 k0)))
  (hI:∀j w',j<n0->I j w'->∃g y0 y1 ya yn yk,va=some ⟨g,0,none⟩/\w'.cell? ⟨g,j*3,none⟩=some (.int .u8 y0)/\w'.cell? ⟨g,j*3+1,none⟩=some (.int .i64 y1)/\w'.cell? ⟨g,j*3+2,none⟩=some (.slice ya yn yk) /\
   Calls Tryz.prog 225 #[.agg #[.int .u8 y0,.int .i64 y1,.slice ya yn yk],.iface tid (.pointer (some ptr))] (w'.alloc (.cells #[.int .u8 y0,.int .i64 y1,.slice ya yn yk] 262)) (LM er A (I (j+1)))):
  Calls Tryz.prog 225 #[.agg #[.int .u8 114,.int .i64 x1,.slice va n0 k0],.iface tid (.pointer (some ptr))] w (LM er A (I n0)):=by
 have H0:=Ac h0;have ab:=Ac hI;clear h0 hI;go_enter Tryz.func225,Tryz.ntmps225;go_wp2;go_loopw [61] (fun i wr=>∃k:Nat,k<=n0/\i=.int .i64 k/\I k wr) (fun i _=>n0-(intOf i).toNat)
 case atStart=>exact⟨0,af8 _,rfl,Aa H0⟩
 case round=>
  obtain⟨k,hk,rfl,aa⟩:=hrel;by_cases ad:k<n0
  ·obtain⟨g,y0,y1,ya,yn,yk,rfl,f0,f1,f2,hT⟩:=(Aa ab) k wr ad aa;have ac:=Ac hT;clear hT aa;go_wp2_with fail
   refine(Aa ac).mono ?_;rintro e w2 (⟨rfl,hA⟩|⟨rfl,hB⟩)
   ·go_wp2;exact⟨rfl,afJ ⟨rfl,hA⟩⟩
   ·have HB:=Ac hB;clear hB f0 f1 f2;go_wp2;go_roundw
    case rel=>exact⟨k+1,by omega,by go_num,Aa HB⟩
    case measure=>simp[intOf];omega
  ·obtain rfl:k=n0:=by omega
   have HB:=Ac aa;clear aa;go_wp2
   go_end0
   exact afM ⟨rfl,Aa HB⟩
theorem Uy(tid er:Nat)(ptr:Addr)(w:World)(y0 y1:Int)(ya:Option Addr)(yn yk n:Nat)(A:World->Prop)(I:Nat->World->Prop)(hn:n<=9)(h0:I 0 (w.alloc (.cells #[.int .u8 y0,.int .i64 y1,.slice ya yn yk] 262)))
  (hI:∀j w',j<n->I j w'->w'.cell? ⟨w.heap.size,0,none⟩=some (.int .u8 y0)/\w'.cell? ⟨w.heap.size,1,none⟩=some (.int .i64 y1)/\w'.cell? ⟨w.heap.size,2,none⟩=some (.slice ya yn yk) /\
   Calls Tryz.prog 225 #[.agg #[.int .u8 y0,.int .i64 y1,.slice ya yn yk],.iface tid (.pointer (some ptr))] w' (LM er A (I (j+1)))):
  Calls Tryz.prog 256 #[.int .i64 n,.agg #[.int .u8 y0,.int .i64 y1,.slice ya yn yk],.iface tid (.pointer (some ptr))] w (LM er A (I n)):=by
 have H0:=Ac h0;have ab:=Ac hI;clear h0 hI;go_enter Tryz.func256,Tryz.ntmps256;go_wp2;go_loopw [7] (fun i wr=>∃k:Nat,k<=n/\i=.int .i64 k/\I k wr) (fun i _=>n-(intOf i).toNat)
 case atStart=>exact⟨0,af8 _,rfl,Aa H0⟩
 case round=>
  obtain⟨k,hk,rfl,aa⟩:=hrel;by_cases ad:k<n
  ·obtain⟨f0,f1,f2,hT⟩:=(Aa ab) k wr ad aa;have ac:=Ac hT;clear hT aa;go_wp2_with fail
   refine(Aa ac).mono ?_;rintro e w2 (⟨rfl,hA⟩|⟨rfl,hB⟩)
   ·go_wp2;exact⟨rfl,afJ ⟨rfl,hA⟩⟩
   ·have HB:=Ac hB;clear hB f0 f1 f2;go_wp2;go_roundw
    case rel=>exact⟨k+1,by omega,by go_num,Aa HB⟩
    case measure=>simp[intOf];omega
  ·obtain rfl:k=n:=by omega
   have HB:=Ac aa;clear aa;go_wp2
   go_end0
   exact afM ⟨rfl,Aa HB⟩
structure Kept(O O':Nat->Prop)(w w':World):Prop where
 size:w.heap.size<=w'.heap.size
 block:∀k,k<w.heap.size->¬O k->w'.heap[k]?=w.heap[k]?
 row:∀k,O' k->O k\/w.heap.size<=k
theorem Kept.refl(O:Nat->Prop)(w:World):Kept O O w w:=⟨afI _,fun _ _ _=>rfl,fun _ h=>afJ h⟩
theorem Kept.trans{O1 O2:Nat->Prop}{w2:World}(h:Kept O O1 w w1)(k:Kept O1 O2 w1 w2):Kept O O2 w w2:=by
 have hs:=h.size;refine⟨agM h.size k.size,fun i hi hr=>?_,fun i hi=>?_⟩
 ·rw[k.block i (by omega) (fun e=>?_),h.block i hi hr];rcases h.row i e with h1|h1
  ·exact hr h1
  ·omega
 ·rcases k.row i hi with h1|h1
  ·exact h.row i h1
  ·exact afM (by omega)
theorem Kept.of_below(h:Below w.heap.size w w'):Kept O O w w':=⟨h.size,fun k hk _=>h.block k hk,fun _ h=>afJ h⟩
theorem Kept.cell(h:Kept O O' w w'){o:Nat}(hk:k<w.heap.size)(hr:¬O k):w'.cell? ⟨k,o,none⟩=w.cell? ⟨k,o,none⟩:=World.cell?_of_block (w:=w) (h.block k hk hr)
structure B6(σ:Type) where
 tid:Nat
 NT:Nat
 Ye:Nat
 er:Nat
 ptr:Addr
 w0:World
 St:World->Nat->σ->(Nat->Prop)->Prop
 num:Int->Int->σ->Option (Int×σ)
 txt:σ->Option σ
variable {σ:Type}
abbrev B6.I(C:B6 σ):Value:=.iface C.tid (.pointer (some C.ptr))
def B6.Lv(C:B6 σ)(O:Nat->Prop)(c:Nat)(x':σ)(w w':World):Prop:=∃c' O',c'<=c/\C.St w' c' x' O'/\Kept O O' w w'
def B6.No(C:B6 σ)(P:Prop)(w':World):Prop:=P/\Below C.w0.heap.size C.w0 w'
structure JE(C:B6 σ):Prop where
 below:∀{w c x O},C.St w c x O->Below C.w0.heap.size C.w0 w
 fresh:∀{w c x O},C.St w c x O->∀k,O k->C.w0.heap.size<=k/\k<w.heap.size
 go:∀{w c x O w'},C.St w c x O->Below w.heap.size w w'->C.St w' c x O
 range:∀{lo hi x n x'},C.num lo hi x=some (n,x')->lo<=n/\n<=hi
 QX:Sd C.tid C.NT C.ptr
 acw:adb C.tid C.Ye C.ptr
 number:∀{w c x O} (lo hi:Int),C.St w c x O->c<=40000->(lo=0/\hi<=65535\/lo=-32768/\hi=32767)->Calls Tryz.prog C.NT #[.pointer (some C.ptr),.int .i64 lo,.int .i64 hi] w
  (OrN C.er (C.No (C.num lo hi x=none)) (fun i w'=>∃x',C.num lo hi x=some (i,x')/\C.Lv O (c+1) x' w w'))
 text:∀{w c x O},C.St w c x O->c<=40000->Calls Tryz.prog C.Ye #[.pointer (some C.ptr)] w
  (LM C.er (C.No (C.txt x=none)) (fun w'=>∃x',C.txt x=some x'/\C.Lv O (c+1) x' w w'))
def FH(C:B6 σ)(r:Option σ)(O:Nat->Prop)(c:Nat)(w:World):Ending->World->Prop:=
 LM C.er (C.No (r=none)) (fun w'=>∃x',r=some x'/\C.Lv O c x' w w')
def Vm(C:B6 σ)(T:Value)(E:σ->Option σ)(M:Nat):Prop:=∀w c x O,C.St w c x O->c+M<=40000->Calls Tryz.prog 225 #[T,C.I] w (FH C (E x) O (c+M) w)
theorem Vm.mono{C:B6 σ}{T:Value}{E:σ->Option σ}{M':Nat}(h:Vm C T E M)(hm:M<=M'):Vm C T E M':=by
 intro w c x O hs hc;refine(h w c x O hs (by omega)).mono ?_;rintro e w' (h|⟨rfl,x',hx,c',O',hc',h1⟩)
 ·exact afJ h
 ·exact afM ⟨rfl,x',hx,c',O',by omega,h1⟩
def C5(E:Nat->σ->Option σ):List Nat->σ->Option σ
 |[],x=>some x
 |q :: qs,x=>(E q x).bind (C5 E qs)
theorem Lr(E:Nat->σ->Option σ):∀(a b:List Nat) (x:σ),C5 E (a++b) x=(C5 E a x).bind (C5 E b):=by
 intro a;induction a with
 |nil=>intro b x;rfl
 |cons q a ih=>
  intro b x;simp only[agz,C5];cases E q x with
  |none=>rfl
  |some y=>exact ih b y
theorem WQ{E:Nat->σ->Option σ}{q:Nat}(h:qs[k]?=some q)(x:σ):C5 E (qs.take (k+1)) x=(C5 E (qs.take k) x).bind (E q):=by
 rw[agH,h,Lr];congr 1;funext y;simp only[Option.toList_some,C5];cases E q y<;>rfl
theorem WO{E:Nat->σ->Option σ}{x:σ}(h:C5 E (qs.take k) x=none):C5 E qs x=none:=by
 rw[<-agX k qs,Lr,h];rfl
def Aw(num:Int->Int->σ->Option (Int×σ))(txt:σ->Option σ)(g:Nat->Nat):Nat->Nat->σ->Option σ
 |0,_,_=>none
 |f+1,p,x=>
  if g p=115 then txt x
  else if g p=97 then C5 (Aw num txt g f) (List.replicate (g (p+1)-48) (p+2)) x
  else if g p=114 then C5 (Aw num txt g f) (Pt.kids g f p) x
  else (num (CG (g p)) (Ci g f p) x).bind fun r=>
   if g p=117 then Aw num txt g f (partOf (Pt.kids g f p) r.1) r.2
   else if g p=113 then C5 (Aw num txt g f) (List.replicate r.1.toNat (p+2)) r.2
   else some r.2
structure Far(C:B6 σ)(E:Nat->σ->Option σ)(qs:List Nat)(x:σ)(c M:Nat)(O:Nat->Prop)(w:World)(k:Nat)(w':World)(xk:σ)(c':Nat)(O':Nat->Prop):Prop where
 seq:C5 E (qs.take k) x=some xk
 le:c'<=c+k*M
 st:C.St w' c' xk O'
 kept:Kept O O' w w'
def abY(C:B6 σ)(E:Nat->σ->Option σ)(qs:List Nat)(x:σ)(c M:Nat)(O:Nat->Prop)(w:World)(k:Nat)(w':World):Prop:=∃xk c' O',Far C E qs x c M O w k w' xk c' O'
theorem QH{C:B6 σ}{E:Nat->σ->Option σ}{x:σ}{q:Nat}{xk:σ}{c':Nat}(h:Far C E qs x c M O w k w' xk c' O')(hq:qs[k]?=some q)(h1:Kept O' O' w' w1):
  ∀e w2,FH C (E q xk) O' (c'+M) w1 e w2->LM C.er (C.No (C5 E qs x=none)) (abY C E qs x c M O w (k+1)) e w2:=by
 have hb:C5 E (qs.take (k+1)) x=E q xk:=by rw[WQ hq,h.seq];rfl
 rintro e w2 (⟨rfl,hn,hw⟩|⟨rfl,x',hx,c2,O2,hc2,hs2,hk2⟩)
 ·exact afJ ⟨rfl,WO (hb.trans hn),hw⟩
 ·refine afM ⟨rfl,x',c2,O2,hb.trans hx,?_,hs2,h.kept.trans (h1.trans hk2)⟩;have:=h.le;rw[Nat.add_mul,Nat.one_mul];omega
theorem NE{C:B6 σ}(hC:JE C){y0 y1:Int}{ya:Option Addr}{yn yk:Nat}{E:Nat->σ->Option σ}{q:Nat}(HK:Vm C (.agg #[.int .u8 y0,.int .i64 y1,.slice ya yn yk]) (E q) M)(n:Nat)(hn:n<=9){x:σ}(hs:C.St w c x O)(hc:c+n*M<=40000):
  Calls Tryz.prog 256 #[.int .i64 n,.agg #[.int .u8 y0,.int .i64 y1,.slice ya yn yk],C.I] w (FH C (C5 E (List.replicate n q) x) O (c+n*M) w):=by
 have ac:=(Below.refl w.heap.size w).alloc (afI _) (.cells #[.int .u8 y0,.int .i64 y1,.slice ya yn yk] 262);have aa:¬O w.heap.size:=fun h=>by have:=(hC.fresh hs _ h).2;omega
 obtain⟨t0,t1,t2,_⟩:=(FE.new w (.int .u8 y0) (.int .i64 y1) (.slice ya yn yk)).facts;refine(Uy C.tid C.er C.ptr w y0 y1 ya yn yk n (C.No (C5 E (List.replicate n q) x=none)) (abY C E (List.replicate n q) x c M O (w.alloc (.cells #[.int .u8 y0,.int .i64 y1,.slice ya yn yk] 262))) hn ⟨x,c,O,rfl,by omega,hC.go hs ac,Kept.refl _ _⟩ ?_).mono ?_
 ·rintro j w' hj ⟨xj,c',O',h⟩;have ab:w.heap.size<(w.alloc (.cells #[.int .u8 y0,.int .i64 y1,.slice ya yn yk] 262)).heap.size:=by simp
  refine⟨(h.kept.cell ab aa).trans t0,(h.kept.cell ab aa).trans t1,(h.kept.cell ab aa).trans t2,?_⟩;refine(HK w' c' xj O' h.st ?_).mono (QH h (q:=q) ?_ (Kept.refl _ _))
  ·have e1:(j+1)*M<=n*M:=agB M hj;rw[Nat.add_mul,Nat.one_mul]at e1;have:=h.le;omega
  ·rw[afZ,if_pos hj]
 ·rintro e w' (h|⟨rfl,x',c',O',h⟩)
  ·exact afJ h
  ·refine afM ⟨rfl,x',?_,c',O',h.le,h.st,(Kept.of_below ac).trans h.kept⟩;have:=h.seq;rw[af6 (by simp)]at this;exact this
theorem Wx{S:Nat->Prop}{g:Nat->Nat}{f p:Nat}{c0 c1 c2:Value}(h:Fe w0 S g (f+1) p c0 c1 c2):c0=.int .u8 (g p)/\c1=.int .i64 (Bi g p)/\∃va vc,c2=.slice va (Pt.kids g f p).length vc/\(∀j q,(Pt.kids g f p)[j]?=some q->∃gb y0 y1 ya yn yk,va=some ⟨gb,0,none⟩ /\
   (∀w,Below w0.heap.size w0 w->w.cell? ⟨gb,j*3,none⟩=some (.int .u8 y0)/\w.cell? ⟨gb,j*3+1,none⟩=some (.int .i64 y1)/\w.cell? ⟨gb,j*3+2,none⟩=some (.slice ya yn yk))/\Fe w0 S g f q (.int .u8 y0) (.int .i64 y1) (.slice ya yn yk)):=by
 obtain⟨h0,h1,xs,ho,hi⟩:=h;obtain⟨va,vc,ac⟩:∃a c,c2=.slice a (Pt.kids g f p).length c:=by
  rcases ho.1.2 with ⟨rfl,h0⟩|⟨gb,cap,ae,rfl,_⟩
  ·exact⟨none,0,by rw[h0]⟩
  ·exact⟨_,_,rfl⟩
 refine⟨h0,h1,va,vc,ac,fun j q hq=>?_⟩;obtain⟨d0,d1,d2,a0,a1,a2,hr⟩:=hi j q hq;subst ac;obtain⟨gb,rfl,ab⟩:∃gb,va=some ⟨gb,0,none⟩/\gb<w0.heap.size:=by
  rcases ho.1.2 with ⟨hv,h0⟩|⟨gb,cap,ae,hv,_,hh,_⟩
  ·rw[agl h0]at hq;cases hq
  ·cases hv;exact⟨gb,rfl,lt_of_block hh⟩
 have aa:=ho.1.cells (g:=gb) rfl;have ad:∀o,(⟨gb,0,none⟩:Addr).add o=⟨gb,o,none⟩:=fun o=>by simp[Addr.add];omega
 obtain⟨⟨x0,rfl⟩,⟨x1,rfl⟩,⟨ea,en,ec,rfl⟩⟩:=Bz hr;refine⟨gb,x0,x1,ea,en,ec,rfl,fun w hb=>⟨?_,?_,?_⟩,hr⟩
 ·rw[hb.cell (p:=⟨gb,j*3,none⟩) ab,<-ad,agF];exact aa _ _ a0
 ·rw[hb.cell (p:=⟨gb,j*3+1,none⟩) ab,<-ad,agF];exact aa _ _ a1
 ·rw[hb.cell (p:=⟨gb,j*3+2,none⟩) ab,<-ad,agF];exact aa _ _ a2
theorem le_top{l:List Nat}{a:Nat}(h:a∈l):a<=Pt.top l:=by
 induction l with
 |nil=>cases h
 |cons b l ih=>
  simp only[Pt.top];rcases agR.1 h with rfl|h
  ·omega
  ·have:=ih h;omega
def Km(C:B6 σ)(s:ByteArray)(f:Nat):Prop:=∀p S c0 c1 c2,Fe C.w0 S (nx s) f p c0 c1 c2->NM s f p->Vm C (.agg #[c0,c1,c2]) (Aw C.num C.txt (nx s) f p) (10 ^ Pt.EC (nx s) f p)
end Go.Proofs.YtblomippkddgiabGreatDoor.V
