import Derived.Test.YtblomippkddgiabGreatDoorJ07
set_option maxRecDepth 100000
set_option maxHeartbeats 2000000
namespace Go.Proofs.YtblomippkddgiabGreatDoor.V
open Go.RowKit
variable {v:List It}{l:List UInt8}{O:Value}{w w0:World}
theorem Ki(b:Nat)(l:List UInt8)(O:Value)(n:Nat)(w:World)(h:Rd w b l O)(hn:¬n<=l.length):
  Calls Tryz.prog 246 #[.pointer (some ⟨b,0,none⟩),.int .i64 n] w fun e w'=>e=Az 6 0/\Below w.heap.size w w':=by
 have h1:=h.left;have aa:=Ax l;have HN:=Ac (Cp b l O w h);generalize hS:str l=S at *;clear hS h;have ab:((S.size:Int)<(n:Int)):=by omega
 clear hn aa;go_enter Tryz.func246,Tryz.ntmps246;go_wp2_with fail
 refine(Aa HN).mono ?_;rintro e w1 ⟨rfl,rfl⟩;go_wp2;exact⟨rfl,rfl,Below.refl _ _⟩
theorem O7(b:Nat)(O:Value)(w:World)(h:Rd w b [] O):Calls Tryz.prog 206 #[.pointer (some ⟨b,0,none⟩)] w fun e w'=>e=Az 6 0/\Below w.heap.size w w':=by
 have H:=Ac (Ki b [] O 1 w h (by simp));clear h;go_enter Tryz.func206,Tryz.ntmps206;go_wp2_with fail
 refine(Aa H).mono ?_;rintro e w1 ⟨rfl,hb⟩;go_wp2;exact⟨rfl,rfl,hb⟩
theorem JL(b:Nat)(c:UInt8)(r:List UInt8)(O:Value)(w:World)(h:Rd w b (c :: r) O)(hl:r.length<=900):Calls Tryz.prog 206 #[.pointer (some ⟨b,0,none⟩)] w fun e w'=>e=.returned (.int .i64 (c.toNat:Int))/\w'=w.setCell ⟨b,0,none⟩ (.string (str r)):=by
 have H:=Ac (FV b (c :: r) O 1 w h (by simp) (by simp;omega));rw[show (c :: r).take 1=[c] from rfl,show (c :: r).drop 1=r from rfl]at H;have i0:(str [c])[0]'(by rw[Ax];simp)=c:=rfl;have hc:=c.toNat_lt;have hw:wrap64 (c.toNat:Int)=(c.toNat:Int):=by unfold wrap64;omega
 clear h;go_enter Tryz.func206,Tryz.ntmps206;go_wp2_with fail
 refine(Aa H).mono ?_;rintro e w1 ⟨rfl,rfl⟩;go_wp2
 go_ret
 exact⟨rfl,rfl⟩
theorem RX(b:Nat)(l:List UInt8)(O:Value)(w:World)(h:Rd w b l O)(hn:¬2<=l.length):
  Calls Tryz.prog 207 #[.pointer (some ⟨b,0,none⟩)] w fun e w'=>e=Az 6 0/\Below b w w':=by
 match l,h,hn with
 |[],h,_=>
  have ac:=h.lt;have H:=Ac (O7 b O w h);clear h;go_enter Tryz.func207,Tryz.ntmps207;go_wp2_with fail
  refine(Aa H).mono ?_;rintro e w1 ⟨rfl,aa⟩;go_wp2;exact⟨rfl,rfl,aa.mono (by omega)⟩
 |[a],h,_=>
  have ac:=h.lt;have H:=Ac (JL b a [] O w h (by simp));have H2:=Ac (O7 b O _ (h.set0 []));have ha:=a.toNat_lt;have hw:wrap64 ((a.toNat:Int)*256)=(a.toNat:Int)*256:=by unfold wrap64;omega
  clear h;go_enter Tryz.func207,Tryz.ntmps207;go_wp2_with fail
  refine(Aa H).mono ?_;rintro e w1 ⟨rfl,rfl⟩;go_wp2_with fail
  refine(Aa H2).mono ?_;rintro e w2 ⟨rfl,ab⟩;go_wp2;exact⟨rfl,rfl,((Below.refl b w).setCell (by simp) _).trans (ab.mono (by simp;omega))⟩
 |a :: c :: r,_,hn=>exact absurd (by simp) hn
theorem PR(a c:Nat)(ha:a<256)(hc:c<256):bits .or .i64 ((a*256:Nat):Int) (c:Int)=((a*256+c:Nat):Int):=by
 have e:a*256 ||| c=a*256+c:=by
  have h:=Nat.two_pow_add_eq_or_of_lt (i:=8) (b:=c) (by omega) a;rw[show 2 ^ 8*a=a*256 by omega]at h;exact h.symm
 have n1:(BitVec.ofInt 64 ((a*256:Nat):Int)).toNat=a*256:=by
  rw[BitVec.ofInt_natCast,BitVec.toNat_ofNat];omega
 have n2:(BitVec.ofInt 64 (c:Int)).toNat=c:=by
  rw[BitVec.ofInt_natCast,BitVec.toNat_ofNat];omega
 show IntKind.i64.wrap ((BitVec.ofInt 64 ((a*256:Nat):Int) ||| BitVec.ofInt 64 (c:Int)).toNat:Int)=_;rw[BitVec.toNat_or,n1,n2,e,IntKind.wrap_i64];omega
def Cc(a c:UInt8):Nat:=a.toNat*256+c.toNat
theorem RY(b:Nat)(a c:UInt8)(r:List UInt8)(O:Value)(w:World)(h:Rd w b (a :: c :: r) O)(hl:r.length<=500):
  Calls Tryz.prog 207 #[.pointer (some ⟨b,0,none⟩)] w fun e w'=>e=.returned (.int .i64 (Cc a c))/\w'=(w.setCell ⟨b,0,none⟩ (.string (str (c :: r)))).setCell ⟨b,0,none⟩ (.string (str r)):=by
 have H:=Ac (JL b a (c :: r) O w h (by simp;omega));have H2:=Ac (JL b c r O _ (h.set0 (c :: r)) (by omega));have ha:=a.toNat_lt;have hc:=c.toNat_lt;have hw:wrap64 ((a.toNat:Int)*256)=(a.toNat:Int)*256:=by unfold wrap64;omega
 have ho:bits .or .i64 ((a.toNat:Int)*256) (c.toNat:Int)=((Cc a c:Nat):Int):=by
  have:=PR a.toNat c.toNat (by omega) (by omega);rw[show ((a.toNat*256:Nat):Int)=(a.toNat:Int)*256 by omega]at this;exact this
 clear h;generalize str (c :: r)=S1 at *;generalize str r=S2 at *;go_enter Tryz.func207,Tryz.ntmps207;go_wp2_with fail
 refine(Aa H).mono ?_;rintro e w1 ⟨rfl,rfl⟩;go_wp2_with fail
 refine(Aa H2).mono ?_;rintro e w2 ⟨rfl,rfl⟩;go_wp2
 go_ret
 exact⟨rfl,rfl⟩
structure RS(w0 w:World)(l:List UInt8)(O:Value)(v:List It):Prop where
 rd:Rd w w0.heap.size l O
 below:Below w0.heap.size w0 w
 own:w.ownsRow (w0.heap.size+1) 73 2 O v.length (flat v)
theorem RS.row(h:RS w0 w l O v){k:Nat}(hk:O.ownBlock=some k):w0.heap.size<k/\k<w.heap.size:=by
 have:=h.own.lt k hk;omega
theorem RS.go{w':World}(h:RS w0 w l O v)(hb:Below w.heap.size w w'):RS w0 w' l O v:=
 ⟨h.rd.below hb,h.below.trans (hb.mono h.below.size),Bu h.own hb⟩
theorem RS.took(h:RS w0 w l O v)(l':List UInt8):RS w0 (w.setCell ⟨w0.heap.size,0,none⟩ (.string (str l'))) l' O v/\Wk w0.heap.size O O w (w.setCell ⟨w0.heap.size,0,none⟩ (.string (str l'))):=
 ⟨⟨h.rd.set0 l',h.below.setCell (by simp) _,Ka h.own (by omega)⟩,⟨by simp,fun k _ aa _=>Below.heap_setCell _ _ _ _ (by simpa using aa),afJ rfl⟩⟩
theorem Om:∀(v:List It) (x:It),flat (v++[x])=flat v++[.int .i64 x.1,.string x.2]
 |[],x=>rfl
 |y :: v,x=>by simp only[agz,flat,Om v x]
theorem Kb{w1:World}{O1:Value}{x:It}{o:Obj}(h:RS w0 w l O v)(ab:w1.ownsRow (w0.heap.size+1) 73 2 O1 (v.length+1) (flat v++[.int .i64 x.1,.string x.2]))(hg:(w.alloc o).grownBy w1 O.ownBlock)(ad:O1.ownBlock=O.ownBlock\/O1.ownBlock=some (w.alloc o).heap.size):
  Rd w1 w0.heap.size l O/\RS w0 (w1.setCell ⟨w0.heap.size,2,none⟩ O1) l O1 (v++[x])/\Wk w0.heap.size O O1 w (w1.setCell ⟨w0.heap.size,2,none⟩ O1):=by
 have af:=h.rd.lt;have ag:(w.alloc o).heap.size=w.heap.size+1:=by simp
 have ah:=hg.size;have keep:∀k,k<w.heap.size->O.ownBlock≠some k->w1.heap[k]?=w.heap[k]?:=by
  intro k hk hr;rw[hg.block k (by omega) (fun e=>hr e.symm)];exact Below.heap_alloc _ _ _ hk
 have aa:∀k,O.ownBlock=some k->w0.heap.size<k:=fun k hk=>(h.row hk).1
 have ac:Rd w1 w0.heap.size l O:=by
  have:=h.rd;unfold Rd at this ⊢;rw[keep _ af (fun e=>by have:=aa _ e;omega)];exact this
 refine⟨ac,⟨ac.set1 O1,?_,?_⟩,⟨by simp;omega,fun k hk ae hr=>?_,?_⟩⟩
 ·exact((h.below.alloc (by omega) o).grown hg (by omega) (fun k hk=>by have:=aa k hk;omega)).setCell (by simp) _
 ·have:=Ka (k:=w0.heap.size) (o:=2) (x:=O1) ab (by omega);rw[afS,Om];exact this
 ·rw[Below.heap_setCell _ _ _ _ (by simpa using ae)];exact keep k hk hr
 ·rcases ad with h1|h1
  ·exact afJ h1
  ·exact afM ⟨_,h1,by omega⟩
theorem Fi(w:World)(x:It):∀(j:Nat) (u:Value),([Value.int .i64 x.1,.string x.2]:List Value)[j]?=some u->(w.alloc (.cells #[.int .i64 x.1,.string x.2] 73)).cell? ((⟨w.heap.size,0,none⟩:Addr).add j)=some u:=by
 intro j u hj;match j,hj with
 |0,hj=>simp at hj;subst hj;simp[Addr.add,go_sem]
 |1,hj=>simp at hj;subst hj;simp[Addr.add,go_sem]
 |j+2,hj=>simp at hj
theorem Iv(x:It):∀u∈([Value.int .i64 x.1,.string x.2]:List Value),u.oneCell'=true:=by
 intro u hu;simp at hu;rcases hu with rfl|rfl
 ·rfl
 ·rfl
theorem RZ(w0 w:World)(a c:UInt8)(r:List UInt8)(O:Value)(v:List It)(h:RS w0 w (a :: c :: r) O v)(hl:r.length<=500):
  Calls Tryz.prog 207 #[.pointer (some ⟨w0.heap.size,0,none⟩)] w fun e w'=>e=.returned (.int .i64 (Cc a c))/\RS w0 w' r O v/\Wk w0.heap.size O O w w':=by
 refine(RY w0.heap.size a c r O w h.rd hl).mono ?_;rintro e w' ⟨rfl,rfl⟩;obtain⟨h1,k1⟩:=h.took (c :: r);obtain⟨h2,k2⟩:=h1.took r;exact⟨rfl,h2,k1.trans k2⟩
theorem U8(a c:UInt8):Cc a c<65536:=by
 have ha:=a.toNat_lt;have hc:=c.toNat_lt;unfold Cc;omega
def turned(lo hi n:Int):Int:=if lo<0/\hi<n then n-65536 else n
theorem Rw(w0 w:World)(l:List UInt8)(O:Value)(v:List It)(lo hi:Int)(n:Nat)(hn:n<65536)(ab:turned lo hi n<lo\/hi<turned lo hi n)
  (H:Calls Tryz.prog 207 #[.pointer (some ⟨w0.heap.size,0,none⟩)] w fun e w'=>e=.returned (.int .i64 n)/\RS w0 w' l O v/\Wk w0.heap.size O O w w'):
  Calls Tryz.prog 285 #[.pointer (some ⟨w0.heap.size,0,none⟩),.int .i64 lo,.int .i64 hi] w fun e w'=>e=Az 6 0/\Below w0.heap.size w0 w':=by
 have HH:=Ac H;clear H;unfold turned at ab;by_cases h1:lo<0
 ·by_cases h2:hi<(n:Int)
  ·rw[if_pos ⟨h1,h2⟩]at ab;by_cases h3:(n:Int)-65536<lo
   ·go_enter Tryz.func285,Tryz.ntmps285;go_wp2_with fail
    refine(Aa HH).mono ?_;rintro e w1 ⟨rfl,aa,_⟩;have hb:=aa.below;have HR:=Ac (Cp w0.heap.size l O w1 aa.rd);clear aa;go_wp2_with fail
    refine(Aa HR).mono ?_;rintro e w2 ⟨rfl,rfl⟩;go_wp2;exact⟨rfl,rfl,hb⟩
   ·have h4:hi<(n:Int)-65536:=by omega
    go_enter Tryz.func285,Tryz.ntmps285;go_wp2_with fail
    refine(Aa HH).mono ?_;rintro e w1 ⟨rfl,aa,_⟩;have hb:=aa.below;have HR:=Ac (Cp w0.heap.size l O w1 aa.rd);clear aa;go_wp2_with fail
    refine(Aa HR).mono ?_;rintro e w2 ⟨rfl,rfl⟩;go_wp2;exact⟨rfl,rfl,hb⟩
  ·rw[if_neg (fun h=>h2 h.2)]at ab;have h3:(n:Int)<lo:=by omega
   omega
 ·rw[if_neg (fun h=>h1 h.1)]at ab;by_cases h3:(n:Int)<lo
  ·go_enter Tryz.func285,Tryz.ntmps285;go_wp2_with fail
   refine(Aa HH).mono ?_;rintro e w1 ⟨rfl,aa,_⟩;have hb:=aa.below;have HR:=Ac (Cp w0.heap.size l O w1 aa.rd);clear aa;go_wp2_with fail
   refine(Aa HR).mono ?_;rintro e w2 ⟨rfl,rfl⟩;go_wp2;exact⟨rfl,rfl,hb⟩
  ·have h4:hi<(n:Int):=by omega
   go_enter Tryz.func285,Tryz.ntmps285;go_wp2_with fail
   refine(Aa HH).mono ?_;rintro e w1 ⟨rfl,aa,_⟩;have hb:=aa.below;have HR:=Ac (Cp w0.heap.size l O w1 aa.rd);clear aa;go_wp2_with fail
   refine(Aa HR).mono ?_;rintro e w2 ⟨rfl,rfl⟩;go_wp2;exact⟨rfl,rfl,hb⟩
theorem J9(w0 w:World)(lo hi:Int)(H:Calls Tryz.prog 207 #[.pointer (some ⟨w0.heap.size,0,none⟩)] w fun e w'=>e=Az 6 0/\Below w0.heap.size w0 w'):
  Calls Tryz.prog 285 #[.pointer (some ⟨w0.heap.size,0,none⟩),.int .i64 lo,.int .i64 hi] w fun e w'=>e=Az 6 0/\Below w0.heap.size w0 w':=by
 have HH:=Ac H;clear H;go_enter Tryz.func285,Tryz.ntmps285;go_wp2_with fail
 refine(Aa HH).mono ?_;rintro e w1 ⟨rfl,hb⟩;go_wp2;exact⟨rfl,rfl,hb⟩
theorem TX(w0 w:World)(l:List UInt8)(O:Value)(v:List It)(lo hi n':Int)(n:Nat)(hn:n<65536)(ao:n'=turned lo hi n)(av:¬n'<lo/\¬hi<n')(hv:v.length<=100000)
  (H:Calls Tryz.prog 207 #[.pointer (some ⟨w0.heap.size,0,none⟩)] w fun e w'=>e=.returned (.int .i64 n)/\RS w0 w' l O v/\Wk w0.heap.size O O w w'):
  Calls Tryz.prog 285 #[.pointer (some ⟨w0.heap.size,0,none⟩),.int .i64 lo,.int .i64 hi] w fun e w'=>e=.returned (.int .i64 n')/\∃O',RS w0 w' l O' (v++[(n',⟨#[]⟩)])/\Wk w0.heap.size O O' w w':=by
 have HH:=Ac H;clear H;obtain⟨h3,h4⟩:=av;obtain⟨i0,an,ap,aq,ar⟩:=info_parts MR;have aj:(lo<0/\hi<(n:Int)/\n'=(n:Int)-65536)\/(lo<0/\¬hi<(n:Int)/\n'=(n:Int))\/(¬lo<0/\n'=(n:Int)):=by
  unfold turned at ao;split at ao<;>omega
 clear ao;rcases aj with ⟨h1,h2,rfl⟩|⟨h1,h2,rfl⟩|⟨h1,rfl⟩;all_goals
  go_enter Tryz.func285,Tryz.ntmps285;go_wp2_with fail
  refine(Aa HH).mono ?_;rintro e w1 ⟨rfl,ag,au⟩;obtain⟨oa,on,oc,aw⟩:=Ar ag.own;subst aw;have hO:=ag.rd.items;have how:=ag.own;have ax:=ag.rd.lt;have al:=Ac ag;have am:=Ac au;clear ag au
 ·go_wp2_with (at_builtin;refine wpList_append_own_at _ rfl (.tmp 37) (.tmp 40) 37 rfl (w0.heap.size+1) 73 i0 _ 2 24 Tryz.underlying37 an ap aq ar rfl (by decide) _ v.length (flat v) rfl (by exact how.alloc _) ⟨w1.heap.size,0,none⟩ 1 1 [.int .i64 ((n:Int)-65536),.string ⟨#[]⟩] rfl rfl (by exact Fi w1 ((n:Int)-65536,⟨#[]⟩)) (by exact Iv ((n:Int)-65536,⟨#[]⟩)) (by unfold maxLen;omega) (by omega) (by simp;omega) ?_)
  intro O1 w2 ab aa _ af;obtain⟨ta,tn,tc,ak⟩:=Ar ab;subst ak;obtain⟨ae,ac,ad⟩:=Kb (x:=((n:Int)-65536,⟨#[]⟩)) (Aa al) ab aa (by simpa using af);have k1:=ae.items;have k2:=ae.thaw 2;have ai:=Ac ac;have ah:=Ac ((Aa am).trans ad);clear ab aa af ae ac ad how hO;go_wp2
  go_ret
  exact⟨rfl,_,Aa ai,Aa ah⟩
 ·go_wp2_with (at_builtin;refine wpList_append_own_at _ rfl (.tmp 37) (.tmp 40) 37 rfl (w0.heap.size+1) 73 i0 _ 2 24 Tryz.underlying37 an ap aq ar rfl (by decide) _ v.length (flat v) rfl (by exact how.alloc _) ⟨w1.heap.size,0,none⟩ 1 1 [.int .i64 (n:Int),.string ⟨#[]⟩] rfl rfl (by exact Fi w1 ((n:Int),⟨#[]⟩)) (by exact Iv ((n:Int),⟨#[]⟩)) (by unfold maxLen;omega) (by omega) (by simp;omega) ?_)
  intro O1 w2 ab aa _ af;obtain⟨ta,tn,tc,ak⟩:=Ar ab;subst ak;obtain⟨ae,ac,ad⟩:=Kb (x:=((n:Int),⟨#[]⟩)) (Aa al) ab aa (by simpa using af);have k1:=ae.items;have k2:=ae.thaw 2;have ai:=Ac ac;have ah:=Ac ((Aa am).trans ad);clear ab aa af ae ac ad how hO;go_wp2
  go_ret
  exact⟨rfl,_,Aa ai,Aa ah⟩
 ·go_wp2_with (at_builtin;refine wpList_append_own_at _ rfl (.tmp 37) (.tmp 40) 37 rfl (w0.heap.size+1) 73 i0 _ 2 24 Tryz.underlying37 an ap aq ar rfl (by decide) _ v.length (flat v) rfl (by exact how.alloc _) ⟨w1.heap.size,0,none⟩ 1 1 [.int .i64 (n:Int),.string ⟨#[]⟩] rfl rfl (by exact Fi w1 ((n:Int),⟨#[]⟩)) (by exact Iv ((n:Int),⟨#[]⟩)) (by unfold maxLen;omega) (by omega) (by simp;omega) ?_)
  intro O1 w2 ab aa _ af;obtain⟨ta,tn,tc,ak⟩:=Ar ab;subst ak;obtain⟨ae,ac,ad⟩:=Kb (x:=((n:Int),⟨#[]⟩)) (Aa al) ab aa (by simpa using af);have k1:=ae.items;have k2:=ae.thaw 2;have ai:=Ac ac;have ah:=Ac ((Aa am).trans ad);clear ab aa af ae ac ad how hO;go_wp2
  go_ret
  exact⟨rfl,_,Aa ai,Aa ah⟩
theorem Np(w0 w:World)(H:Calls Tryz.prog 207 #[.pointer (some ⟨w0.heap.size,0,none⟩)] w fun e w'=>e=Az 6 0/\Below w0.heap.size w0 w'):
  Calls Tryz.prog 286 #[.pointer (some ⟨w0.heap.size,0,none⟩)] w fun e w'=>e=Az 6 0/\Below w0.heap.size w0 w':=by
 have HH:=Ac H;clear H;go_enter Tryz.func286,Tryz.ntmps286;go_wp2_with fail
 refine(Aa HH).mono ?_;rintro e w1 ⟨rfl,hb⟩;go_wp2;exact⟨rfl,rfl,hb⟩
theorem T5(w0 w:World)(l:List UInt8)(O:Value)(v:List It)(n:Nat)(hn:¬n<=14)
  (H:Calls Tryz.prog 207 #[.pointer (some ⟨w0.heap.size,0,none⟩)] w fun e w'=>e=.returned (.int .i64 n)/\RS w0 w' l O v/\Wk w0.heap.size O O w w'):
  Calls Tryz.prog 286 #[.pointer (some ⟨w0.heap.size,0,none⟩)] w fun e w'=>e=Az 6 0/\Below w0.heap.size w0 w':=by
 have HH:=Ac H;have ab:(14:Int)<(n:Int):=by omega
 clear H hn;go_enter Tryz.func286,Tryz.ntmps286;go_wp2_with fail
 refine(Aa HH).mono ?_;rintro e w1 ⟨rfl,aa,_⟩;have hb:=aa.below;have HR:=Ac (Cp w0.heap.size l O w1 aa.rd);clear aa;go_wp2_with fail
 refine(Aa HR).mono ?_;rintro e w2 ⟨rfl,rfl⟩;go_wp2;exact⟨rfl,rfl,hb⟩
theorem Rx(w0 w:World)(l:List UInt8)(O:Value)(v:List It)(n:Nat)(hn:n<=14)(hs:¬n<=l.length)
  (H:Calls Tryz.prog 207 #[.pointer (some ⟨w0.heap.size,0,none⟩)] w fun e w'=>e=.returned (.int .i64 n)/\RS w0 w' l O v/\Wk w0.heap.size O O w w'):
  Calls Tryz.prog 286 #[.pointer (some ⟨w0.heap.size,0,none⟩)] w fun e w'=>e=Az 6 0/\Below w0.heap.size w0 w':=by
 have HH:=Ac H;have ac:¬(14:Int)<(n:Int):=by omega
 clear H;go_enter Tryz.func286,Tryz.ntmps286;go_wp2_with fail
 refine(Aa HH).mono ?_;rintro e w1 ⟨rfl,aa,_⟩;have hb:=aa.below;have HT:=Ac (Ki w0.heap.size l O n w1 aa.rd hs);clear aa;go_wp2_with fail
 refine(Aa HT).mono ?_;rintro e w2 ⟨rfl,ab⟩;go_wp2;exact⟨rfl,rfl,hb.trans (ab.mono hb.size)⟩
theorem TY(w0 w:World)(l:List UInt8)(O:Value)(v:List It)(n:Nat)(hn:n<=14)(hs:n<=l.length)(hl:l.length<=500)(hv:v.length<=100000)(he:n % 2=0)
  (H:Calls Tryz.prog 207 #[.pointer (some ⟨w0.heap.size,0,none⟩)] w fun e w'=>e=.returned (.int .i64 n)/\RS w0 w' l O v/\Wk w0.heap.size O O w w'):
  Calls Tryz.prog 286 #[.pointer (some ⟨w0.heap.size,0,none⟩)] w fun e w'=>e=.returned (.tuple #[])/\∃O',RS w0 w' (l.drop n) O' (v++[(0,str (l.take n))])/\Wk w0.heap.size O O' w w':=by
 have HH:=Ac H;have aB:¬(14:Int)<(n:Int):=by omega
 have am:=Ac (fun w=>Gs n w hn);rw[show (n % 2==1)=false by simp[he]]at am;have au:(l.take n).length<=1000:=by rw[aga];omega
 have HC:=Ac (fun w=>Ei (l.take n) w au);obtain⟨i0,av,ay,az,aA⟩:=info_parts MR;clear H;go_enter Tryz.func286,Tryz.ntmps286;go_wp2_with fail
 refine(Aa HH).mono ?_;rintro e w1 ⟨rfl,al,ap⟩;have HT:=Ac (FV w0.heap.size l O n w1 al.rd hs (by omega));obtain⟨ad,af⟩:=al.took (l.drop n);have ah:=Ac ad;have an:=Ac (ap.trans af);clear al ap ad af HH;generalize hSS:str (l.take n)=S at *;go_wp2_with fail
 refine(Aa HT).mono ?_;rintro e w2 ⟨rfl,rfl⟩;generalize w1.setCell {block:=w0.heap.size,off:=0} (.string (str (l.drop n)))=W2 at *;go_wp2_with fail
 refine((Aa HC) _).mono ?_;rintro e w3 ⟨rfl,aj⟩;have aa:=(Aa ah).go aj;have ai:=Ac ((Aa an).trans (Wk.of_below aj));clear aj ah an HT HC;go_wp2_with fail
 refine((Aa am) _).mono ?_;rintro e w4 ⟨rfl,rfl⟩;obtain⟨oa,on,oc,aw⟩:=Ar aa.own;subst aw;have hO:=aa.rd.items;have how:=aa.own;have aC:=aa.rd.lt;have ah:=Ac aa;clear aa;go_wp2_with (at_builtin;refine wpList_append_own_at _ rfl (.tmp 37) (.tmp 40) 37 rfl (w0.heap.size+1) 73 i0 _ 2 24 Tryz.underlying37 av ay az aA rfl (by decide) _ v.length (flat v) rfl (by exact how.alloc _) ⟨w4.heap.size,0,none⟩ 1 1 [.int .i64 0,.string S] rfl rfl (by exact Fi w4 (0,S)) (by exact Iv (0,S)) (by unfold maxLen;omega) (by omega) (by simp;omega) ?_)
 intro O1 w5 ac ab _ ao;obtain⟨ta,tn,tc,ax⟩:=Ar ac;subst ax;obtain⟨ak,ae,ag⟩:=Kb (x:=(0,S)) (Aa ah) ac ab (by simpa using ao);have k1:=ak.items;have k2:=ak.thaw 2;have ar:=Ac ae;have aq:=Ac ((Aa ai).trans ag);clear ac ab ao ak ae ag how hO;go_wp2
 go_end0
 rw[hSS];exact⟨rfl,_,Aa ar,Aa aq⟩
theorem WE(w0 w:World)(l:List UInt8)(O:Value)(v:List It)(n:Nat)(hn:n<=14)(hs:n=l.length)(hl:l.length<=500)(he:n % 2=1)
  (H:Calls Tryz.prog 207 #[.pointer (some ⟨w0.heap.size,0,none⟩)] w fun e w'=>e=.returned (.int .i64 n)/\RS w0 w' l O v/\Wk w0.heap.size O O w w'):
  Calls Tryz.prog 286 #[.pointer (some ⟨w0.heap.size,0,none⟩)] w fun e w'=>e=Az 6 0/\Below w0.heap.size w0 w':=by
 have HH:=Ac H;have aq:¬(14:Int)<(n:Int):=by omega
 have af:=Ac (fun w=>Gs n w hn);rw[show (n % 2==1)=true by simp[he]]at af;have ak:(l.take n).length<=1000:=by rw[aga];omega
 have HC:=Ac (fun w=>Ei (l.take n) w ak);have ah:=Ac hs;have am:=Ac hl;clear H hs hl he ak;go_enter Tryz.func286,Tryz.ntmps286;go_wp2_with fail
 refine(Aa HH).mono ?_;rintro e w1 ⟨rfl,ad,ap⟩;have HT:=Ac (FV w0.heap.size l O n w1 ad.rd (by have:=Aa ah;omega) (by have:=Aa am;omega));obtain⟨ac,ae⟩:=ad.took (l.drop n);have ag:=Ac ac;clear ad ap ac ae HH;generalize hSS:str (l.take n)=S at *;go_wp2_with fail
 refine(Aa HT).mono ?_;rintro e w2 ⟨rfl,rfl⟩;generalize w1.setCell {block:=w0.heap.size,off:=0} (.string (str (l.drop n)))=W2 at *;go_wp2_with fail
 refine((Aa HC) _).mono ?_;rintro e w3 ⟨rfl,ai⟩;have ab:=(Aa ag).go ai;clear ai ag HT HC;go_wp2_with fail
 refine((Aa af) _).mono ?_;rintro e w4 ⟨rfl,rfl⟩;have al:l.drop n=[]:=List.drop_of_length_le (by have:=Aa ah;omega);have aa:=ab.rd;rw[al]at aa;have an:=Ac (O7 w0.heap.size O w4 aa);have aj:=ab.below;clear ab aa al;go_wp2_with fail
 refine(Aa an).mono ?_;rintro e w5 ⟨rfl,ao⟩;go_wp2;exact⟨rfl,rfl,aj.trans (ao.mono aj.size)⟩
theorem WH(w0 w:World)(l r:List UInt8)(c:UInt8)(O:Value)(v:List It)(n:Nat)(hn:n<=14)(hs:n<=l.length)(hd:l.drop n=c :: r)(hc:c≠0)(hl:l.length<=500)(he:n % 2=1)
  (H:Calls Tryz.prog 207 #[.pointer (some ⟨w0.heap.size,0,none⟩)] w fun e w'=>e=.returned (.int .i64 n)/\RS w0 w' l O v/\Wk w0.heap.size O O w w'):
  Calls Tryz.prog 286 #[.pointer (some ⟨w0.heap.size,0,none⟩)] w fun e w'=>e=Az 6 0/\Below w0.heap.size w0 w':=by
 have HH:=Ac H;have aq:¬(14:Int)<(n:Int):=by omega
 have ar:((c.toNat:Int) != 0)=true:=by
  rw[bne_iff_ne];intro h;exact hc (UInt8.toNat_inj.1 (by simpa using h))
 have ag:=Ac (fun w=>Gs n w hn);rw[show (n % 2==1)=true by simp[he]]at ag;have aj:(l.take n).length<=1000:=by rw[aga];omega
 have HC:=Ac (fun w=>Ei (l.take n) w aj);have am:=Ac hs;have af:=Ac hl;have HD:=Ac hd;clear H hs hl he aj hd hc;go_enter Tryz.func286,Tryz.ntmps286;go_wp2_with fail
 refine(Aa HH).mono ?_;rintro e w1 ⟨rfl,ad,ap⟩;have HT:=Ac (FV w0.heap.size l O n w1 ad.rd (Aa am) (by have:=Aa af;omega));obtain⟨aa,ae⟩:=ad.took (l.drop n);rw[Aa HD]at HT aa;have ah:=Ac aa;clear ad ap aa ae HH;generalize hSS:str (l.take n)=S at *;go_wp2_with fail
 refine(Aa HT).mono ?_;rintro e w2 ⟨rfl,rfl⟩;generalize w1.setCell {block:=w0.heap.size,off:=0} (.string (str (c :: r)))=W2 at *;go_wp2_with fail
 refine((Aa HC) _).mono ?_;rintro e w3 ⟨rfl,ai⟩;have ab:=(Aa ah).go ai;clear ai ah HT HC;go_wp2_with fail
 refine((Aa ag) _).mono ?_;rintro e w4 ⟨rfl,rfl⟩;have ak:(c :: r).length<=500:=by
  rw[<-Aa HD,agf];have:=Aa af;omega
 have an:=Ac (JL w0.heap.size c r O w4 ab.rd (by simp only[af1]at ak;omega));obtain⟨ac,_⟩:=ab.took r;have ao:=ac.below;have al:=Ac (Cp w0.heap.size r O _ ac.rd);clear ab ac ak;go_wp2_with fail
 refine(Aa an).mono ?_;rintro e w5 ⟨rfl,rfl⟩;generalize w4.setCell {block:=w0.heap.size,off:=0} (.string (str r))=W5 at *;go_wp2_with fail
 refine(Aa al).mono ?_;rintro e w6 ⟨rfl,rfl⟩;go_wp2;exact⟨rfl,rfl,ao⟩
theorem WG(w0 w:World)(l r:List UInt8)(O:Value)(v:List It)(n:Nat)(hn:n<=14)(hs:n<=l.length)(hd:l.drop n=0 :: r)(hl:l.length<=500)(hv:v.length<=100000)(he:n % 2=1)
  (H:Calls Tryz.prog 207 #[.pointer (some ⟨w0.heap.size,0,none⟩)] w fun e w'=>e=.returned (.int .i64 n)/\RS w0 w' l O v/\Wk w0.heap.size O O w w'):
  Calls Tryz.prog 286 #[.pointer (some ⟨w0.heap.size,0,none⟩)] w fun e w'=>e=.returned (.tuple #[])/\∃O',RS w0 w' r O' (v++[(0,str (l.take n))])/\Wk w0.heap.size O O' w w':=by
 have HH:=Ac H;have aK:¬(14:Int)<(n:Int):=by omega
 have ap:=Ac (fun w=>Gs n w hn);rw[show (n % 2==1)=true by simp[he]]at ap;have ax:(l.take n).length<=1000:=by rw[aga];omega
 have HC:=Ac (fun w=>Ei (l.take n) w ax);obtain⟨i0,aE,aH,aI,aJ⟩:=info_parts MR;have aD:=Ac hs;have ao:=Ac hl;have HD:=Ac hd;clear H hs hl he ax hd;go_enter Tryz.func286,Tryz.ntmps286;go_wp2_with fail
 refine(Aa HH).mono ?_;rintro e w1 ⟨rfl,an,az⟩;have HT:=Ac (FV w0.heap.size l O n w1 an.rd (Aa aD) (by have:=Aa ao;omega));obtain⟨ad,af⟩:=an.took (l.drop n);rw[Aa HD]at HT ad af;have ar:=Ac ad;have av:=Ac (az.trans af);clear an az ad af HH;generalize hSS:str (l.take n)=S at *;go_wp2_with fail
 refine(Aa HT).mono ?_;rintro e w2 ⟨rfl,rfl⟩;generalize w1.setCell {block:=w0.heap.size,off:=0} (.string (str (0 :: r)))=W2 at *;go_wp2_with fail
 refine((Aa HC) _).mono ?_;rintro e w3 ⟨rfl,al⟩;have ae:=(Aa ar).go al;have ag:=Ac ((Aa av).trans (Wk.of_below al));clear al ar HT HC av;go_wp2_with fail
 refine((Aa ap) _).mono ?_;rintro e w4 ⟨rfl,rfl⟩;have ay:(0 :: r).length<=500:=by
  rw[<-Aa HD,agf];have:=Aa ao;omega
 have au:=Ac (JL w0.heap.size 0 r O w4 ae.rd (by simp only[af1]at ay;omega));rw[show (((0:UInt8).toNat:Nat):Int)=0 from rfl]at au;obtain⟨ai,ak⟩:=ae.took r;clear ay;have aq:=Ac ai;have aB:=Ac ((Aa ag).trans ak);clear ae ai ak ag;go_wp2_with fail
 refine(Aa au).mono ?_;rintro e w5 ⟨rfl,rfl⟩;generalize w4.setCell {block:=w0.heap.size,off:=0} (.string (str r))=W5 at *;have aa:=Aa aq;obtain⟨oa,on,oc,aF⟩:=Ar aa.own;subst aF;have hO:=aa.rd.items;have how:=aa.own;have aL:=aa.rd.lt;clear aa;go_wp2_with (at_builtin;refine wpList_append_own_at _ rfl (.tmp 37) (.tmp 40) 37 rfl (w0.heap.size+1) 73 i0 _ 2 24 Tryz.underlying37 aE aH aI aJ rfl (by decide) _ v.length (flat v) rfl (by exact how.alloc _) ⟨W5.heap.size,0,none⟩ 1 1 [.int .i64 0,.string S] rfl rfl (by exact Fi W5 (0,S)) (by exact Iv (0,S)) (by unfold maxLen;omega) (by omega) (by simp;omega) ?_)
 intro O1 w6 ac ab _ aw;obtain⟨ta,tn,tc,aG⟩:=Ar ac;subst aG;obtain⟨am,ah,aj⟩:=Kb (x:=(0,S)) (Aa aq) ac ab (by simpa using aw);have k1:=am.items;have k2:=am.thaw 2;have aC:=Ac ah;have aA:=Ac ((Aa aB).trans aj);clear ac ab aw am ah aj how hO;go_wp2
 go_end0
 rw[hSS];exact⟨rfl,_,Aa aC,Aa aA⟩
abbrev Qa:=List UInt8×List It
def Dz(lo hi:Int)(x:Qa):Option (Int×Qa):=match x.1 with
 |a :: c :: r=>if turned lo hi (Cc a c)<lo\/hi<turned lo hi (Cc a c) then none else some (turned lo hi (Cc a c),(r,x.2++[(turned lo hi (Cc a c),⟨#[]⟩)]))
 |_=>none
def Df(x:Qa):Option Qa:=match x.1 with
 |a :: c :: r=>if Cc a c<=14/\Cc a c<=r.length then
   (if Cc a c % 2=0 then some (r.drop (Cc a c),x.2++[(0,str (r.take (Cc a c)))])
    else match r.drop (Cc a c) with
    |p :: r'=>if p=0 then some (r',x.2++[(0,str (r.take (Cc a c)))]) else none
    |[]=>none)
   else none
 |_=>none
def reader(w0:World):B6 Qa where
 tid:=307
 NT:=285
 Ye:=286
 er:=6
 ptr:=⟨w0.heap.size,0,none⟩
 w0:=w0
 St:=fun w c x O=>∃Ov,RS w0 w x.1 Ov x.2/\O=Jz w0 Ov/\x.1.length<=490/\x.2.length<=c
 num:=Dz
 txt:=Df
theorem PN(h:RS w0 w l O v)(hn:¬2<=l.length):Calls Tryz.prog 207 #[.pointer (some ⟨w0.heap.size,0,none⟩)] w fun e w'=>e=Az 6 0/\Below w0.heap.size w0 w':=by
 refine(RX w0.heap.size l O w h.rd hn).mono ?_;rintro e w' ⟨rfl,hb⟩;exact⟨rfl,h.below.trans hb⟩
theorem WC(w0 w:World)(c:Nat)(l:List UInt8)(v:List It)(Ov:Value)(lo hi:Int)(h:RS w0 w l Ov v)(hl:l.length<=490)(hv:v.length<=c)(hc:c<=40000):
  Calls Tryz.prog 285 #[.pointer (some ⟨w0.heap.size,0,none⟩),.int .i64 lo,.int .i64 hi] w
   (OrN 6 ((reader w0).No (Dz lo hi (l,v)=none)) (fun i w'=>∃x',Dz lo hi (l,v)=some (i,x')/\(reader w0).Lv (Jz w0 Ov) (c+1) x' w w')):=by
 have aa:Dz lo hi (l,v)=none->∀e w',e=Az 6 0/\Below w0.heap.size w0 w'->OrN 6 ((reader w0).No (Dz lo hi (l,v)=none)) (fun i w'=>∃x',Dz lo hi (l,v)=some (i,x')/\(reader w0).Lv (Jz w0 Ov) (c+1) x' w w') e w':=by
  rintro ab e w' ⟨rfl,hb⟩;exact afJ ⟨rfl,ab,hb⟩
 match l,h,hl,aa with
 |[],h,_,aa=>exact(J9 w0 w lo hi (PN h (by simp))).mono (aa rfl)
 |[a],h,_,aa=>exact(J9 w0 w lo hi (PN h (by simp))).mono (aa rfl)
 |a :: b :: r,h,hl,aa=>
  simp only[af1]at hl;have H:=RZ w0 w a b r Ov v h (by omega);by_cases hb:turned lo hi (Cc a b)<lo\/hi<turned lo hi (Cc a b)
  ·exact(Rw w0 w r Ov v lo hi _ (U8 a b) hb H).mono (aa (by simp only[Dz];rw[if_pos hb]))
  ·refine(TX w0 w r Ov v lo hi _ _ (U8 a b) rfl ⟨fun h=>hb (afJ h),fun h=>hb (afM h)⟩ (by omega) H).mono ?_;rintro e w' ⟨rfl,O',ac,ad⟩;refine afM ⟨_,rfl,(r,v++[(turned lo hi (Cc a b),⟨#[]⟩)]),by simp only[Dz];rw[if_neg hb],c+1,Jz w0 O',afI _,⟨O',ac,rfl,by simp only;omega,?_⟩,ad.kept⟩;simp only[afS,af1,List.length_nil];omega
theorem WI(w0 w:World)(c:Nat)(l:List UInt8)(v:List It)(Ov:Value)(h:RS w0 w l Ov v)(hl:l.length<=490)(hv:v.length<=c)(hc:c<=40000):
  Calls Tryz.prog 286 #[.pointer (some ⟨w0.heap.size,0,none⟩)] w
   (LM 6 ((reader w0).No (Df (l,v)=none)) (fun w'=>∃x',Df (l,v)=some x'/\(reader w0).Lv (Jz w0 Ov) (c+1) x' w w')):=by
 have aa:Df (l,v)=none->∀e w',e=Az 6 0/\Below w0.heap.size w0 w'->LM 6 ((reader w0).No (Df (l,v)=none)) (fun w'=>∃x',Df (l,v)=some x'/\(reader w0).Lv (Jz w0 Ov) (c+1) x' w w') e w':=by
  rintro ad e w' ⟨rfl,hb⟩;exact afJ ⟨rfl,ad,hb⟩
 have ab:∀r' S,Df (l,v)=some (r',v++[(0,S)])->r'.length<=490->∀e w',(e=.returned (.tuple #[])/\∃O',RS w0 w' r' O' (v++[(0,S)])/\Wk w0.heap.size Ov O' w w')->LM 6 ((reader w0).No (Df (l,v)=none)) (fun w'=>∃x',Df (l,v)=some x'/\(reader w0).Lv (Jz w0 Ov) (c+1) x' w w') e w':=by
  rintro r' S hr ae e w' ⟨rfl,O',af,ag⟩;refine afM ⟨rfl,_,hr,c+1,Jz w0 O',afI _,⟨O',af,rfl,ae,?_⟩,ag.kept⟩;simp only[afS,af1,List.length_nil];omega
 match l,h,hl,aa,ab with
 |[],h,_,aa,_=>exact(Np w0 w (PN h (by simp))).mono (aa rfl)
 |[a],h,_,aa,_=>exact(Np w0 w (PN h (by simp))).mono (aa rfl)
 |a :: b :: r,h,hl,aa,ab=>
  simp only[af1]at hl;have H:=RZ w0 w a b r Ov v h (by omega);have hT:Df (a :: b :: r,v)=if Cc a b<=14/\Cc a b<=r.length then
    (if Cc a b % 2=0 then some (r.drop (Cc a b),v++[(0,str (r.take (Cc a b)))])
     else match r.drop (Cc a b) with
     |p :: r'=>if p=0 then some (r',v++[(0,str (r.take (Cc a b)))]) else none
     |[]=>none)
    else none:=rfl
  generalize Cc a b=n at H hT;by_cases ac:n<=14
  ·by_cases hs:n<=r.length
   ·rw[if_pos ⟨ac,hs⟩]at hT;by_cases he:n % 2=0
    ·rw[if_pos he]at hT;exact(TY w0 w r Ov v n ac hs (by omega) (by omega) he H).mono (ab _ _ hT (by rw[agf];omega))
    ·rw[if_neg he]at hT;cases hd:r.drop n with
     |nil=>
      rw[hd]at hT;have:r.length=n:=by
       have:=congrArg List.length hd;rw[agf]at this;simp at this;omega
      exact(WE w0 w r Ov v n ac this.symm (by omega) (by omega) H).mono (aa hT)
     |cons p r'=>
      rw[hd]at hT;simp only at hT;by_cases hp:p=0
      ·subst hp;rw[if_pos rfl]at hT;refine(WG w0 w r r' Ov v n ac hs hd (by omega) (by omega) (by omega) H).mono (ab _ _ hT ?_);have:=congrArg List.length hd;rw[agf]at this;simp at this;omega
      ·rw[if_neg hp]at hT;exact(WH w0 w r r' p Ov v n ac hs hd hp (by omega) (by omega) H).mono (aa hT)
   ·exact(Rx w0 w r Ov v n ac hs H).mono (aa (by rw[hT,if_neg (fun h=>hs h.2)]))
  ·exact(T5 w0 w r Ov v n ac H).mono (aa (by rw[hT,if_neg (fun h=>ac h.1)]))
theorem Nj(w0:World):JE (reader w0) where
 below:=by
  rintro w c x O ⟨Ov,h,_⟩;exact h.below
 fresh:=by
  rintro w c x O ⟨Ov,h,rfl,_⟩ k (rfl|hk)
  ·exact⟨afI _,h.rd.lt⟩
  ·have:=h.row hk;exact⟨by simp only[reader];omega,this.2⟩
 go:=by
  rintro w c x O w' ⟨Ov,h,r⟩ hb;exact⟨Ov,h.go hb,r⟩
 range:=by
  rintro lo hi ⟨l,v⟩ n x' h;simp only[reader,Dz]at h;split at h
  ·split at h
   ·cases h
   ·rename_i hb;cases h;omega
  ·cases h
 QX:=⟨fun _=>by kernel_rfl,fun _ _=>rfl⟩
 acw:=⟨fun _=>by kernel_rfl,fun _ _=>rfl⟩
 number:=by
  rintro w c ⟨l,v⟩ O lo hi ⟨Ov,h,rfl,hl,hv⟩ hc _;exact WC w0 w c l v Ov lo hi h hl hv hc
 text:=by
  rintro w c ⟨l,v⟩ O ⟨Ov,h,rfl,hl,hv⟩ hc;exact WI w0 w c l v Ov h hl hv hc
end Go.Proofs.YtblomippkddgiabGreatDoor.V
