import Derived.Test.YtblomippkddgiaaGreatDoorJ41
set_option maxRecDepth 100000
set_option maxHeartbeats 1000000
namespace Go.Proofs.YtblomippkddgiaaGreatDoor
open Go.RowKit
open Go.RowKit Go.Maps
def CY(uid:Int)(r:R.Sn):R.Sn:=if r.uid=uid/\r.state<3 then {r with state:=4} else r
theorem Pw(uid:Int)(r:R.Sn):CY uid (CY uid r)=CY uid r:=by
 unfold CY;by_cases h:r.uid=uid/\r.state<3
 ·rw[if_pos h];rw[if_neg (by simp)]
 ·rw[if_neg h,if_neg h]
def Ie(uid:Int)(l:List Nat)(s:List R.Sn):List R.Sn:=l.foldl (fun s i=>s.modify i (CY uid)) s
theorem G8(uid:Int):∀(l:List Nat) (s:List R.Sn) (i:Nat),(Ie uid l s)[i]?=if i∈l then (s[i]?).map (CY uid) else s[i]?
 |[],s,i=>by simp[Ie]
 |j :: l,s,i=>by
  show (Ie uid l (s.modify j (CY uid)))[i]?=_;rw[G8 uid l _ i,List.getElem?_modify];by_cases h:j=i
  ·subst h;cases s[j]? with
   |none=>simp
   |some r=>simp[Pw]
  ·have h':¬i=j:=fun e=>h e.symm
   cases s[i]? with
   |none=>simp
   |some r=>simp[h,h']
theorem Je{α:Type}{l:List α}{i:Nat}{r:α}{f:α->α}(h:l[i]?=some r):l.modify i f=l.set i (f r):=by
 apply List.ext_getElem?;intro j;rw[List.getElem?_modify,List.getElem?_set];by_cases e:i=j
 ·subst e;rw[h,if_pos rfl,if_pos (List.getElem?_eq_some_iff.1 h).1];simp
 ·simp[e]
theorem Vl{α:Type}{l:List α}{i:Nat}{r:α}(h:l[i]?=some r):l.set i r=l:=by
 apply List.ext_getElem?;intro j;rw[List.getElem?_set];by_cases e:i=j
 ·subst e;rw[if_pos rfl,if_pos (List.getElem?_eq_some_iff.1 h).1,h]
 ·simp[e]
theorem Q0{seen:List R.Sn}{uid:Int}(h0:uid≠0)(hl:seen.length=9)(hz:∀(i:Nat) (r:R.Sn),seen[i]?=some r->r.seq=0->r=R.Ef):Ie uid (idx seen) seen=seen.map (CY uid):=by
 apply List.ext_getElem?;intro i;rw[G8,List.getElem?_map];by_cases hi:i∈idx seen
 ·rw[if_pos hi]
 ·rw[if_neg hi];cases hr:seen[i]? with
  |none=>rfl
  |some r=>
   have hi9:i<9:=by rw[<-hl];exact(List.getElem?_eq_some_iff.1 hr).1
   have hn:¬GD seen i=true:=fun q=>hi (List.mem_filter.2 ⟨List.mem_range.2 hi9,q⟩)
   have hq:r.seq=0:=by simpa [GD,hr] using hn
   rw[hz i r hr hq];have:CY uid R.Ef=R.Ef:=by
    unfold CY;rw[if_neg];rintro ⟨q,_⟩;exact h0 q.symm
   simp[this]
theorem Wb{G:R.Wd}(h:R.Wf G){u:Nat}{s:R.Sv}(hs:G.Ac[u]?=some s)(seen:List R.Sn):R.Wf (Dm G (G.Ac.set u {s with alive:=false}) G.Ao seen G.jobs):=by
 refine⟨h.cf,h.JL,fun i c hc=>⟨(h.cl i c hc).lines,(h.cl i c hc).Ax,fun x hx=>?_,(h.cl i c hc).line⟩,h.EC,h.EO,by simpa using h.sv,fun y hy=>?_,h.nm,h.st,h.nd,fun x hx=>?_⟩
 ·have:=(h.cl i c hc).bound x hx;simpa using this
 ·rcases List.mem_or_eq_of_mem_set hy with q|q
  ·exact h.Lr y q
  ·rw[q];exact h.Lr s (List.mem_of_getElem? hs)
 ·have:=h.IC x hx;simpa using this
theorem QT{S:List R.Sv}{u:Nat}{s:R.Sv}(hs:S[u]?=some s)(k:Nat):((S.set u {s with alive:=false})[k]?).map (·.kind)=(S[k]?).map (·.kind):=by
 rw[List.getElem?_set];by_cases e:u=k
 ·subst e;rw[if_pos rfl,if_pos (List.getElem?_eq_some_iff.1 hs).1,hs];rfl
 ·rw[if_neg e]
theorem NM{G:R.Wd}{u:Nat}{s:R.Sv}(hs:G.Ac[u]?=some s)(seen:List R.Sn)(c:R.Cl)(x:Int):BU (Dm G (G.Ac.set u {s with alive:=false}) G.Ao seen G.jobs) c x=BU G c x:=by
 unfold BU kindOf;show (if x∈c.bound then some ((((G.Ac.set u {s with alive:=false})[(x-1).toNat]?).map (·.kind)).getD 0) else none)=_;rw[QT hs]
theorem Wn{G:R.Wd}{u:Nat}{s:R.Sv}(hs:G.Ac[u]?=some s):R.Ce G ((u:Int)+1)=Dm G (G.Ac.set u {s with alive:=false}) G.Ao (G.seen.map (CY ((u:Int)+1))) G.jobs:=by
 have e:((u:Int)+1-1).toNat=u:=by omega
 unfold R.Ce Dm;rw[e,Je hs];rfl
theorem LW.ends{p:Pl}{F:Ag}{G:R.Wd}{w:World}(h:LW p F G w){u:Nat}{s:R.Sv}(hs:G.Ac[u]?=some s):
  Calls Tryz.prog 182 #[ptr p.s,.int .i64 ((u:Int)+1)] w fun e w'=>e=.returned (.tuple #[])/\∃t,LW {p with t:=t} F (R.Ce G ((u:Int)+1)) w'/\Ah F F w w':=by
 obtain⟨z,hz,hz1⟩:=VN h.Eb.zs hs;obtain⟨g,cap,cur,hK,hg,hFg,_,k1,_,hcap,hmax,hsz,htk⟩:=h.Eb.Ur hz;have hd:=h.Eb.dead hz hK hg hcap hmax hsz htk;rw[hz1]at hd;have hkg:Ae (fun k=>k=g) w (w.setCell ⟨g,u*3+1,none⟩ .nilIface):=Ai _;have hL:=h.Qn hd hkg (B6.one hg (by decide)) (fun _ q=>q) (fun k hk=>Nat.lt_of_lt_of_le (h.lt k hk) hkg.size) (Wb h.wf hs G.seen) h.CF (fun i c _ x=>NM hs G.seen c x);have hW:Ah F F w (w.setCell ⟨g,u*3+1,none⟩ .nilIface):=⟨hkg.mono (fun k _ e=>by rw[e];exact hFg),fun _ q=>Or.inl q⟩;have hul:u<p.t.zs.length:=(List.getElem?_eq_some_iff.1 hz).1;have hzl:p.t.zs.length=G.Ac.length:=by rw[<-h.Eb.zs,List.length_map]
 have h255:=h.wf.sv;have hlen:=PY G.seen;rw[Wn hs,<-Q0 (uid:=(u:Int)+1) (by omega) h.CF.sl (fun i r hr h0=>(h.CF.sn i r hr).zero h0)];generalize hG1:G.Ac.set u {s with alive:=false}=S1 at hL;generalize ht1:({p.t with zs:=p.t.zs.set u (J4 z)}:SP)=t1 at hL;have hql:t1.ql=p.t.ql:=by rw[<-ht1]
 refine(TS w p.s g u p.t.zs.length cap (idx G.seen).length (fun k=>t1.ql ((idx G.seen).getD k 0)) z.2.wk (fun O k wr=>LW {p with t:=t1} F (Dm G S1 G.Ao (Ie ((u:Int)+1) ((idx G.seen).take k) G.seen) G.jobs) wr/\Ah F F w wr/\wr.ownsRow w.heap.size 143 1 O (idx G.seen).length ((idx G.seen).map fun i=>ptr (t1.ql i))/\∀j,O.ownBlock=some j->¬F j) hlen (by omega) hul (cell_of h.Eb.bs 6 _ (by rw[<-hK];rfl)) k1 (open_list hg) ?_ ?_ ?_).mono ?_
 ·refine hL.Eb.rem.mono ?_;rintro e w1 ⟨O,rfl,hrow,hb⟩;have e1:=MC t1 G.seen;rw[show EY (qf ({p with t:=t1}:Pl).t (Dm G S1 G.Ao G.seen G.jobs).seen) 9=_ from e1,List.length_map]at hrow;have hsz0:(w.setCell ⟨g,u*3+1,none⟩ .nilIface).heap.size=w.heap.size:=by simp
  rw[hsz0]at hrow;refine⟨O,rfl,hL.below hb,hW.trans (Ah.Aq F hb),hrow,fun j hj hF=>?_⟩;have h1:=((World.ownsRow.lt hrow) j hj).1;have h2:=h.lt j hF;omega
 ·rintro O k wr ⟨_,_,hrow,_⟩;exact Bu hrow
 ·rintro O k wr hk ⟨hw,hwt,hrow,hap⟩;have hik:(idx G.seen)[k]?=some ((idx G.seen)[k]):=List.getElem?_eq_getElem hk;have hgd:(idx G.seen).getD k 0=(idx G.seen)[k]:=by rw[List.getD_eq_getElem?_getD,hik];rfl
  rw[hgd];generalize hi:(idx G.seen)[k]=i at hik;have hmem:i∈idx G.seen:=List.mem_of_getElem? hik;have hin:GD G.seen i=true:=(List.mem_filter.1 hmem).2;have hi9:i<9:=by simpa using (List.mem_filter.1 hmem).1
  have hr:G.seen[i]?=some (R.D7 G i):=by
   have hl:i<G.seen.length:=by rw[h.CF.sl];exact hi9
   rw[R.Ex (List.getElem?_eq_getElem hl)];exact List.getElem?_eq_getElem hl
  generalize hrr:R.D7 G i=r at hr;have hne:r.seq≠0:=by
   have:((G.seen[i]?).getD R.Ef).seq≠0:=by simpa [GD] using hin
   rw[hr]at this;exact this
  have hnot:i ∉ (idx G.seen).take k:=fun hm=>by
   obtain⟨j,hj⟩:=List.mem_iff_getElem?.1 hm;rw[List.getElem?_take]at hj;split at hj
   ·have hjk:j=k:=by
     have hjl:=(List.getElem?_eq_some_iff.1 hj).1;exact(List.getElem?_inj hjl (Ka G.seen)).1 (hj.trans hik.symm)
    omega
   ·cases hj
  have hr':(Ie ((u:Int)+1) ((idx G.seen).take k) G.seen)[i]?=some r:=by rw[G8,if_neg hnot];exact hr
  have hnext:Ie ((u:Int)+1) ((idx G.seen).take (k+1)) G.seen=(Ie ((u:Int)+1) ((idx G.seen).take k) G.seen).set i (CY ((u:Int)+1) r):=by
   rw[<-Je hr'];exact Gj (fun s i=>List.modify s i (CY ((u:Int)+1))) G.seen (idx G.seen) k i hik
  rw[hnext];obtain⟨y,hq,_⟩:=hw.q hr' hne;obtain⟨_,_,_,_,c4,c5,_,_,_,_,_⟩:=Zf hq.blk;have hsn:=hw.CF.sn i _ hr';have hst:=(hsn.some hne).2.2;have hrel:=hq.rel;have e4:=hrel.uid;have e5:=hrel.state;rcases id hrow.2 with ⟨_,h0⟩|⟨g',cap',cur',rfl,_,hg',_,_,hsz',htk'⟩
  ·omega
  ·refine⟨g',cap',rfl,?_,y.uid,y.state,c4,c5,fun hx=>?_,fun hx=>?_⟩
   ·have:((idx G.seen).map fun i=>ptr (t1.ql i))[k]?=some (ptr (t1.ql i)):=by rw[List.getElem?_map,hik];rfl
    rw[<-htk',List.getElem?_take,if_pos (by omega)]at this;simp[World.cell?,hg'];simpa using this
   ·refine(VF wr _ y hq.blk).mono ?_;rintro e w' ⟨rfl,hb',hk'⟩;have hv4:(CY ((u:Int)+1) r).state=4:=by
     unfold CY;by_cases q:r.uid=(u:Int)+1/\r.state<3
     ·rw[if_pos q]
     ·rw[if_neg q];have:¬r.state<3:=fun q'=>q ⟨by omega,q'⟩
      omega
    have hvs:(CY ((u:Int)+1) r).seq=r.seq/\(CY ((u:Int)+1) r).uid=r.uid/\(CY ((u:Int)+1) r).timed=r.timed:=by
     unfold CY;split<;>exact⟨rfl,rfl,rfl⟩
    have htm:r.timed=false:=by
     cases e:r.timed with
     |false=>rfl
     |true=>
      have:=(hsn.timed e).1;omega
    obtain⟨q1,_,q2⟩:=hw.Kf (r':=CY ((u:Int)+1) r) (y':=VE y) hq (by rw[hvs.1];exact hne) hk' hb' ⟨hrel.client,hrel.Ax,hrel.line,by rw[hvs.1];exact hrel.seq,by rw[hvs.2.1];exact hrel.uid,by rw[hv4];rfl,fun q=>by omega,fun q=>by omega,by rw[hvs.2.2,htm];rfl,fun q=>by rw[hvs.2.2,htm]at q;cases q⟩ ⟨fun q=>absurd (by rw[<-hvs.1];exact q) hne,by rw[hvs.1];exact hsn.seq,fun _=>by rw[hvs.2.1,hv4];exact⟨(hsn.some hne).1,(hsn.some hne).2.1,by omega⟩,fun q=>by omega,fun q=>by omega,fun q=>by omega,fun q=>by rw[hvs.2.2,htm]at q;cases q⟩;refine⟨rfl,q1,hwt.trans q2,q2.keeps.row hrow (fun j hj=>hap j hj),hap⟩
   ·have e:CY ((u:Int)+1) r=r:=by
     unfold CY;rw[if_neg];rintro ⟨q1,q2⟩;exact hx ⟨by omega,by omega⟩
    rw[e,Vl hr'];exact⟨hw,hwt,hrow,hap⟩
 ·rintro e w' ⟨rfl,O,hw,hwt,_⟩;rw[List.take_length]at hw;exact⟨rfl,t1,hw,hwt⟩
theorem KS(w:World)(s nm m c:Nat)(a:Option Addr)(name:List UInt8)(kind u u0:Int)(B A C:World->Prop)(hnm:R.AY name=true)(hk:0<=kind/\kind<=2)(c5:w.cell? ⟨s,5,none⟩=some (.map (some nm)))(c6:w.cell? ⟨s,6,none⟩=some (.slice a m c))(hm:m<255)
  (hlook:(Instr.lookup 159 (.map (some nm)) (.string (str name)) true).run Tryz.prog w=.ok (.tuple #[.int .i64 u0,.bool true]) w)
  (H82:Hid (Calls Tryz.prog 182 #[ptr s,.int .i64 u0] w fun e w'=>e=.returned (.tuple #[])/\B w'))
  (H70:Hid (∀w',B w'->Calls Tryz.prog 183 #[ptr s,.int .i64 kind] w' fun e w'=>e=.returned (.int .i64 u)/\A w'))
  (HA:Hid (∀w',A w'->w'.cell? ⟨s,5,none⟩=some (.map (some nm))))
  (HPUT:Hid (∀w1 w2,A w1->Below w1.heap.size w1 w2->∃w3,(Instr.mapUpdate 159 (.map (some nm)) (.string (str name)) (.int .i64 u)).run Tryz.prog w2=.ok () w3/\C w3)):
  Calls Tryz.prog 106 #[ptr s,.string (str name),.int .i64 kind] w fun e w'=>e=.returned (.tuple #[.int .i64 u,.int .i64 0])/\C w':=by
 have H68:=Ab (fun w=>Eu name hnm w);have hl8:name.length<=1000:=by
  unfold R.AY at hnm;simp only[Bool.and_eq_true,decide_eq_true_eq]at hnm;omega
 have H71:=Ab (fun w=>J3 name w hl8);have H32:Hid (∀w,Calls Tryz.prog 124 #[.int .i64 kind] w fun e w'=>e=.returned (.bool true)/\w'=w):=fun w=>by
  refine(Bz kind w).mono ?_;rintro e w' ⟨rfl,rfl⟩;refine⟨?_,rfl⟩;have:(kind==0 || kind==1 || kind==2)=true:=by simp;omega
  rw[this]
 have e2:((m:Int)==255)=false:=by simp;omega
 generalize str name=SN at *;clear hnm hm hl8;go_enter Tryz.func106,Tryz.ntmps106;go_wp2_with (first|(go_at_call 181;refine((Aa H68) _).mono ?_;rintro e w' ⟨rfl,hw'⟩;rw[hw'];clear hw')|(go_at_call 124;refine((Aa H32) _).mono ?_;rintro e w' ⟨rfl,hw'⟩;rw[hw'];clear hw'))
 refine(Aa H82).mono ?_;rintro e w0 ⟨rfl,hB⟩;have H70':=Ab ((Aa H70) w0 hB);clear hB H82 H70 hlook c5 c6;go_wp2_with fail
 refine(Aa H70').mono ?_;rintro e w1 ⟨rfl,hA⟩;have d0:=(Aa HA) w1 hA;have hl1:=lt_of_cell d0;have HA1:=Ab hA;clear hA;go_wp2;go_region_law (refine CV rfl 184 #[.tmp 53] #[9] rfl Zp #[.string SN] rfl _ ((Aa H71) _) ?_;rintro e w2 ⟨rfl,hb⟩;have f0:w2.cell? ⟨s,5,none⟩=some (.map (some nm)):=(hb.cell (p:=⟨s,5,none⟩) hl1).trans d0;have hput:=(Aa HPUT) w1 w2 (Aa HA1) (Ez hb);obtain⟨w3,hrun,hC⟩:=hput;have HC:=Ab hC;clear hC hb;refine⟨_,rfl,?_⟩)
 all_goals
  go_wp2;go_returns;exact⟨rfl,Aa HC⟩
theorem KR(w:World)(s nm c:Nat)(a:Option Addr)(name:List UInt8)(kind u0:Int)(hnm:R.AY name=true)(hk:0<=kind/\kind<=2)(c5:w.cell? ⟨s,5,none⟩=some (.map (some nm)))(c6:w.cell? ⟨s,6,none⟩=some (.slice a 255 c))
  (hlook:(Instr.lookup 159 (.map (some nm)) (.string (str name)) true).run Tryz.prog w=.ok (.tuple #[.int .i64 u0,.bool true]) w):
  Calls Tryz.prog 106 #[ptr s,.string (str name),.int .i64 kind] w fun e w'=>e=.returned (.tuple #[.int .i64 0,.int .i64 11])/\w'=w:=by
 have H68:=Ab (fun w=>Eu name hnm w);have H32:Hid (∀w,Calls Tryz.prog 124 #[.int .i64 kind] w fun e w'=>e=.returned (.bool true)/\w'=w):=fun w=>by
  refine(Bz kind w).mono ?_;rintro e w' ⟨rfl,rfl⟩;refine⟨?_,rfl⟩;have:(kind==0 || kind==1 || kind==2)=true:=by simp;omega
  rw[this]
 generalize str name=SN at *;clear hnm;go_enter Tryz.func106,Tryz.ntmps106;go_wp2_with (first|(go_at_call 181;refine((Aa H68) _).mono ?_;rintro e w' ⟨rfl,hw'⟩;rw[hw'];clear hw')|(go_at_call 124;refine((Aa H32) _).mono ?_;rintro e w' ⟨rfl,hw'⟩;rw[hw'];clear hw'))
 go_returns;exact⟨rfl,rfl⟩
theorem Lq{G:R.Wd}(hst:G.stands.length=G.names.length){name:List UInt8}{k:Nat}(he:R.Bh G name=some k)(v:Int)(x:List UInt8):(x=name->AP {G with stands:=G.stands.set k v} x=some v)/\(¬x=name->AP {G with stands:=G.stands.set k v} x=AP G x):=by
 have hk:=R.CS he;have hkl:=(List.getElem?_eq_some_iff.1 hk).1;constructor
 ·rintro rfl;have he':R.Bh {G with stands:=G.stands.set k v} x=some k:=he;unfold AP;rw[he'];simp[List.getElem?_set,show k<G.stands.length by omega]
 ·intro hx;unfold AP;have he':R.Bh {G with stands:=G.stands.set k v} x=R.Bh G x:=rfl;rw[he'];cases hj:R.Bh G x with
  |none=>rfl
  |some j=>
   have hj2:=R.CS hj;have:¬k=j:=fun e=>hx (by
    subst e;rw[hk]at hj2;exact(Option.some.inj hj2).symm)
   simp[List.getElem?_set,this]
theorem LW.LU{p:Pl}{F:Ag}{G:R.Wd}{w:World}(h:LW p F G w){name:List UInt8}{kind:Int}(hnm:R.AY name=true)(hk:0<=kind/\kind<=2){k:Nat}(he:R.Bh G name=some k):
  Calls Tryz.prog 106 #[ptr p.s,.string (str name),.int .i64 kind] w fun e w'=>e=.returned (.tuple #[.int .i64 (R.AJ G name kind).1.1,.int .i64 (R.AJ G name kind).1.2])/\XE p F w (R.AJ G name kind).2 w':=by
 obtain⟨a,c,hK⟩:=Bu h.Eb.made;have hl8:name.length<=8:=by
  unfold R.AY at hnm;simp only[Bool.and_eq_true,decide_eq_true_eq]at hnm;omega
 have hzl:p.t.zs.length=G.Ac.length:=by rw[<-h.Eb.zs,List.length_map]
 have hsn:AP G name=some (G.stands.getD k 0):=by
  unfold AP;rw[he];rfl
 have hlook:=EX h.names (s:=name) (by unfold maxLen;omega);rw[hsn]at hlook;have hkn:=(List.getElem?_eq_some_iff.1 (R.CS he)).1;have hks:k<G.stands.length:=by rw[h.wf.st];exact hkn
 have hu:=h.wf.IC (G.stands.getD k 0) (by
  rw[List.getD_eq_getElem?_getD,List.getElem?_eq_getElem hks];exact List.getElem_mem hks)
 generalize hu0:G.stands.getD k 0=u0 at *;have hep:R.AJ G name kind=if G.Ac.length=255 then ((0,11),G) else (((G.Ac.length:Int)+1,0),{R.Ce G u0 with stands:=G.stands.set k ((G.Ac.length:Int)+1),Ac:=(R.Ce G u0).Ac++[⟨kind,true,[]⟩]}):=by
  unfold R.AJ;rw[hnm,if_neg (by simp),if_neg (by omega),he];simp only[hu0];rfl
 have h255:=h.wf.sv;by_cases hs:G.Ac.length=255
 ·rw[hep,if_pos hs];refine(KR w p.s p.nm c a name kind u0 hnm hk (cell_of h.Eb.bs 5 _ rfl) (cell_of h.Eb.bs 6 _ (by rw[<-hs,<-hzl,<-hK];rfl)) hlook).mono ?_;rintro e w' ⟨rfl,rfl⟩;exact⟨rfl,p.t,F,h,Ah.refl F _⟩
 ·rw[hep,if_neg hs];obtain⟨u,rfl⟩:∃u:Nat,u0=(u:Int)+1:=⟨(u0-1).toNat,by omega⟩;have hsu:G.Ac[u]?=some (G.Ac[u]'(by omega)):=List.getElem?_eq_getElem _;have hlen:(R.Ce G ((u:Int)+1)).Ac.length=G.Ac.length:=by simp[R.Ce]
  have hwfe:=h.wf.export name kind;rw[hep,if_neg hs]at hwfe;refine KS w p.s p.nm p.t.zs.length c a name kind _ _ (fun w'=>∃t,LW {p with t:=t} F (R.Ce G ((u:Int)+1)) w'/\Ah F F w w') (fun w'=>∃t F',LW {p with t:=t} F' {R.Ce G ((u:Int)+1) with Ac:=(R.Ce G ((u:Int)+1)).Ac++[⟨kind,true,[]⟩]} w'/\Ah F F' w w') _ hnm hk (cell_of h.Eb.bs 5 _ rfl) (cell_of h.Eb.bs 6 _ (by rw[<-hK];rfl)) (by omega) hlook (h.ends hsu) ?_ ?_ ?_
  ·rintro w' ⟨t,hL,hW⟩;have:=hL.begun hk (by omega);rw[hlen]at this;refine this.mono ?_;rintro e w'' ⟨rfl,t',F',q1,q2⟩;exact⟨rfl,t',F',q1,hW.trans q2⟩
  ·rintro w' ⟨t,F',hL,_⟩;exact cell_of hL.Eb.bs 5 _ rfl
  ·rintro w1 w2 ⟨t,F',hL,hW⟩ hb;have hL2:=hL.below hb;have hst:AP {R.Ce G ((u:Int)+1) with Ac:=(R.Ce G ((u:Int)+1)).Ac++[⟨kind,true,[]⟩]} name=some ((u:Int)+1):=hsn;obtain⟨w3,hrun,hm,htn⟩:=Qi hL2.names (by have:=h.wf.nm;show G.names.length<1000;omega) (s:=name) (by unfold maxLen;omega) (v:=(G.Ac.length:Int)+1) (by omega) (AP {G with stands:=G.stands.set k ((G.Ac.length:Int)+1)}) (Lq h.wf.st he _);refine⟨w3,hrun,t,F',?_⟩;rw[hst]at hm;have hm2:Mp w3 9 p.nm G9 (AP {G with stands:=G.stands.set k ((G.Ac.length:Int)+1)}) G.names.length:=hm;have q:=hL2.Jh (N:=G.names) (S:=G.stands.set k ((G.Ac.length:Int)+1)) (El htn) (hm2.congr (fun _=>rfl)) hwfe;exact⟨q.1,(hW.trans (Ah.Aq F' hb)).trans q.2⟩
theorem Mp.del{α:Type}{w:World}{k t:TypeId}{b n:Nat}{lit:α->Lit}{g:α->Option Int}(h:Mp w k b lit g n)(K:Keyed Tryz.prog k)(ht:Tryz.prog.underlying t=some (.map k 3)){key:Value}{a:α}(hkey:keyOf Tryz.prog k key=some (lit a))(hl:∀x y,lit x=lit y->x=y)(g':α->Option Int)(hg':∀x,(x=a->g' x=none)/\(¬x=a->g' x=g x))(hs:(g a).isSome=true)(ty:TypeId):
  ∃w',(Builtin.delete_ #[t,k] ty #[.map (some b),key]).run Tryz.prog w=.ok (.tuple #[]) w'/\Mp w' k b lit g' (n-1)/\w.mapTurned w' b:=by
 obtain⟨D,h1,h2,h3⟩:=h;obtain⟨w',hrun,h4,h5⟩:=h1.drop K ht hkey ty;have hz:=size_del (k:=lit a) (h1.tidy K);rw[(h3 a).1,hs,if_pos rfl,h2]at hz;have hz':Maps.size (D.del (lit a))=n-1:=by omega
 refine⟨w',hrun,⟨_,?_,hz',fun x=>?_⟩,h5⟩
 ·obtain⟨es,cl,q1,q2,q3,q4⟩:=h4;refine⟨es,cl,q1,q2,?_,q4⟩;rw[<-hz',q4];simp[Maps.size,length_sorted]
 ·by_cases hx:x=a
  ·subst hx;rw[(hg' x).1 rfl];exact⟨has_del_same,fun y hy=>by cases hy⟩
  ·have hne:lit x≠lit a:=fun e=>hx (hl _ _ e)
   rw[(hg' x).2 hx,has_del_other hne];refine⟨(h3 x).1,fun y hy=>?_⟩;rw[atKey_del_other hne];exact(h3 x).2 y hy
theorem Wh{w:World}{b n:Nat}{g:List UInt8->Option Int}(h:Mp w 9 b G9 g n){s:List UInt8}(hs:s.length<=maxLen)(g':List UInt8->Option Int)(hg':∀x,(x=s->g' x=none)/\(¬x=s->g' x=g x))(hi:(g s).isSome=true)(ty:TypeId):
  ∃w',(Builtin.delete_ #[159,9] ty #[.map (some b),.string (str s)]).run Tryz.prog w=.ok (.tuple #[]) w'/\Mp w' 9 b G9 g' (n-1)/\w.mapTurned w' b:=
 h.del (string_keyed Tryz.underlying9) Tryz.underlying159 (by rw[Go.WideMaps.keyOf_string_mk Tryz.underlying9 (by rw[Au];exact hs)]) (fun x y e=>by cases e;rfl) g' hg' hi ty
theorem VI{G:R.Wd}(h:R.Wf G)(k:Nat):R.Wf {G with names:=G.names.eraseIdx k,stands:=G.stands.eraseIdx k}:=by
 refine⟨h.cf,h.JL,fun i c hc=>⟨(h.cl i c hc).lines,(h.cl i c hc).Ax,(h.cl i c hc).bound,(h.cl i c hc).line⟩,h.EC,h.EO,h.sv,h.Lr,?_,?_,h.nd.sublist (List.eraseIdx_sublist ..),fun u hu=>h.IC u (List.mem_of_mem_eraseIdx hu)⟩
 ·exact Nat.le_trans (List.length_eraseIdx_le ..) h.nm
 ·show ((G.stands.eraseIdx k).length)=(G.names.eraseIdx k).length;rw[List.length_eraseIdx,List.length_eraseIdx,h.st]
theorem Ic:∀{l:List (List UInt8)} {s:List Int} {k:Nat} {name x:List UInt8},l.Nodup->s.length=l.length->l[k]?=some name->(¬x=name->((l.eraseIdx k).findIdx? (·==x)).map (fun j=>(s.eraseIdx k).getD j 0)=(l.findIdx? (·==x)).map (fun j=>s.getD j 0))/\((l.eraseIdx k).findIdx? (·==name)).map (fun j=>(s.eraseIdx k).getD j 0)=none
 |[],_,_,_,_,_,_,h=>by simp at h
 |a :: l,[],_,_,_,_,hl,_=>by simp at hl
 |a :: l,b :: s,0,name,x,hn,hl,h=>by
  obtain rfl:a=name:=by simpa using h
  have hna:=(List.nodup_cons.1 hn).1;refine⟨fun hx=>?_,?_⟩
  ·have hax:(a==x)=false:=by simpa using fun e=>hx e.symm
   simp only[List.eraseIdx_zero,List.tail_cons,List.findIdx?_cons,hax,Bool.false_eq_true,if_false,Option.map_map];congr 1
  ·simp only[List.eraseIdx_zero,List.tail_cons];rw[List.findIdx?_eq_none_iff.2 (fun y hy=>by simp;exact fun e=>hna (e ▸ hy))];rfl
 |a :: l,b :: s,k+1,name,x,hn,hl,h=>by
  obtain⟨hna,hn'⟩:=List.nodup_cons.1 hn;have ih:=Ic (l:=l) (s:=s) (k:=k) (name:=name) (x:=x) hn' (by simpa using hl) (by simpa using h);have hmem:name∈l:=List.mem_of_getElem? (by simpa using h);have han:(a==name)=false:=beq_eq_false_iff_ne.2 (fun e=>hna (e ▸ hmem));refine⟨fun hx=>?_,?_⟩
  ·simp only[List.eraseIdx_cons_succ,List.findIdx?_cons];by_cases hax:(a==x)=true
   ·simp[hax]
   ·simp only[hax,Bool.false_eq_true,if_false,Option.map_map];exact ih.1 hx
  ·simp only[List.eraseIdx_cons_succ,List.findIdx?_cons,han,Bool.false_eq_true,if_false,Option.map_map];exact ih.2
theorem Ta(w:World)(s nm:Nat)(name:List UInt8)(h1:w.cell? ⟨s,5,none⟩=some (.map (some nm)))(hl:(Instr.lookup 159 (.map (some nm)) (.string (str name)) true).run Tryz.prog w=.ok (.tuple #[.int .i64 0,.bool false]) w):
  Calls Tryz.prog 218 #[ptr s,.string (str name)] w fun e w'=>e=.returned (.int .i64 10)/\w'=w:=by
 have ls:=lt_of_cell h1;go_enter Tryz.func218,Tryz.ntmps218;go_wp2;go_returns;exact⟨rfl,rfl⟩
theorem Tb(w w1:World)(s nm:Nat)(u0:Int)(name:List UInt8)(Post:World->Prop)(h1:w.cell? ⟨s,5,none⟩=some (.map (some nm)))(hl:(Instr.lookup 159 (.map (some nm)) (.string (str name)) true).run Tryz.prog w=.ok (.tuple #[.int .i64 u0,.bool true]) w)(hd:∀ty,(Builtin.delete_ #[159,9] ty #[.map (some nm),.string (str name)]).run Tryz.prog w=.ok (.tuple #[]) w1)(hE:Calls Tryz.prog 182 #[ptr s,.int .i64 u0] w1 fun e w'=>e=.returned (.tuple #[])/\Post w'):
  Calls Tryz.prog 218 #[ptr s,.string (str name)] w fun e w'=>e=.returned (.int .i64 0)/\Post w':=by
 have ls:=lt_of_cell h1;have HE:=Ab hE;clear hE;go_enter Tryz.func218,Tryz.ntmps218;go_wp2_with fail
 refine(Aa HE).mono ?_;rintro e w2 ⟨rfl,hP⟩;have HP:=Ab hP;clear hP;go_wp2_with fail
 go_returns;exact⟨rfl,Aa HP⟩
theorem LW.Sy{p:Pl}{F:Ag}{G:R.Wd}{w:World}(h:LW p F G w)(name:List UInt8)(hl8:name.length<=maxLen):
  Calls Tryz.prog 218 #[ptr p.s,.string (str name)] w fun e w'=>e=.returned (.int .i64 (R.AU G name).1)/\XE p F w (R.AU G name).2 w':=by
 have hlook:=EX h.names (s:=name) hl8;cases he:R.Bh G name with
 |none=>
  have hsn:AP G name=none:=by unfold AP;rw[he];rfl
  rw[hsn]at hlook;have hw:R.AU G name=(10,G):=by unfold R.AU;rw[he]
  rw[hw];refine(Ta w p.s p.nm name (cell_of h.Eb.bs 5 _ rfl) hlook).mono ?_;rintro e w' ⟨rfl,rfl⟩;exact⟨rfl,p.t,F,h,Ah.refl F _⟩
 |some k=>
  have hsn:AP G name=some (G.stands.getD k 0):=by unfold AP;rw[he];rfl
  rw[hsn]at hlook;have hkn:=(List.getElem?_eq_some_iff.1 (R.CS he)).1;have hks:k<G.stands.length:=by rw[h.wf.st];exact hkn
  have hu:=h.wf.IC (G.stands.getD k 0) (by
   rw[List.getD_eq_getElem?_getD,List.getElem?_eq_getElem hks];exact List.getElem_mem hks)
  have hw:R.AU G name=(0,{R.Ce G (G.stands.getD k 0) with names:=G.names.eraseIdx k,stands:=G.stands.eraseIdx k}):=by
   unfold R.AU;rw[he];rfl
  rw[hw];have heo:=fun x=>Ic (l:=G.names) (s:=G.stands) (k:=k) (name:=name) (x:=x) h.wf.nd h.wf.st (R.CS he)
  have hdel:∀ty,∃w1,(Builtin.delete_ #[159,9] ty #[.map (some p.nm),.string (str name)]).run Tryz.prog w=.ok (.tuple #[]) w1/\Mp w1 9 p.nm G9 (AP {G with names:=G.names.eraseIdx k,stands:=G.stands.eraseIdx k}) (G.names.length-1)/\w.mapTurned w1 p.nm:=fun ty=>Wh h.names hl8 _ (fun x=>⟨fun e=>by subst e;exact(heo x).2,fun e=>(heo x).1 e⟩) (by rw[hsn];rfl) ty
  obtain⟨w1,hrun,hm,htn⟩:=hdel 0;have hty:∀ty,(Builtin.delete_ #[159,9] ty #[.map (some p.nm),.string (str name)]).run Tryz.prog w=.ok (.tuple #[]) w1:=fun ty=>hrun
  have hlen:(G.names.eraseIdx k).length=G.names.length-1:=by rw[List.length_eraseIdx,if_pos hkn]
  rw[<-hlen]at hm;have q:=h.Jh (N:=G.names.eraseIdx k) (S:=G.stands.eraseIdx k) (El htn) hm (VI h.wf k);obtain⟨u,hu0⟩:∃u:Nat,G.stands.getD k 0=(u:Int)+1:=⟨(G.stands.getD k 0-1).toNat,by omega⟩;rw[hu0]at hu hlook ⊢;have hsu:G.Ac[u]?=some (G.Ac[u]'(by omega)):=List.getElem?_eq_getElem _;refine Tb w w1 p.s p.nm _ name (XE p F w _) (cell_of h.Eb.bs 5 _ rfl) hlook hty ((q.1.ends (u:=u) hsu).mono ?_);rintro e w' ⟨rfl,t,hL,hW⟩;exact⟨rfl,t,F,hL,q.2.trans hW⟩
theorem LW.EA{p:Pl}{F:Ag}{G:R.Wd}{w:World}(h:LW p F G w)(name:List UInt8)(hl8:name.length<=maxLen):
  Calls Tryz.prog 160 #[ptr p.x,.string (str name)] w fun e w'=>e=.returned (.int .i64 (R.AU G name).1)/\XE p F w (R.AU G name).2 w':=by
 have x1:w.cell? ⟨p.x,1,none⟩=some (ptr p.s):=cell_of h.bx 1 _ rfl;have lx:=lt_of_cell x1;have HC:=Ab (h.Sy name hl8);generalize R.AU G name=Z at *;clear h;go_enter Tryz.func160,Tryz.ntmps160;go_wp2_with fail
 refine(Aa HC).mono ?_;rintro e w' ⟨rfl,hP⟩;have HP:=Ab hP;clear hP;go_wp2_with fail
 go_returns;exact⟨rfl,Aa HP⟩
end Go.Proofs.YtblomippkddgiaaGreatDoor
