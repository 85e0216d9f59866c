import Derived.Test.YtblomippkddgiabGreatDoorJ34
set_option maxRecDepth 100000
set_option maxHeartbeats 4000000
namespace Go.Proofs.YtblomippkddgiabGreatDoor
open Go.RowKit
variable {i u:Nat}{s:R.Sv}{G:R.Wd}
def D6(uid:Int)(r:R.Sn):R.Sn:=if r.uid=uid/\r.state<3 then {r with state:=4} else r
theorem Uw(uid:Int)(r:R.Sn):D6 uid (D6 uid r)=D6 uid r:=by
 unfold D6;by_cases h:r.uid=uid/\r.state<3
 ·rw[if_pos h];rw[if_neg (by simp)]
 ·rw[if_neg h,if_neg h]
def Ld(uid:Int)(l:List Nat)(s:List R.Sn):List R.Sn:=l.foldl (fun s i=>s.modify i (D6 uid)) s
theorem Kw(uid:Int):∀(l:List Nat) (s:List R.Sn) (i:Nat),(Ld uid l s)[i]?=if i∈l then (s[i]?).map (D6 uid) else s[i]?
 |[],s,i=>by simp[Ld]
 |j :: l,s,i=>by
  show (Ld uid l (s.modify j (D6 uid)))[i]?=_;rw[Kw uid l _ i,agm];by_cases h:j=i
  ·subst h;cases s[j]? with
   |none=>simp
   |some r=>simp[Uw]
  ·have h':¬i=j:=fun e=>h e.symm
   cases s[i]? with
   |none=>simp
   |some r=>simp[h,h']
theorem M6{α:Type}{l:List α}{r:α}{f:α->α}(h:l[i]?=some r):l.modify i f=l.set i (f r):=by
 apply agd;intro j;rw[agm,afV];by_cases e:i=j
 ·subst e;rw[h,if_pos rfl,if_pos (afG.1 h).1];simp
 ·simp[e]
theorem ZK{α:Type}{l:List α}{r:α}(h:l[i]?=some r):l.set i r=l:=by
 apply agd;intro j;rw[afV];by_cases e:i=j
 ·subst e;rw[if_pos rfl,if_pos (afG.1 h).1,h]
 ·simp[e]
theorem VX{seen:List R.Sn}{uid:Int}(h0:uid≠0)(hl:seen.length=9)(hz:∀(i:Nat) (r:R.Sn),seen[i]?=some r->r.seq=0->r=R.Cs):Ld uid (idx seen) seen=seen.map (D6 uid):=by
 apply agd;intro i;rw[Kw,afW];by_cases hi:i∈idx seen
 ·rw[if_pos hi]
 ·rw[if_neg hi];cases hr:seen[i]? with
  |none=>rfl
  |some r=>
   have aa:i<9:=by rw[<-hl];exact(afG.1 hr).1
   have hn:¬J4 seen i=true:=fun q=>hi (ag6.2 ⟨List.mem_range.2 aa,q⟩)
   have hq:r.seq=0:=by simpa [J4,hr] using hn
   rw[hz i r hr hq];have:D6 uid R.Cs=R.Cs:=by
    unfold D6;rw[if_neg];rintro ⟨q,_⟩;exact h0 q.symm
   simp[this]
theorem aau(h:R.Wf G)(hs:G.Ab[u]?=some s)(seen:List R.Sn):R.Wf (Bs G (G.Ab.set u {s with alive:=false}) G.Aj seen G.jobs):=by
 refine⟨h.cf,h.Gt,fun i c hc=>⟨(h.cl i c hc).lines,(h.cl i c hc).Ae,fun x hx=>?_,(h.cl i c hc).line⟩,h.E3,h.Eo,by simpa using h.sv,fun y hy=>?_,h.nm,h.st,h.nd,fun x hx=>?_⟩
 ·have:=(h.cl i c hc).bound x hx;simpa using this
 ·rcases agc hy with q|q
  ·exact h.Kh y q
  ·rw[q];exact h.Kh s (afU hs)
 ·have:=h.I5 x hx;simpa using this
theorem VF{S:List R.Sv}(hs:S[u]?=some s)(k:Nat):((S.set u {s with alive:=false})[k]?).map (·.kind)=(S[k]?).map (·.kind):=by
 rw[afV];by_cases e:u=k
 ·subst e;rw[if_pos rfl,if_pos (afG.1 hs).1,hs];rfl
 ·rw[if_neg e]
theorem S8(hs:G.Ab[u]?=some s)(seen:List R.Sn)(c:R.Cl)(x:Int):BL (Bs G (G.Ab.set u {s with alive:=false}) G.Aj seen G.jobs) c x=BL G c x:=by
 unfold BL kindOf;show (if x∈c.bound then some ((((G.Ab.set u {s with alive:=false})[(x-1).toNat]?).map (·.kind)).getD 0) else none)=_;rw[VF hs]
theorem aaG(hs:G.Ab[u]?=some s):R.Ch G ((u:Int)+1)=Bs G (G.Ab.set u {s with alive:=false}) G.Aj (G.seen.map (D6 ((u:Int)+1))) G.jobs:=by
 have e:((u:Int)+1-1).toNat=u:=by omega
 unfold R.Ch Bs;rw[e,M6 hs];rfl
theorem LW.ends{p:Pl}{F:Aq}{w:World}(h:LW p F G w)(hs:G.Ab[u]?=some s):
  Calls Tryz.prog 144 #[ptr p.s,.int .i64 ((u:Int)+1)] w fun e w'=>e=.returned (.tuple #[])/\∃t,LW {p with t:=t} F (R.Ch G ((u:Int)+1)) w'/\Ap F F w w':=by
 obtain⟨z,hz,aL⟩:=KV h.BN.zs hs;obtain⟨g,cap,aM,hK,hg,az,_,k1,_,am,ap,aH,aJ⟩:=h.BN.Jt hz;have hd:=h.BN.dead hz hK hg am ap aH aJ;rw[aL]at hd;have an:Af (fun k=>k=g) w (w.setCell ⟨g,u*3+1,none⟩ .nilIface):=Ah _;have hL:=h.Ha hd an (Ca.one hg (by decide)) (fun _ q=>q) (fun k hk=>afT (h.lt k hk) an.size) (aau h.wf hs G.seen) h.Db (fun i c _ x=>S8 hs G.seen c x);have hW:Ap F F w (w.setCell ⟨g,u*3+1,none⟩ .nilIface):=⟨an.mono (fun k _ e=>by rw[e];exact az),fun _ q=>afJ q⟩;have aK:u<p.t.zs.length:=(afG.1 hz).1;have aQ:p.t.zs.length=G.Ab.length:=by rw[<-h.BN.zs,af0]
 have ay:=h.wf.sv;have ao:=UW G.seen;rw[aaG hs,<-VX (uid:=(u:Int)+1) (by omega) h.Db.sl (fun i r hr h0=>(h.Db.sn i r hr).zero h0)];generalize hG1:G.Ab.set u {s with alive:=false}=S1 at hL;generalize ht1:({p.t with zs:=p.t.zs.set u (Oh z)}:SP)=t1 at hL;have aO:t1.ql=p.t.ql:=by rw[<-ht1]
 refine(X9 w p.s g u p.t.zs.length cap (idx G.seen).length (fun k=>t1.ql ((idx G.seen).getD k 0)) z.2.wk (fun O k wr=>LW {p with t:=t1} F (Bs G S1 G.Aj (Ld ((u:Int)+1) ((idx G.seen).take k) G.seen) G.jobs) wr/\Ap F F w wr/\wr.ownsRow w.heap.size 137 1 O (idx G.seen).length ((idx G.seen).map fun i=>ptr (t1.ql i))/\∀j,O.ownBlock=some j->¬F j) ao (by omega) aK (cell_of h.BN.bs 6 _ (by rw[<-hK];rfl)) k1 (open_list hg) ?_ ?_ ?_).mono ?_
 ·refine hL.BN.rem.mono ?_;rintro e w1 ⟨O,rfl,aa,hb⟩;have e1:=Nk t1 G.seen;rw[show Gw (qf ({p with t:=t1}:Pl).t (Bs G S1 G.Aj G.seen G.jobs).seen) 9=_ from e1,af0]at aa;have ar:(w.setCell ⟨g,u*3+1,none⟩ .nilIface).heap.size=w.heap.size:=by simp
  rw[ar]at aa;refine⟨O,rfl,hL.below hb,hW.trans (Ap.Al F hb),aa,fun j hj hF=>?_⟩;have h1:=((World.ownsRow.lt aa) j hj).1;have h2:=h.lt j hF;omega
 ·rintro O k wr ⟨_,_,aa,_⟩;exact AX aa
 ·rintro O k wr hk ⟨hw,aj,aa,al⟩;have ad:(idx G.seen)[k]?=some ((idx G.seen)[k]):=afH hk;have aC:(idx G.seen).getD k 0=(idx G.seen)[k]:=by rw[afX,ad];rfl
  rw[aC];generalize hi:(idx G.seen)[k]=i at ad;have af:i∈idx G.seen:=afU ad;have aE:J4 G.seen i=true:=(ag6.1 af).2;have aD:i<9:=by simpa using (ag6.1 af).1
  have hr:G.seen[i]?=some (R.AY G i):=by
   have hl:i<G.seen.length:=by rw[h.Db.sl];exact aD
   rw[R.Bn (afH hl)];exact afH hl
  generalize hrr:R.AY G i=r at hr;have ae:r.seq≠0:=by
   have:((G.seen[i]?).getD R.Cs).seq≠0:=by simpa [J4] using aE
   rw[hr]at this;exact this
  have aq:i ∉ (idx G.seen).take k:=fun hm=>by
   obtain⟨j,hj⟩:=agY.1 hm;rw[af7]at hj;split at hj
   ·have aN:j=k:=by
     have aF:=(afG.1 hj).1;exact(List.getElem?_inj aF (On G.seen)).1 (hj.trans ad.symm)
    omega
   ·cases hj
  have ai:(Ld ((u:Int)+1) ((idx G.seen).take k) G.seen)[i]?=some r:=by rw[Kw,if_neg aq];exact hr
  have ag:Ld ((u:Int)+1) ((idx G.seen).take (k+1)) G.seen=(Ld ((u:Int)+1) ((idx G.seen).take k) G.seen).set i (D6 ((u:Int)+1) r):=by
   rw[<-M6 ai];exact Jr (fun s i=>List.modify s i (D6 ((u:Int)+1))) G.seen (idx G.seen) k i ad
  rw[ag];obtain⟨y,hq,_⟩:=hw.q ai ae;obtain⟨_,_,_,_,c4,c5,_,_,_,_,_⟩:=Qb hq.blk;have ah:=hw.Db.sn i _ ai;have aP:=(ah.some ae).2.2;have ab:=hq.rel;have e4:=ab.uid;have e5:=ab.state;rcases id aa.2 with ⟨_,h0⟩|⟨g',ak,ax,rfl,_,aB,_,_,aI,au⟩
  ·omega
  ·refine⟨g',ak,rfl,?_,y.uid,y.state,c4,c5,fun hx=>?_,fun hx=>?_⟩
   ·have:((idx G.seen).map fun i=>ptr (t1.ql i))[k]?=some (ptr (t1.ql i)):=by rw[afW,ad];rfl
    rw[<-au,af7,if_pos (by omega)]at this;simp[World.cell?,aB];simpa using this
   ·refine(Z6 wr _ y hq.blk).mono ?_;rintro e w' ⟨rfl,aA,aG⟩;have aw:(D6 ((u:Int)+1) r).state=4:=by
     unfold D6;by_cases q:r.uid=(u:Int)+1/\r.state<3
     ·rw[if_pos q]
     ·rw[if_neg q];have:¬r.state<3:=fun q'=>q ⟨by omega,q'⟩
      omega
    have ac:(D6 ((u:Int)+1) r).seq=r.seq/\(D6 ((u:Int)+1) r).uid=r.uid/\(D6 ((u:Int)+1) r).timed=r.timed:=by
     unfold D6;split<;>exact⟨rfl,rfl,rfl⟩
    have av:r.timed=false:=by
     cases e:r.timed with
     |false=>rfl
     |true=>
      have:=(ah.timed e).1;omega
    obtain⟨q1,_,q2⟩:=hw.Ix (r':=D6 ((u:Int)+1) r) (y':=Z5 y) hq (by rw[ac.1];exact ae) aG aA ⟨ab.client,ab.Ae,ab.line,by rw[ac.1];exact ab.seq,by rw[ac.2.1];exact ab.uid,by rw[aw];rfl,fun q=>by omega,fun q=>by omega,by rw[ac.2.2,av];rfl,fun q=>by rw[ac.2.2,av]at q;cases q⟩ ⟨fun q=>absurd (by rw[<-ac.1];exact q) ae,by rw[ac.1];exact ah.seq,fun _=>by rw[ac.2.1,aw];exact⟨(ah.some ae).1,(ah.some ae).2.1,by omega⟩,fun q=>by omega,fun q=>by omega,fun q=>by omega,fun q=>by rw[ac.2.2,av]at q;cases q⟩;refine⟨rfl,q1,aj.trans q2,q2.keeps.row aa (fun j hj=>al j hj),al⟩
   ·have e:D6 ((u:Int)+1) r=r:=by
     unfold D6;rw[if_neg];rintro ⟨q1,q2⟩;exact hx ⟨by omega,by omega⟩
    rw[e,ZK ai];exact⟨hw,aj,aa,al⟩
 ·rintro e w' ⟨rfl,O,hw,aj,_⟩;rw[agW]at hw;exact⟨rfl,t1,hw,aj⟩
structure Did(w:World)(F:Aq)(log:List R.En)(en:R.En)(b:Nat)(K:Value)(kind:Int)(W:Value)(O:Value)(out:List R.It)(w':World):Prop where
 row:V.Row w' w.heap.size O out
 keep:Af (fun k=>k=b\/K.ownBlock=some k) w w'
 works:∃K',Works w' (fun k=>F k\/(w.heap.size<=k/\k<w'.heap.size)) (log++[en]) b K' kind W/\(K'.ownBlock=K.ownBlock\/∃j,K'.ownBlock=some j/\w.heap.size<=j)
theorem Pe(l:List R.En)(e:R.En):∀n,R.BA (l++[e]) n=(if e.proc=0 then (R.BA l n+R.IY e.arg 0+65536) % 65536 else if R.IY e.arg 0=1 then 0 else R.BA l n):=by
 induction l with
 |nil=>intro n;rfl
 |cons a l ih=>intro n;exact ih _
theorem XO(w:World)(b:Nat)(N n:Int)(h:w.heap[b]?=some (.cells #[.int .u16 N] 323 (0,0))):
  Calls Tryz.prog 288 #[ptr b,.int .i64 n] w fun e w'=>e=.returned (.slice (some ⟨w.heap.size,0,none⟩) 1 1)/\w'=(w.setCell ⟨b,0,none⟩ (.int .u16 ((N+n+65536) % 65536))).alloc (.cells #[.int .i64 ((N+n+65536) % 65536),.string ⟨#[]⟩] 73):=by
 have c0:w.cell? ⟨b,0,none⟩=some (.int .u16 N):=cell_of h 0 _ rfl;have z0:w.frozen? ⟨b,0,none⟩=false:=open_list h;have hl:=lt_of_block h;have e1:IntKind.u16.wrap (N+IntKind.u16.wrap n)=(N+n+65536) % 65536:=by rw[wrap_u16,wrap_u16];omega
 have e2:wrap64 ((N+n+65536) % 65536)=(N+n+65536) % 65536:=by unfold wrap64;omega
 go_enter Tryz.func288,Tryz.ntmps288;go_wp2;go_returns;have e3:(N+n+65536) % 65536=(N+n) % 65536:=by omega
 rw[e3];exact⟨rfl,rfl⟩
theorem VD(w:World)(b:Nat)(N:Int)(z:Bool)(h:w.heap[b]?=some (.cells #[.int .u16 N] 323 (0,0)))(hN:0<=N/\N<=65535):
  Calls Tryz.prog 289 #[ptr b,.bool z] w fun e w'=>e=.returned (.slice (some ⟨w.heap.size,0,none⟩) 1 1)/\w'=(if z=true then (w.setCell ⟨b,0,none⟩ (.int .u16 0)) else w).alloc (.cells #[.int .i64 N,.string ⟨#[]⟩] 73):=by
 have c0:w.cell? ⟨b,0,none⟩=some (.int .u16 N):=cell_of h 0 _ rfl;have z0:w.frozen? ⟨b,0,none⟩=false:=open_list h;have hl:=lt_of_block h;have e2:wrap64 N=N:=by unfold wrap64;omega
 cases z with
 |true=>
  rw[if_pos rfl];go_enter Tryz.func289,Tryz.ntmps289;go_wp2;go_returns;exact⟨rfl,rfl⟩
 |false=>
  rw[if_neg (by simp)];go_enter Tryz.func289,Tryz.ntmps289;go_wp2;go_returns;exact⟨rfl,rfl⟩
theorem row_one(w U:World)(hV:U.heap.size=w.heap.size)(n:Int)(s:ByteArray):V.Row (U.alloc (.cells #[.int .i64 n,.string s] 73)) w.heap.size (.slice (some ⟨w.heap.size,0,none⟩) 1 1) [(n,s)]:=by
 refine⟨rfl,afM ⟨w.heap.size,1,#[.int .i64 n,.string s],rfl,afI _,?_,afI _,by decide,rfl,rfl⟩⟩;have:=heap_alloc_new U (.cells #[.int .i64 n,.string s] 73);rw[hV]at this;exact this
theorem MC(w:World)(F:Aq)(log:List R.En)(en:R.En)(b:Nat)(K W:Value)(h:Works w F log b K 0 W)(ah:b<w.heap.size){X:Value}(hX:V.Items w X en.arg)(ha:∃x,en.arg=[x])(hp:en.proc=0\/en.proc=1)(hN:0<=R.BA log 0/\R.BA log 0<=65535):
  Calls Tryz.prog 287 #[ptr b,.int .i64 en.proc,X] w fun e w'=>∃O,e=.returned O/\Did w F log en b K 0 W O (R.Cu 0 log en.proc en.arg) w':=by
 obtain⟨x,hx⟩:=ha;rw[hx]at hX;obtain⟨a,cap,rfl,ae,hc⟩:=hX;rcases hc with h0|⟨bb,off,rfl,ai,hc⟩
 ·simp at h0
 obtain⟨c0,_⟩:=hc 0 x rfl;simp only[Nat.zero_mul,aha]at c0;have q1:(0:Int)<((1:Nat):Int):=by omega
 generalize hk0:(0:Int)=kd at h;cases h with
 |FJ=>cases hk0
 |Jo=>cases hk0
 |counter hF hb hK=>
  have aj:b≠w.heap.size:=by omega
  have fin:∀(U:World) (M:Int),(U=w\/U=w.setCell ⟨b,0,none⟩ (.int .u16 M))->U.heap[b]?=some (.cells #[.int .u16 M] 323 (0,0))->M=R.BA (log++[en]) 0->∀(n:Int),R.Cu 0 log en.proc en.arg=[(n,⟨#[]⟩)]->Did w F log en b K 0 (.iface 320 (ptr b)) (.slice (some ⟨w.heap.size,0,none⟩) 1 1) (R.Cu 0 log en.proc en.arg) (U.alloc (.cells #[.int .i64 n,.string ⟨#[]⟩] 73)):=fun U M hV ad hM n hd=>by
   have ag:U.heap.size=w.heap.size:=by
    rcases hV with rfl|rfl
    ·rfl
    ·simp
   have af:Af (fun k=>k=b\/K.ownBlock=some k) w U:=by
    rcases hV with rfl|rfl
    ·exact Af.refl _ _
    ·exact(Ah _).mono (fun k _ e=>afJ e)
   rw[hd];refine⟨row_one w U ag n _,af.alloc _,K,?_,afJ rfl⟩;have:(U.alloc (.cells #[.int .i64 n,.string ⟨#[]⟩] 73)).heap[b]?=some (.cells #[.int .u16 M] 323 (0,0)):=(Below.heap_alloc _ _ _ (by omega)).trans ad;refine .counter (afJ hF) ?_ hK;rw[<-hM];exact this
  have ac:=Pe log en 0;have aa:R.IY en.arg 0=x.1:=by rw[hx];rfl
  rw[aa]at ac;rcases hp with hp|hp
  ·have e1:(en.proc==0)=true:=by simpa using hp
   have HC:=Ac (fun w1 (ab:w1=w)=>by
    have:=XO w b (R.BA log 0) x.1 hb;rw[<-ab]at this;exact this)
   have HF:Hid (Did w F log en b K 0 (.iface 320 (ptr b)) (.slice (some ⟨w.heap.size,0,none⟩) 1 1) (R.Cu 0 log en.proc en.arg) ((w.setCell ⟨b,0,none⟩ (.int .u16 ((R.BA log 0+x.1+65536) % 65536))).alloc (.cells #[.int .i64 ((R.BA log 0+x.1+65536) % 65536),.string ⟨#[]⟩] 73))):=fin _ _ (afM rfl) (Ai (cs:=[.int .u16 (R.BA log 0)]) (off:=0) hb _) (by rw[ac,if_pos hp]) _ (by unfold R.Cu;rw[if_pos rfl,if_pos hp,aa];rfl);clear fin hb ac hp hN;go_enter Tryz.func287,Tryz.ntmps287;go_wp2_with (first|(go_at_call 288;refine((Aa HC) _ rfl).mono ?_;rintro e w1 ⟨rfl,ab⟩;have HW:=Ac ab;clear ab))
   go_returns;rw[Aa HW];exact⟨_,rfl,Aa HF⟩
  ·have e1:(en.proc==0)=false:=by simp[hp]
   have HF:Hid (Did w F log en b K 0 (.iface 320 (ptr b)) (.slice (some ⟨w.heap.size,0,none⟩) 1 1) (R.Cu 0 log en.proc en.arg) ((if (x.1==1)=true then (w.setCell ⟨b,0,none⟩ (.int .u16 0)) else w).alloc (.cells #[.int .i64 (R.BA log 0),.string ⟨#[]⟩] 73))):=by
    have hd:R.Cu 0 log en.proc en.arg=[(R.BA log 0,⟨#[]⟩)]:=by unfold R.Cu;rw[if_pos rfl,if_neg (by omega)];rfl
    by_cases h1:x.1=1
    ·rw[if_pos (by simpa using h1)];exact fin _ 0 (afM rfl) (Ai (cs:=[.int .u16 (R.BA log 0)]) (off:=0) hb _) (by rw[ac,if_neg (by omega),if_pos h1]) _ hd
    ·rw[if_neg (by simpa using h1)];exact fin _ _ (afJ rfl) hb (by rw[ac,if_neg (by omega),if_neg h1]) _ hd
   have HC:=Ac (VD w b (R.BA log 0) (x.1==1) hb hN);clear fin hb ac hp hN;go_enter Tryz.func287,Tryz.ntmps287;go_wp2_with (first|(go_at_call 289;refine(Aa HC).mono ?_;rintro e w1 ⟨rfl,ab⟩;have HW:=Ac ab;clear ab))
   go_returns;rw[Aa HW];exact⟨_,rfl,Aa HF⟩
theorem NZ(w:World)(cb lb nl k:Nat)(st:Int)(P:Pk)(aa:World->Prop)(hk:k<nl)(hP:P.line=(k:Int))(b3:w.cell? ⟨cb,3,none⟩=some (.slice (some ⟨lb,0,none⟩) nl nl))(ac:(P.part=0/\st=4)\/(¬P.part=0/\st=5))
  (HQ:Hid (∀wa,Below w.heap.size w wa->Calls Tryz.prog 167 #[.pointer (some ⟨lb,k*10,none⟩),.int .i64 st] wa fun e w'=>e=.returned (.tuple #[])/\aa w')):
  Calls Tryz.prog 161 #[ptr cb,pv P] w fun e w'=>e=.returned (.tuple #[])/\aa w':=by
 obtain⟨kd,cl,li,ln,ae,u,pa,o,pl,body⟩:=P;dsimp only[pv]at *;subst hP;have ad:=lt_of_cell b3;have q1:(0:Int)<=(k:Int):=by omega
 have q2:(k:Int)<(nl:Int):=by omega
 have HB:Hid (∀o,Below w.heap.size w (w.alloc o)):=fun o=>(Below.refl _ _).alloc (afI _) _
 generalize str body=SB at *;rcases ac with ⟨h1,rfl⟩|⟨h1,rfl⟩
 ·have e1:(pa==0)=true:=by simpa using h1
  clear h1;go_enter Tryz.func161,Tryz.ntmps161;go_wp2_with fail
  go_quiet (fail);go_wp2_with (first|(go_at_call 167;refine((Aa HQ) _ (below_drewN ((Aa HB) _) _)).mono ?_;rintro e w3 ⟨rfl,ab⟩))
  go_returns;exact⟨rfl,ab⟩
 ·have e1:(pa==0)=false:=by simpa using h1
  clear h1;go_enter Tryz.func161,Tryz.ntmps161;go_wp2_with fail
  go_quiet (fail);go_wp2_with (first|(go_at_call 167;refine((Aa HQ) _ (below_drewN ((Aa HB) _) _)).mono ?_;rintro e w3 ⟨rfl,ab⟩))
  go_returns;exact⟨rfl,ab⟩
theorem TV(w:World)(cb lb nl k:Nat)(n m ac:Int)(P:Pk)(S C:ByteArray)(ab:World->Prop)(hk:k<nl)(hP:P.line=(k:Int))(b3:w.cell? ⟨cb,3,none⟩=some (.slice (some ⟨lb,0,none⟩) nl nl))(a5:w.cell? ⟨lb,k*10+5,none⟩=some (.string S))(a6:w.cell? ⟨lb,k*10+6,none⟩=some (.int .i64 ac))(a7:w.cell? ⟨lb,k*10+7,none⟩=some (.string C))(hn:1<=n/\n<=100)
  (H1:Hid (∀w,Calls Tryz.prog 203 #[.string S] w fun e w'=>e=.returned (.int .i64 n)/\w'=w))
  (H2:Hid (∀w,Calls Tryz.prog 203 #[.string C] w fun e w'=>e=.returned (.int .i64 m)/\w'=w))
  (hold:ac<n-1\/¬P.part=m)
  (HN:Hid (ac<n-1\/m<P.part->∀wa,Below w.heap.size w wa->ab wa))
  (HG:Hid (¬(ac<n-1)->P.part<m->∀wa,Below w.heap.size w wa->Calls Tryz.prog 217 #[ptr cb,pv P] wa fun e w'=>e=.returned (.tuple #[])/\ab w')):
  Calls Tryz.prog 160 #[ptr cb,pv P] w fun e w'=>e=.returned (.tuple #[])/\ab w':=by
 obtain⟨kd,cl,li,ln,ae,u,pa,o,pl,body⟩:=P;dsimp only[pv]at *;subst hP;have ah:=lt_of_cell b3;have af:=lt_of_cell a6;have q1:(0:Int)<=(k:Int):=by omega
 have q2:(k:Int)<(nl:Int):=by omega
 have ew:IntKind.i64.wrap (n-1)=n-1:=by rw[IntKind.wrap_i64];omega
 have HB:Hid (∀o,Below w.heap.size w (w.alloc o)):=fun o=>(Below.refl _ _).alloc (afI _) _
 generalize str body=SB at *;have HF:Hid (∀m,Boxed w w (.cells #[.int .i64 kd,.int .i64 cl,.int .i64 li,.int .i64 (k:Int),.int .i64 ae,.int .i64 u,.int .i64 pa,.int .i64 o,.bool pl,.string SB] 82) ((w.alloc (.cells #[.int .i64 kd,.int .i64 cl,.int .i64 li,.int .i64 (k:Int),.int .i64 ae,.int .i64 u,.int .i64 pa,.int .i64 o,.bool pl,.string SB] 82)).drewN m)):=fun m=>⟨below_drewN ((Aa HB) _) m,heap_alloc_new w _⟩
 have HC:Hid (∀W,Boxed w w (.cells #[.int .i64 kd,.int .i64 cl,.int .i64 li,.int .i64 (k:Int),.int .i64 ae,.int .i64 u,.int .i64 pa,.int .i64 o,.bool pl,.string SB] 82) W->W.cell? ⟨lb,k*10+5,none⟩=some (.string S)/\W.cell? ⟨lb,k*10+6,none⟩=some (.int .i64 ac)/\W.cell? ⟨lb,k*10+7,none⟩=some (.string C)):=fun W hW=>⟨(hW.1.cell (p:=⟨lb,k*10+5,none⟩) af).trans a5,(hW.1.cell (p:=⟨lb,k*10+6,none⟩) af).trans a6,(hW.1.cell (p:=⟨lb,k*10+7,none⟩) af).trans a7⟩
 have HD:Hid (∀W,Boxed w w (.cells #[.int .i64 kd,.int .i64 cl,.int .i64 li,.int .i64 (k:Int),.int .i64 ae,.int .i64 u,.int .i64 pa,.int .i64 o,.bool pl,.string SB] 82) W->(W.cell? ⟨w.heap.size,0,none⟩=some (.int .i64 kd)/\W.cell? ⟨w.heap.size,1,none⟩=some (.int .i64 cl)/\W.cell? ⟨w.heap.size,2,none⟩=some (.int .i64 li)/\W.cell? ⟨w.heap.size,3,none⟩=some (.int .i64 (k:Int))/\W.cell? ⟨w.heap.size,4,none⟩=some (.int .i64 ae))/\W.cell? ⟨w.heap.size,5,none⟩=some (.int .i64 u)/\W.cell? ⟨w.heap.size,6,none⟩=some (.int .i64 pa)/\W.cell? ⟨w.heap.size,7,none⟩=some (.int .i64 o)/\W.cell? ⟨w.heap.size,8,none⟩=some (.bool pl)/\W.cell? ⟨w.heap.size,9,none⟩=some (.string SB)):=fun W hW=>⟨⟨cell_of hW.2 0 _ rfl,cell_of hW.2 1 _ rfl,cell_of hW.2 2 _ rfl,cell_of hW.2 3 _ rfl,cell_of hW.2 4 _ rfl⟩,cell_of hW.2 5 _ rfl,cell_of hW.2 6 _ rfl,cell_of hW.2 7 _ rfl,cell_of hW.2 8 _ rfl,cell_of hW.2 9 _ rfl⟩
 by_cases h1:ac<n-1
 ·have HQ:=Ac ((Aa HN) (afJ h1));have e1:decide (ac<n-1)=true:=by simpa using h1
  clear HN HG hold;go_enter Tryz.func160,Tryz.ntmps160;go_wp2_with fail
  go_quiet (fail);go_wp2_with fail
  refine AQ _ ((Aa HF) _) ?_;intro W hW;obtain⟨d5,d6,d7⟩:=(Aa HC) W hW;have hd:=(Aa HD) W hW;obtain⟨⟨f0,f1,f2,f3,f4⟩,f5,f6,f7,f8,f9⟩:=hd;have ad:=Ac hW.1.drew;clear hW HF HC HD;go_region_held3 (fun w'=>w'.cell? ⟨lb,k*10+5,none⟩=some (.string S)/\w'.cell? ⟨lb,k*10+7,none⟩=some (.string C)) (go_keep) (first|(go_at_call 203;refine((Aa H1) _).mono ?_;rintro e w1 ⟨rfl,aa⟩;rw[aa];clear aa)|(go_at_call 203;refine((Aa H2) _).mono ?_;rintro e w1 ⟨rfl,aa⟩;rw[aa];clear aa))
  go_wp2;go_returns;exact⟨rfl,(Aa HQ) _ (Aa ad)⟩
 ·have e1:decide (ac<n-1)=false:=by simpa using h1
  by_cases h2:m<pa
  ·have HQ:=Ac ((Aa HN) (afM h2));have e2:decide (m<pa)=true:=by simpa using h2
   clear HN HG hold;go_enter Tryz.func160,Tryz.ntmps160;go_wp2_with fail
   go_quiet (fail);go_wp2_with fail
   refine AQ _ ((Aa HF) _) ?_;intro W hW;obtain⟨d5,d6,d7⟩:=(Aa HC) W hW;have hd:=(Aa HD) W hW;obtain⟨⟨f0,f1,f2,f3,f4⟩,f5,f6,f7,f8,f9⟩:=hd;have ad:=Ac hW.1.drew;clear hW HF HC HD;go_region_held3 (fun w'=>w'.cell? ⟨lb,k*10+5,none⟩=some (.string S)/\w'.cell? ⟨lb,k*10+7,none⟩=some (.string C)) (go_keep) (first|(go_at_call 203;refine((Aa H1) _).mono ?_;rintro e w1 ⟨rfl,aa⟩;rw[aa];clear aa)|(go_at_call 203;refine((Aa H2) _).mono ?_;rintro e w1 ⟨rfl,aa⟩;rw[aa];clear aa))
   go_wp2;go_returns;exact⟨rfl,(Aa HQ) _ (Aa ad)⟩
  ·have h3:pa<m:=by omega
   have HQ:=Ac ((Aa HG) h1 h3);have e2:decide (m<pa)=false:=by simpa using h2
   clear HN HG hold;go_enter Tryz.func160,Tryz.ntmps160;go_wp2_with fail
   go_quiet (fail);go_wp2_with fail
   refine AQ _ ((Aa HF) _) ?_;intro W hW;obtain⟨d5,d6,d7⟩:=(Aa HC) W hW;have hd:=(Aa HD) W hW;obtain⟨⟨f0,f1,f2,f3,f4⟩,f5,f6,f7,f8,f9⟩:=hd;have ad:=Ac hW.1.drew;clear hW HF HC HD;go_region_held3 (fun w'=>w'.cell? ⟨lb,k*10+5,none⟩=some (.string S)/\w'.cell? ⟨lb,k*10+7,none⟩=some (.string C)) (go_keep) (first|(go_at_call 203;refine((Aa H1) _).mono ?_;rintro e w1 ⟨rfl,aa⟩;rw[aa];clear aa)|(go_at_call 203;refine((Aa H2) _).mono ?_;rintro e w1 ⟨rfl,aa⟩;rw[aa];clear aa))
   go_wp2_with (first|(go_at_call 217;refine((Aa HQ) _ (Aa ad)).mono ?_;rintro e w3 ⟨rfl,ag⟩))
   go_returns;exact⟨rfl,ag⟩
abbrev EB(w:World)(lb k:Nat)(R:ByteArray)(n:Int):World:=(w.setCell ⟨lb,k*10+7,none⟩ (.string R)).setCell ⟨lb,k*10+6,none⟩ (.int .i64 n)
theorem adr:∀args w,(callFunc 219 args).run Tryz.prog w=.ok (.enter 219 args) w:=fun _ _=>rfl
theorem adq:∀args w,(callFunc 218 args).run Tryz.prog w=.ok (.enter 218 args) w:=fun _ _=>rfl
theorem Nl(w:World)(cb lb bm nl k:Nat)(n m ac uid proc kind:Int)(P:Pk)(S C:ByteArray)(A af:World->Prop)(B:Value->World->Prop)(hk:k<nl)(hP:P.line=(k:Int))(b2:w.cell? ⟨cb,2,none⟩=some (.map (some bm)))(b3:w.cell? ⟨cb,3,none⟩=some (.slice (some ⟨lb,0,none⟩) nl nl))(a3:w.cell? ⟨lb,k*10+3,none⟩=some (.int .i64 uid))(a4:w.cell? ⟨lb,k*10+4,none⟩=some (.int .i64 proc))(a5:w.cell? ⟨lb,k*10+5,none⟩=some (.string S))(a6:w.cell? ⟨lb,k*10+6,none⟩=some (.int .i64 ac))(a7:w.cell? ⟨lb,k*10+7,none⟩=some (.string C))(z6:w.frozen? ⟨lb,k*10+6,none⟩=false)(z7:w.frozen? ⟨lb,k*10+7,none⟩=false)(aE:¬cb=lb)(hn:1<=n/\n<=100)(al:¬ac<n-1)(hm:P.part=m)(ho:1<=P.off/\P.off<=9)(aG:¬9223372036854775807<C.size+(str P.body).size)
  (H1:Hid (∀w,Calls Tryz.prog 203 #[.string S] w fun e w'=>e=.returned (.int .i64 n)/\w'=w))
  (H2:Hid (∀w,Calls Tryz.prog 203 #[.string C] w fun e w'=>e=.returned (.int .i64 m)/\w'=w))
  (HG:Hid (¬P.part=P.off-1->∀wa,Below w.heap.size (EB w lb k (C++str P.body) n) wa->Calls Tryz.prog 217 #[ptr cb,pv P] wa fun e w'=>e=.returned (.tuple #[])/\A w'))
  (HR:Hid (∀w',A w'->Calls Tryz.prog 149 #[ptr cb,.pointer (some ⟨lb,k*10,none⟩)] w' fun e an=>e=.returned (.tuple #[])/\af an))
  (ah:Hid (P.part=P.off-1->∀wa,Below w.heap.size (EB w lb k (C++str P.body) n) wa->(Instr.lookup 130 (.map (some bm)) (.int .i64 uid) false).run Tryz.prog wa=.ok (.int .i64 kind) wa))
  (aj:Hid (P.part=P.off-1->∀wa,Below w.heap.size (EB w lb k (C++str P.body) n) wa->Calls Tryz.prog 219 #[.int .i64 kind,.int .i64 proc,.string (C++str P.body)] wa fun e w'=>∃ra rn rc,e=.returned (.slice ra rn rc)/\B (.slice ra rn rc) w'))
  (HE:Hid (∀ra rn rc w',B (.slice ra rn rc) w'->Calls Tryz.prog 218 #[.pointer (some ⟨lb,k*10,none⟩),.slice ra rn rc] w' fun e an=>e=.returned (.tuple #[])/\af an)):
  Calls Tryz.prog 160 #[ptr cb,pv P] w fun e w'=>e=.returned (.tuple #[])/\af w':=by
 obtain⟨kd,cl,li,ln,ad,u,pa,o,pl,body⟩:=P;dsimp only[pv]at *;subst hP hm;have aw:=lt_of_cell b3;have ae:=lt_of_cell a6;have q1:(0:Int)<=(k:Int):=by omega
 have q2:(k:Int)<(nl:Int):=by omega
 have ew:IntKind.i64.wrap (n-1)=n-1:=by rw[IntKind.wrap_i64];omega
 have aD:IntKind.i64.wrap (o-1)=o-1:=by rw[IntKind.wrap_i64];omega
 have HB:Hid (∀o,Below w.heap.size w (w.alloc o)):=fun o=>(Below.refl _ _).alloc (afI _) _
 generalize str body=SB at *;have HF:Hid (∀m,Boxed w w (.cells #[.int .i64 kd,.int .i64 cl,.int .i64 li,.int .i64 (k:Int),.int .i64 ad,.int .i64 u,.int .i64 pa,.int .i64 o,.bool pl,.string SB] 82) ((w.alloc (.cells #[.int .i64 kd,.int .i64 cl,.int .i64 li,.int .i64 (k:Int),.int .i64 ad,.int .i64 u,.int .i64 pa,.int .i64 o,.bool pl,.string SB] 82)).drewN m)):=fun m=>⟨below_drewN ((Aa HB) _) m,heap_alloc_new w _⟩
 have HC:Hid (∀W,Boxed w w (.cells #[.int .i64 kd,.int .i64 cl,.int .i64 li,.int .i64 (k:Int),.int .i64 ad,.int .i64 u,.int .i64 pa,.int .i64 o,.bool pl,.string SB] 82) W->W.cell? ⟨lb,k*10+5,none⟩=some (.string S)/\W.cell? ⟨lb,k*10+6,none⟩=some (.int .i64 ac)/\W.cell? ⟨lb,k*10+7,none⟩=some (.string C)/\W.frozen? ⟨lb,k*10+6,none⟩=false/\W.frozen? ⟨lb,k*10+7,none⟩=false):=fun W hW=>⟨(hW.1.cell (p:=⟨lb,k*10+5,none⟩) ae).trans a5,(hW.1.cell (p:=⟨lb,k*10+6,none⟩) ae).trans a6,(hW.1.cell (p:=⟨lb,k*10+7,none⟩) ae).trans a7,(hW.1.frozen (p:=⟨lb,k*10+6,none⟩) ae).trans z6,(hW.1.frozen (p:=⟨lb,k*10+7,none⟩) ae).trans z7⟩
 have HD:Hid (∀V W,Boxed w V (.cells #[.int .i64 kd,.int .i64 cl,.int .i64 li,.int .i64 (k:Int),.int .i64 ad,.int .i64 u,.int .i64 pa,.int .i64 o,.bool pl,.string SB] 82) W->(W.cell? ⟨w.heap.size,0,none⟩=some (.int .i64 kd)/\W.cell? ⟨w.heap.size,1,none⟩=some (.int .i64 cl)/\W.cell? ⟨w.heap.size,2,none⟩=some (.int .i64 li)/\W.cell? ⟨w.heap.size,3,none⟩=some (.int .i64 (k:Int))/\W.cell? ⟨w.heap.size,4,none⟩=some (.int .i64 ad))/\W.cell? ⟨w.heap.size,5,none⟩=some (.int .i64 u)/\W.cell? ⟨w.heap.size,6,none⟩=some (.int .i64 pa)/\W.cell? ⟨w.heap.size,7,none⟩=some (.int .i64 o)/\W.cell? ⟨w.heap.size,8,none⟩=some (.bool pl)/\W.cell? ⟨w.heap.size,9,none⟩=some (.string SB)):=fun V W hW=>⟨⟨cell_of hW.2 0 _ rfl,cell_of hW.2 1 _ rfl,cell_of hW.2 2 _ rfl,cell_of hW.2 3 _ rfl,cell_of hW.2 4 _ rfl⟩,cell_of hW.2 5 _ rfl,cell_of hW.2 6 _ rfl,cell_of hW.2 7 _ rfl,cell_of hW.2 8 _ rfl,cell_of hW.2 9 _ rfl⟩
 have HT:Hid (∀W,Boxed w w (.cells #[.int .i64 kd,.int .i64 cl,.int .i64 li,.int .i64 (k:Int),.int .i64 ad,.int .i64 u,.int .i64 pa,.int .i64 o,.bool pl,.string SB] 82) W->∀m,Boxed w (EB w lb k (C++SB) n) (.cells #[.int .i64 kd,.int .i64 cl,.int .i64 li,.int .i64 (k:Int),.int .i64 ad,.int .i64 u,.int .i64 pa,.int .i64 o,.bool pl,.string SB] 82) (EB (W.drewN m) lb k (C++SB) n)):=fun W hW m=>by
  refine⟨?_,?_⟩
  ·have hb:=below_drewN hW.1 m;refine⟨hb.os,hb.tape,hb.output,by simpa using hb.size,fun j hj=>?_⟩;by_cases e:j=lb
   ·subst e;simp only[EB,World.setCell,agi,if_true];have h0:=hb.block j hj;simp only[World.heap_drewN]at h0 ⊢;rw[h0]
   ·rw[Below.heap_setCell _ _ _ _ e,Below.heap_setCell _ _ _ _ e,Below.heap_setCell _ _ _ _ e,Below.heap_setCell _ _ _ _ e];exact hb.block j hj
  ·rw[Below.heap_setCell _ _ _ _ (by simp;omega),Below.heap_setCell _ _ _ _ (by simp;omega)];exact hW.2
 have HU:Hid (∀W,Boxed w (EB w lb k (C++SB) n) (.cells #[.int .i64 kd,.int .i64 cl,.int .i64 li,.int .i64 (k:Int),.int .i64 ad,.int .i64 u,.int .i64 pa,.int .i64 o,.bool pl,.string SB] 82) W->W.cell? ⟨cb,2,none⟩=some (.map (some bm))/\W.cell? ⟨lb,k*10+3,none⟩=some (.int .i64 uid)/\W.cell? ⟨lb,k*10+4,none⟩=some (.int .i64 proc)/\W.cell? ⟨lb,k*10+7,none⟩=some (.string (C++SB))):=fun W hW=>by
  have c1:∀(p:Addr) (v:Value),p.block<w.heap.size->p≠⟨lb,k*10+6,none⟩->p≠⟨lb,k*10+7,none⟩->w.cell? p=some v->W.cell? p=some v:=fun p v hp n6 n7 hv=>((hW.1.cell (p:=p) hp).trans ((World.cell?_setCell_other (h:=n6.symm) ..).trans (World.cell?_setCell_other (h:=n7.symm) ..))).trans hv
  refine⟨c1 _ _ aw (by simp) (by simp) b2,c1 _ _ ae (by simp) (by simp) a3,c1 _ _ ae (by simp) (by simp) a4,?_⟩;have n6:(⟨lb,k*10+6,none⟩:Addr)≠⟨lb,k*10+7,none⟩:=by simp
  exact(hW.1.cell (p:=⟨lb,k*10+7,none⟩) ae).trans ((World.cell?_setCell_other (h:=n6) ..).trans (World.cell?_setCell_same (h:=a7) ..))
 have e1:decide (ac<n-1)=false:=by simpa using al
 have e2:decide (pa<pa)=false:=by simp
 have aC:¬pa<pa:=by omega
 by_cases aa:pa=o-1
 ·have e3:(pa==o-1)=true:=by simpa using aa
  have ai:=Ac ((Aa ah) aa);have ak:=Ac ((Aa aj) aa);clear HG HR ah aj aa al;go_enter Tryz.func160,Tryz.ntmps160;go_wp2_with fail
  go_quiet (fail);go_wp2_with fail
  refine AQ _ ((Aa HF) _) ?_;intro W hW;obtain⟨d5,d6,d7,y6,y7⟩:=(Aa HC) W hW;have hd:=(Aa HD) _ W hW;obtain⟨⟨f0,f1,f2,f3,f4⟩,f5,f6,f7,f8,f9⟩:=hd;have ag:Hid (Boxed w (EB w lb k (C++SB) n) (.cells #[.int .i64 kd,.int .i64 cl,.int .i64 li,.int .i64 (k:Int),.int .i64 ad,.int .i64 u,.int .i64 pa,.int .i64 o,.bool pl,.string SB] 82) (EB W lb k (C++SB) n).drew.drew):=(Aa HT) W hW 2;have ax:=lt_of_cell d5;have ay:=lt_of_cell f5;have aB:¬w.heap.size=lb:=by omega
  have am:¬lb=w.heap.size:=by omega
  clear hW HF HC HT;go_region_held3 (fun w'=>w'.cell? ⟨lb,k*10+5,none⟩=some (.string S)/\w'.cell? ⟨lb,k*10+7,none⟩=some (.string C)) (go_keep) (first|(go_at_call 203;refine((Aa H1) _).mono ?_;rintro e w1 ⟨rfl,ab⟩;rw[ab];clear ab)|(go_at_call 203;refine((Aa H2) _).mono ?_;rintro e w1 ⟨rfl,ab⟩;rw[ab];clear ab))
  go_wp2_with fail
  go_region
  go_wp2_with fail
  refine AQ _ (Aa ag) ?_;intro V hV;obtain⟨g2,g3,g4,g7⟩:=(Aa HU) V hV;have aF:=(Aa ai) V.drew hV.1.drew;have av:=Ac ((Aa ak) V.drew hV.1.drew);clear hV ag HU;go_region_law (first
   |(refine Av rfl 219 #[.tmp 79,.tmp 84,.tmp 89] #[3,3,125] rfl adr #[.int .i64 kind,.int .i64 proc,.string (C++SB)] rfl _ (Aa av) ?_;rintro e w1 ⟨ra,rn,rc,rfl,ao⟩;have ar:=Ac ((Aa HE) ra rn rc w1 ao);clear ao;refine⟨_,rfl,?_⟩)
   |(refine Av rfl 218 #[.tmp 69,.tmp 90] #[242,37] rfl adq #[.pointer (some ⟨lb,k*10,none⟩),.slice ra rn rc] rfl _ (Aa ar) ?_;rintro e w2 ⟨rfl,az⟩;refine⟨_,rfl,?_⟩))
  all_goals
   go_wp2;go_returns;exact⟨rfl,az⟩
 ·have e3:(pa==o-1)=false:=by simpa using aa
  have au:=Ac ((Aa HG) aa);clear HG ah aj aa al HE;go_enter Tryz.func160,Tryz.ntmps160;go_wp2_with fail
  go_quiet (fail);go_wp2_with fail
  refine AQ _ ((Aa HF) _) ?_;intro W hW;obtain⟨d5,d6,d7,y6,y7⟩:=(Aa HC) W hW;have hd:=(Aa HD) _ W hW;obtain⟨⟨f0,f1,f2,f3,f4⟩,f5,f6,f7,f8,f9⟩:=hd;have ag:Hid (Boxed w (EB w lb k (C++SB) n) (.cells #[.int .i64 kd,.int .i64 cl,.int .i64 li,.int .i64 (k:Int),.int .i64 ad,.int .i64 u,.int .i64 pa,.int .i64 o,.bool pl,.string SB] 82) (EB W lb k (C++SB) n).drew.drew):=(Aa HT) W hW 2;have ax:=lt_of_cell d5;have ay:=lt_of_cell f5;have aB:¬w.heap.size=lb:=by omega
  have am:¬lb=w.heap.size:=by omega
  clear hW HF HC HT;go_region_held3 (fun w'=>w'.cell? ⟨lb,k*10+5,none⟩=some (.string S)/\w'.cell? ⟨lb,k*10+7,none⟩=some (.string C)) (go_keep) (first|(go_at_call 203;refine((Aa H1) _).mono ?_;rintro e w1 ⟨rfl,ab⟩;rw[ab];clear ab)|(go_at_call 203;refine((Aa H2) _).mono ?_;rintro e w1 ⟨rfl,ab⟩;rw[ab];clear ab))
  go_wp2_with fail
  go_region
  go_wp2_with (first|(go_at_call 217;refine((Aa au) _ (Aa ag).1).mono ?_;rintro e w3 ⟨rfl,ap⟩;have aq:=Ac ((Aa HR) w3 ap);clear ap)|(go_at_call 149;refine(Aa aq).mono ?_;rintro e w4 ⟨rfl,aA⟩))
  go_returns;exact⟨rfl,aA⟩
end Go.Proofs.YtblomippkddgiabGreatDoor
