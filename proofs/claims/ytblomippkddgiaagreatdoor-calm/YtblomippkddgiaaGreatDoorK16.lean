import Derived.Test.YtblomippkddgiaaGreatDoorK15
namespace Go.Proofs.YtblomippkddgiaaGreatDoor
open Go.RowKit
structure QF(p:Pl)(G:R.Wd)(w:World)(i:Nat)(r:R.Sn)(y:Ku):Prop where
 seen:G.seen[i]?=some r
 ne:r.seq≠0
 blk:w.heap[p.t.ql i]?=some (.cells y.cells.toArray 147 (0,0))
 rel:J7 i (G.Ai.getD (i / 3) 0) r y
theorem LW.q{p:Pl}{F:Aq}{G:R.Wd}{w:World}(h:LW p F G w){i:Nat}{r:R.Sn}(hr:G.seen[i]?=some r)(hne:r.seq≠0):∃y,QF p G w i r y/\F (p.t.ql i):=by
 obtain⟨y,h1,h2,h3⟩:=h.Co.ln i r hr hne;exact⟨y,⟨hr,hne,h1,h2⟩,h3⟩
structure YAt(w:World)(b:Nat)(y:Ku):Prop where
 a0:w.cell? ⟨b,0,none⟩=some (.int .i64 y.client)
 a1:w.cell? ⟨b,1,none⟩=some (.int .i64 y.Ag)
 a2:w.cell? ⟨b,2,none⟩=some (.int .i64 y.line)
 a3:w.cell? ⟨b,3,none⟩=some (.int .i64 y.seq)
 a4:w.cell? ⟨b,4,none⟩=some (.int .i64 y.uid)
 a5:w.cell? ⟨b,5,none⟩=some (.int .i64 y.state)
 a6:w.cell? ⟨b,6,none⟩=some (.string (str y.asked))
 a7:w.cell? ⟨b,7,none⟩=some (.string (str y.answer))
 a8:w.cell? ⟨b,8,none⟩=some (.int .i64 y.at')
 a9:w.cell? ⟨b,9,none⟩=some (.int .i64 y.wait)
 YD:w.cell? ⟨b,10,none⟩=some (.int .i64 y.tries)
theorem TK{w:World}{b:Nat}{y:Ku}(h:w.heap[b]?=some (.cells y.cells.toArray 147 (0,0))):YAt w b y:=
 ⟨AY h rfl,AY h rfl,AY h rfl,AY h rfl,AY h rfl,AY h rfl,AY h rfl,AY h rfl,AY h rfl,AY h rfl,AY h rfl⟩
theorem UO{t:SP}{seen:List R.Sn}{i:Nat}{r r':R.Sn}(hr:seen[i]?=some r)(hne:r.seq≠0)(hne':r'.seq≠0)(j:Nat):Bm t (seen.set i r') j=Bm t seen j:=by
 unfold Bm;rw[List.getElem?_set];by_cases e:i=j
 ·subst e;rw[if_pos rfl,if_pos (List.getElem?_eq_some_iff.1 hr).1,hr];simp[hne,hne']
 ·simp[e]
theorem Cp.LF{s n nm:Nat}{t:SP}{F:Aq}{c:R.Cf}{sv:List R.Sv}{Ai:List Int}{seen:List R.Sn}{jobs:List R.Jb}{w w':World}(h:Cp s n nm t F c sv Ai seen jobs w){i:Nat}{r r':R.Sn}{cur:Array Value}{y':Ku}(hr:seen[i]?=some r)(hne:r.seq≠0)(hne':r'.seq≠0)(hb:w.heap[t.ql i]?=some (.cells cur 147 (0,0)))(hk:Af (fun b=>b=t.ql i) w w')(hb':w'.heap[t.ql i]?=some (.cells y'.cells.toArray 147 (0,0)))(hrel:J7 i (Ai.getD (i / 3) 0) r' y'):Cp s n nm t F c sv Ai (seen.set i r') jobs w':=by
 obtain⟨f1,f2,f3⟩:=h.BM;have hav:Kt w F (fun b=>b=t.ql i):=Kt.one hb (by decide);have hi:=(List.getElem?_eq_some_iff.1 hr).1;have hset:∀(j:Nat) (x:R.Sn),(seen.set i r')[j]?=some x->x.seq≠0->∃x0,seen[j]?=some x0/\x0.seq≠0/\(j≠i->x0=x)/\(j=i->x=r'):=fun j x hj hx=>by
  rw[List.getElem?_set]at hj;by_cases e:i=j
  ·subst e;simp only[if_true,hi]at hj;exact⟨r,hr,hne,fun q=>absurd rfl q,fun _=>(Option.some.inj hj).symm⟩
  ·rw[if_neg e]at hj;exact⟨x,hj,hx,fun _=>rfl,fun q=>absurd q.symm e⟩
 refine⟨?_,h.zs,hk.row h.made (fun j hj=>?_),fun z hz=>(h.each z hz).keep hk hav (fun _ q=>q),h.dns,h.ZW,fun j x hj hx=>?_,fun a b x x' ha hb hx hx' hab=>?_,?_,f1,f2,f3⟩
 ·have e:Cv n nm t c Ai (seen.set i r')=Cv n nm t c Ai seen:=by
   unfold Cv;simp only[UO hr hne hne']
  rw[e];exact hk.at h.bs (Bi h.bs hb (by decide))
 ·rcases h.made.2 with ⟨hn,_⟩|⟨g,cap,cur',hn,_,hg,_⟩
  ·rw[hn]at hj;cases hj
  ·rw[hn]at hj;cases hj;exact Bi hg hb (by decide)
 ·obtain⟨x0,q1,q2,q3,q4⟩:=hset j x hj hx;by_cases e:j=i
  ·subst e;obtain rfl:=q4 rfl;obtain⟨_,_,_,hF⟩:=h.ln j x0 q1 q2;exact⟨y',hb',hrel,hF⟩
  ·obtain rfl:=q3 e;obtain⟨y,g1,g2,g3⟩:=h.ln j x0 q1 q2;exact⟨y,hk.at g1 (h.inj j i x0 r q1 hr q2 hne e),g2,g3⟩
 ·obtain⟨x0,q1,q2,_⟩:=hset a x ha hx;obtain⟨x1,q3,q4,_⟩:=hset b x' hb hx';exact h.inj a b x0 x1 q1 q3 q2 q4 hab
 ·obtain⟨a,b,hj⟩:=h.jobs;refine⟨a,b,hk.at hj (fun e=>?_)⟩;rw[e,hb]at hj;cases hj
theorem LO{G:R.Wd}(h:R.Wf G)(i:Nat)(r:R.Sn):R.Wf (R.Av G i r):=⟨h.cf,h.KF,fun j c hc=>⟨(h.cl j c hc).lines,(h.cl j c hc).Ag,(h.cl j c hc).bound,(h.cl j c hc).line⟩,h.Ih,h.Hf,h.sv,h.MA,h.nm,h.st,h.nd,h.Ma⟩
theorem LP{c:R.Cf}{Ai:List Int}{seen:List R.Sn}{jobs:List R.Jb}(h:R.KQ c Ai seen jobs){i:Nat}{r:R.Sn}(hr:R.Oy (Ai.getD (i / 3) 0) r):R.KQ c Ai (seen.set i r) jobs:=by
 refine⟨h.ll,h.lv,by simpa using h.sl,fun j x hx=>?_,h.jl,h.jb⟩;rw[List.getElem?_set]at hx;by_cases e:i=j
 ·rw[if_pos e]at hx;split at hx
  ·cases hx;rw[<-e];exact hr
  ·cases hx
 ·rw[if_neg e]at hx;exact h.sn j x hx
theorem LW.LF{p:Pl}{F:Aq}{G:R.Wd}{w w':World}(h:LW p F G w){i:Nat}{r r':R.Sn}{y y':Ku}(hq:QF p G w i r y)(hne':r'.seq≠0)(hk:Af (fun b=>b=p.t.ql i) w w')(hb':w'.heap[p.t.ql i]?=some (.cells y'.cells.toArray 147 (0,0)))(hrel:J7 i (G.Ai.getD (i / 3) 0) r' y')(hok:R.Oy (G.Ai.getD (i / 3) 0) r'):LW p F (R.Av G i r') w'/\QF p (R.Av G i r') w' i r' y'/\Ay F F w w':=by
 obtain⟨hx,hn,hcs,hnm⟩:=h.BM;have hb:=hq.blk;have hav:Kt w F (fun b=>b=p.t.ql i):=Kt.one hb (by decide);obtain⟨_,_,_,hFq⟩:=h.Co.ln i r hq.seen hq.ne;have at':∀{b:Nat} {ys:Array Value} {t:TypeId} {f:Nat×Nat},w.heap[b]?=some (.cells ys t f)->t≠147->w'.heap[b]?=some (.cells ys t f):=fun hb1 h1=>hk.at hb1 (Bi hb1 hb h1)
 have map':∀{α:Type} {k:TypeId} {b:Nat} {lit:α->Lit} {g:α->Option Int} {n:Nat},Mp w k b lit g n->Mp w' k b lit g n:=fun hm=>by
  obtain⟨es,q,hq⟩:=hm.block;exact hm.keep hk (fun e=>Hr hb hq e.symm)
 refine⟨⟨LO h.wf i r',LP h.Eb hok,at' h.bx (by decide),?_,?_,h.Co.LF hq.seen hq.ne hne' hb hk hb' hrel,map' h.names,fun j c hc=>at' (h.cl j c hc) (by decide),fun j c hc=>?_,fun j c hc=>map' (h.bound j c hc),h.BM,h.Gs,h.inj,fun k hf=>Nat.lt_of_lt_of_le (h.lt k hf) hk.size⟩,⟨?_,hne',hb',hrel⟩,⟨hk.mono (fun k _ e=>by rw[e];exact hFq),fun _ q=>Or.inl q⟩⟩
 ·obtain⟨cur,h1,h2⟩:=h.YF;exact⟨cur,at' h1 (by decide),h2⟩
 ·obtain⟨K,h1,h2,h3⟩:=h.bn;refine⟨K,at' h1 (by decide),hk.row h2 (fun j hj=>?_),h3⟩;rcases h2.2 with ⟨rfl,_⟩|⟨g,cap,cur,rfl,_,hg,_⟩
  ·cases hj
  ·cases hj;exact Bi hg hb (by decide)
 ·obtain⟨xs,h1,h2,h3⟩:=h.ln j c hc;exact⟨xs,at' h1 (by decide),h2,h3.Ea hk hav (fun _ q=>q)⟩
 ·simp[R.Av,(List.getElem?_eq_some_iff.1 hq.seen).1]
theorem QF.below{p:Pl}{G:R.Wd}{w w':World}{i:Nat}{r:R.Sn}{y:Ku}(h:QF p G w i r y)(hb:Below w.heap.size w w'):QF p G w' i r y:=⟨h.seen,h.ne,by rw[hb.block _ (Array.getElem?_eq_some_iff.1 h.blk).1];exact h.blk,h.rel⟩
theorem GK{w:World}{b j:Nat}{y y':Ku}{v:Value}(h:w.heap[b]?=some (.cells y.cells.toArray 147 (0,0)))(hv:y'.cells=y.cells.set j v):(w.setCell ⟨b,j,none⟩ v).heap[b]?=some (.cells y'.cells.toArray 147 (0,0)):=by
 rw[Ak h,hv]
end Go.Proofs.YtblomippkddgiaaGreatDoor
namespace Go.Proofs.YtblomippkddgiaaGreatDoor.R
theorem Yd(Ag:Int):Oy Ag De:=⟨fun _=>rfl,by simp[De],by simp[De],by simp[De],by simp[De],by simp[De],by simp[De]⟩
theorem ws0(c:Cf)(h:BL c):KQ c [0,0,0] (List.replicate 9 De) []:=by
 refine⟨rfl,by simp,by simp,fun i r hr=>?_,?_,by simp⟩
 ·rw[List.getElem?_replicate]at hr;split at hr
  ·cases hr;exact Yd _
  ·cases hr
 ·unfold BL at h;simp;omega
theorem aaP(M:Bk)(sv:List Sv)(i:Nat)(Ag:Int)(b:List Int)(k:Nat):D9 M sv i Ag b k Ou:=⟨by simp[Ou],by simp[Ou],by simp[Ou],by simp[Ou],by simp[Ou]⟩
theorem WM:KM Ou:=⟨by simp[Ou],by simp[Ou]⟩
theorem OM{Ag lines:Int}{k:Nat}{l:Ln}(h:(MN Ag lines).lines[k]?=some l):l=Ou:=by
 simp only[MN,List.getElem?_replicate]at h;split at h
 ·cases h;rfl
 ·cases h
theorem Inv.new{c:Cf}{G:Wd}(h:UH c=some G):Inv (fun _=>none) G:=by
 unfold UH at h;split at h
 ·rename_i hc;cases h;have hcl:∀(i:Nat) (x:Cl),(List.replicate c.Ad.toNat (MN 1 c.lines))[i]?=some x->x=MN 1 c.lines:=fun i x hx=>by
   rw[List.getElem?_replicate]at hx;split at hx
   ·cases hx;rfl
   ·cases hx
  have hcc:=hc;unfold BL at hcc;refine⟨⟨hc,by simp;omega,fun i x hx=>?_,by simp,by simp,by simp,by simp,by simp,by simp,by simp,by simp⟩,ws0 c hc,by simp,fun i x k l hx hl=>?_,by simp,fun i r hr hne=>?_,by simp,by simp,by simp,fun i x hx=>?_⟩
  ·rw[hcl i x hx];exact⟨by simp[MN];omega,by simp[MN],by simp[MN],fun k l hl=>by rw[OM hl];exact WM⟩
  ·rw[hcl i x hx]at hl;rw[OM hl];exact aaP _ _ _ _ _ _
  ·simp only[List.getElem?_replicate]at hr;split at hr
   ·cases hr;exact absurd rfl hne
   ·cases hr
  ·rw[hcl i x hx];simp only[List.getD_eq_getElem?_getD];rcases i with _|_|_|i<;>simp[MN]
 ·cases h
theorem MR(G:Wd)(uid:Int)(u:Nat):(Ez G uid).Ac[u]?=(G.Ac[u]?).map fun s=>if (uid-1).toNat=u then {s with alive:=false} else s:=by
 unfold Ez;generalize (uid-1).toNat=n;simp only[List.getElem?_modify];rfl
theorem Inv.end{M:Bk}{G:Wd}(h:Inv M G)(uid:Int)(hu:1<=uid):Inv M (Ez G uid):=by
 have hsv0:∀(u:Nat) (s:Sv),G.Ac[u]?=some s->∃s',(Ez G uid).Ac[u]?=some s'/\s'.kind=s.kind/\s'.log=s.log/\(s'.alive=true->s.alive=true)/\((uid-1).toNat≠u->s'=s):=fun u s hs=>by
  refine⟨if (uid-1).toNat=u then {s with alive:=false} else s,by rw[MR,hs];rfl,?_⟩;split
  ·rename_i e;exact⟨rfl,rfl,(fun q=>nomatch q),fun q=>absurd e q⟩
  ·exact⟨rfl,rfl,fun q=>q,fun _=>rfl⟩
 have hnn:∀u:Nat,G.Ac[u]?=none->(Ez G uid).Ac[u]?=none:=fun u hs=>by rw[MR,hs];rfl
 have hg:Gr G.Ac (Ez G uid).Ac:=by
  refine⟨by simp[Ez],fun u s hs=>?_⟩;obtain⟨s',h1,h2,h3,_⟩:=hsv0 u s hs;exact⟨s',h1,h2,[],by simp[h3]⟩
 have hsv:∀(u:Nat) (s':Sv),(Ez G uid).Ac[u]?=some s'->∃s,G.Ac[u]?=some s/\s'.kind=s.kind/\s'.log=s.log/\(s'.alive=true->s.alive=true):=fun u s' hs=>by
  cases h0:G.Ac[u]? with
  |none=>rw[hnn u h0]at hs;cases hs
  |some s=>
   obtain⟨s2,h1,h2,h3,h4,_⟩:=hsv0 u s h0;rw[hs]at h1;cases h1;exact⟨s,rfl,h2,h3,h4⟩
 have hlog:∀u,EK (Ez G uid).Ac u=EK G.Ac u:=fun u=>by
  unfold EK;cases h0:G.Ac[(u-1).toNat]? with
  |none=>rw[hnn _ h0]
  |some s=>
   obtain⟨s2,h1,h2,h3,h4,_⟩:=hsv0 _ s h0;rw[h1];exact h3
 have hal:∀u,u≠uid->1<=u->Dp (Ez G uid).Ac u=Dp G.Ac u:=fun u hne h1=>by
  unfold Dp;cases h0:G.Ac[(u-1).toNat]? with
  |none=>rw[hnn _ h0]
  |some s=>
   obtain⟨s2,q1,_,_,_,q5⟩:=hsv0 _ s h0;rw[q1,q5 (by omega)]
 have hsn:∀(i:Nat) (r':Sn),(Ez G uid).seen[i]?=some r'->∃r,G.seen[i]?=some r/\r'=(if r.uid=uid/\r.state<3 then {r with state:=4} else r):=fun i r' hr=>by
  simp only[Ez,List.getElem?_map]at hr;cases h0:G.seen[i]? with
  |none=>rw[h0]at hr;cases hr
  |some r=>
   rw[h0]at hr;exact⟨r,rfl,(Option.some.inj hr).symm⟩
 refine⟨h.wf.ends uid,⟨h.ws.ll,h.ws.lv,by simpa [Ez] using h.ws.sl,fun i r' hr=>?_,h.ws.jl,h.ws.jb⟩,fun k d hd=>⟨(h.bk k d hd).1.grow hg,(h.bk k d hd).2⟩,fun i c k l hc hl=>(h.ln i c k l hc hl).grow (Le.refl M) hg (fun _ q=>q),fun f hf=>(h.fl f hf).grow (Le.refl M) hg,fun i r' hr hne=>?_,fun u s' hs=>?_,fun u s' e hs ha he=>?_,h.jb,h.lv⟩
 ·obtain⟨r,h0,rfl⟩:=hsn i r' hr;have q:=h.ws.sn i r h0;by_cases hv:r.uid=uid/\r.state<3
  ·rw[if_pos hv];have hs0:r.seq≠0:=fun e=>by
    have:=q.zero e;rw[this]at hv;have:De.uid=0:=rfl;omega
   have ht:r.timed=false:=by
    cases e:r.timed with
    |false=>rfl
    |true=>have:=(q.timed e).1;omega
   exact⟨fun e=>absurd e hs0,q.seq,fun _=>⟨(q.some hs0).1,(q.some hs0).2.1,by simp⟩,by simp,by simp,by simp,by simp[ht]⟩
  ·rw[if_neg hv];exact q
 ·obtain⟨r,h0,rfl⟩:=hsn i r' hr;by_cases hv:r.uid=uid/\r.state<3
  ·rw[if_pos hv]at hne ⊢;obtain⟨d,q⟩:=h.sn i r h0 hne;exact⟨d,q.made,q.uid,by simp,by simp,by simp,by simp⟩
  ·rw[if_neg hv]at hne ⊢;obtain⟨d,q⟩:=h.sn i r h0 hne;refine⟨d,q.made,q.uid,q.IV,q.wait,fun hs=>?_,fun hs=>?_⟩
   ·obtain⟨q1,q2⟩:=q.open' hs;have hne2:d.uid≠uid:=fun e=>hv ⟨by rw[q.uid];exact e,by omega⟩
    have h1:1<=d.uid:=(h.bk _ d q.made).1.uid.1;exact⟨by rw[hal d.uid hne2 h1];exact q1,by rw[hlog];exact q2⟩
   ·obtain⟨e,he⟩:=q.ans hs;exact⟨e,he.grow hg⟩
 ·obtain⟨s,h0,h1,h2,_⟩:=hsv u s' hs;have q:=h.lg u s h0;exact⟨by rw[h2];exact q.each,by rw[h2];exact q.ord,by rw[h1,h2];exact q.told⟩
 ·obtain⟨s,h0,h1,h2,h3⟩:=hsv u s' hs;rw[h2]at he;have q:=h.Rq u s e h0 (h3 ha) he;rcases q with q|⟨q1,q2⟩
  ·exact Or.inl q
  ·refine Or.inr ⟨q1,Int.le_trans q2 ?_⟩;unfold LZ;simp only[Ez,List.getElem?_map];cases G.seen[3*e.client.toNat+e.line.toNat]? with
   |none=>simp
   |some r=>
    simp only[Option.map_some,Option.getD_some];split<;>simp
theorem Inv.XQ{M:Bk}{G:Wd}(h:Inv M G){nm:List (List UInt8)}{st:List Int}(hw:Wf {G with names:=nm,stands:=st}):Inv M {G with names:=nm,stands:=st}:=⟨hw,h.ws,h.bk,h.ln,h.fl,h.sn,h.lg,h.Rq,h.jb,h.lv⟩
theorem Inv.serve{M:Bk}{G:Wd}(h:Inv M G){kind:Int}(hw:Wf {G with Ac:=G.Ac++[⟨kind,true,[]⟩]}):Inv M {G with Ac:=G.Ac++[⟨kind,true,[]⟩]}:=by
 have hg:Gr G.Ac (G.Ac++[⟨kind,true,[]⟩]):=⟨by simp,fun u s hs=>⟨s,by rw[List.getElem?_append_left (List.getElem?_eq_some_iff.1 hs).1];exact hs,rfl,[],by simp⟩⟩;have hsv:∀(u:Nat) (s':Sv),(G.Ac++[⟨kind,true,[]⟩])[u]?=some s'->G.Ac[u]?=some s'\/s'=⟨kind,true,[]⟩:=fun u s' hs=>by
  rcases Nat.lt_or_ge u G.Ac.length with hl|hl
  ·rw[List.getElem?_append_left hl]at hs;exact Or.inl hs
  ·rw[List.getElem?_append_right hl]at hs;cases hn:u-G.Ac.length with
   |zero=>rw[hn]at hs;simp at hs;exact Or.inr hs.symm
   |succ n=>rw[hn]at hs;simp at hs
 have hk:∀d:Cd,KJ G.Ac d->EK (G.Ac++[⟨kind,true,[]⟩]) d.uid=EK G.Ac d.uid/\Dp (G.Ac++[⟨kind,true,[]⟩]) d.uid=Dp G.Ac d.uid:=fun d hd=>by
  have hu:=hd.uid;have:(d.uid-1).toNat<G.Ac.length:=by omega
  unfold EK Dp;rw[List.getElem?_append_left this];exact⟨rfl,rfl⟩
 refine⟨hw,h.ws,fun k d hd=>⟨(h.bk k d hd).1.grow hg,(h.bk k d hd).2⟩,fun i c k l hc hl=>(h.ln i c k l hc hl).grow (Le.refl M) hg (fun _ q=>q),fun f hf=>(h.fl f hf).grow (Le.refl M) hg,fun i r hr hne=>?_,fun u s' hs=>?_,fun u s' e hs ha he=>?_,h.jb,h.lv⟩
 ·obtain⟨d,q⟩:=h.sn i r hr hne;obtain⟨k1,k2⟩:=hk d (h.bk _ d q.made).1;refine⟨d,q.made,q.uid,q.IV,q.wait,fun hs=>?_,fun hs=>?_⟩
  ·obtain⟨q1,q2⟩:=q.open' hs;exact⟨by rw[k2];exact q1,by rw[k1];exact q2⟩
  ·obtain⟨e,he⟩:=q.ans hs;exact⟨e,he.grow hg⟩
 ·rcases hsv u s' hs with q|rfl
  ·exact h.lg u s' q
  ·exact⟨by simp,by simp,by simp[Told]⟩
 ·rcases hsv u s' hs with q|rfl
  ·exact h.Rq u s' e q ha he
  ·cases he
theorem Ye{G:Wd}(h:Wf G){name:List UInt8}{k:Nat}(he:Dg G name=some k):G.stands.getD k 0∈G.stands:=by
 have hk:=(List.getElem?_eq_some_iff.1 (MS he)).1;have hk2:k<G.stands.length:=by rw[h.st];exact hk
 rw[List.getD_eq_getElem?_getD,List.getElem?_eq_getElem hk2];exact List.getElem_mem hk2
theorem Inv.export{M:Bk}{G:Wd}(h:Inv M G)(name:List UInt8)(kind:Int):Inv M (Fj G name kind).2:=by
 have hw:=h.wf.export name kind;unfold Fj at hw ⊢;split
 ·exact h
 ·rename_i h1;rw[if_neg h1]at hw;split
  ·exact h
  ·rename_i h2;rw[if_neg h2]at hw;split
   ·rename_i he;simp only[he]at hw;split
    ·exact h
    ·rename_i h3;rw[if_neg h3]at hw;split
     ·exact h
     ·rename_i h4;rw[if_neg h4]at hw;have hw2:Wf {G with Ac:=G.Ac++[⟨kind,true,[]⟩]}:=h.wf.serve (nm:=G.names) (st:=G.stands) (by omega) (by have:=h.wf.sv;omega) h.wf.nm h.wf.st h.wf.nd (fun u hu=>by have:=h.wf.Ma u hu;omega);exact(h.serve hw2).XQ hw
   ·rename_i k he;simp only[he]at hw;split
    ·exact h
    ·rename_i h4;rw[if_neg h4]at hw;have hs:=h.wf.Ma _ (Ye h.wf he);have hE:=h.end (G.stands.getD k 0) hs.1;have hl:(Ez G (G.stands.getD k 0)).Ac.length=G.Ac.length:=by simp[Ez]
     have hw2:=hE.wf.serve (kind:=kind) (nm:=G.names) (st:=G.stands) (by omega) (by have:=h.wf.sv;rw[hl];omega) h.wf.nm h.wf.st h.wf.nd (fun u hu=>by have:=h.wf.Ma u hu;rw[hl];omega);exact(hE.serve hw2).XQ hw
theorem Inv.imports{M:Bk}{G:Wd}(h:Inv M G)(client:Int)(name:List UInt8):Inv M (EQ G client name).2:=by
 have hw:=h.wf.imports client name;unfold EQ at hw ⊢;split
 ·exact h
 ·rename_i h1;rw[if_neg h1]at hw;split
  ·exact h
  ·rename_i k he;simp only[he]at hw;have hcl:∀(j:Nat) (c':Cl),(G.Ad.modify client.toNat fun c=>{c with bound:=c.bound++[G.stands.getD k 0]})[j]?=some c'->∃c,G.Ad[j]?=some c/\c'.Ag=c.Ag/\c'.lines=c.lines/\∀u∈c.bound,u∈c'.bound:=fun j c' hj=>by
    rw[List.getElem?_modify]at hj;cases h0:G.Ad[j]? with
    |none=>rw[h0]at hj;cases hj
    |some c=>
     rw[h0]at hj;have hj:=Option.some.inj hj;refine⟨c,rfl,?_⟩;rw[<-hj];split
     ·exact⟨rfl,rfl,fun u hu=>List.mem_append_left _ hu⟩
     ·exact⟨rfl,rfl,fun u hu=>hu⟩
   refine⟨hw,h.ws,fun q d hq=>?_,fun i c' n l hc hl=>?_,h.fl,h.sn,h.lg,h.Rq,h.jb,fun i c' hc=>?_⟩
   ·obtain⟨g1,a,ca,n,x,r1,r2,r3,r4,r5,r6,r7,r8,r9⟩:=h.bk q d hq;refine⟨g1,a,(if client.toNat=a then {ca with bound:=ca.bound++[G.stands.getD k 0]} else ca),n,x,r1,?_,r3,?_,r5,?_,r7,r8,?_⟩
    ·simp only[List.getElem?_modify,r2];rfl
    all_goals split<;>assumption
   ·obtain⟨c,q1,q2,q3,q4⟩:=hcl i c' hc;rw[q3]at hl;rw[q2];exact(h.ln i c n l q1 hl).grow (Le.refl M) (Gr.refl _) q4
   ·obtain⟨c,q1,q2,q3,q4⟩:=hcl i c' hc;rw[q2];exact h.lv i c q1
theorem Inv.erase{M:Bk}{G:Wd}(h:Inv M G)(k:Nat):Inv M {G with Ao:=G.Ao.eraseIdx k}:=by
 refine h.Ih ⟨h.wf.cf,h.wf.KF,fun j c hc=>⟨(h.wf.cl j c hc).lines,(h.wf.cl j c hc).Ag,(h.wf.cl j c hc).bound,(h.wf.cl j c hc).line⟩,?_,fun f hf=>h.wf.Hf f (List.mem_of_mem_eraseIdx hf),h.wf.sv,h.wf.MA,h.wf.nm,h.wf.st,h.wf.nd,h.wf.Ma⟩ (fun f hf=>h.fl f (List.mem_of_mem_eraseIdx hf));have:=List.length_eraseIdx_le (l:=G.Ao) (i:=k);have:=h.wf.Ih;simp only;omega
structure At(G:Wd)(i k:Nat)(c:Cl)(l:Ln):Prop where
 cl:G.Ad[i]?=some c
 ln:c.lines[k]?=some l
theorem Hw(G:Wd)(to:Int)(p:Pk):(AU G to p).Ad=G.Ad:=by unfold AU;split<;>rfl
theorem Dw(G:Wd)(to:Int)(p:Pk):(AU G to p).Ac=G.Ac:=by unfold AU;split<;>rfl
theorem Cw(G:Wd)(to:Int)(p:Pk):(AU G to p).seen=G.seen:=by unfold AU;split<;>rfl
theorem Hy(G:Wd)(to:Int)(p:Pk):(AU G to p).Ai=G.Ai:=by unfold AU;split<;>rfl
theorem E6(G:Wd)(to:Int)(p:Pk):(AU G to p).jobs=G.jobs:=by unfold AU;split<;>rfl
theorem Gb(G:Wd)(to:Int)(p:Pk):(AU G to p).c=G.c:=by unfold AU;split<;>rfl
theorem At.send{G:Wd}{i k:Nat}{c:Cl}{l:Ln}(h:At G i k c l)(to:Int)(p:Pk):At (AU G to p) i k c l:=⟨by rw[Hw];exact h.cl,h.ln⟩
theorem At.set{G:Wd}{i k:Nat}{c:Cl}{l:Ln}(h:At G i k c l)(l':Ln):At (Al G i k l') i k {c with lines:=c.lines.set k l'} l':=⟨by rw[Bf,h.cl];simp,by simp[(List.getElem?_eq_some_iff.1 h.ln).1]⟩
theorem At.line{G:Wd}{i k:Nat}{c:Cl}{l:Ln}(h:At G i k c l):A7 G i k=l:=Cu h.cl h.ln
theorem D9.same{M:Bk}{sv:List Sv}{i:Nat}{Ag:Int}{bound:List Int}{k:Nat}{l l':Ln}(h:D9 M sv i Ag bound k l)(e1:l'.seq=l.seq)(e2:l'.state=l.state)(e3:l'.uid=l.uid)(e4:l'.message=l.message)(e5:l'.to=l.to)(e6:l'.pieces=l.pieces)(e7:l'.came=l.came)(e8:l'.result=l.result):D9 M sv i Ag bound k l':=by
 refine⟨by rw[e1,e2];exact h.idle,by rw[e1];exact h.made,by rw[e1,e2,e3,e4,e5,e6,e7];exact h.way,by rw[e1,e2,e8];exact h.done,by rw[e2,e8];exact h.none⟩
theorem D9.over{M:Bk}{sv:List Sv}{i:Nat}{Ag:Int}{bound:List Int}{k:Nat}{l l':Ln}(h:D9 M sv i Ag bound k l)(h1:l.state=1)(e1:l'.seq=l.seq)(e2:3<=l'.state)(e8:l'.result=l.result):D9 M sv i Ag bound k l':=by
 refine⟨?_,by rw[e1];exact h.made,fun q=>by omega,fun q=>by omega,fun _=>by rw[e8];exact h.none (by omega)⟩;rw[e1];have:=h.idle;constructor
 ·intro q;omega
 ·intro q;have:=this.2 q;omega
theorem KM.over{l l':Ln}(h:KM l)(e1:l'.seq=l.seq)(e2:l'.state≠1):KM l':=⟨by rw[e1];exact h.seq,fun q=>absurd q e2⟩
theorem Inv.way{M:Bk}{G:Wd}(h:Inv M G){i k:Nat}{c:Cl}{l:Ln}(hat:At G i k c l)(h1:l.state=1):∃d,M ⟨i,c.Ag,k,l.seq⟩=some d/\l.uid=d.uid/\l.message=d.msg:=by
 obtain⟨d,q1,q2,q3,_⟩:=(h.ln i c k l hat.cl hat.ln).way h1;exact⟨d,q1,q2,q3⟩
theorem Inv.piece{M:Bk}{G:Wd}(h:Inv M G){i k:Nat}{c:Cl}{l:Ln}(hat:At G i k c l)(h1:l.state=1)(ha:l.Ah<Ae l.message)(again:Bool):Inv M (AA G i k again):=by
 rw[Ew hat.line];have hr:=Gm h.wf hat.cl hat.ln h1 ha again;refine h.AU hr ?_;obtain⟨d,q1,q2,q3⟩:=h.way hat h1;refine⟨d,?_,q2,Or.inl ⟨rfl,rfl,?_,?_⟩⟩
 ·simp only[Cb,DZ,Bt hat.cl];exact q1
 ·simp only[Cb,q3]
 ·simp only[Cb,q3]
def Ci(G:Wd)(l:Ln)(d:Cd):Ln:=⟨l.seq+1,1,[],d.uid,d.to,d.msg,0,[],0,G.c.Be,G.c.tries⟩
inductive aak (G:Wd) (client line uid proc:Int) (arg:List It) (r:(Int×Int)×Wd):Prop
 |no (n:Int) (hn:n≠0) (h:r=((0,n),G))
 |yes (i k:Nat) (c:Cl) (l:Ln) (d:Cd) (hi:client=i) (hk:line=k) (hat:At G i k c l) (h1:l.state≠1) (hs:l.seq≠999) (hb:uid∈c.bound) (hu:d.uid=uid) (hp:d.proc=proc) (ha:d.arg=arg) (hd:KJ G.Ac d) (h:r=((l.seq+1,0),AA (Al G i k (Ci G l d)) i k false))
theorem YI{G:Wd}(h:Wf G)(client line uid proc:Int)(arg:List It):aak G client line uid proc arg (Cz G client line uid proc arg):=by
 generalize hr:Cz G client line uid proc arg=r;unfold Cz at hr;split at hr
 ·exact .no 13 (by decide) hr.symm
 ·rename_i h1;split at hr
  ·exact .no 14 (by decide) hr.symm
  ·rename_i h2;split at hr
   ·exact .no 15 (by decide) hr.symm
   ·rename_i h3;split at hr
    ·exact .no 16 (by decide) hr.symm
    ·rename_i from' to h4;split at hr
     ·exact .no 4 (by decide) hr.symm
     ·rename_i bs h5;simp only at hr;obtain⟨i,rfl⟩:∃i:Nat,client=(i:Int):=⟨client.toNat,by omega⟩;obtain⟨k,rfl⟩:∃k:Nat,line=(k:Int):=⟨line.toNat,by omega⟩;have hi:i<G.Ad.length:=by omega
      have hc:=List.getElem?_eq_getElem hi;have hcl:=(h.cl i _ hc).lines;have hk:k<G.Ad[i].lines.length:=by omega
      have hl:=List.getElem?_eq_getElem hk;rw[Cu hc hl]at hr;split at hr
      ·exact .no 17 (by decide) hr.symm
      ·rename_i h6;split at hr
       ·exact .no 11 (by decide) hr.symm
       ·rename_i h7;rw[Int.toNat_natCast,hc]at h3;simp only[Option.map_some,Option.getD_some,Decidable.not_not]at h3;have hb:=(h.cl i _ hc).bound uid h3;exact .yes i k G.Ad[i] G.Ad[i].lines[k] ⟨uid,proc,arg,from',to,bs⟩ rfl rfl ⟨hc,hl⟩ h6 h7 h3 rfl rfl rfl ⟨hb,h4,h5⟩ hr.symm
def upd(M:Bk)(k:Key)(d:Cd):Bk:=fun q=>if q=k then some d else M q
theorem Inv.called{M:Bk}{G:Wd}(h:Inv M G){i k:Nat}{c:Cl}{l:Ln}{d:Cd}(hat:At G i k c l)(hs:l.seq≠999)(hb:d.uid∈c.bound)(hd:KJ G.Ac d):Inv (upd M ⟨i,c.Ag,k,l.seq+1⟩ d) (AA (R.Al G i k (Ci G l d)) i k false)/\M ⟨i,c.Ag,k,l.seq+1⟩=none:=by
 have hfresh:M ⟨i,c.Ag,k,l.seq+1⟩=none:=by
  cases hq:M ⟨i,c.Ag,k,l.seq+1⟩ with
  |none=>rfl
  |some d'=>
   obtain⟨_,a,ca,n,x,r1,r2,r3,r4,r5,r6,r7,r8,r9⟩:=h.bk _ d' hq;obtain rfl:i=a:=by simp only at r1;omega
   obtain rfl:k=n:=by simp only at r3;omega
   rw[hat.cl]at r2;cases r2;rw[hat.ln]at r4;cases r4;have:=r9 rfl;simp only at this;omega
 refine⟨?_,hfresh⟩;have hlw:=(h.wf.cl i c hat.cl).line k l hat.ln;have hm:=KE hd;have hcf:=h.wf.cf;unfold BL at hcf;have hsl:=hlw.seq;have hu:=hd.uid;have h255:=h.wf.sv;have hp0:1<=Ae d.msg:=Du (by omega);have hok:KM (Ci G l d):=⟨by simp only[Ci];omega,fun _=>⟨by simp only[Ci];omega,by simp only[Ci];omega,by simp only[Ci];omega,by simp only[Ci];omega,by simp only[Ci];omega,by simp only[Ci];omega⟩⟩;have hup:upd M ⟨i,c.Ag,k,l.seq+1⟩ d ⟨i,c.Ag,k,l.seq+1⟩=some d:=by simp[upd]
 have hlo:D9 (upd M ⟨i,c.Ag,k,l.seq+1⟩ d) G.Ac i c.Ag c.bound k (Ci G l d):=by
  refine⟨?_,fun _=>⟨d,hup⟩,fun _=>⟨d,hup,rfl,rfl,rfl,hb,?_,?_⟩,?_,fun _=>rfl⟩
  ·simp only[Ci];omega
  ·simp[Ci]
  ·simp[Ci]
  ·simp[Ci]
 have hle:Le M (upd M ⟨i,c.Ag,k,l.seq+1⟩ d):=fun q x hq=>by
  unfold upd;split
  ·rename_i e;rw[e,hfresh]at hq;cases hq
  ·exact hq
 have h2:=h.Qn (N:=upd M ⟨i,c.Ag,k,l.seq+1⟩ d) hat.cl hat.ln hok (by simp only[Ci];omega) hle (fun q x hq=>by
  unfold upd at hq;split at hq
  ·rename_i e;cases hq;exact Or.inr ⟨e,hd,by simp only[Ci];omega⟩
  ·exact Or.inl hq) hlo
 exact h2.piece (hat.set _) rfl (by simp only[Ci];omega) false
theorem Inv.rest{M:Bk}{G:Wd}(h:Inv M G){i k:Nat}{c:Cl}{l:Ln}(hat:At G i k c l):Inv M (DN G i k):=by
 unfold DN;rw[hat.line];have hlw:=(h.wf.cl i c hat.cl).line k l hat.ln;have hlo:=h.ln i c k l hat.cl hat.ln;have hcf:=h.wf.cf;unfold BL at hcf;refine h.Al hat.cl hat.ln ⟨hlw.seq,fun h1=>?_⟩ (Int.le_refl _) (hlo.same rfl rfl rfl rfl rfl rfl rfl rfl);obtain⟨z1,z2,z3,z4,z5,z6⟩:=hlw.one h1;exact⟨z1,z2,z3,z4,by simp only;omega,by simp only;omega⟩
theorem Inv.got{M:Bk}{G:Wd}(h:Inv M G){i k:Nat}{c:Cl}{l:Ln}(hat:At G i k c l)(h1:l.state=1){p:Pk}(hr:AJ p)(hk:p.line=k):Inv M (GQ G i p):=by
 unfold GQ;simp only;rw[hk,hat.line,Bt hat.cl];obtain⟨d,q1,q2,q3⟩:=h.way hat h1;have hi:=(List.getElem?_eq_some_iff.1 hat.cl).1;have hkl:=(List.getElem?_eq_some_iff.1 hat.ln).1;have h0:=h.wf.cl i c hat.cl;obtain⟨z1,z2,z3,z4,z5,z6⟩:=(h0.line k l hat.ln).one h1;have hs:=(h0.line k l hat.ln).seq;have hn:=h.wf.KF;have hcf:=h.wf.cf;have hln:=h0.lines;have hlf:=h0.Ag;unfold BL at hcf;obtain⟨r1,r2,r3,r4,r5,r6,r7,r8,r9⟩:=hr;refine h.AU ⟨by simp,by simp only;omega,hlf,by simp only;omega,by simp only;omega,z2,r7,r8,by simp[C5]⟩ ⟨d,q1,q2,Or.inr (Or.inr (Or.inr (Or.inr (Or.inr (Or.inl ⟨rfl,rfl⟩)))))⟩
theorem GH(rb:List UInt8)(n:Nat):rb.take (8*n)++Bb rb (n:Int)=rb.take (8*(n+1)):=by
 unfold Bb;rw[Int.toNat_natCast,show 8*(n+1)=8*n+8 by omega,List.take_add]
theorem Gz{rb:List UInt8}{n:Nat}(h:(n:Int)=Ae rb):rb.take (8*n)=rb:=List.take_of_length_le (by unfold Ae at h;omega)
theorem Kj{rb:List UInt8}{n:Nat}(h:(n:Int)<Ae rb):8*n<rb.length:=by unfold Ae at h;omega
theorem Inv.result{M:Bk}{G:Wd}(h:Inv M G){i k:Nat}{c:Cl}{l:Ln}(hat:At G i k c l)(h1:l.state=1){p:Pk}(hr:AJ p)(hk:p.line=k){d:Cd}{e:En}{rb:List UInt8}(hd:M ⟨i,c.Ag,k,l.seq⟩=some d)(hdn:EH G.Ac ⟨i,c.Ag,k,l.seq⟩ d e rb)(ho:p.off=Ae rb)(hb:p.body=Bb rb p.part):Inv M (DG G i p):=by
 have hlw:=(h.wf.cl i c hat.cl).line k l hat.ln;have hlo:=h.ln i c k l hat.cl hat.ln;obtain⟨z1,z2,z3,z4,z5,z6⟩:=hlw.one h1;obtain⟨d',w1,w2,w3,w4,w5,w6,w7⟩:=hlo.way h1;rw[hd]at w1;cases w1;unfold DG;simp only;rw[hk,hat.line];split
 ·exact h
 ·rename_i hx;split
  ·rename_i hf;obtain⟨n,hn⟩:∃n:Nat,l.pieces=(n:Int):=⟨l.pieces.toNat,by omega⟩;have hcame:l.came=rb.take (8*n):=by
    rcases Nat.eq_zero_or_pos n with h0|h0
    ·subst h0;have:l.came.length=0:=by omega
     simp[List.length_eq_zero_iff.1 this]
    ·obtain⟨e',rb',g1,g2,g3⟩:=w7 (by omega);obtain⟨_,u2⟩:=h.unique hd hdn g1;rw[g2,u2,hn,Int.toNat_natCast]
   have hnew:l.came++p.body=rb.take (8*(n+1)):=by rw[hcame,hb,hf,hn,GH]
   split
   ·rename_i hall;have hwhole:l.came++p.body=rb:=by rw[hnew,Gz (by rw[<-ho,<-hall,hn];rfl)]
    refine h.Al hat.cl hat.ln (hlw.over rfl (by simp)) (Int.le_refl _) ⟨?_,hlo.made,by simp,fun _=>⟨d,e,rb,hd,hdn,?_⟩,by simp⟩
    ·have:=hlo.idle;simp only;omega
    ·simp only;rw[hwhole,w4,Fi hdn.bytes]
   ·rename_i hall;have hlt:((n+1:Nat):Int)<Ae rb:=by
     have:=hr.2.2.2.2.2.2.2.1;omega
    have h8:=Kj hlt;have hI:=h.Al (l':={l with came:=l.came++p.body,pieces:=l.pieces+1,Ah:=Ae l.message}) hat.cl hat.ln ⟨hlw.seq,fun _=>⟨z1,z2,z3,by have:=Du z3.1;simp only;omega,z5,z6⟩⟩ (Int.le_refl _) ⟨hlo.idle,hlo.made,fun _=>⟨d,hd,w2,w3,w4,w5,?_,fun _=>⟨e,rb,hdn,?_,?_⟩⟩,hlo.done,hlo.none⟩
    ·have hat2:=hat.set {l with came:=l.came++p.body,pieces:=l.pieces+1,Ah:=Ae l.message};have hI2:=hI.got hat2 h1 hr hk;refine hI2.rest (c:={c with lines:=c.lines.set k {l with came:=l.came++p.body,pieces:=l.pieces+1,Ah:=Ae l.message}}) (l:={l with came:=l.came++p.body,pieces:=l.pieces+1,Ah:=Ae l.message}) ?_;unfold GQ;exact hat2.send _ _
    ·simp only;rw[hnew,List.length_take,Nat.min_eq_left (by omega)];omega
    ·simp only;rw[hnew,hn];congr 1
    ·simp only;omega
  ·exact h.got hat h1 hr hk
theorem Inv.heard{M:Bk}{G:Wd}(h:Inv M G){p:Pk}(hr:AJ p){to:Int}(hto:to≠-1)(hp:Nt M G.Ac to p):Inv M (CF G to p):=by
 obtain⟨d,hd,hu,hk⟩:=hp;obtain⟨hcd,i,c,k,l,r1,r2,r3,r4,r5,r6,r7,r8,r9⟩:=h.bk _ d hd;simp only[DZ]at r1 r3 r5 r6 r7 r8 r9;have hat:At G i k c l:=⟨r2,r4⟩;have hti:to=(i:Int):=by
  rcases hk with ⟨_,q,_⟩|⟨_,q,_⟩|⟨_,q⟩|⟨_,q⟩|⟨_,q,_⟩|⟨_,q⟩|⟨_,q,_⟩
  ·exact absurd q hto
  ·rw[q,r1]
  ·exact absurd q hto
  ·rw[q,r1]
  ·rw[q,r1]
  ·exact absurd q hto
  ·rw[q,r1]
 subst hti;unfold CF;simp only;rw[r3,hat.line,Bt hat.cl];split
 ·exact h
 ·rename_i hx;obtain⟨h1,h2,h3⟩:l.state=1/\p.Ag=c.Ag/\p.seq=l.seq:=by
   refine⟨?_,?_,?_⟩<;>omega
  have hkey:DZ p=⟨i,c.Ag,k,l.seq⟩:=by simp[DZ,r1,h2,r3,h3]
  rw[hkey]at hd hk;have hlw:=(h.wf.cl i c hat.cl).line k l hat.ln;have hlo:=h.ln i c k l hat.cl hat.ln;obtain⟨z1,z2,z3,z4,z5,z6⟩:=hlw.one h1;obtain⟨d',w1,w2,w3,w4,w5,w6,w7⟩:=hlo.way h1;rw[hd]at w1;cases w1;split
  ·rename_i hk2;split
   ·rename_i ha;have ho:p.off=Ae d.msg:=by
     rcases hk with ⟨q,_⟩|⟨_,_,q⟩|⟨q,_⟩|⟨q,_⟩|⟨q,_⟩|⟨q,_⟩|⟨q,_⟩
     ·omega
     ·exact q
     all_goals omega
    have hpart:=hr.2.2.2.2.2.2.2.1;rw[<-w3]at ho;have hI:=h.Al (l':={l with Ah:=l.Ah+1}) hat.cl hat.ln ⟨hlw.seq,fun _=>⟨z1,z2,z3,by simp only;omega,z5,z6⟩⟩ (Int.le_refl _) (hlo.same rfl rfl rfl rfl rfl rfl rfl rfl);have hat2:=hat.set {l with Ah:=l.Ah+1};split
    ·rename_i hm;refine(hI.piece hat2 h1 hm false).rest (c:={c with lines:=c.lines.set k {l with Ah:=l.Ah+1}}) (l:={l with Ah:=l.Ah+1}) ?_;unfold AA;exact hat2.send _ _
    ·exact hI.rest hat2
   ·exact h
  ·split
   ·exact h.rest hat
   ·split
    ·rename_i hk5;rcases hk with ⟨q,_⟩|⟨q,_⟩|⟨q,_⟩|⟨q,_⟩|⟨_,_,e,rb,q1,q2,q3⟩|⟨q,_⟩|⟨q,_⟩;case inr.inr.inr.inr.inl=>exact h.result hat h1 hr r3 hd q1 q2 q3
     all_goals omega
    ·split
     ·have hpart:=hr.2.2.2.2.2.2.2.1;exact h.Al hat.cl hat.ln (hlw.over rfl (by simp only;omega)) (Int.le_refl _) (hlo.over h1 rfl (by simp only;omega) rfl)
     ·exact h
end Go.Proofs.YtblomippkddgiaaGreatDoor.R
