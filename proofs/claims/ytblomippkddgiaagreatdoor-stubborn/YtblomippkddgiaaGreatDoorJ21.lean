import Derived.Test.YtblomippkddgiaaGreatDoorJ20
import Derived.Test.YtblomippkddgiaaGreatDoorJ19
set_option maxRecDepth 100000
set_option maxHeartbeats 4000000
namespace Go.Proofs.YtblomippkddgiaaGreatDoor.R
theorem Inv.putJob{M:Bk}{G:Wd}(h:Inv M G){js:List Jb}(hl:(js.length:Int)≤G.c.table)(hj:∀j∈js,((0≤j.client∧j.client≤2)∧(0≤j.line∧j.line≤2))∧∃d,M ⟨j.client,j.life,j.line,j.seq⟩=some d∧j.uid=d.uid):Inv M {G with jobs:=js}:=
 ⟨⟨h.wf.cf,h.wf.ncl,fun j c hc=>⟨(h.wf.cl j c hc).lines,(h.wf.cl j c hc).life,(h.wf.cl j c hc).bound,(h.wf.cl j c hc).line⟩,h.wf.fly,h.wf.flys,h.wf.sv,h.wf.svk,h.wf.nm,h.wf.st,h.wf.nd,h.wf.sts⟩,⟨h.ws.ll,h.ws.lv,h.ws.sl,h.ws.sn,hl,fun j q=>(hj j q).1⟩,h.bk,h.ln,h.fl,h.sn,h.lg,h.fut,fun j q=>(hj j q).2,h.lv⟩
structure PkAt(M:Bk)(G:Wd)(p:Pk)(d:Cd)(i:Nat):Prop where
 right:aaj p
 made:M (pkKey p)=some d
 uid:p.uid=d.uid
 life:p.life=G.lives.getD (i / 3) 0
 i:i=3*p.client.toNat+p.line.toNat
theorem PkAt.key{M:Bk}{G:Wd}{p:Pk}{d:Cd}{i:Nat}(h:PkAt M G p d i):pkKey p=⟨((i / 3:Nat):Int),G.lives.getD (i / 3) 0,((i % 3:Nat):Int),p.seq⟩:=by
 obtain⟨_,p2,_,p4,_⟩:=h.right
 have:=h.i
 simp only[pkKey,Key.mk.injEq]
 exact⟨by omega,h.life,by omega,trivial⟩
theorem PkAt.lt{M:Bk}{G:Wd}{p:Pk}{d:Cd}{i:Nat}(h:PkAt M G p d i):i<9:=by
 obtain⟨_,p2,_,p4,_⟩:=h.right
 have:=h.i
 omega
theorem PkAt.cong{M:Bk}{G G':Wd}{p:Pk}{d:Cd}{i:Nat}(h:PkAt M G p d i)(e:G'.lives=G.lives):PkAt M G' p d i:=⟨h.right,h.made,h.uid,by rw[e];exact h.life,h.i⟩
theorem Inv.ack{M:Bk}{G:Wd}(h:Inv M G){p:Pk}{d:Cd}{i:Nat}(ha:PkAt M G p d i)(ho:p.off=piecesP d.msg):Inv M (ackP G p):=by
 obtain⟨r1,r2,r3,r4,r5,r6,r7,r8,r9⟩:=ha.right
 unfold ackP
 split
 ·exact h.replied ha.right ha.made ha.uid (by decide) r7 (by omega) (Or.inl ⟨rfl,ho⟩)
 ·exact h
theorem Inv.gather{M:Bk}{G:Wd}(h:Inv M G){p:Pk}{d:Cd}{i:Nat}(ha:PkAt M G p d i)(ho:p.off=piecesP d.msg)(hb:p.body=pieceP d.msg p.part){r:Sn}(hr:G.seen[i]?=some r)(hs:r.seq=p.seq)(h1:r.state=1):Inv M (gatherP G i p):=by
 have hsn:=h.ws.sn i r hr
 obtain⟨_,_,_,_,hq5,_,ho9,hpt,_⟩:=ha.right
 have hne:r.seq≠0:=by omega
 obtain⟨d',q⟩:=h.sn i r hr hne
 have hkey:=ha.key
 rw[←hs]at hkey
 have hdd:d'=d:=by
  have:=q.made
  rw[←hkey,ha.made]at this
  exact(Option.some.inj this).symm
 subst hdd
 obtain⟨g1,g2⟩:=q.gath h1
 obtain⟨g3,g4,g5⟩:=hsn.gath h1
 have hml:=afq (h.bk _ _ q.made).1
 obtain⟨n,hn⟩:∃n:Nat,r.pieces=(n:Int):=⟨r.pieces.toNat,by omega⟩
 rw[hn,Int.toNat_natCast]at g1
 have hi:=ha.lt
 unfold gatherP
 simp only
 rw[seenP_some hr]
 split
 ·rename_i hf
  have hmsg:r.message++p.body=d'.msg.take (8*(n+1)):=by rw[g1,hb,hf,hn,take_piece]
  split
  ·rename_i hlast
   have hall:r.message++p.body=d'.msg:=by rw[hmsg,pieces_all (by rw[←ho];omega)]
   split
   ·exact h
   ·rename_i hroom
    have h2:=h.setSeen (r':={r with state:=2,message:=r.message++p.body,pieces:=r.pieces+1}) hr (Int.le_refl _) ⟨fun e=>absurd e hne,hsn.seq,fun e=>⟨(hsn.some e).1,(hsn.some e).2.1,by simp⟩,by simp,by simp only[hall];omega,by simp,fun ht=>by have:=(hsn.timed ht).1;omega⟩ (fun _=>⟨d',q.made,q.uid,by simp,fun _=>hall,fun _=>q.open' (Or.inl h1),by simp⟩)
    have h3:=h2.putJob (js:=G.jobs++[⟨p.client,p.line,p.life,p.seq,p.uid⟩]) (by simp only[List.length_append,List.length_singleton];show _≤G.c.table;omega) (fun j hj=>by
     rcases List.mem_append.1 hj with hj|hj
     ·exact⟨h.ws.jb j hj,h.jb j hj⟩
     ·rw[List.mem_singleton.1 hj]
      obtain⟨_,p2,_,p4,_⟩:=ha.right
      exact⟨⟨p2,p4⟩,d',ha.made,ha.uid⟩)
    exact h3.ack (ha.cong rfl) ho
  ·rename_i hlast
   have hlt:((n+1:Nat):Int)<piecesP d'.msg:=by omega
   have h8:=ad5 hlt
   have h2:=h.setSeen (r':={r with message:=r.message++p.body,pieces:=r.pieces+1}) hr (Int.le_refl _) ⟨fun e=>absurd e hne,hsn.seq,hsn.some,fun _=>?_,fun e=>by simp only at e;omega,hsn.ans,hsn.timed⟩ (fun _=>⟨d',q.made,q.uid,fun _=>⟨?_,?_⟩,fun e=>by simp only at e;omega,q.open',q.ans⟩)
   ·exact h2.ack (ha.cong rfl) ho
   ·simp only
    rw[hmsg,List.length_take,Nat.min_eq_left (by omega)]
    omega
   ·simp only
    rw[hmsg,hn]
    congr 1
   ·simp only
    omega
 ·exact h.ack ha ho
theorem Inv.known{M:Bk}{G:Wd}(h:Inv M G){p:Pk}{d:Cd}{i:Nat}(ha:PkAt M G p d i)(hk:(p.kind=1∧p.off=piecesP d.msg∧p.body=pieceP d.msg p.part)∨p.kind=3){r:Sn}(hr:G.seen[i]?=some r)(hs:r.seq=p.seq):Inv M (knownP G i p):=by
 obtain⟨r1,r2,r3,r4,r5,r6,r7,r8,r9⟩:=ha.right
 unfold knownP
 simp only
 rw[seenP_some hr]
 split
 ·rename_i h1
  split
  ·rename_i hx
   rcases hk with ⟨_,ho,hb⟩|q
   ·exact h.gather ha ho hb hr hs h1
   ·omega
  ·exact h
 ·split
  ·exact h.replied ha.right ha.made ha.uid (by decide) (by decide) (by decide) (Or.inr (Or.inr ⟨rfl,rfl⟩))
  ·split
   ·exact h
   ·split
    ·rename_i h3
     exact h.tell ha.lt hr h3
    ·split
     ·exact h.replied ha.right ha.made ha.uid (by decide) (by decide) (by decide) (Or.inr (Or.inl rfl))
     ·rcases hk with ⟨_,ho,hb⟩|q
      ·exact h.replied ha.right ha.made ha.uid (by decide) r7 (by omega) (Or.inl ⟨rfl,ho⟩)
      ·contradiction
theorem afB{sv:List Sv}{u:Int}(h:aliveS sv u=true):∃(n:Nat) (s:Sv),u=(n:Int)+1∧sv[n]?=some s∧s.alive=true:=by
 unfold aliveS at h
 rw[Bool.and_eq_true,decide_eq_true_eq]at h
 cases ha:sv[(u-1).toNat]? with
 |none=>rw[ha]at h;simp at h
 |some s=>
  rw[ha]at h
  exact⟨(u-1).toNat,s,by omega,ha,by simpa using h.2⟩
theorem Inv.ask{M:Bk}{G:Wd}(h:Inv M G){p:Pk}{d:Cd}{i:Nat}(ha:PkAt M G p d i)(hk:(p.kind=1∧p.off=piecesP d.msg∧p.body=pieceP d.msg p.part)∨p.kind=3∨p.kind=6):Inv M (askP G i p):=by
 have hr:=h.seen_at ha.lt
 unfold askP
 simp only
 generalize seenP G i=r at hr ⊢
 have hsn:=h.ws.sn i r hr
 obtain⟨_,_,_,_,hq5,_,ho9,hpt,_⟩:=ha.right
 split
 ·split
  ·rename_i hx
   obtain⟨x1,x2,x3,x4,x5⟩:=hx
   obtain⟨b1,b2,b3,b4⟩:=hsn.ans x2
   have hne:r.seq≠0:=by omega
   obtain⟨d',q⟩:=h.sn i r hr hne
   have h2:=h.setSeen (r':={r with at':=r.at'+1}) hr (Int.le_refl _) ⟨fun e=>absurd e hne,hsn.seq,hsn.some,hsn.gath,hsn.wait,fun _=>⟨b1,b2,by simp only;omega,by simp only;omega⟩,hsn.timed⟩ (fun _=>⟨d',q.same rfl rfl rfl rfl rfl⟩)
   exact h2.tell ha.lt (r:={r with at':=r.at'+1}) (by simp[R.setSeen,(List.getElem?_eq_some_iff.1 hr).1]) x2
  ·exact h
 ·rename_i h6
  have hk':(p.kind=1∧p.off=piecesP d.msg∧p.body=pieceP d.msg p.part)∨p.kind=3:=by
   rcases hk with q|q|q
   ·exact Or.inl q
   ·exact Or.inr q
   ·exact absurd q h6
  split
  ·rename_i hs
   exact h.known ha hk' hr hs
  ·split
   ·exact h
   ·split
    ·exact h.replied ha.right ha.made ha.uid (by decide) (by decide) (by decide) (Or.inr (Or.inr ⟨rfl,rfl⟩))
    ·rename_i hs hlt hal
     have hal:aliveS G.services p.uid=true:=by simpa [aliveP,aliveS] using hal
     split
     ·exact h
     ·split
      ·exact h.replied ha.right ha.made ha.uid (by decide) (by decide) (by decide) (Or.inr (Or.inr ⟨rfl,rfl⟩))
      ·have hkey:=ha.key
       have hcd:=(h.bk _ d ha.made).1
       have hml:=afq hcd
       have h255:=h.wf.sv
       obtain⟨_,_,hlf,_,_,hu6,_⟩:=ha.right
       have h2:=h.setSeen (r':={sn0 with seq:=p.seq,uid:=p.uid,state:=1}) hr (by simp only;omega) ⟨fun e=>by simp only at e;omega,by simp only;omega,fun _=>⟨by rw[←ha.life];exact hlf.1,hu6,by simp⟩,by simp[sn0],by simp,by simp,by simp[sn0]⟩ (fun _=>⟨d,by rw[←hkey];exact ha.made,ha.uid,fun _=>⟨by simp[sn0],by simp only[sn0];omega⟩,by simp,fun _=>?_,by simp⟩)
       ·exact h2.known (ha.cong rfl) hk' (r:={sn0 with seq:=p.seq,uid:=p.uid,state:=1}) (by simp[R.setSeen,(List.getElem?_eq_some_iff.1 hr).1]) rfl
       ·rw[←ha.uid]
        refine⟨hal,fun e he hek=>?_⟩
        obtain⟨n,s,a1,a2,a3⟩:=afB hal
        rw[a1,ad7 a2]at he
        have hf:=h.fut n s e a2 a3 he
        rw[←hkey]at hek
        simp only[enKey,pkKey,Key.mk.injEq]at hek
        obtain⟨e1,e2,e3,e4⟩:=hek
        unfold FutOk aj5 at hf
        rw[e1,e2,e3,e4,←ha.i,hr]at hf
        have hl:=ha.life
        obtain⟨_,p2,_,p4,_⟩:=ha.right
        have hdiv:i / 3=p.client.toNat:=by have:=ha.i;omega
        rw[hdiv]at hl
        simp only[Option.getD_some]at hf
        omega
theorem ahc{G:Wd}{p:Pk}(h:¬p.life<G.lives.getD p.client.toNat 0)(hl:p.client.toNat<G.lives.length):(livesP G p).lives.getD p.client.toNat 0=p.life:=by
 unfold livesP
 split
 ·simp[hl]
 ·omega
theorem Inv.asked{M:Bk}{G:Wd}(h:Inv M G){p:Pk}(hr:aaj p)(hp:PkOk M G.services (-1) p):Inv M (askedP G p):=by
 obtain⟨d,hd,hu,hk⟩:=hp
 obtain⟨_,p2,_,p4,_⟩:=id hr
 have hne:(-1:Int)≠p.client:=by omega
 have hk':(p.kind=1∧p.off=piecesP d.msg∧p.body=pieceP d.msg p.part)∨p.kind=3∨p.kind=6:=by
  rcases hk with ⟨q1,_,q2,q3⟩|⟨_,q,_⟩|⟨q,_⟩|⟨_,q⟩|⟨_,q,_⟩|⟨q,_⟩|⟨_,q,_⟩
  ·exact Or.inl ⟨q1,q2,q3⟩
  ·exact absurd q hne
  ·exact Or.inr (Or.inl q)
  ·exact absurd q hne
  ·exact absurd q hne
  ·exact Or.inr (Or.inr q)
  ·exact absurd q hne
 unfold askedP
 split
 ·exact h
 ·rename_i hx
  have h2:=h.lives hr hd
  refine h2.ask (d:=d) ⟨hr,hd,hu,?_,rfl⟩ hk'
  have hdiv:(3*p.client.toNat+p.line.toNat) / 3=p.client.toNat:=by omega
  rw[hdiv,ahc hx (by rw[h.ws.ll];omega)]
theorem Inv.deliver{M:Bk}{G:Wd}(h:Inv M G)(i:Int):Inv M (deliverP G i).2:=by
 unfold deliverP
 split
 ·exact h
 ·split
  ·exact h
  ·rename_i f hf
   have hI:=h.erase i.toNat
   have hfo:=h.fl f (List.mem_of_getElem? hf)
   unfold FlOk at hfo
   simp only
   split
   ·exact hI
   ·rename_i hb
    rw[if_neg hb]at hfo
    obtain⟨p,q1,q2,q3⟩:=hfo
    rw[q2,acl q1]
    simp only
    split
    ·rename_i ht
     rw[ht]at q3
     exact hI.asked q1 q3
    ·rename_i ht
     exact hI.heard q1 ht q3
theorem sig_small{kind proc:Int}{x:ByteArray×ByteArray}(h:sigP kind proc=some x):proc=0∨proc=1:=by
 unfold sigP at h
 split at h
 ·omega
 ·split at h
  ·omega
  ·split at h
   ·omega
   ·split at h
    ·omega
    ·split at h
     ·omega
     ·cases h
theorem msg_proc{d:Cd}(h:d.proc=0∨d.proc=1):256*((d.msg.getD 0 0).toNat:Int)+((d.msg.getD 1 0).toNat:Int)=d.proc∧d.msg.drop 2=d.bs:=by
 refine⟨?_,by simp[Cd.msg,two8]⟩
 have h1:d.msg.getD 0 0=b8 (d.proc / 256):=by simp[Cd.msg,two8]
 have h2:d.msg.getD 1 0=b8 (d.proc % 256):=by simp[Cd.msg,two8]
 rw[h1,h2,aaA (by omega) (by omega),aaA (by omega) (by omega)]
 omega
structure DoneAt(M:Bk)(G:Wd)(i:Nat)(r:Sn)(d:Cd)(n:Nat)(s:Sv)(rb:List UInt8):Prop where
 seen:G.seen[i]?=some r
 ne:r.seq≠0
 ok:SeenOk M G.services ⟨((i / 3:Nat):Int),G.lives.getD (i / 3) 0,((i % 3:Nat):Int),r.seq⟩ r d
 cd:CdOk G.services d
 uid:d.uid=(n:Int)+1
 sv:G.services[n]?=some s
 alive:s.alive=true
 sig:sigP s.kind d.proc=some (d.from',d.to)
 byt:bytesP d.to (doesP s.kind s.log d.proc d.arg)=some rb
 pos:1≤rb.length
theorem Inv.doneAt{M:Bk}{G:Wd}(h:Inv M G){i:Nat}(hi:i<9)(h2:(seenP G i).state=2):∃d n s rb,DoneAt M G i (seenP G i) d n s rb:=by
 have hr:=h.seen_at hi
 generalize seenP G i=r at hr h2 ⊢
 have hsn:=h.ws.sn i r hr
 have hne:r.seq≠0:=fun e=>by
  rw[hsn.zero e]at h2
  cases h2
 obtain⟨d,q⟩:=h.sn i r hr hne
 obtain⟨q1,q2⟩:=q.open' (Or.inr h2)
 have hcd:=(h.bk _ d q.made).1
 obtain⟨n,s,a1,a2,a3⟩:=afB q1
 have hk:kindS G.services d.uid=s.kind:=by
  unfold kindS
  rw[show (d.uid-1).toNat=n by omega,a2]
  rfl
 have hsig:=hcd.sig
 rw[hk]at hsig
 obtain⟨rb,b1,b2⟩:=does_ok hsig hcd.bs (log:=s.log) (fun e he=>by
  obtain⟨d',rb',g1,g2,g3,g4,g5,g6⟩:=((h.lg n s a2).each e he).some
  have hcd':=(h.bk _ d' g1).1
  have hk':kindS G.services d'.uid=s.kind:=by
   rw[g2]
   unfold kindS
   rw[show ((n:Int)+1-1).toNat=n by omega,a2]
   rfl
  have:=hcd'.sig
  rw[hk']at this
  exact⟨d'.from',d'.to,d'.bs,by rw[g3];exact this,by rw[g4];exact hcd'.bs⟩)
 exact⟨d,n,s,rb,hr,hne,q,hcd,a1,a2,a3,hsig,b1,b2⟩
def entryIs(G:Wd)(i:Nat)(r:Sn)(d:Cd)(s:Sv):En:=⟨((i / 3:Nat):Int),G.lives.getD (i / 3) 0,((i % 3:Nat):Int),r.seq,d.proc,d.arg,doesP s.kind s.log d.proc d.arg⟩
def doneW(G:Wd)(i:Nat)(r:Sn)(d:Cd)(n:Nat)(s:Sv)(rb:List UInt8):Wd:={G with services:=G.services.set n {s with log:=s.log++[entryIs G i r d s]},seen:=G.seen.set i {r with state:=3,result:=rb,at':=0}}
theorem DoneAt.eq{M:Bk}{G:Wd}{i:Nat}{r:Sn}{d:Cd}{n:Nat}{s:Sv}{rb:List UInt8}(h:DoneAt M G i r d n s rb)(h2:r.state=2):doneP G i=tellP (doneW G i r d n s rb) i:=by
 have hm:=h.ok.wait h2
 have hu:(r.uid-1).toNat=n:=by rw[h.ok.uid,h.uid];omega
 obtain⟨m1,m2⟩:=msg_proc (sig_small h.sig)
 unfold doneP
 simp only
 rw[seenP_some h.seen,hu,h.sv,hm]
 simp only[Option.getD_some]
 rw[m1,h.sig,m2]
 simp only[Option.getD_some]
 rw[bytesP_back h.cd.bs,h.byt,←hm]
 rfl
theorem Inv.doneW{M:Bk}{G:Wd}(h:Inv M G){i:Nat}(hi:i<9){r:Sn}{d:Cd}{n:Nat}{s:Sv}{rb:List UInt8}(hd:DoneAt M G i r d n s rb)(h2:r.state=2):Inv M (doneW G i r d n s rb):=by
 have hn:=(List.getElem?_eq_some_iff.1 hd.sv).1
 have hir:=(List.getElem?_eq_some_iff.1 hd.seen).1
 have hsn:=h.ws.sn i r hd.seen
 have hget:∀(u:Nat) (s':Sv),(G.services.set n {s with log:=s.log++[entryIs G i r d s]})[u]?=some s'→(u=n∧s'={s with log:=s.log++[entryIs G i r d s]})∨(u≠n∧G.services[u]?=some s'):=fun u s' hu=>by
  rw[List.getElem?_set]at hu
  by_cases e:n=u
  ·rw[if_pos e]at hu
   simp only[hn,if_true]at hu
   exact Or.inl ⟨e.symm,(Option.some.inj hu).symm⟩
  ·rw[if_neg e]at hu
   exact Or.inr ⟨fun q=>e q.symm,hu⟩
 have hget2:∀(j:Nat) (r':Sn),(G.seen.set i {r with state:=3,result:=rb,at':=0})[j]?=some r'→(j=i∧r'={r with state:=3,result:=rb,at':=0})∨(j≠i∧G.seen[j]?=some r'):=fun j r' hj=>by
  rw[List.getElem?_set]at hj
  by_cases e:i=j
  ·rw[if_pos e]at hj
   simp only[hir,if_true]at hj
   exact Or.inl ⟨e.symm,(Option.some.inj hj).symm⟩
  ·rw[if_neg e]at hj
   exact Or.inr ⟨fun q=>e q.symm,hj⟩
 have hg:Gr G.services (G.services.set n {s with log:=s.log++[entryIs G i r d s]}):=by
  refine⟨by simp,fun u x hx=>?_⟩
  by_cases e:n=u
  ·subst e
   rw[hd.sv]at hx
   cases hx
   exact⟨{s with log:=s.log++[entryIs G i r d s]},by simp[hn],rfl,[entryIs G i r d s],rfl⟩
  ·exact⟨x,by rw[List.getElem?_set,if_neg e];exact hx,rfl,[],by simp⟩
 have hlogn:logS G.services d.uid=s.log:=by rw[hd.uid];exact ad7 hd.sv
 have hlogn':logS (G.services.set n {s with log:=s.log++[entryIs G i r d s]}) d.uid=s.log++[entryIs G i r d s]:=by
  rw[hd.uid]
  exact ad7 (s:={s with log:=s.log++[entryIs G i r d s]}) (by simp[hn])
 have hopen:=hd.ok.open' (Or.inr h2)
 have hkey:enKey (entryIs G i r d s)=⟨((i / 3:Nat):Int),G.lives.getD (i / 3) 0,((i % 3:Nat):Int),r.seq⟩:=rfl
 have hdone:DoneIs (G.services.set n {s with log:=s.log++[entryIs G i r d s]}) ⟨((i / 3:Nat):Int),G.lives.getD (i / 3) 0,((i % 3:Nat):Int),r.seq⟩ d (entryIs G i r d s) rb:=⟨by rw[hlogn'];simp,hkey,hd.byt,hd.pos⟩
 have hrb:=bytesP_len hd.byt
 have hlen:(G.services.set n {s with log:=s.log++[entryIs G i r d s]}).length=G.services.length:=by simp
 have hsnAt:∀e:En,(aj5 G.seen e.client e.line).seq≤(aj5 (G.seen.set i {r with state:=3,result:=rb,at':=0}) e.client e.line).seq:=fun e=>by
  unfold aj5
  rw[List.getElem?_set]
  by_cases e':i=3*e.client.toNat+e.line.toNat
  ·rw[←e',hd.seen]
   simp[hir]
  ·simp[e']
 refine⟨⟨h.wf.cf,h.wf.ncl,fun j c hc=>⟨(h.wf.cl j c hc).lines,(h.wf.cl j c hc).life,fun u hu=>by rw[show (R.doneW G i r d n s rb).services.length=G.services.length from hlen];exact(h.wf.cl j c hc).bound u hu,(h.wf.cl j c hc).line⟩,h.wf.fly,h.wf.flys,by rw[show (R.doneW G i r d n s rb).services.length=G.services.length from hlen];exact h.wf.sv,fun x hx=>?_,h.wf.nm,h.wf.st,h.wf.nd,fun u hu=>by rw[show (R.doneW G i r d n s rb).services.length=G.services.length from hlen];exact h.wf.sts u hu⟩,⟨h.ws.ll,h.ws.lv,by simpa [R.doneW] using h.ws.sl,fun j r' hj=>?_,h.ws.jl,h.ws.jb⟩,fun k x hx=>⟨(h.bk k x hx).1.grow hg,(h.bk k x hx).2⟩,fun j c k l hc hl=>(h.ln j c k l hc hl).grow (Le.refl M) hg (fun _ q=>q),fun f hf=>(h.fl f hf).grow (Le.refl M) hg,fun j r' hj hne=>?_,fun u s' hs=>?_,fun u s' e hs ha he=>?_,h.jb,h.lv⟩
 ·rcases List.mem_or_eq_of_mem_set hx with q|q
  ·exact h.wf.svk x q
  ·rw[q]
   exact h.wf.svk s (List.mem_of_getElem? hd.sv)
 ·rcases hget2 j r' hj with ⟨rfl,rfl⟩|⟨_,q⟩
  ·refine⟨fun e=>absurd e hd.ne,hsn.seq,fun e=>⟨(hsn.some e).1,(hsn.some e).2.1,by simp⟩,by simp,by simp,fun _=>⟨hd.pos,by simp only;omega,by simp,by have:=pieces_pos hd.pos;simp only;omega⟩,fun ht=>by have:=(hsn.timed ht).1;omega⟩
  ·exact h.ws.sn j r' q
 ·rcases hget2 j r' hj with ⟨rfl,rfl⟩|⟨hji,q⟩
  ·exact⟨d,hd.ok.made,hd.ok.uid,by simp,by simp,by simp,fun _=>⟨_,hdone⟩⟩
  ·obtain⟨d',q'⟩:=h.sn j r' q hne
   refine⟨d',q'.made,q'.uid,q'.gath,q'.wait,fun hs=>?_,fun hs=>?_⟩
   ·obtain⟨o1,o2⟩:=q'.open' hs
    have hu':=(h.bk _ d' q'.made).1.uid
    by_cases e:d'.uid=d.uid
    ·rw[e]
     refine⟨?_,?_⟩
     ·unfold aliveS
      show (decide (1≤d.uid)&&((((G.services.set n {s with log:=s.log++[entryIs G i r d s]}))[(d.uid-1).toNat]?).map (·.alive)).getD false)=true
      rw[show (d.uid-1).toNat=n by have:=hd.uid;omega]
      simp[hn,hd.alive]
      have:=hd.uid
      omega
     ·show ∀e∈logS (G.services.set n {s with log:=s.log++[entryIs G i r d s]}) d.uid,_
      rw[hlogn']
      intro x hx
      rcases List.mem_append.1 hx with hx|hx
      ·rw[e,hlogn]at o2
       exact o2 x hx
      ·rw[List.mem_singleton.1 hx,hkey]
       intro k
       simp only[Key.mk.injEq]at k
       omega
    ·have hne2:¬n=(d'.uid-1).toNat:=by have:=hd.uid;omega
     have a1:aliveS (G.services.set n {s with log:=s.log++[entryIs G i r d s]}) d'.uid=aliveS G.services d'.uid:=by
      unfold aliveS
      rw[List.getElem?_set,if_neg hne2]
     have a2:logS (G.services.set n {s with log:=s.log++[entryIs G i r d s]}) d'.uid=logS G.services d'.uid:=by
      unfold logS
      rw[List.getElem?_set,if_neg hne2]
     exact⟨a1.trans o1,by
      show ∀e∈logS (G.services.set n {s with log:=s.log++[entryIs G i r d s]}) d'.uid,_
      rw[a2]
      exact o2⟩
   ·obtain⟨e,he⟩:=q'.ans hs
    exact⟨e,he.grow hg⟩
 ·rcases hget u s' hs with ⟨rfl,rfl⟩|⟨_,q⟩
  ·have hl:=h.lg u s hd.sv
   refine⟨fun e he=>?_,?_,fun j e he=>?_⟩
   ·rcases List.mem_append.1 he with he|he
    ·exact hl.each e he
    ·rw[List.mem_singleton.1 he]
     exact⟨d,rb,by rw[hkey];exact hd.ok.made,hd.uid,rfl,rfl,hd.byt,hd.pos⟩
   ·rw[List.pairwise_append]
    refine⟨hl.ord,by simp,fun a ha b hb=>?_⟩
    rw[List.mem_singleton.1 hb]
    intro k1 k2 k3
    have hf:=h.fut u s a hd.sv hd.alive ha
    have hne:=hopen.2 a (by rw[hlogn];exact ha)
    simp only[entryIs]at k1 k2 k3 ⊢
    unfold FutOk aj5 at hf
    rw[k1,k2,k3]at hf
    simp only[Int.toNat_natCast]at hf
    rw[show 3*(i / 3)+i % 3=i by omega,hd.seen]at hf
    simp only[Option.getD_some]at hf
    have hs:a.seq≠r.seq:=fun e=>hne (by simp[enKey,k1,k2,k3,e])
    omega
   ·simp only at he ⊢
    rcases Nat.lt_or_ge j s.log.length with hj|hj
    ·rw[List.getElem?_append_left hj]at he
     rw[List.take_append_of_le_length (by omega)]
     exact hl.told j e he
    ·rw[List.getElem?_append_right hj]at he
     cases hjn:j-s.log.length with
     |zero=>
      rw[hjn]at he
      simp at he
      have:j=s.log.length:=by omega
      subst this
      rw[←he]
      simp[entryIs]
     |succ m=>rw[hjn]at he;simp at he
  ·exact h.lg u s' q
 ·show FutOk G.lives (G.seen.set i {r with state:=3,result:=rb,at':=0}) e
  rcases hget u s' hs with ⟨rfl,rfl⟩|⟨_,q⟩
  ·rcases List.mem_append.1 he with he|he
   ·rcases h.fut u s e hd.sv hd.alive he with q|⟨q1,q2⟩
    ·exact Or.inl q
    ·exact Or.inr ⟨q1,Int.le_trans q2 (hsnAt e)⟩
   ·rw[List.mem_singleton.1 he]
    refine Or.inr ⟨?_,?_⟩
    ·simp only[entryIs,Int.toNat_natCast]
    ·unfold aj5
     simp only[entryIs,Int.toNat_natCast]
     rw[show 3*(i / 3)+i % 3=i by omega]
     simp[hir]
  ·rcases h.fut u s' e q ha he with q|⟨q1,q2⟩
   ·exact Or.inl q
   ·exact Or.inr ⟨q1,Int.le_trans q2 (hsnAt e)⟩
theorem Inv.done{M:Bk}{G:Wd}(h:Inv M G){i:Nat}(hi:i<9)(h2:(seenP G i).state=2):Inv M (doneP G i):=by
 obtain⟨d,n,s,rb,hd⟩:=h.doneAt hi h2
 rw[hd.eq h2]
 have h3:=h.doneW hi hd h2
 exact h3.tell hi (r:={seenP G i with state:=3,result:=rb,at':=0}) (by simp[R.doneW,(List.getElem?_eq_some_iff.1 hd.seen).1]) rfl
theorem Inv.serve'{M:Bk}:∀(js:List Jb) {G:Wd} (_:Inv M G) (_:∃a,G.jobs=a++js),Inv M (serveGo G js).2
 |[],G,h,_=>by
  simp only[serveGo]
  have hcf:=h.wf.cf
  unfold okCf at hcf
  exact h.putJob (by simp;omega) (by simp)
 |j :: js,G,h,⟨a,ha⟩=>by
  simp only[serveGo]
  have hmem:∀x∈j :: js,x∈G.jobs:=fun x hx=>by rw[ha];exact List.mem_append_right _ hx
  have hlen:(js.length:Int)≤G.c.table:=by
   have:=h.ws.jl
   rw[ha]at this
   simp at this
   omega
  split
  ·rename_i hw
   have h1:=h.putJob (js:=js) hlen (fun x hx=>⟨h.ws.jb x (hmem x (List.mem_cons_of_mem _ hx)),h.jb x (hmem x (List.mem_cons_of_mem _ hx))⟩)
   have hj:=h.ws.jb j (hmem j (List.mem_cons_self))
   exact h1.done (by omega) hw.1
  ·exact Inv.serve' js h ⟨a++[j],by rw[ha];simp⟩
theorem Inv.serveP{M:Bk}{G:Wd}(h:Inv M G):Inv M (serveP G).2:=Inv.serve' G.jobs h ⟨[],rfl⟩
end Go.Proofs.YtblomippkddgiaaGreatDoor.R
namespace Go.Proofs.YtblomippkddgiaaGreatDoor
open Go.RowKit
theorem aic(l:List Int)(k:Nat):(l[k]?).getD 0=l.getD k 0:=by simp[List.getD_eq_getElem?_getD]
theorem result_right{G:R.Wd}(hw:R.WsOk G.c G.lives G.seen G.jobs){i:Nat}{r:R.Sn}(hr:G.seen[i]?=some r)(h3:r.state=3) :
  aaj ⟨5,((i / 3:Nat):Int),(G.lives[i / 3]?).getD 0,((i % 3:Nat):Int),r.seq,r.uid,r.at',R.piecesP r.result,false,R.pieceP r.result r.at'⟩:=by
 have hi:i<9:=by rw[←hw.sl];exact(List.getElem?_eq_some_iff.1 hr).1
 have hs:=hw.sn i r hr
 have hne:r.seq≠0:=fun e=>by
  rw[hs.zero e]at h3
  cases h3
 obtain⟨a1,a2,a3⟩:=hs.some hne
 obtain⟨b1,b2,b3,b4⟩:=hs.ans h3
 have hq:=hs.seq
 have hlt:i / 3<G.lives.length:=by rw[hw.ll];omega
 have hl1:=hw.lv _ (List.getElem_mem hlt)
 rw[List.getD_eq_getElem?_getD,List.getElem?_eq_getElem hlt]at a1
 rw[List.getElem?_eq_getElem hlt]
 simp only[Option.getD_some]at a1 ⊢
 have hp1:=R.pieces_pos b1
 have hp2:=R.pieces_le b2
 refine⟨by simp,by simp only;omega,by simp only;omega,by simp only;omega,by simp only;omega,a2,by simp only;omega,by simp only;omega,?_⟩
 show bodyOk _
 unfold bodyOk
 rw[if_pos (by simp)]
 exact R.piece_body b3
theorem LW.sendPieceS{p:Pl}{F:aai}{G:R.Wd}{w:World}(h:LW p F G w){i:Nat}{r:R.Sn}{y:SLn}(hq:QAt p G w i r y)(h3:r.state=3) :
  Calls Tryz.prog 123 #[ptr p.s,ptr (p.t.ql i)] w fun e w'=>e=.returned (.tuple #[])∧∃F',LW p F' (R.sendResultP G i) w'∧Went F F' w w':=by
 have hrt:=result_right h.cold hq.seen h3
 have hs:=h.cold.sn i r hq.seen
 obtain⟨b1,b2,b3,b4⟩:=hs.ans h3
 obtain⟨a,hae⟩:∃a:Nat,r.at'=(a:Int):=⟨r.at'.toNat,by omega⟩
 have hpl:8*a<r.result.length:=by have:=R.acked_iff.2 b4;omega
 have hr:=hq.rel
 obtain⟨ean,eat⟩:=hr.ans h3
 unfold R.sendResultP
 simp only
 rw[R.seenP_some hq.seen]
 rw[hae]at hrt eat ⊢
 obtain⟨Post,hPost⟩:∃Post:World→Prop,∀w'',Post w''↔∃F',LW p F' (R.sendP G ((i / 3:Nat):Int) ⟨5,((i / 3:Nat):Int),(G.lives[i / 3]?).getD 0,((i % 3:Nat):Int),r.seq,r.uid,(a:Int),R.piecesP r.result,false,R.pieceP r.result (a:Int)⟩) w''∧Went F F' w w'':=⟨_,fun _=>Iff.rfl⟩
 suffices hq:Calls Tryz.prog 123 #[ptr p.s,ptr (p.t.ql i)] w fun e w'=>e=.returned (.tuple #[])∧Post w' from hq.mono (fun e w' h=>⟨h.1,(hPost w').1 h.2⟩)
 have HS:Hid (∀w',Below w.heap.size w w'→Calls Tryz.prog 192 #[ptr p.s,.agg #[.int .i64 y.client,.int .i64 y.life,.int .i64 y.line,.int .i64 y.seq,.int .i64 y.uid],pvs 5 0 0 0 0 0 (a:Int) (R.piecesP r.result) false (str (R.pieceP r.result (a:Int)))] w' fun e w''=>e=.returned (.tuple #[])∧Post w''∧w''.cell? ⟨p.t.ql i,0,none⟩=some (.int .i64 y.client)∧w''.cell? ⟨p.t.ql i,1,none⟩=some (.int .i64 y.life)∧w''.cell? ⟨p.t.ql i,2,none⟩=some (.int .i64 y.line)∧w''.cell? ⟨p.t.ql i,3,none⟩=some (.int .i64 y.seq)∧w''.cell? ⟨p.t.ql i,4,none⟩=some (.int .i64 y.uid)∧w''.cell? ⟨p.t.ql i,7,none⟩=some (.string (str r.result))∧w''.cell? ⟨p.t.ql i,8,none⟩=some (.int .i64 (a:Int))):=fun w' hb=>by
  have hrt':aaj ⟨5,y.client,y.life,y.line,y.seq,y.uid,(a:Int),R.piecesP r.result,false,R.pieceP r.result (a:Int)⟩:=by
   rw[hr.client,hr.life,hr.line,hr.seq,hr.uid,←aic]
   exact hrt
  refine((h.below hb).sendS _ _ _ _ _ 5 (a:Int) (R.piecesP r.result) false _ hrt').mono ?_
  rintro e w'' ⟨rfl,F',q1,q2⟩
  have hq1:=q1
  rw[hr.client,hr.life,hr.line,hr.seq,hr.uid,←aic]at hq1
  have hsn:(R.sendP G y.client ⟨5,y.client,y.life,y.line,y.seq,y.uid,(a:Int),R.piecesP r.result,false,R.pieceP r.result (a:Int)⟩).seen[i]?=some r:=by rw[R.sendP_seen];exact hq.seen
  obtain⟨y2,g1,_⟩:=q1.q hsn hq.ne
  obtain⟨k0,k1,k2,k3,k4,k5,k6,k7,k8,k9,k10⟩:=yAt g1.blk
  have hr2:=g1.rel
  rw[R.sendP_lives]at hr2
  obtain⟨ean2,eat2⟩:=hr2.ans h3
  rw[hr2.client,←hr.client]at k0
  rw[hr2.life,←hr.life]at k1
  rw[hr2.line,←hr.line]at k2
  rw[hr2.seq,←hr.seq]at k3
  rw[hr2.uid,←hr.uid]at k4
  rw[ean2]at k7
  rw[eat2,hae]at k8
  exact⟨rfl,(hPost w'').2 ⟨F',hq1,(Went.ofBelow F hb).trans q2⟩,k0,k1,k2,k3,k4,k7,k8⟩
 obtain⟨c0,c1,c2,c3,c4,c5,c6,c7,c8,c9,c10⟩:=yAt hq.blk
 rw[ean]at c7
 rw[eat]at c8
 have HP:=aab (fun w=>aaP r.result w (by omega))
 have HC:=aab (fun w=>af2 r.result a w (by omega) hpl)
 have HD:=aab ((unhide HS) w.drew (Below.refl _ _).drew)
 clear hPost hrt HS hs h hr hq ean eat
 generalize str (R.pieceP r.result (a:Int))=SB at *
 generalize str r.result=SM at *
 generalize R.piecesP r.result=N at *
 generalize p.t.ql i=b at *
 obtain⟨cl,li,ln,sq,u,st,ak,an,yt,wt,tr⟩:=y
 simp only at c0 c1 c2 c3 c4 HD
 clear c5 c6 c9 c10 hpl b1 b2 b3 b4 hae h3
 go_enter Tryz.func123,Tryz.ntmps123
 go_wp2_with fail
 go_region_held3 (fun w'=>w'.cell? ⟨b,0,none⟩=some (.int .i64 cl)∧w'.cell? ⟨b,1,none⟩=some (.int .i64 li)∧w'.cell? ⟨b,2,none⟩=some (.int .i64 ln)∧w'.cell? ⟨b,3,none⟩=some (.int .i64 sq)∧w'.cell? ⟨b,4,none⟩=some (.int .i64 u)∧w'.cell? ⟨b,7,none⟩=some (.string SM)∧w'.cell? ⟨b,8,none⟩=some (.int .i64 (a:Int))) (go_keep) (first
  |(go_at_call 187;refine((unhide HP) _).mono ?_;rintro e w1 ⟨rfl,hw1⟩;rw[hw1];clear hw1)
  |(go_at_call 189;refine((unhide HC) _).mono ?_;rintro e w2 ⟨rfl,hw2⟩;rw[hw2];clear hw2)
  |(go_at_call 192;refine(unhide HD).mono ?_;rintro e w3 ⟨rfl,hw3,k0,k1,k2,k3,k4,k7,k8⟩))
 all_goals
  go_wp2
  go_returns
  exact⟨rfl,hw3⟩
end Go.Proofs.YtblomippkddgiaaGreatDoor
