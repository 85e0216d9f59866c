import Derived.Test.YtblomippkddgiaaGreatDoorJ09
import Derived.Test.YtblomippkddgiaaGreatDoorJ12
import Derived.Test.YtblomippkddgiaaGreatDoorJ13
namespace Go.Proofs.YtblomippkddgiaaGreatDoor.R
structure Key where
 client:Int
 life:Int
 line:Int
 seq:Int
 deriving DecidableEq
structure Cd where
 uid:Int
 proc:Int
 arg:List It
 from':ByteArray
 to:ByteArray
 bs:List UInt8
abbrev Bk:=Key→Option Cd
def Cd.msg(d:Cd):List UInt8:=two8 d.proc++d.bs
def pkKey(p:Pk):Key:=⟨p.client,p.life,p.line,p.seq⟩
def enKey(e:En):Key:=⟨e.client,e.life,e.line,e.seq⟩
def kindS(sv:List Sv)(u:Int):Int:=((sv[(u-1).toNat]?).map (·.kind)).getD 0
def logS(sv:List Sv)(u:Int):List En:=((sv[(u-1).toNat]?).map (·.log)).getD []
def aliveS(sv:List Sv)(u:Int):Bool:=decide (1≤u)&&((sv[(u-1).toNat]?).map (·.alive)).getD false
structure CdOk(sv:List Sv)(d:Cd):Prop where
 uid:1≤d.uid∧d.uid≤(sv.length:Int)
 sig:sigP (kindS sv d.uid) d.proc=some (d.from',d.to)
 bs:bytesP d.from' d.arg=some d.bs
structure DoneIs(sv:List Sv)(k:Key)(d:Cd)(e:En)(rb:List UInt8):Prop where
 mem:e∈logS sv d.uid
 key:enKey e=k
 bytes:bytesP d.to e.result=some rb
 pos:1≤rb.length
def PkOk(M:Bk)(sv:List Sv)(to:Int)(p:Pk):Prop:=∃d,M (pkKey p)=some d∧p.uid=d.uid ∧
 ((p.kind=1∧to=-1∧p.off=piecesP d.msg∧p.body=pieceP d.msg p.part) ∨
  (p.kind=2∧to=p.client∧p.off=piecesP d.msg) ∨
  (p.kind=3∧to=-1) ∨
  (p.kind=4∧to=p.client) ∨
  (p.kind=5∧to=p.client∧∃e rb,DoneIs sv (pkKey p) d e rb∧p.off=piecesP rb∧p.body=pieceP rb p.part) ∨
  (p.kind=6∧to=-1) ∨
  (p.kind=7∧to=p.client∧p.off=2))
def FlOk(M:Bk)(sv:List Sv)(f:Fl):Prop:=if f.bent=true then abn f.s=none else ∃p,aaj p∧f.s=aa3 p∧PkOk M sv f.to p
structure LineOk(M:Bk)(sv:List Sv)(i:Nat)(life:Int)(bound:List Int)(k:Nat)(l:Ln):Prop where
 idle:l.state=0↔l.seq=0
 made:1≤l.seq→∃d,M ⟨i,life,k,l.seq⟩=some d
 way:l.state=1→∃d,M ⟨i,life,k,l.seq⟩=some d∧l.uid=d.uid∧l.message=d.msg∧l.to=d.to∧d.uid∈bound∧(0≤l.pieces∧(l.came.length:Int)=8*l.pieces)∧(0<l.pieces→∃e rb,DoneIs sv ⟨i,life,k,l.seq⟩ d e rb∧l.came=rb.take (8*l.pieces.toNat)∧8*l.pieces<(rb.length:Int))
 done:l.state=2→∃d e rb,M ⟨i,life,k,l.seq⟩=some d∧DoneIs sv ⟨i,life,k,l.seq⟩ d e rb∧l.result=e.result
 none:l.state≠2→l.result=[]
structure SeenOk(M:Bk)(sv:List Sv)(k:Key)(r:Sn)(d:Cd):Prop where
 made:M k=some d
 uid:r.uid=d.uid
 gath:r.state=1→r.message=d.msg.take (8*r.pieces.toNat)∧8*r.pieces<(d.msg.length:Int)
 wait:r.state=2→r.message=d.msg
 open':r.state=1∨r.state=2→aliveS sv d.uid=true∧∀e∈logS sv d.uid,enKey e≠k
 ans:r.state=3→∃e,DoneIs sv k d e r.result
structure EnOk(M:Bk)(u:Int)(e:En):Prop where
 some:∃d rb,M (enKey e)=some d∧d.uid=u∧e.proc=d.proc∧e.arg=d.arg∧bytesP d.to e.result=.some rb∧1≤rb.length
def ara(kind:Int)(l:List En):Prop:=∀i e,l[i]?=some e→e.result=doesP kind (l.take i) e.proc e.arg
def an4(a b:En):Prop:=a.client=b.client→a.life=b.life→a.line=b.line→a.seq<b.seq
structure LogOk(M:Bk)(u:Int)(s:Sv):Prop where
 each:∀e∈s.log,EnOk M u e
 ord:s.log.Pairwise an4
 told:ara s.kind s.log
def aj5(seen:List Sn)(client line:Int):Sn:=(seen[3*client.toNat+line.toNat]?).getD sn0
def FutOk(lives:List Int)(seen:List Sn)(e:En):Prop:=e.life<lives.getD e.client.toNat 0∨(e.life=lives.getD e.client.toNat 0∧e.seq≤(aj5 seen e.client e.line).seq)
def InR(cl:List Cl)(k:Key):Prop:=∃(i:Nat) (c:Cl) (n:Nat) (l:Ln),k.client=i∧cl[i]?=some c∧k.line=n∧c.lines[n]?=some l∧1≤k.life∧k.life≤c.life∧1≤k.seq∧k.seq≤999∧(k.life=c.life→k.seq≤l.seq)
structure SnOk(life:Int)(r:Sn):Prop where
 zero:r.seq=0→r=sn0
 seq:0≤r.seq∧r.seq≤999
 some:r.seq≠0→1≤life∧(1≤r.uid∧r.uid≤255)∧(1≤r.state∧r.state≤4)
 gath:r.state=1→(r.message.length:Int)=8*r.pieces∧0≤r.pieces∧r.pieces≤8
 wait:r.state=2→2≤r.message.length∧r.message.length≤72
 ans:r.state=3→1≤r.result.length∧r.result.length≤72∧0≤r.at'∧r.at'<piecesP r.result
 timed:r.timed=true→r.state=3∧(1≤r.wait∧r.wait≤8)∧(0≤r.tries∧r.tries≤6)
structure WsOk(c:Cf)(lives:List Int)(seen:List Sn)(jobs:List Jb):Prop where
 ll:lives.length=3
 lv:∀x∈lives,0≤x∧x≤255
 sl:seen.length=9
 sn:∀i r,seen[i]?=some r→SnOk (lives.getD (i / 3) 0) r
 jl:(jobs.length:Int)≤c.table
 jb:∀j∈jobs,(0≤j.client∧j.client≤2)∧(0≤j.line∧j.line≤2)
structure Inv(M:Bk)(G:Wd):Prop where
 wf:Wf G
 ws:WsOk G.c G.lives G.seen G.jobs
 bk:∀k d,M k=some d→CdOk G.services d∧InR G.clients k
 ln:∀(i:Nat) (c:Cl) (k:Nat) (l:Ln),G.clients[i]?=some c→c.lines[k]?=some l→LineOk M G.services i c.life c.bound k l
 fl:∀f∈G.flying,FlOk M G.services f
 sn:∀(i:Nat) (r:Sn),G.seen[i]?=some r→r.seq≠0→∃d,SeenOk M G.services ⟨((i / 3:Nat):Int),G.lives.getD (i / 3) 0,((i % 3:Nat):Int),r.seq⟩ r d
 lg:∀(u:Nat) (s:Sv),G.services[u]?=some s→LogOk M ((u:Int)+1) s
 fut:∀(u:Nat) (s:Sv) (e:En),G.services[u]?=some s→s.alive=true→e∈s.log→FutOk G.lives G.seen e
 jb:∀j∈G.jobs,∃d,M ⟨j.client,j.life,j.line,j.seq⟩=some d∧j.uid=d.uid
 lv:∀(i:Nat) (c:Cl),G.clients[i]?=some c→G.lives.getD i 0≤c.life
structure Gr(a b:List Sv):Prop where
 len:a.length≤b.length
 each:∀(u:Nat) (s:Sv),a[u]?=some s→∃s',b[u]?=some s'∧s'.kind=s.kind∧∃t,s'.log=s.log++t
theorem Gr.refl(a:List Sv):Gr a a:=⟨Nat.le_refl _,fun u s h=>⟨s,h,rfl,[],by simp⟩⟩
theorem Gr.kind{a b:List Sv}(h:Gr a b){u:Int}(hu:1≤u∧u≤(a.length:Int)):kindS b u=kindS a u:=by
 have hlt:(u-1).toNat<a.length:=by omega
 obtain⟨s',h1,h2,_⟩:=h.each _ _ (List.getElem?_eq_getElem hlt)
 unfold kindS
 rw[h1,List.getElem?_eq_getElem hlt]
 simp[h2]
theorem Gr.log{a b:List Sv}(h:Gr a b){u:Int}{e:En}(he:e∈logS a u):e∈logS b u:=by
 unfold logS at he ⊢
 cases ha:a[(u-1).toNat]? with
 |none=>rw[ha]at he;simp at he
 |some s=>
  rw[ha]at he
  obtain⟨s',h1,_,t,h3⟩:=h.each _ _ ha
  rw[h1]
  simp at he ⊢
  rw[h3]
  exact List.mem_append_left _ he
theorem CdOk.grow{a b:List Sv}(h:Gr a b){d:Cd}(hd:CdOk a d):CdOk b d:=by
 have:=h.len
 have hu:=hd.uid
 exact⟨by omega,by rw[h.kind hu];exact hd.sig,hd.bs⟩
theorem DoneIs.grow{a b:List Sv}(h:Gr a b){k:Key}{d:Cd}{e:En}{rb:List UInt8}(hd:DoneIs a k d e rb):DoneIs b k d e rb:=⟨h.log hd.mem,hd.key,hd.bytes,hd.pos⟩
def Le(M N:Bk):Prop:=∀k d,M k=some d→N k=some d
theorem Le.refl(M:Bk):Le M M:=fun _ _ h=>h
theorem PkOk.grow{M N:Bk}(hM:Le M N){a b:List Sv}(h:Gr a b){to:Int}{p:Pk}(hp:PkOk M a to p):PkOk N b to p:=by
 obtain⟨d,h1,h2,h3⟩:=hp
 refine⟨d,hM _ _ h1,h2,?_⟩
 rcases h3 with q|q|q|q|⟨q1,q2,e,rb,q3,q4⟩|q|q
 ·exact Or.inl q
 ·exact Or.inr (Or.inl q)
 ·exact Or.inr (Or.inr (Or.inl q))
 ·exact Or.inr (Or.inr (Or.inr (Or.inl q)))
 ·exact Or.inr (Or.inr (Or.inr (Or.inr (Or.inl ⟨q1,q2,e,rb,q3.grow h,q4⟩))))
 ·exact Or.inr (Or.inr (Or.inr (Or.inr (Or.inr (Or.inl q)))))
 ·exact Or.inr (Or.inr (Or.inr (Or.inr (Or.inr (Or.inr q)))))
theorem FlOk.grow{M N:Bk}(hM:Le M N){a b:List Sv}(h:Gr a b){f:Fl}(hp:FlOk M a f):FlOk N b f:=by
 unfold FlOk at hp ⊢
 split
 ·rename_i hb
  rw[if_pos hb]at hp
  exact hp
 ·rename_i hb
  rw[if_neg hb]at hp
  obtain⟨p,h1,h2,h3⟩:=hp
  exact⟨p,h1,h2,h3.grow hM h⟩
theorem LineOk.grow{M N:Bk}(hM:Le M N){a b:List Sv}(h:Gr a b){i k:Nat}{life:Int}{bound bound':List Int}(hb:∀u∈bound,u∈bound'){l:Ln}(hl:LineOk M a i life bound k l):LineOk N b i life bound' k l:=by
 refine⟨hl.idle,fun h1=>?_,fun h1=>?_,fun h1=>?_,hl.none⟩
 ·obtain⟨d,hd⟩:=hl.made h1
  exact⟨d,hM _ _ hd⟩
 ·obtain⟨d,q1,q2,q3,q4,q5,q6,q7⟩:=hl.way h1
  refine⟨d,hM _ _ q1,q2,q3,q4,hb _ q5,q6,fun hp=>?_⟩
  obtain⟨e,rb,r1,r2⟩:=q7 hp
  exact⟨e,rb,r1.grow h,r2⟩
 ·obtain⟨d,e,rb,q1,q2,q3⟩:=hl.done h1
  exact⟨d,e,rb,hM _ _ q1,q2.grow h,q3⟩
theorem EnOk.grow{M N:Bk}(hM:Le M N){u:Int}{e:En}(h:EnOk M u e):EnOk N u e:=by
 obtain⟨d,rb,h1,h2⟩:=h.some
 exact⟨d,rb,hM _ _ h1,h2⟩
theorem LogOk.grow{M N:Bk}(hM:Le M N){u:Int}{s:Sv}(h:LogOk M u s):LogOk N u s:=⟨fun e he=>(h.each e he).grow hM,h.ord,h.told⟩
theorem SeenOk.grow{M N:Bk}(hM:Le M N){a:List Sv}{k:Key}{r:Sn}{d:Cd}(h:SeenOk M a k r d):SeenOk N a k r d:=⟨hM _ _ h.made,h.uid,h.gath,h.wait,h.open',h.ans⟩
theorem ag2{l:List En}(h:l.Pairwise an4){a b:En}(ha:a∈l)(hb:b∈l)(e:enKey a=enKey b):a=b:=by
 induction l with
 |nil=>cases ha
 |cons x l ih=>
  rw[List.pairwise_cons]at h
  have key:∀{y z:En},enKey y=enKey z→y.client=z.client∧y.life=z.life∧y.line=z.line∧y.seq=z.seq:=fun e=>by
   simp only[enKey,Key.mk.injEq]at e
   exact e
  rcases List.mem_cons.1 ha with rfl|ha'
  ·rcases List.mem_cons.1 hb with rfl|hb'
   ·rfl
   ·obtain⟨k1,k2,k3,k4⟩:=key e
    have:=h.1 b hb' k1 k2 k3
    omega
  ·rcases List.mem_cons.1 hb with rfl|hb'
   ·obtain⟨k1,k2,k3,k4⟩:=key e
    have:=h.1 a ha' k1.symm k2.symm k3.symm
    omega
   ·exact ih h.2 ha' hb'
theorem aoH{sv:List Sv}{u:Int}{e:En}(h:e∈logS sv u)(hu:1≤u):∃(n:Nat) (s:Sv),u=(n:Int)+1∧sv[n]?=some s∧e∈s.log:=by
 unfold logS at h
 cases ha:sv[(u-1).toNat]? with
 |none=>rw[ha]at h;simp at h
 |some s=>
  rw[ha]at h
  exact⟨(u-1).toNat,s,by omega,ha,by simpa using h⟩
theorem ad7{sv:List Sv}{n:Nat}{s:Sv}(h:sv[n]?=some s):logS sv ((n:Int)+1)=s.log:=by
 simp[logS,h]
theorem Inv.unique{M:Bk}{G:Wd}(h:Inv M G){k:Key}{d:Cd}(hd:M k=some d){e e':En}{rb rb':List UInt8}(h1:DoneIs G.services k d e rb)(h2:DoneIs G.services k d e' rb'):e'=e∧rb'=rb:=by
 obtain⟨n,s,q1,q2,q3⟩:=aoH h1.mem (h.bk k d hd).1.uid.1
 have h2m:=h2.mem
 rw[q1,ad7 q2]at h2m
 have he:=ag2 (h.lg n s q2).ord h2m q3 (by rw[h1.key,h2.key])
 subst he
 refine⟨rfl,?_⟩
 have b1:=h1.bytes
 have b2:=h2.bytes
 rw[b1]at b2
 exact(Option.some.inj b2).symm
theorem bytesP_len{t:ByteArray}{v:List It}{bs:List UInt8}(h:bytesP t v=some bs):bs.length≤70:=by
 unfold bytesP at h
 split at h
 ·rename_i h0
  cases h
  exact V.mRes_le h0
 ·cases h
theorem bytesP_back{t:ByteArray}{v:List It}{bs:List UInt8}(h:bytesP t v=some bs):V.uFull t bs=(0,v):=by
 unfold bytesP at h
 split at h
 ·rename_i h0
  cases h
  exact V.uFull_back h0
 ·cases h
theorem afq{sv:List Sv}{d:Cd}(h:CdOk sv d):2≤d.msg.length∧d.msg.length≤72:=by
 have:=bytesP_len h.bs
 simp[Cd.msg,two8]
 omega
theorem Inv.sendP{M:Bk}{G:Wd}(h:Inv M G){to:Int}{p:Pk}(hr:aaj p)(hp:PkOk M G.services to p):Inv M (sendP G to p):=by
 have hw:=h.wf.sendP (to:=to) hr
 unfold R.sendP at hw ⊢
 split
 ·rename_i hl
  rw[if_pos hl]at hw
  refine⟨hw,h.ws,h.bk,h.ln,fun f hf=>?_,h.sn,h.lg,h.fut,h.jb,h.lv⟩
  rcases List.mem_append.1 hf with q|q
  ·exact h.fl f q
  ·simp only[List.mem_singleton]at q
   subst q
   unfold FlOk
   rw[if_neg (by simp)]
   exact⟨p,hr,rfl,hp⟩
 ·exact h
theorem Inv.fly{M:Bk}{G:Wd}(h:Inv M G){fl:List Fl}(hw:Wf {G with flying:=fl})(hf:∀f∈fl,FlOk M G.services f):Inv M {G with flying:=fl}:=⟨hw,h.ws,h.bk,h.ln,hf,h.sn,h.lg,h.fut,h.jb,h.lv⟩
theorem Inv.setLineN{M N:Bk}{G:Wd}(h:Inv M G){i k:Nat}{c:Cl}{l l':Ln}(hc:G.clients[i]?=some c)(hl:c.lines[k]?=some l)(hok:LnOk l')(hseq:l.seq≤l'.seq)(hN:Le M N)(hnew:∀q d,N q=some d→M q=some d∨(q=⟨i,c.life,k,l'.seq⟩∧CdOk G.services d∧1≤l'.seq))(hlo:LineOk N G.services i c.life c.bound k l'):Inv N (setLine G i k l'):=by
 refine⟨h.wf.setLine hok,h.ws,fun q d hq=>?_,fun j c' n x hj hx=>?_,fun f hf=>(h.fl f hf).grow hN (Gr.refl _),fun j r hr hne=>?_,fun u s hs=>(h.lg u s hs).grow hN,h.fut,fun j hj=>?_,fun j c' hj=>?_⟩
 ·rcases hnew q d hq with hq|⟨rfl,h1,h2⟩
  ·obtain⟨h1,a,ca,n,x,r1,r2,r3,r4,r5,r6,r7,r8,r9⟩:=h.bk q d hq
   refine⟨h1,a,(if i=a then {ca with lines:=ca.lines.set k l'} else ca),n,(if i=a∧k=n then l' else x),r1,by rw[setLine_client,r2];rfl,r3,?_,r5,?_,r7,r8,fun e=>?_⟩
   ·by_cases hia:i=a
    ·subst hia
     simp only[if_true,true_and]
     rw[List.getElem?_set]
     by_cases hkn:k=n
     ·subst hkn
      simp[(List.getElem?_eq_some_iff.1 r4).1]
     ·simp[hkn,r4]
    ·simp[hia,r4]
   ·split <;> exact r6
   ·have e':q.life=ca.life:=by
     rw[e]
     split <;> rfl
    have:=r9 e'
    by_cases hh:i=a∧k=n
    ·obtain⟨rfl,rfl⟩:=hh
     rw[hc]at r2
     cases r2
     rw[hl]at r4
     cases r4
     simp
     omega
    ·rw[if_neg hh]
     exact this
  ·have hcw:=(h.wf.cl i c hc).life
   refine⟨h1,i,{c with lines:=c.lines.set k l'},k,l',rfl,by rw[setLine_client,hc];simp,rfl,by simp[(List.getElem?_eq_some_iff.1 hl).1],hcw.1,Int.le_refl _,h2,hok.seq.2,fun _=>Int.le_refl _⟩
 ·rw[setLine_client]at hj
  cases h0:G.clients[j]? with
  |none=>rw[h0]at hj;cases hj
  |some c0=>
   rw[h0]at hj
   simp only[Option.map_some,Option.some.injEq]at hj
   subst hj
   by_cases hij:i=j
   ·subst hij
    rw[hc]at h0
    cases h0
    simp only[if_true]at hx ⊢
    rw[List.getElem?_set]at hx
    by_cases hkn:k=n
    ·subst hkn
     simp only[if_true]at hx
     split at hx
     ·cases hx
      exact hlo
     ·cases hx
    ·simp only[hkn,if_false]at hx
     exact(h.ln i c n x hc hx).grow hN (Gr.refl _) (fun _ q=>q)
   ·simp only[hij,if_false]at hx ⊢
    exact(h.ln j c0 n x h0 hx).grow hN (Gr.refl _) (fun _ q=>q)
 ·obtain⟨d,hd⟩:=h.sn j r hr hne
  exact⟨d,hd.grow hN⟩
 ·obtain⟨d,q1,q2⟩:=h.jb j hj
  exact⟨d,hN _ _ q1,q2⟩
 ·rw[setLine_client]at hj
  cases h0:G.clients[j]? with
  |none=>rw[h0]at hj;cases hj
  |some c0=>
   rw[h0]at hj
   simp only[Option.map_some,Option.some.injEq]at hj
   subst hj
   have:=h.lv j c0 h0
   split <;> exact this
theorem Inv.setLine{M:Bk}{G:Wd}(h:Inv M G){i k:Nat}{c:Cl}{l l':Ln}(hc:G.clients[i]?=some c)(hl:c.lines[k]?=some l)(hok:LnOk l')(hseq:l.seq≤l'.seq)(hlo:LineOk M G.services i c.life c.bound k l'):Inv M (setLine G i k l'):=
 h.setLineN hc hl hok hseq (Le.refl M) (fun _ _ q=>Or.inl q) hlo
theorem Inv.setSeen{M:Bk}{G:Wd}(h:Inv M G){i:Nat}{r r':Sn}(hr:G.seen[i]?=some r)(hseq:r.seq≤r'.seq)(hok:SnOk (G.lives.getD (i / 3) 0) r')(hd:r'.seq≠0→∃d,SeenOk M G.services ⟨((i / 3:Nat):Int),G.lives.getD (i / 3) 0,((i % 3:Nat):Int),r'.seq⟩ r' d):Inv M (setSeen G i r'):=by
 have hi:=(List.getElem?_eq_some_iff.1 hr).1
 have hget:∀j x,(G.seen.set i r')[j]?=some x→(j=i∧x=r')∨(j≠i∧G.seen[j]?=some x):=fun j x hx=>by
  rw[List.getElem?_set]at hx
  by_cases hij:i=j
  ·subst hij
   simp[hi]at hx
   exact Or.inl ⟨rfl,hx.symm⟩
  ·simp[hij]at hx
   exact Or.inr ⟨fun e=>hij e.symm,hx⟩
 refine⟨⟨h.wf.cf,h.wf.ncl,fun j c hc=>⟨(h.wf.cl j c hc).lines,(h.wf.cl j c hc).life,(h.wf.cl j c hc).bound,(h.wf.cl j c hc).line⟩,h.wf.fly,h.wf.flys,h.wf.sv,h.wf.svk,h.wf.nm,h.wf.st,h.wf.nd,h.wf.sts⟩,⟨h.ws.ll,h.ws.lv,by simpa [R.setSeen] using h.ws.sl,fun j x hx=>?_,h.ws.jl,h.ws.jb⟩,h.bk,h.ln,h.fl,fun j x hx hne=>?_,h.lg,fun u s e hs ha he=>?_,h.jb,h.lv⟩
 ·rcases hget j x hx with ⟨rfl,rfl⟩|⟨_,hx'⟩
  ·exact hok
  ·exact h.ws.sn j x hx'
 ·rcases hget j x hx with ⟨rfl,rfl⟩|⟨_,hx'⟩
  ·exact hd hne
  ·exact h.sn j x hx' hne
 ·rcases h.fut u s e hs ha he with q|⟨q1,q2⟩
  ·exact Or.inl q
  ·refine Or.inr ⟨q1,Int.le_trans q2 ?_⟩
   unfold aj5
   show _≤(((G.seen.set i r')[3*e.client.toNat+e.line.toNat]?).getD sn0).seq
   rw[List.getElem?_set]
   by_cases hij:i=3*e.client.toNat+e.line.toNat
   ·rw[←hij,hr]
    simp[hi]
    exact hseq
   ·simp[hij]
end Go.Proofs.YtblomippkddgiaaGreatDoor.R
namespace Go.Proofs.YtblomippkddgiaaGreatDoor
open Go.RowKit
abbrev ptr(b:Nat):Value:=.pointer (some ⟨b,0,none⟩)
structure MV where
 wk:Value
 dn:Value
 sb:Nat
 bk:Value
def adp(z:R.Sv×MV):List Value:=[.int .i64 z.1.kind,z.2.wk,z.2.dn]
theorem ac7(z:R.Sv×MV):(adp z).length=3:=rfl
def abX(z:R.En×Value×Value):List Value:=[.int .i64 z.1.client,.int .i64 z.1.life,.int .i64 z.1.line,.int .i64 z.1.seq,.int .i64 z.1.proc,z.2.1,z.2.2]
theorem ajo(z:R.En×Value×Value):(abX z).length=7:=rfl
def strs(l:List ByteArray):List Value:=l.map fun s=>Value.string s
inductive Works (w:World) (F:aai) (l:List R.En) (b:Nat) (K:Value):Int→Value→Prop
 |counter (hF:F b) (hb:w.heap[b]?=some (.cells #[.int .u16 (R.countedP l 0)] 330 (0,0))) (hK:K=.slice none 0 0):Works w F l b K 0 (.iface 328 (ptr b))
 |board (hF:F b) (hb:w.heap[b]?=some (.cells #[K] 333 (0,0))) (hK:w.ownsRow 0 9 1 K (R.postedP l).length (strs (R.postedP l))) (hKF:∀j,K.ownBlock=some j→F j):Works w F l b K 1 (.iface 331 (ptr b))
 |desk (d0 d1 d2:Value) (hF:F b) (hb:w.heap[b]?=some (.cells #[d0,d1,d2] 337 (0,0))) (hK:K=.slice none 0 0) (h0:agz w F d0 (R.laidP l 0 [])) (h1:agz w F d1 (R.laidP l 1 [])) (h2:agz w F d2 (R.laidP l 2 [])):Works w F l b K 2 (.iface 334 (ptr b))
structure SvAt(w:World)(F:aai)(z:R.Sv×MV):Prop where
 wk:if z.1.alive=true then Works w F z.1.log z.2.sb z.2.bk z.1.kind z.2.wk else z.2.wk=.nilIface
 log:∃es:List (R.En×Value×Value),es.map (·.1)=z.1.log∧w.ownsRow 0 98 7 z.2.dn es.length (tab abX es)∧∀y∈es,aa2 w F y.2.1 y.1.arg∧aa2 w F y.2.2 y.1.result
 own:∀j,z.2.dn.ownBlock=some j→F j
structure SLn where
 client:Int
 life:Int
 line:Int
 seq:Int
 uid:Int
 state:Int
 asked:List UInt8
 answer:List UInt8
 at':Int
 wait:Int
 tries:Int
def SLn.cells(y:SLn):List Value:=[.int .i64 y.client,.int .i64 y.life,.int .i64 y.line,.int .i64 y.seq,.int .i64 y.uid,.int .i64 y.state,.string (str y.asked),.string (str y.answer),.int .i64 y.at',.int .i64 y.wait,.int .i64 y.tries]
structure SnRel(i:Nat)(life:Int)(r:R.Sn)(y:SLn):Prop where
 client:y.client=((i / 3:Nat):Int)
 life:y.life=life
 line:y.line=((i % 3:Nat):Int)
 seq:y.seq=r.seq
 uid:y.uid=r.uid
 state:y.state=r.state-1
 asked:r.state=1∨r.state=2→y.asked=r.message
 ans:r.state=3→y.answer=r.result∧y.at'=r.at'
 wait:y.wait=if r.timed=true then r.wait else 0
 tries:r.timed=true→y.tries=r.tries
def jval(j:R.Jb):Value:=.agg #[.int .i64 j.client,.int .i64 j.life,.int .i64 j.line,.int .i64 j.seq,.int .i64 j.uid]
structure SP where
 K:Value
 zs:List (R.Sv×MV)
 ql:Nat→Nat
 jc:Nat
def aaE(t:SP)(seen:List R.Sn)(i:Nat):Value:=if ((seen[i]?).getD R.sn0).seq=0 then .pointer none else ptr (t.ql i)
def aaS(n nm:Nat)(t:SP)(c:R.Cf)(lives:List Int)(seen:List R.Sn):List Value:=
 [.int .i64 c.clients,.int .i64 c.lines,.int .i64 c.retry,.int .i64 c.tries,.int .i64 c.table,.map (some nm),t.K,.int .i64 (lives.getD 0 0),.int .i64 (lives.getD 1 0),.int .i64 (lives.getD 2 0),
  aaE t seen 0,aaE t seen 1,aaE t seen 2,aaE t seen 3,aaE t seen 4,aaE t seen 5,aaE t seen 6,aaE t seen 7,aaE t seen 8,.chan (some t.jc),ptr n]
structure SrvAt(s n nm:Nat)(t:SP)(F:aai)(c:R.Cf)(sv:List R.Sv)(lives:List Int)(seen:List R.Sn)(jobs:List R.Jb)(w:World):Prop where
 bs:w.heap[s]?=some (.cells (aaS n nm t c lives seen).toArray 167 (0,0))
 zs:t.zs.map (·.1)=sv
 made:w.ownsRow 0 213 3 t.K t.zs.length (tab adp t.zs)
 each:∀z∈t.zs,SvAt w F z
 dns:∀(i j:Nat) (z y:R.Sv×MV),t.zs[i]?=some z→t.zs[j]?=some y→i≠j→∀k,z.2.dn.ownBlock=some k→y.2.dn.ownBlock≠some k
 wks:∀(i j:Nat) (z y:R.Sv×MV),t.zs[i]?=some z→t.zs[j]?=some y→i≠j→z.1.alive=true→y.1.alive=true→z.2.sb≠y.2.sb∧∀k,z.2.bk.ownBlock=some k→y.2.bk.ownBlock≠some k
 ln:∀(i:Nat) (r:R.Sn),seen[i]?=some r→r.seq≠0→∃y:SLn,w.heap[t.ql i]?=some (.cells y.cells.toArray 147 (0,0))∧SnRel i (lives.getD (i / 3) 0) r y∧F (t.ql i)
 inj:∀(i j:Nat) (r r':R.Sn),seen[i]?=some r→seen[j]?=some r'→r.seq≠0→r'.seq≠0→i≠j→t.ql i≠t.ql j
 jobs:∃a b:Nat,w.heap[t.jc]?=some (.chan c.table.toNat (jobs.map jval).toArray false a b false)
 foot:F s∧F t.jc∧∀j,t.K.ownBlock=some j→F j
def afQ(t:TypeId):Bool:=t==167 || t==213 || t==98 || t==106 || t==147 || t==330 || t==333 || t==337 || t==9
structure Avoid(w:World)(F E:aai):Prop where
 cells:∀b cur t z,F b→afQ t=true→w.heap[b]?=some (.cells cur t z)→¬E b
 chan:∀b cap buf cl a r tm,F b→w.heap[b]?=some (.chan cap buf cl a r tm)→¬E b
theorem Avoid.apart{w:World}{F E:aai}(h:∀k,F k→¬E k):Avoid w F E:=⟨fun b _ _ _ hF _ _=>h b hF,fun b _ _ _ _ _ _ hF _=>h b hF⟩
theorem Avoid.tags{w:World}{F E:aai}(h:∀b,E b→(∃cur t z,w.heap[b]?=some (.cells cur t z)∧afQ t=false)∨∃es cl,w.heap[b]?=some (.map es cl)):Avoid w F E:=by
 refine⟨fun b cur t z _ ht hb hE=>?_,fun b cap buf cl a r tm _ hb hE=>?_⟩
 ·rcases h b hE with ⟨cur',t',z',h1,h2⟩|⟨es,cl,h1⟩
  ·rw[hb]at h1
   cases h1
   rw[ht]at h2
   cases h2
  ·rw[hb]at h1
   cases h1
 ·rcases h b hE with ⟨cur',t',z',h1,h2⟩|⟨es,cl,h1⟩
  ·rw[hb]at h1
   cases h1
  ·rw[hb]at h1
   cases h1
theorem Avoid.one{w:World}{F:aai}{b:Nat}{cur:Array Value}{t:TypeId}{z:Nat×Nat}(h:w.heap[b]?=some (.cells cur t z))(ht:afQ t=false):Avoid w F (fun k=>k=b):=Avoid.tags (fun k hk=>Or.inl ⟨cur,t,z,by subst hk;exact h,ht⟩)
def aiD(t:TypeId):Bool:=t==98 || t==106 || t==330 || t==333 || t==337 || t==9
def AvT(w:World)(F E:aai):Prop:=∀b cur t z,F b→aiD t=true→w.heap[b]?=some (.cells cur t z)→¬E b
theorem aj0{t:TypeId}(h:aiD t=true):afQ t=true:=by
 simp only[aiD,Bool.or_eq_true,beq_iff_eq]at h
 rcases h with ((((h|h)|h)|h)|h)|h <;> rw[h] <;> rfl
theorem Avoid.sv{w:World}{F E:aai}(h:Avoid w F E):AvT w F E:=fun b cur t z hF ht hb=>h.cells b cur t z hF (aj0 ht) hb
theorem AvT.tags{w:World}{F E:aai}(h:∀b,E b→(∃cur t z,w.heap[b]?=some (.cells cur t z)∧aiD t=false)∨(∃es cl,w.heap[b]?=some (.map es cl))∨∃cap buf cl a r tm,w.heap[b]?=some (.chan cap buf cl a r tm)):AvT w F E:=by
 intro b cur t z _ ht hb hE
 rcases h b hE with ⟨cur',t',z',h1,h2⟩|⟨es,cl,h1⟩|⟨cap,buf,cl,a,r,tm,h1⟩
 ·rw[hb]at h1
  cases h1
  rw[ht]at h2
  cases h2
 ·rw[hb]at h1
  cases h1
 ·rw[hb]at h1
  cases h1
theorem AvT.one{w:World}{F:aai}{b:Nat}{cur:Array Value}{t:TypeId}{z:Nat×Nat}(h:w.heap[b]?=some (.cells cur t z))(ht:aiD t=false):AvT w F (fun k=>k=b):=AvT.tags (fun k hk=>Or.inl ⟨cur,t,z,by subst hk;exact h,ht⟩)
theorem trow_keep{w w':World}{F E:aai}{B n size:Nat}{e:TypeId}{v:Value}{xs:List Value}(hr:w.ownsRow B e size v n xs)(hk:Keeps E w w')(ha:AvT w F E)(he:aiD e=true)(hF:∀j,v.ownBlock=some j→F j):w'.ownsRow B e size v n xs:=by
 refine hk.row hr (fun j hj=>?_)
 rcases hr.2 with ⟨rfl,_⟩|⟨g,cap,cur,rfl,_,hg,_⟩
 ·cases hj
 ·cases hj
  exact ha g cur e _ (hF g rfl) he hg
theorem aj4{w w':World}{F E:aai}{B n size:Nat}{e:TypeId}{v:Value}{xs:List Value}(hr:w.ownsRow B e size v n xs)(hk:Keeps E w w')(ha:Avoid w F E)(he:afQ e=true)(hF:∀j,v.ownBlock=some j→F j):w'.ownsRow B e size v n xs:=by
 refine hk.row hr (fun j hj=>?_)
 rcases hr.2 with ⟨rfl,_⟩|⟨g,cap,cur,rfl,_,hg,_⟩
 ·cases hj
 ·cases hj
  exact ha.cells g cur e _ (hF g rfl) he hg
theorem aa2.avoid{w w':World}{F E F':aai}{V:Value}{l:List R.It}(h:aa2 w F V l)(hk:Keeps E w w')(ha:AvT w F E)(hF:∀k,F k→F' k):aa2 w' F' V l:=h.keep hk (fun b cur hb hc=>ha b cur 106 (0,0) hb rfl hc) hF
theorem agz.avoid{w w':World}{F E F':aai}{V:Value}{l:List R.It}(h:agz w F V l)(hk:Keeps E w w')(ha:AvT w F E)(hF:∀k,F k→F' k):agz w' F' V l:=h.keep hk (fun b cur hb hc=>ha b cur 106 (0,0) hb rfl hc) hF
theorem Works.keep{w w':World}{F E F':aai}{l:List R.En}{b:Nat}{K:Value}{k:Int}{W:Value}(h:Works w F l b K k W)(hk:Keeps E w w')(ha:AvT w F E)(hF:∀k,F k→F' k):Works w' F' l b K k W:=by
 cases h with
 |counter h1 h2 h3=>exact .counter (hF _ h1) (hk.at h2 (ha b _ _ _ h1 rfl h2)) h3
 |board h1 h2 h3 h4=>exact .board (hF _ h1) (hk.at h2 (ha b _ _ _ h1 rfl h2)) (trow_keep h3 hk ha rfl h4) (fun j hj=>hF _ (h4 j hj))
 |desk d0 d1 d2 h1 h2 h0 h3 h4 h5=>exact .desk d0 d1 d2 (hF _ h1) (hk.at h2 (ha b _ _ _ h1 rfl h2)) h0 (h3.avoid hk ha hF) (h4.avoid hk ha hF) (h5.avoid hk ha hF)
theorem SvAt.keep{w w':World}{F E F':aai}{z:R.Sv×MV}(h:SvAt w F z)(hk:Keeps E w w')(ha:AvT w F E)(hF:∀k,F k→F' k):SvAt w' F' z:=by
 refine⟨?_,?_,fun j hj=>hF _ (h.own j hj)⟩
 ·have hw:=h.wk
  split
  ·rename_i e
   rw[if_pos e]at hw
   exact hw.keep hk ha hF
  ·rename_i e
   rw[if_neg e]at hw
   exact hw
 ·obtain⟨es,h1,h2,h3⟩:=h.log
  exact⟨es,h1,trow_keep h2 hk ha rfl h.own,fun y hy=>⟨(h3 y hy).1.avoid hk ha hF,(h3 y hy).2.avoid hk ha hF⟩⟩
theorem SrvAt.keep{s n nm:Nat}{t:SP}{F E F':aai}{c:R.Cf}{sv:List R.Sv}{lives:List Int}{seen:List R.Sn}{jobs:List R.Jb}{w w':World}(h:SrvAt s n nm t F c sv lives seen jobs w)(hk:Keeps E w w')(ha:Avoid w F E)(hF:∀k,F k→F' k):SrvAt s n nm t F' c sv lives seen jobs w':=by
 obtain⟨f1,f2,f3⟩:=h.foot
 refine⟨hk.at h.bs (ha.cells s _ _ _ f1 rfl h.bs),h.zs,aj4 h.made hk ha rfl f3,fun z hz=>(h.each z hz).keep hk ha.sv hF,h.dns,h.wks,fun i r hr hne=>?_,h.inj,?_,hF _ f1,hF _ f2,fun j hj=>hF _ (f3 j hj)⟩
 ·obtain⟨y,h1,h2,h3⟩:=h.ln i r hr hne
  exact⟨y,hk.at h1 (ha.cells _ _ _ _ h3 rfl h1),h2,hF _ h3⟩
 ·obtain⟨a,b,hj⟩:=h.jobs
  exact⟨a,b,hk.at hj (ha.chan _ _ _ _ _ _ _ f2 hj)⟩
end Go.Proofs.YtblomippkddgiaaGreatDoor
