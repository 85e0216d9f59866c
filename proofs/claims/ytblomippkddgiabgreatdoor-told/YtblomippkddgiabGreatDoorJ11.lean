import Derived.Test.YtblomippkddgiabGreatDoorJ10
namespace Go.Proofs.YtblomippkddgiabGreatDoor.R
variable {t:ByteArray}{c:Cl}{e:En}{Ae to u:Int}{v:List It}{a b:List Sv}{bs rb:List UInt8}{l l':Ln}{i k:Nat}{p:Pk}{r:Sn}{s:Sv}{G:Wd}
structure Key where
 client:Int
 Ae:Int
 line:Int
 seq:Int
 deriving DecidableEq
structure Cd where
 uid:Int
 proc:Int
 arg:List It
 from':ByteArray
 to:ByteArray
 bs:List UInt8
abbrev Bk:=Key->Option Cd
def Cd.msg(d:Cd):List UInt8:=A5 d.proc++d.bs
def D4(p:Pk):Key:=⟨p.client,p.Ae,p.line,p.seq⟩
def Bl(e:En):Key:=⟨e.client,e.Ae,e.line,e.seq⟩
def Io(sv:List Sv)(u:Int):Int:=((sv[(u-1).toNat]?).map (·.kind)).getD 0
def Fs(sv:List Sv)(u:Int):List En:=((sv[(u-1).toNat]?).map (·.log)).getD []
def DC(sv:List Sv)(u:Int):Bool:=decide (1<=u)&&((sv[(u-1).toNat]?).map (·.alive)).getD false
structure L9(sv:List Sv)(d:Cd):Prop where
 uid:1<=d.uid/\d.uid<=(sv.length:Int)
 sig:C6 (Io sv d.uid) d.proc=some (d.from',d.to)
 bs:Ba d.from' d.arg=some d.bs
structure EW(sv:List Sv)(k:Key)(d:Cd)(e:En)(rb:List UInt8):Prop where
 mem:e∈Fs sv d.uid
 key:Bl e=k
 bytes:Ba d.to e.result=some rb
 pos:1<=rb.length
def OW(M:Bk)(sv:List Sv)(to:Int)(p:Pk):Prop:=∃d,M (D4 p)=some d/\p.uid=d.uid /\
 ((p.kind=1/\to=-1/\p.off=Ag d.msg/\p.body=Be d.msg p.part) \/
  (p.kind=2/\to=p.client/\p.off=Ag d.msg) \/
  (p.kind=3/\to=-1) \/
  (p.kind=4/\to=p.client) \/
  (p.kind=5/\to=p.client/\∃e rb,EW sv (D4 p) d e rb/\p.off=Ag rb/\p.body=Be rb p.part) \/
  (p.kind=6/\to=-1) \/
  (p.kind=7/\to=p.client/\p.off=2))
def Ma(M:Bk)(sv:List Sv)(f:Fl):Prop:=if f.Hy=true then CO f.s=none else ∃p,AR p/\f.s=Bm p/\OW M sv f.to p
structure Ep(M:Bk)(sv:List Sv)(i:Nat)(Ae:Int)(bound:List Int)(k:Nat)(l:Ln):Prop where
 idle:l.state=0↔l.seq=0
 made:1<=l.seq->∃d,M ⟨i,Ae,k,l.seq⟩=some d
 way:l.state=1->∃d,M ⟨i,Ae,k,l.seq⟩=some d/\l.uid=d.uid/\l.message=d.msg/\l.to=d.to/\d.uid∈bound/\(0<=l.pieces/\(l.came.length:Int)=8*l.pieces)/\(0<l.pieces->∃e rb,EW sv ⟨i,Ae,k,l.seq⟩ d e rb/\l.came=rb.take (8*l.pieces.toNat)/\8*l.pieces<(rb.length:Int))
 done:l.state=2->∃d e rb,M ⟨i,Ae,k,l.seq⟩=some d/\EW sv ⟨i,Ae,k,l.seq⟩ d e rb/\l.result=e.result
 none:l.state≠2->l.result=[]
structure GF(M:Bk)(sv:List Sv)(k:Key)(r:Sn)(d:Cd):Prop where
 made:M k=some d
 uid:r.uid=d.uid
 Ga:r.state=1->r.message=d.msg.take (8*r.pieces.toNat)/\8*r.pieces<(d.msg.length:Int)
 wait:r.state=2->r.message=d.msg
 open':r.state=1\/r.state=2->DC sv d.uid=true/\∀e∈Fs sv d.uid,Bl e≠k
 ans:r.state=3->∃e,EW sv k d e r.result
structure aaf(M:Bk)(u:Int)(e:En):Prop where
 some:∃d rb,M (Bl e)=some d/\d.uid=u/\e.proc=d.proc/\e.arg=d.arg/\Ba d.to e.result=.some rb/\1<=rb.length
def Told(kind:Int)(l:List En):Prop:=∀i e,l[i]?=some e->e.result=Cu kind (l.take i) e.proc e.arg
def Before(a b:En):Prop:=a.client=b.client->a.Ae=b.Ae->a.line=b.line->a.seq<b.seq
structure UC(M:Bk)(u:Int)(s:Sv):Prop where
 each:∀e∈s.log,aaf M u e
 ord:s.log.Pairwise Before
 told:Told s.kind s.log
def Nx(seen:List Sn)(client line:Int):Sn:=(seen[3*client.toNat+line.toNat]?).getD Cs
def Mb(Aj:List Int)(seen:List Sn)(e:En):Prop:=e.Ae<Aj.getD e.client.toNat 0\/(e.Ae=Aj.getD e.client.toNat 0/\e.seq<=(Nx seen e.client e.line).seq)
def InR(cl:List Cl)(k:Key):Prop:=∃(i:Nat) (c:Cl) (n:Nat) (l:Ln),k.client=i/\cl[i]?=some c/\k.line=n/\c.lines[n]?=some l/\1<=k.Ae/\k.Ae<=c.Ae/\1<=k.seq/\k.seq<=999/\(k.Ae=c.Ae->k.seq<=l.seq)
structure Qg(Ae:Int)(r:Sn):Prop where
 zero:r.seq=0->r=Cs
 seq:0<=r.seq/\r.seq<=999
 some:r.seq≠0->1<=Ae/\(1<=r.uid/\r.uid<=255)/\(1<=r.state/\r.state<=4)
 Ga:r.state=1->(r.message.length:Int)=8*r.pieces/\0<=r.pieces/\r.pieces<=8
 wait:r.state=2->2<=r.message.length/\r.message.length<=72
 ans:r.state=3->1<=r.result.length/\r.result.length<=72/\0<=r.at'/\r.at'<Ag r.result
 timed:r.timed=true->r.state=3/\(1<=r.wait/\r.wait<=8)/\(0<=r.tries/\r.tries<=6)
structure Md(c:Cf)(Aj:List Int)(seen:List Sn)(jobs:List Jb):Prop where
 ll:Aj.length=3
 lv:∀x∈Aj,0<=x/\x<=255
 sl:seen.length=9
 sn:∀i r,seen[i]?=some r->Qg (Aj.getD (i / 3) 0) r
 jl:(jobs.length:Int)<=c.table
 jb:∀j∈jobs,(0<=j.client/\j.client<=2)/\(0<=j.line/\j.line<=2)
structure Inv(M:Bk)(G:Wd):Prop where
 wf:Wf G
 ws:Md G.c G.Aj G.seen G.jobs
 bk:∀k d,M k=some d->L9 G.Ab d/\InR G.Ad k
 ln:∀(i:Nat) (c:Cl) (k:Nat) (l:Ln),G.Ad[i]?=some c->c.lines[k]?=some l->Ep M G.Ab i c.Ae c.bound k l
 fl:∀f∈G.Ak,Ma M G.Ab f
 sn:∀(i:Nat) (r:Sn),G.seen[i]?=some r->r.seq≠0->∃d,GF M G.Ab ⟨((i / 3:Nat):Int),G.Aj.getD (i / 3) 0,((i % 3:Nat):Int),r.seq⟩ r d
 lg:∀(u:Nat) (s:Sv),G.Ab[u]?=some s->UC M ((u:Int)+1) s
 R9:∀(u:Nat) (s:Sv) (e:En),G.Ab[u]?=some s->s.alive=true->e∈s.log->Mb G.Aj G.seen e
 jb:∀j∈G.jobs,∃d,M ⟨j.client,j.Ae,j.line,j.seq⟩=some d/\j.uid=d.uid
 lv:∀(i:Nat) (c:Cl),G.Ad[i]?=some c->G.Aj.getD i 0<=c.Ae
structure Gr(a b:List Sv):Prop where
 len:a.length<=b.length
 each:∀(u:Nat) (s:Sv),a[u]?=some s->∃s',b[u]?=some s'/\s'.kind=s.kind/\∃t,s'.log=s.log++t
theorem Gr.refl(a:List Sv):Gr a a:=⟨afI _,fun u s h=>⟨s,h,rfl,[],by simp⟩⟩
theorem Gr.kind(h:Gr a b)(hu:1<=u/\u<=(a.length:Int)):Io b u=Io a u:=by
 have aa:(u-1).toNat<a.length:=by omega
 obtain⟨s',h1,h2,_⟩:=h.each _ _ (afH aa);unfold Io;rw[h1,afH aa];simp[h2]
theorem Gr.log(h:Gr a b)(he:e∈Fs a u):e∈Fs b u:=by
 unfold Fs at he ⊢;cases ha:a[(u-1).toNat]? with
 |none=>rw[ha]at he;simp at he
 |some s=>
  rw[ha]at he;obtain⟨s',h1,_,t,h3⟩:=h.each _ _ ha;rw[h1];simp at he ⊢;rw[h3];exact agK _ he
theorem L9.grow(h:Gr a b){d:Cd}(hd:L9 a d):L9 b d:=by
 have:=h.len;have hu:=hd.uid;exact⟨by omega,by rw[h.kind hu];exact hd.sig,hd.bs⟩
theorem EW.grow(h:Gr a b){k:Key}{d:Cd}(hd:EW a k d e rb):EW b k d e rb:=⟨h.log hd.mem,hd.key,hd.bytes,hd.pos⟩
def Le(M N:Bk):Prop:=∀k d,M k=some d->N k=some d
theorem Le.refl(M:Bk):Le M M:=fun _ _ h=>h
theorem OW.grow{M N:Bk}(hM:Le M N)(h:Gr a b)(hp:OW M a to p):OW N b to p:=by
 obtain⟨d,h1,h2,h3⟩:=hp;refine⟨d,hM _ _ h1,h2,?_⟩;rcases h3 with q|q|q|q|⟨q1,q2,e,rb,q3,q4⟩|q|q
 ·exact afJ q
 ·exact afM (afJ q)
 ·exact afM (afM (afJ q))
 ·exact afM (afM (afM (afJ q)))
 ·exact afM (afM (afM (afM (afJ ⟨q1,q2,e,rb,q3.grow h,q4⟩))))
 ·exact afM (afM (afM (afM (afM (afJ q)))))
 ·exact afM (afM (afM (afM (afM (afM q)))))
theorem Ma.grow{M N:Bk}(hM:Le M N)(h:Gr a b){f:Fl}(hp:Ma M a f):Ma N b f:=by
 unfold Ma at hp ⊢;split
 ·rename_i hb;rw[if_pos hb]at hp;exact hp
 ·rename_i hb;rw[if_neg hb]at hp;obtain⟨p,h1,h2,h3⟩:=hp;exact⟨p,h1,h2,h3.grow hM h⟩
theorem Ep.grow{M N:Bk}(hM:Le M N)(h:Gr a b){bound aa:List Int}(hb:∀u∈bound,u∈aa)(hl:Ep M a i Ae bound k l):Ep N b i Ae aa k l:=by
 refine⟨hl.idle,fun h1=>?_,fun h1=>?_,fun h1=>?_,hl.none⟩
 ·obtain⟨d,hd⟩:=hl.made h1;exact⟨d,hM _ _ hd⟩
 ·obtain⟨d,q1,q2,q3,q4,q5,q6,q7⟩:=hl.way h1;refine⟨d,hM _ _ q1,q2,q3,q4,hb _ q5,q6,fun hp=>?_⟩;obtain⟨e,rb,r1,r2⟩:=q7 hp;exact⟨e,rb,r1.grow h,r2⟩
 ·obtain⟨d,e,rb,q1,q2,q3⟩:=hl.done h1;exact⟨d,e,rb,hM _ _ q1,q2.grow h,q3⟩
theorem aaf.grow{M N:Bk}(hM:Le M N)(h:aaf M u e):aaf N u e:=by
 obtain⟨d,rb,h1,h2⟩:=h.some;exact⟨d,rb,hM _ _ h1,h2⟩
theorem UC.grow{M N:Bk}(hM:Le M N)(h:UC M u s):UC N u s:=⟨fun e he=>(h.each e he).grow hM,h.ord,h.told⟩
theorem GF.grow{M N:Bk}(hM:Le M N){k:Key}{d:Cd}(h:GF M a k r d):GF N a k r d:=⟨hM _ _ h.made,h.uid,h.Ga,h.wait,h.open',h.ans⟩
theorem Rj{l:List En}(h:l.Pairwise Before){a b:En}(ha:a∈l)(hb:b∈l)(e:Bl a=Bl b):a=b:=by
 induction l with
 |nil=>cases ha
 |cons x l ih=>
  rw[List.pairwise_cons]at h;have key:∀{y z:En},Bl y=Bl z->y.client=z.client/\y.Ae=z.Ae/\y.line=z.line/\y.seq=z.seq:=fun e=>by
   simp only[Bl,Key.mk.injEq]at e;exact e
  rcases agR.1 ha with rfl|ab
  ·rcases agR.1 hb with rfl|aa
   ·rfl
   ·obtain⟨k1,k2,k3,k4⟩:=key e;have:=h.1 b aa k1 k2 k3;omega
  ·rcases agR.1 hb with rfl|aa
   ·obtain⟨k1,k2,k3,k4⟩:=key e;have:=h.1 a ab k1.symm k2.symm k3.symm;omega
   ·exact ih h.2 ab aa
theorem aaZ{sv:List Sv}(h:e∈Fs sv u)(hu:1<=u):∃(n:Nat) (s:Sv),u=(n:Int)+1/\sv[n]?=some s/\e∈s.log:=by
 unfold Fs at h;cases ha:sv[(u-1).toNat]? with
 |none=>rw[ha]at h;simp at h
 |some s=>
  rw[ha]at h;exact⟨(u-1).toNat,s,by omega,ha,by simpa using h⟩
theorem J6{sv:List Sv}{n:Nat}(h:sv[n]?=some s):Fs sv ((n:Int)+1)=s.log:=by
 simp[Fs,h]
theorem Inv.unique{M:Bk}(h:Inv M G){k:Key}{d:Cd}(hd:M k=some d){e':En}{ab:List UInt8}(h1:EW G.Ab k d e rb)(h2:EW G.Ab k d e' ab):e'=e/\ab=rb:=by
 obtain⟨n,s,q1,q2,q3⟩:=aaZ h1.mem (h.bk k d hd).1.uid.1;have aa:=h2.mem;rw[q1,J6 q2]at aa;have he:=Rj (h.lg n s q2).ord aa q3 (by rw[h1.key,h2.key]);subst he;refine⟨rfl,?_⟩;have b1:=h1.bytes;have b2:=h2.bytes;rw[b1]at b2;exact(Option.some.inj b2).symm
theorem GM(h:Ba t v=some bs):bs.length<=70:=by
 unfold Ba at h;split at h
 ·rename_i h0;cases h;exact V.U2 h0
 ·cases h
theorem FK(h:Ba t v=some bs):V.D5 t bs=(0,v):=by
 unfold Ba at h;split at h
 ·rename_i h0;cases h;exact V.Uu h0
 ·cases h
theorem LU{sv:List Sv}{d:Cd}(h:L9 sv d):2<=d.msg.length/\d.msg.length<=72:=by
 have:=GM h.bs;simp[Cd.msg,A5];omega
theorem Inv.Bg{M:Bk}(h:Inv M G)(hr:AR p)(hp:OW M G.Ab to p):Inv M (Bg G to p):=by
 have hw:=h.wf.Bg (to:=to) hr;unfold R.Bg at hw ⊢;split
 ·rename_i hl;rw[if_pos hl]at hw;refine⟨hw,h.ws,h.bk,h.ln,fun f hf=>?_,h.sn,h.lg,h.R9,h.jb,h.lv⟩;rcases agb.1 hf with q|q
  ·exact h.fl f q
  ·simp only[af3]at q;subst q;unfold Ma;rw[if_neg (by simp)];exact⟨p,hr,rfl,hp⟩
 ·exact h
theorem Inv.E3{M:Bk}(h:Inv M G){fl:List Fl}(hw:Wf {G with Ak:=fl})(hf:∀f∈fl,Ma M G.Ab f):Inv M {G with Ak:=fl}:=⟨hw,h.ws,h.bk,h.ln,hf,h.sn,h.lg,h.R9,h.jb,h.lv⟩
theorem Inv.RG{M N:Bk}(h:Inv M G)(hc:G.Ad[i]?=some c)(hl:c.lines[k]?=some l)(ae:Mc l')(ai:l.seq<=l'.seq)(hN:Le M N)(ab:∀q d,N q=some d->M q=some d\/(q=⟨i,c.Ae,k,l'.seq⟩/\L9 G.Ab d/\1<=l'.seq))(ag:Ep N G.Ab i c.Ae c.bound k l'):Inv N (Am G i k l'):=by
 refine⟨h.wf.Am ae,h.ws,fun q d hq=>?_,fun j c' n x hj hx=>?_,fun f hf=>(h.fl f hf).grow hN (Gr.refl _),fun j r hr ah=>?_,fun u s hs=>(h.lg u s hs).grow hN,h.R9,fun j hj=>?_,fun j c' hj=>?_⟩
 ·rcases ab q d hq with hq|⟨rfl,h1,h2⟩
  ·obtain⟨h1,a,ca,n,x,r1,r2,r3,r4,r5,r6,r7,r8,r9⟩:=h.bk q d hq;refine⟨h1,a,(if i=a then {ca with lines:=ca.lines.set k l'} else ca),n,(if i=a/\k=n then l' else x),r1,by rw[Bo,r2];rfl,r3,?_,r5,?_,r7,r8,fun e=>?_⟩
   ·by_cases ac:i=a
    ·subst ac;simp only[if_true,true_and];rw[afV];by_cases aa:k=n
     ·subst aa;simp[(afG.1 r4).1]
     ·simp[aa,r4]
    ·simp[ac,r4]
   ·split<;>exact r6
   ·have e':q.Ae=ca.Ae:=by
     rw[e];split<;>rfl
    have:=r9 e';by_cases hh:i=a/\k=n
    ·obtain⟨rfl,rfl⟩:=hh;rw[hc]at r2;cases r2;rw[hl]at r4;cases r4;simp;omega
    ·rw[if_neg hh];exact this
  ·have af:=(h.wf.cl i c hc).Ae;refine⟨h1,i,{c with lines:=c.lines.set k l'},k,l',rfl,by rw[Bo,hc];simp,rfl,by simp[(afG.1 hl).1],af.1,agt _,h2,ae.seq.2,fun _=>agt _⟩
 ·rw[Bo]at hj;cases h0:G.Ad[j]? with
  |none=>rw[h0]at hj;cases hj
  |some c0=>
   rw[h0]at hj;simp only[af9,Option.some.injEq]at hj;subst hj;by_cases ad:i=j
   ·subst ad;rw[hc]at h0;cases h0;simp only[if_true]at hx ⊢;rw[afV]at hx;by_cases aa:k=n
    ·subst aa;simp only[if_true]at hx;split at hx
     ·cases hx;exact ag
     ·cases hx
    ·simp only[aa,if_false]at hx;exact(h.ln i c n x hc hx).grow hN (Gr.refl _) (fun _ q=>q)
   ·simp only[ad,if_false]at hx ⊢;exact(h.ln j c0 n x h0 hx).grow hN (Gr.refl _) (fun _ q=>q)
 ·obtain⟨d,hd⟩:=h.sn j r hr ah;exact⟨d,hd.grow hN⟩
 ·obtain⟨d,q1,q2⟩:=h.jb j hj;exact⟨d,hN _ _ q1,q2⟩
 ·rw[Bo]at hj;cases h0:G.Ad[j]? with
  |none=>rw[h0]at hj;cases hj
  |some c0=>
   rw[h0]at hj;simp only[af9,Option.some.injEq]at hj;subst hj;have:=h.lv j c0 h0;split<;>exact this
theorem Inv.Am{M:Bk}(h:Inv M G)(hc:G.Ad[i]?=some c)(hl:c.lines[k]?=some l)(ac:Mc l')(aa:l.seq<=l'.seq)(ab:Ep M G.Ab i c.Ae c.bound k l'):Inv M (Am G i k l'):=
 h.RG hc hl ac aa (Le.refl M) (fun _ _ q=>afJ q) ab
theorem Inv.AB{M:Bk}(h:Inv M G){r':Sn}(hr:G.seen[i]?=some r)(ac:r.seq<=r'.seq)(af:Qg (G.Aj.getD (i / 3) 0) r')(hd:r'.seq≠0->∃d,GF M G.Ab ⟨((i / 3:Nat):Int),G.Aj.getD (i / 3) 0,((i % 3:Nat):Int),r'.seq⟩ r' d):Inv M (AB G i r'):=by
 have hi:=(afG.1 hr).1;have ab:∀j x,(G.seen.set i r')[j]?=some x->(j=i/\x=r')\/(j≠i/\G.seen[j]?=some x):=fun j x hx=>by
  rw[afV]at hx;by_cases aa:i=j
  ·subst aa;simp[hi]at hx;exact afJ ⟨rfl,hx.symm⟩
  ·simp[aa]at hx;exact afM ⟨fun e=>aa e.symm,hx⟩
 refine⟨⟨h.wf.cf,h.wf.Gt,fun j c hc=>⟨(h.wf.cl j c hc).lines,(h.wf.cl j c hc).Ae,(h.wf.cl j c hc).bound,(h.wf.cl j c hc).line⟩,h.wf.E3,h.wf.Eo,h.wf.sv,h.wf.Kh,h.wf.nm,h.wf.st,h.wf.nd,h.wf.I5⟩,⟨h.ws.ll,h.ws.lv,by simpa [R.AB] using h.ws.sl,fun j x hx=>?_,h.ws.jl,h.ws.jb⟩,h.bk,h.ln,h.fl,fun j x hx ae=>?_,h.lg,fun u s e hs ha he=>?_,h.jb,h.lv⟩
 ·rcases ab j x hx with ⟨rfl,rfl⟩|⟨_,ad⟩
  ·exact af
  ·exact h.ws.sn j x ad
 ·rcases ab j x hx with ⟨rfl,rfl⟩|⟨_,ad⟩
  ·exact hd ae
  ·exact h.sn j x ad ae
 ·rcases h.R9 u s e hs ha he with q|⟨q1,q2⟩
  ·exact afJ q
  ·refine afM ⟨q1,Int.le_trans q2 ?_⟩;unfold Nx;show _<=(((G.seen.set i r')[3*e.client.toNat+e.line.toNat]?).getD Cs).seq;rw[afV];by_cases aa:i=3*e.client.toNat+e.line.toNat
   ·rw[<-aa,hr];simp[hi];exact ac
   ·simp[aa]
theorem ZS(Ae:Int):Qg Ae Cs:=⟨fun _=>rfl,by simp[Cs],by simp[Cs],by simp[Cs],by simp[Cs],by simp[Cs],by simp[Cs]⟩
theorem ws0(c:Cf)(h:BD c):Md c [0,0,0] (List.replicate 9 Cs) []:=by
 refine⟨rfl,by simp,by simp,fun i r hr=>?_,?_,by simp⟩
 ·rw[afZ]at hr;split at hr
  ·cases hr;exact ZS _
  ·cases hr
 ·unfold BD at h;simp;omega
theorem Yt(M:Bk)(sv:List Sv)(i:Nat)(Ae:Int)(b:List Int)(k:Nat):Ep M sv i Ae b k JC:=⟨by simp[JC],by simp[JC],by simp[JC],by simp[JC],by simp[JC]⟩
theorem M3:Mc JC:=⟨by simp[JC],by simp[JC]⟩
theorem Es{lines:Int}(h:(FF Ae lines).lines[k]?=some l):l=JC:=by
 simp only[FF,afZ]at h;split at h
 ·cases h;rfl
 ·cases h
theorem Inv.new{c:Cf}(h:Wj c=some G):Inv (fun _=>none) G:=by
 unfold Wj at h;split at h
 ·rename_i hc;cases h;have aa:∀(i:Nat) (x:Cl),(List.replicate c.Ad.toNat (FF 1 c.lines))[i]?=some x->x=FF 1 c.lines:=fun i x hx=>by
   rw[afZ]at hx;split at hx
   ·cases hx;rfl
   ·cases hx
  have ab:=hc;unfold BD at ab;refine⟨⟨hc,by simp;omega,fun i x hx=>?_,by simp,by simp,by simp,by simp,by simp,by simp,by simp,by simp⟩,ws0 c hc,by simp,fun i x k l hx hl=>?_,by simp,fun i r hr ac=>?_,by simp,by simp,by simp,fun i x hx=>?_⟩
  ·rw[aa i x hx];exact⟨by simp[FF];omega,by simp[FF],by simp[FF],fun k l hl=>by rw[Es hl];exact M3⟩
  ·rw[aa i x hx]at hl;rw[Es hl];exact Yt _ _ _ _ _ _
  ·simp only[afZ]at hr;split at hr
   ·cases hr;exact absurd rfl ac
   ·cases hr
  ·rw[aa i x hx];simp only[afX];rcases i with _|_|_|i<;>simp[FF]
 ·cases h
theorem Kv(G:Wd)(uid:Int)(u:Nat):(Ch G uid).Ab[u]?=(G.Ab[u]?).map fun s=>if (uid-1).toNat=u then {s with alive:=false} else s:=by
 unfold Ch;generalize (uid-1).toNat=n;simp only[agm];rfl
theorem Inv.end{M:Bk}(h:Inv M G)(uid:Int)(hu:1<=uid):Inv M (Ch G uid):=by
 have aa:∀(u:Nat) (s:Sv),G.Ab[u]?=some s->∃s',(Ch G uid).Ab[u]?=some s'/\s'.kind=s.kind/\s'.log=s.log/\(s'.alive=true->s.alive=true)/\((uid-1).toNat≠u->s'=s):=fun u s hs=>by
  refine⟨if (uid-1).toNat=u then {s with alive:=false} else s,by rw[Kv,hs];rfl,?_⟩;split
  ·rename_i e;exact⟨rfl,rfl,(fun q=>nomatch q),fun q=>absurd e q⟩
  ·exact⟨rfl,rfl,fun q=>q,fun _=>rfl⟩
 have ae:∀u:Nat,G.Ab[u]?=none->(Ch G uid).Ab[u]?=none:=fun u hs=>by rw[Kv,hs];rfl
 have hg:Gr G.Ab (Ch G uid).Ab:=by
  refine⟨by simp[Ch],fun u s hs=>?_⟩;obtain⟨s',h1,h2,h3,_⟩:=aa u s hs;exact⟨s',h1,h2,[],by simp[h3]⟩
 have ah:∀(u:Nat) (s':Sv),(Ch G uid).Ab[u]?=some s'->∃s,G.Ab[u]?=some s/\s'.kind=s.kind/\s'.log=s.log/\(s'.alive=true->s.alive=true):=fun u s' hs=>by
  cases h0:G.Ab[u]? with
  |none=>rw[ae u h0]at hs;cases hs
  |some s=>
   obtain⟨s2,h1,h2,h3,h4,_⟩:=aa u s h0;rw[hs]at h1;cases h1;exact⟨s,rfl,h2,h3,h4⟩
 have ac:∀u,Fs (Ch G uid).Ab u=Fs G.Ab u:=fun u=>by
  unfold Fs;cases h0:G.Ab[(u-1).toNat]? with
  |none=>rw[ae _ h0]
  |some s=>
   obtain⟨s2,h1,h2,h3,h4,_⟩:=aa _ s h0;rw[h1];exact h3
 have ai:∀u,u≠uid->1<=u->DC (Ch G uid).Ab u=DC G.Ab u:=fun u ab h1=>by
  unfold DC;cases h0:G.Ab[(u-1).toNat]? with
  |none=>rw[ae _ h0]
  |some s=>
   obtain⟨s2,q1,_,_,_,q5⟩:=aa _ s h0;rw[q1,q5 (by omega)]
 have ag:∀(i:Nat) (r':Sn),(Ch G uid).seen[i]?=some r'->∃r,G.seen[i]?=some r/\r'=(if r.uid=uid/\r.state<3 then {r with state:=4} else r):=fun i r' hr=>by
  simp only[Ch,afW]at hr;cases h0:G.seen[i]? with
  |none=>rw[h0]at hr;cases hr
  |some r=>
   rw[h0]at hr;exact⟨r,rfl,(Option.some.inj hr).symm⟩
 refine⟨h.wf.ends uid,⟨h.ws.ll,h.ws.lv,by simpa [Ch] using h.ws.sl,fun i r' hr=>?_,h.ws.jl,h.ws.jb⟩,fun k d hd=>⟨(h.bk k d hd).1.grow hg,(h.bk k d hd).2⟩,fun i c k l hc hl=>(h.ln i c k l hc hl).grow (Le.refl M) hg (fun _ q=>q),fun f hf=>(h.fl f hf).grow (Le.refl M) hg,fun i r' hr ab=>?_,fun u s' hs=>?_,fun u s' e hs ha he=>?_,h.jb,h.lv⟩
 ·obtain⟨r,h0,rfl⟩:=ag i r' hr;have q:=h.ws.sn i r h0;by_cases hv:r.uid=uid/\r.state<3
  ·rw[if_pos hv];have af:r.seq≠0:=fun e=>by
    have:=q.zero e;rw[this]at hv;have:Cs.uid=0:=rfl;omega
   have ht:r.timed=false:=by
    cases e:r.timed with
    |false=>rfl
    |true=>have:=(q.timed e).1;omega
   exact⟨fun e=>absurd e af,q.seq,fun _=>⟨(q.some af).1,(q.some af).2.1,by simp⟩,by simp,by simp,by simp,by simp[ht]⟩
  ·rw[if_neg hv];exact q
 ·obtain⟨r,h0,rfl⟩:=ag i r' hr;by_cases hv:r.uid=uid/\r.state<3
  ·rw[if_pos hv]at ab ⊢;obtain⟨d,q⟩:=h.sn i r h0 ab;exact⟨d,q.made,q.uid,by simp,by simp,by simp,by simp⟩
  ·rw[if_neg hv]at ab ⊢;obtain⟨d,q⟩:=h.sn i r h0 ab;refine⟨d,q.made,q.uid,q.Ga,q.wait,fun hs=>?_,fun hs=>?_⟩
   ·obtain⟨q1,q2⟩:=q.open' hs;have ad:d.uid≠uid:=fun e=>hv ⟨by rw[q.uid];exact e,by omega⟩
    have h1:1<=d.uid:=(h.bk _ d q.made).1.uid.1;exact⟨by rw[ai d.uid ad h1];exact q1,by rw[ac];exact q2⟩
   ·obtain⟨e,he⟩:=q.ans hs;exact⟨e,he.grow hg⟩
 ·obtain⟨s,h0,h1,h2,_⟩:=ah u s' hs;have q:=h.lg u s h0;exact⟨by rw[h2];exact q.each,by rw[h2];exact q.ord,by rw[h1,h2];exact q.told⟩
 ·obtain⟨s,h0,h1,h2,h3⟩:=ah u s' hs;rw[h2]at he;have q:=h.R9 u s e h0 (h3 ha) he;rcases q with q|⟨q1,q2⟩
  ·exact afJ q
  ·refine afM ⟨q1,Int.le_trans q2 ?_⟩;unfold Nx;simp only[Ch,afW];cases G.seen[3*e.client.toNat+e.line.toNat]? with
   |none=>simp
   |some r=>
    simp only[af9,af2];split<;>simp
theorem Inv.Zx{M:Bk}(h:Inv M G){nm:List (List UInt8)}{st:List Int}(hw:Wf {G with names:=nm,stands:=st}):Inv M {G with names:=nm,stands:=st}:=⟨hw,h.ws,h.bk,h.ln,h.fl,h.sn,h.lg,h.R9,h.jb,h.lv⟩
theorem Inv.serve{M:Bk}(h:Inv M G){kind:Int}(hw:Wf {G with Ab:=G.Ab++[⟨kind,true,[]⟩]}):Inv M {G with Ab:=G.Ab++[⟨kind,true,[]⟩]}:=by
 have hg:Gr G.Ab (G.Ab++[⟨kind,true,[]⟩]):=⟨by simp,fun u s hs=>⟨s,by rw[af4 (afG.1 hs).1];exact hs,rfl,[],by simp⟩⟩;have aa:∀(u:Nat) (s':Sv),(G.Ab++[⟨kind,true,[]⟩])[u]?=some s'->G.Ab[u]?=some s'\/s'=⟨kind,true,[]⟩:=fun u s' hs=>by
  rcases agy u G.Ab.length with hl|hl
  ·rw[af4 hl]at hs;exact afJ hs
  ·rw[agh hl]at hs;cases hn:u-G.Ab.length with
   |zero=>rw[hn]at hs;simp at hs;exact afM hs.symm
   |succ n=>rw[hn]at hs;simp at hs
 have hk:∀d:Cd,L9 G.Ab d->Fs (G.Ab++[⟨kind,true,[]⟩]) d.uid=Fs G.Ab d.uid/\DC (G.Ab++[⟨kind,true,[]⟩]) d.uid=DC G.Ab d.uid:=fun d hd=>by
  have hu:=hd.uid;have:(d.uid-1).toNat<G.Ab.length:=by omega
  unfold Fs DC;rw[af4 this];exact⟨rfl,rfl⟩
 refine⟨hw,h.ws,fun k d hd=>⟨(h.bk k d hd).1.grow hg,(h.bk k d hd).2⟩,fun i c k l hc hl=>(h.ln i c k l hc hl).grow (Le.refl M) hg (fun _ q=>q),fun f hf=>(h.fl f hf).grow (Le.refl M) hg,fun i r hr ab=>?_,fun u s' hs=>?_,fun u s' e hs ha he=>?_,h.jb,h.lv⟩
 ·obtain⟨d,q⟩:=h.sn i r hr ab;obtain⟨k1,k2⟩:=hk d (h.bk _ d q.made).1;refine⟨d,q.made,q.uid,q.Ga,q.wait,fun hs=>?_,fun hs=>?_⟩
  ·obtain⟨q1,q2⟩:=q.open' hs;exact⟨by rw[k2];exact q1,by rw[k1];exact q2⟩
  ·obtain⟨e,he⟩:=q.ans hs;exact⟨e,he.grow hg⟩
 ·rcases aa u s' hs with q|rfl
  ·exact h.lg u s' q
  ·exact⟨by simp,by simp,by simp[Told]⟩
 ·rcases aa u s' hs with q|rfl
  ·exact h.R9 u s' e q ha he
  ·cases he
theorem ZT(h:Wf G){name:List UInt8}(he:BI G name=some k):G.stands.getD k 0∈G.stands:=by
 have hk:=(afG.1 (Ek he)).1;have aa:k<G.stands.length:=by rw[h.st];exact hk
 rw[afX,afH aa];exact agr aa
theorem Inv.export{M:Bk}(h:Inv M G)(name:List UInt8)(kind:Int):Inv M (Bd G name kind).2:=by
 have hw:=h.wf.export name kind;unfold Bd at hw ⊢;split
 ·exact h
 ·rename_i h1;rw[if_neg h1]at hw;split
  ·exact h
  ·rename_i h2;rw[if_neg h2]at hw;split
   ·rename_i he;simp only[he]at hw;split
    ·exact h
    ·rename_i h3;rw[if_neg h3]at hw;split
     ·exact h
     ·rename_i h4;rw[if_neg h4]at hw;have aa:Wf {G with Ab:=G.Ab++[⟨kind,true,[]⟩]}:=h.wf.serve (nm:=G.names) (st:=G.stands) (by omega) (by have:=h.wf.sv;omega) h.wf.nm h.wf.st h.wf.nd (fun u hu=>by have:=h.wf.I5 u hu;omega);exact(h.serve aa).Zx hw
   ·rename_i k he;simp only[he]at hw;split
    ·exact h
    ·rename_i h4;rw[if_neg h4]at hw;have hs:=h.wf.I5 _ (ZT h.wf he);have hE:=h.end (G.stands.getD k 0) hs.1;have hl:(Ch G (G.stands.getD k 0)).Ab.length=G.Ab.length:=by simp[Ch]
     have aa:=hE.wf.serve (kind:=kind) (nm:=G.names) (st:=G.stands) (by omega) (by have:=h.wf.sv;rw[hl];omega) h.wf.nm h.wf.st h.wf.nd (fun u hu=>by have:=h.wf.I5 u hu;rw[hl];omega);exact(hE.serve aa).Zx hw
theorem Inv.imports{M:Bk}(h:Inv M G)(client:Int)(name:List UInt8):Inv M (E4 G client name).2:=by
 have hw:=h.wf.imports client name;unfold E4 at hw ⊢;split
 ·exact h
 ·rename_i h1;rw[if_neg h1]at hw;split
  ·exact h
  ·rename_i k he;simp only[he]at hw;have aa:∀(j:Nat) (c':Cl),(G.Ad.modify client.toNat fun c=>{c with bound:=c.bound++[G.stands.getD k 0]})[j]?=some c'->∃c,G.Ad[j]?=some c/\c'.Ae=c.Ae/\c'.lines=c.lines/\∀u∈c.bound,u∈c'.bound:=fun j c' hj=>by
    rw[agm]at hj;cases h0:G.Ad[j]? with
    |none=>rw[h0]at hj;cases hj
    |some c=>
     rw[h0]at hj;have hj:=Option.some.inj hj;refine⟨c,rfl,?_⟩;rw[<-hj];split
     ·exact⟨rfl,rfl,fun u hu=>agK _ hu⟩
     ·exact⟨rfl,rfl,fun u hu=>hu⟩
   refine⟨hw,h.ws,fun q d hq=>?_,fun i c' n l hc hl=>?_,h.fl,h.sn,h.lg,h.R9,h.jb,fun i c' hc=>?_⟩
   ·obtain⟨g1,a,ca,n,x,r1,r2,r3,r4,r5,r6,r7,r8,r9⟩:=h.bk q d hq;refine⟨g1,a,(if client.toNat=a then {ca with bound:=ca.bound++[G.stands.getD k 0]} else ca),n,x,r1,?_,r3,?_,r5,?_,r7,r8,?_⟩
    ·simp only[agm,r2];rfl
    all_goals split<;>assumption
   ·obtain⟨c,q1,q2,q3,q4⟩:=aa i c' hc;rw[q3]at hl;rw[q2];exact(h.ln i c n l q1 hl).grow (Le.refl M) (Gr.refl _) q4
   ·obtain⟨c,q1,q2,q3,q4⟩:=aa i c' hc;rw[q2];exact h.lv i c q1
theorem Inv.erase{M:Bk}(h:Inv M G)(k:Nat):Inv M {G with Ak:=G.Ak.eraseIdx k}:=by
 refine h.E3 ⟨h.wf.cf,h.wf.Gt,fun j c hc=>⟨(h.wf.cl j c hc).lines,(h.wf.cl j c hc).Ae,(h.wf.cl j c hc).bound,(h.wf.cl j c hc).line⟩,?_,fun f hf=>h.wf.Eo f (agS hf),h.wf.sv,h.wf.Kh,h.wf.nm,h.wf.st,h.wf.nd,h.wf.I5⟩ (fun f hf=>h.fl f (agS hf));have:=List.length_eraseIdx_le (l:=G.Ak) (i:=k);have:=h.wf.E3;simp only;omega
theorem Inv.drop{M:Bk}(h:Inv M G)(i:Int):Inv M (Ej G i).2:=by
 unfold Ej;split
 ·exact h
 ·exact h.erase _
theorem Inv.copy{M:Bk}(h:Inv M G)(i:Int):Inv M (DG G i).2:=by
 unfold DG;split
 ·exact h
 ·split
  ·exact h
  ·split
   ·exact h
   ·rename_i f hf;have hm:=afU hf;refine h.E3 ⟨h.wf.cf,h.wf.Gt,fun j c hc=>⟨(h.wf.cl j c hc).lines,(h.wf.cl j c hc).Ae,(h.wf.cl j c hc).bound,(h.wf.cl j c hc).line⟩,?_,fun g hg=>?_,h.wf.sv,h.wf.Kh,h.wf.nm,h.wf.st,h.wf.nd,h.wf.I5⟩ (fun g hg=>?_)
    ·simp only[afS,agA];omega
    ·rcases agb.1 hg with q|q
     ·exact h.wf.Eo g q
     ·rw[af3.1 q];exact h.wf.Eo f hm
    ·rcases agb.1 hg with q|q
     ·exact h.fl g q
     ·rw[af3.1 q];exact h.fl f hm
theorem ac7(a:UInt8){n:Int}(h:1<=n/\n<=255):a ^^^ b8 n≠a:=fun e=>by
 have h1:b8 n=0:=by
  have:=congrArg (fun x=>a ^^^ x) e;simpa [<-UInt8.xor_assoc] using this
 have:=Bj (n:=n) (by omega) h.2;rw[h1]at this;simp at this;omega
theorem Inv.Ji{M:Bk}(h:Inv M G)(i at' ac:Int):Inv M (Dt G i at' ac).2:=by
 unfold Dt;split
 ·exact h
 ·split
  ·exact h
  ·rename_i f hf;have hm:=afU hf;split
   ·exact h
   ·rename_i hr;split
    ·exact h
    ·rename_i hb;have ab:=h.fl f hm;unfold Ma at ab;rw[if_neg hb]at ab;obtain⟨p,h1,h2,h3⟩:=ab;have aa:at'.toNat<f.s.length:=by omega
     refine h.E3 ⟨h.wf.cf,h.wf.Gt,fun j c hc=>⟨(h.wf.cl j c hc).lines,(h.wf.cl j c hc).Ae,(h.wf.cl j c hc).bound,(h.wf.cl j c hc).line⟩,?_,fun g hg=>?_,h.wf.sv,h.wf.Kh,h.wf.nm,h.wf.st,h.wf.nd,h.wf.I5⟩ (fun g hg=>?_)
     ·rw[agq];exact h.wf.E3
     ·rcases agc hg with q|q
      ·exact h.wf.Eo g q
      ·rw[q];simpa using h.wf.Eo f hm
     ·rcases agc hg with q|q
      ·exact h.fl g q
      ·rw[q];unfold Ma;rw[if_pos rfl];simp only;rw[h2]at aa ⊢;refine RB p at'.toNat _ aa ?_;rw[afH aa,afX,afH aa];intro e;exact ac7 _ (by omega) (Option.some.inj e).symm
theorem Inv.Gk{M:Bk}(h:Inv M G)(aa:Int):Inv M (Bb G aa).2:=by
 unfold Bb;split
 ·have hg:Gr G.Ab (G.Ab.map fun s=>{s with alive:=false}):=⟨by simp,fun u s hs=>⟨{s with alive:=false},by simp[hs],rfl,[],by simp⟩⟩;have ae:∀(u:Nat) (s':Sv),(G.Ab.map fun s=>{s with alive:=false})[u]?=some s'->∃s,G.Ab[u]?=some s/\s'={s with alive:=false}:=fun u s' hs=>by
   rw[afW]at hs;cases h0:G.Ab[u]? with
   |none=>rw[h0]at hs;cases hs
   |some s=>rw[h0]at hs;exact⟨s,rfl,(Option.some.inj hs).symm⟩
  refine⟨⟨h.wf.cf,h.wf.Gt,fun i c hc=>⟨(h.wf.cl i c hc).lines,(h.wf.cl i c hc).Ae,fun u hu=>by simpa using (h.wf.cl i c hc).bound u hu,(h.wf.cl i c hc).line⟩,h.wf.E3,h.wf.Eo,by simpa using h.wf.sv,fun s hs=>?_,h.wf.nm,h.wf.st,h.wf.nd,fun u hu=>by simpa using h.wf.I5 u hu⟩,ws0 G.c h.wf.cf,fun k d hd=>⟨(h.bk k d hd).1.grow hg,(h.bk k d hd).2⟩,fun i c k l hc hl=>(h.ln i c k l hc hl).grow (Le.refl M) hg (fun _ q=>q),fun f hf=>(h.fl f hf).grow (Le.refl M) hg,fun i r hr ag=>?_,fun u s' hs=>?_,fun u s' e hs ha he=>?_,by simp,fun i c hc=>?_⟩
  ·obtain⟨s0,h0,rfl⟩:=agE.1 hs;exact h.wf.Kh s0 h0
  ·simp only[afZ]at hr;split at hr
   ·cases hr;exact absurd rfl ag
   ·cases hr
  ·obtain⟨s,h0,rfl⟩:=ae u s' hs;have q:=h.lg u s h0;exact⟨q.each,q.ord,q.told⟩
  ·obtain⟨s,h0,rfl⟩:=ae u s' hs;cases ha
  ·have:=(h.wf.cl i c hc).Ae;simp only[afX];rcases i with _|_|_|i<;>simp<;>omega
 ·split
  ·exact h
  ·rename_i h1 h2;obtain⟨n,rfl⟩:∃n:Nat,aa=(n:Int):=⟨aa.toNat,by omega⟩;have hn:n<G.Ad.length:=by omega
   have ab:G.Ad[n]?=some G.Ad[n]:=afH hn;split
   ·exact h
   ·rename_i h3;rw[Co ab]at h3 ⊢;have ad:=h.wf.cl n _ ab;have ac:∀(j:Nat) (c':Cl),(G.Ad.set (n:Int).toNat (FF (G.Ad[n].Ae+1) G.c.lines))[j]?=some c'->(j=n/\c'=FF (G.Ad[n].Ae+1) G.c.lines)\/(j≠n/\G.Ad[j]?=some c'):=fun j c' hj=>by
     rw[afV,afY]at hj;by_cases e:n=j
     ·subst e;simp[hn]at hj;exact afJ ⟨rfl,hj.symm⟩
     ·simp[e]at hj;exact afM ⟨fun q=>e q.symm,hj⟩
    have af:=h.wf.cf;unfold BD at af;refine⟨⟨h.wf.cf,by simpa using h.wf.Gt,fun j c' hj=>?_,h.wf.E3,h.wf.Eo,h.wf.sv,h.wf.Kh,h.wf.nm,h.wf.st,h.wf.nd,h.wf.I5⟩,h.ws,fun q d hq=>?_,fun j c' k l hj hl=>?_,h.fl,h.sn,h.lg,h.R9,h.jb,fun j c' hj=>?_⟩
    ·rcases ac j c' hj with ⟨rfl,rfl⟩|⟨_,q⟩
     ·have:=ad.Ae;exact⟨by simp[FF];omega,by simp[FF];omega,by simp[FF],fun k l hl=>by rw[Es hl];exact M3⟩
     ·exact⟨(h.wf.cl j c' q).lines,(h.wf.cl j c' q).Ae,(h.wf.cl j c' q).bound,(h.wf.cl j c' q).line⟩
    ·obtain⟨g1,a,ca,m,x,r1,r2,r3,r4,r5,r6,r7,r8,r9⟩:=h.bk q d hq;refine⟨g1,?_⟩;by_cases e:n=a
     ·subst e;rw[ab]at r2;cases r2;have ai:=(afG.1 r4).1;have ah:=ad.lines;refine⟨n,FF (G.Ad[n].Ae+1) G.c.lines,m,JC,r1,by simp[hn],r3,?_,r5,by simp[FF];omega,r7,r8,fun e=>?_⟩
      ·simp only[FF,afZ];rw[if_pos (by omega)]
      ·simp[FF]at e;omega
     ·refine⟨a,ca,m,x,r1,?_,r3,r4,r5,r6,r7,r8,r9⟩;rw[afV,afY,if_neg e];exact r2
    ·rcases ac j c' hj with ⟨rfl,rfl⟩|⟨_,q⟩
     ·rw[Es hl];exact Yt _ _ _ _ _ _
     ·exact h.ln j c' k l q hl
    ·rcases ac j c' hj with ⟨rfl,rfl⟩|⟨_,q⟩
     ·have:=h.lv j _ ab;simp[FF]at this ⊢;omega
     ·exact h.lv j c' q
end Go.Proofs.YtblomippkddgiabGreatDoor.R
