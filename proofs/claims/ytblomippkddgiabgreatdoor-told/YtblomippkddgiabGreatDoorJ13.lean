import Derived.Test.YtblomippkddgiabGreatDoorJ12
namespace Go.Proofs.YtblomippkddgiabGreatDoor.R
variable {M:Bk}{d:Cd}{k:Int}{a:List Sv}{rb:List UInt8}{l':Ln}{i n:Nat}{r:Sn}{s:Sv}{G G':Wd}
theorem OH{kind proc:Int}{x:ByteArray×ByteArray}(h:C6 kind proc=some x):proc=0\/proc=1:=by
 unfold C6 at h;split at h
 ·omega
 ·split at h
  ·omega
  ·split at h
   ·omega
   ·split at h
    ·omega
    ·split at h
     ·omega
     ·cases h
theorem YG(h:d.proc=0\/d.proc=1):256*((d.msg.getD 0 0).toNat:Int)+((d.msg.getD 1 0).toNat:Int)=d.proc/\d.msg.drop 2=d.bs:=by
 refine⟨?_,by simp[Cd.msg,A5]⟩;have h1:d.msg.getD 0 0=b8 (d.proc / 256):=by simp[Cd.msg,A5]
 have h2:d.msg.getD 1 0=b8 (d.proc % 256):=by simp[Cd.msg,A5]
 rw[h1,h2,Bj (by omega) (by omega),Bj (by omega) (by omega)];omega
structure OV(M:Bk)(G:Wd)(i:Nat)(r:Sn)(d:Cd)(n:Nat)(s:Sv)(rb:List UInt8):Prop where
 seen:G.seen[i]?=some r
 ne:r.seq≠0
 ok:GF M G.Ab ⟨((i / 3:Nat):Int),G.Aj.getD (i / 3) 0,((i % 3:Nat):Int),r.seq⟩ r d
 cd:L9 G.Ab d
 uid:d.uid=(n:Int)+1
 sv:G.Ab[n]?=some s
 alive:s.alive=true
 sig:C6 s.kind d.proc=some (d.from',d.to)
 byt:Ba d.to (Cu s.kind s.log d.proc d.arg)=some rb
 pos:1<=rb.length
theorem Inv.Tf(h:Inv M G)(hi:i<9)(h2:(AY G i).state=2):∃d n s rb,OV M G i (AY G i) d n s rb:=by
 have hr:=h.G8 hi;generalize AY G i=r at hr h2 ⊢;have af:=h.ws.sn i r hr;have ad:r.seq≠0:=fun e=>by
  rw[af.zero e]at h2;cases h2
 obtain⟨d,q⟩:=h.sn i r hr ad;obtain⟨q1,q2⟩:=q.open' (afM h2);have ac:=(h.bk _ d q.made).1;obtain⟨n,s,a1,a2,a3⟩:=Mf q1;have hk:Io G.Ab d.uid=s.kind:=by
  unfold Io;rw[show (d.uid-1).toNat=n by omega,a2];rfl
 have aa:=ac.sig;rw[hk]at aa;obtain⟨rb,b1,b2⟩:=aaB aa ac.bs (log:=s.log) (fun e he=>by
  obtain⟨d',ag,g1,g2,g3,g4,g5,g6⟩:=((h.lg n s a2).each e he).some;have ab:=(h.bk _ d' g1).1;have ae:Io G.Ab d'.uid=s.kind:=by
   rw[g2];unfold Io;rw[show ((n:Int)+1-1).toNat=n by omega,a2];rfl
  have:=ab.sig;rw[ae]at this;exact⟨d'.from',d'.to,d'.bs,by rw[g3];exact this,by rw[g4];exact ab.bs⟩)
 exact⟨d,n,s,rb,hr,ad,q,ac,a1,a2,a3,aa,b1,b2⟩
def BR(G:Wd)(i:Nat)(r:Sn)(d:Cd)(s:Sv):En:=⟨((i / 3:Nat):Int),G.Aj.getD (i / 3) 0,((i % 3:Nat):Int),r.seq,d.proc,d.arg,Cu s.kind s.log d.proc d.arg⟩
def Gn(G:Wd)(i:Nat)(r:Sn)(d:Cd)(n:Nat)(s:Sv)(rb:List UInt8):Wd:={G with Ab:=G.Ab.set n {s with log:=s.log++[BR G i r d s]},seen:=G.seen.set i {r with state:=3,result:=rb,at':=0}}
theorem OV.eq(h:OV M G i r d n s rb)(h2:r.state=2):Gm G i=Em (Gn G i r d n s rb) i:=by
 have hm:=h.ok.wait h2;have hu:(r.uid-1).toNat=n:=by rw[h.ok.uid,h.uid];omega
 obtain⟨m1,m2⟩:=YG (OH h.sig);unfold Gm;simp only;rw[Bn h.seen,hu,h.sv,hm];simp only[af2];rw[m1,h.sig,m2];simp only[af2];rw[FK h.cd.bs,h.byt,<-hm];rfl
theorem Inv.Gn(h:Inv M G)(hi:i<9)(hd:OV M G i r d n s rb)(h2:r.state=2):Inv M (Gn G i r d n s rb):=by
 have hn:=(afG.1 hd.sv).1;have al:=(afG.1 hd.seen).1;have ak:=h.ws.sn i r hd.seen;have ah:∀(u:Nat) (s':Sv),(G.Ab.set n {s with log:=s.log++[BR G i r d s]})[u]?=some s'->(u=n/\s'={s with log:=s.log++[BR G i r d s]})\/(u≠n/\G.Ab[u]?=some s'):=fun u s' hu=>by
  rw[afV]at hu;by_cases e:n=u
  ·rw[if_pos e]at hu;simp only[hn,if_true]at hu;exact afJ ⟨e.symm,(Option.some.inj hu).symm⟩
  ·rw[if_neg e]at hu;exact afM ⟨fun q=>e q.symm,hu⟩
 have ab:∀(j:Nat) (r':Sn),(G.seen.set i {r with state:=3,result:=rb,at':=0})[j]?=some r'->(j=i/\r'={r with state:=3,result:=rb,at':=0})\/(j≠i/\G.seen[j]?=some r'):=fun j r' hj=>by
  rw[afV]at hj;by_cases e:i=j
  ·rw[if_pos e]at hj;simp only[al,if_true]at hj;exact afJ ⟨e.symm,(Option.some.inj hj).symm⟩
  ·rw[if_neg e]at hj;exact afM ⟨fun q=>e q.symm,hj⟩
 have hg:Gr G.Ab (G.Ab.set n {s with log:=s.log++[BR G i r d s]}):=by
  refine⟨by simp,fun u x hx=>?_⟩;by_cases e:n=u
  ·subst e;rw[hd.sv]at hx;cases hx;exact⟨{s with log:=s.log++[BR G i r d s]},by simp[hn],rfl,[BR G i r d s],rfl⟩
  ·exact⟨x,by rw[afV,if_neg e];exact hx,rfl,[],by simp⟩
 have ac:Fs G.Ab d.uid=s.log:=by rw[hd.uid];exact J6 hd.sv
 have aa:Fs (G.Ab.set n {s with log:=s.log++[BR G i r d s]}) d.uid=s.log++[BR G i r d s]:=by
  rw[hd.uid];exact J6 (s:={s with log:=s.log++[BR G i r d s]}) (by simp[hn])
 have aj:=hd.ok.open' (afM h2);have ae:Bl (BR G i r d s)=⟨((i / 3:Nat):Int),G.Aj.getD (i / 3) 0,((i % 3:Nat):Int),r.seq⟩:=rfl;have ag:EW (G.Ab.set n {s with log:=s.log++[BR G i r d s]}) ⟨((i / 3:Nat):Int),G.Aj.getD (i / 3) 0,((i % 3:Nat):Int),r.seq⟩ d (BR G i r d s) rb:=⟨by rw[aa];simp,ae,hd.byt,hd.pos⟩;have ao:=GM hd.byt;have af:(G.Ab.set n {s with log:=s.log++[BR G i r d s]}).length=G.Ab.length:=by simp
 have ad:∀e:En,(Nx G.seen e.client e.line).seq<=(Nx (G.seen.set i {r with state:=3,result:=rb,at':=0}) e.client e.line).seq:=fun e=>by
  unfold Nx;rw[afV];by_cases e':i=3*e.client.toNat+e.line.toNat
  ·rw[<-e',hd.seen];simp[al]
  ·simp[e']
 refine⟨⟨h.wf.cf,h.wf.Gt,fun j c hc=>⟨(h.wf.cl j c hc).lines,(h.wf.cl j c hc).Ae,fun u hu=>by rw[show (R.Gn G i r d n s rb).Ab.length=G.Ab.length from af];exact(h.wf.cl j c hc).bound u hu,(h.wf.cl j c hc).line⟩,h.wf.E3,h.wf.Eo,by rw[show (R.Gn G i r d n s rb).Ab.length=G.Ab.length from af];exact h.wf.sv,fun x hx=>?_,h.wf.nm,h.wf.st,h.wf.nd,fun u hu=>by rw[show (R.Gn G i r d n s rb).Ab.length=G.Ab.length from af];exact h.wf.I5 u hu⟩,⟨h.ws.ll,h.ws.lv,by simpa [R.Gn] using h.ws.sl,fun j r' hj=>?_,h.ws.jl,h.ws.jb⟩,fun k x hx=>⟨(h.bk k x hx).1.grow hg,(h.bk k x hx).2⟩,fun j c k l hc hl=>(h.ln j c k l hc hl).grow (Le.refl M) hg (fun _ q=>q),fun f hf=>(h.fl f hf).grow (Le.refl M) hg,fun j r' hj am=>?_,fun u s' hs=>?_,fun u s' e hs ha he=>?_,h.jb,h.lv⟩
 ·rcases agc hx with q|q
  ·exact h.wf.Kh x q
  ·rw[q];exact h.wf.Kh s (afU hd.sv)
 ·rcases ab j r' hj with ⟨rfl,rfl⟩|⟨_,q⟩
  ·refine⟨fun e=>absurd e hd.ne,ak.seq,fun e=>⟨(ak.some e).1,(ak.some e).2.1,by simp⟩,by simp,by simp,fun _=>⟨hd.pos,by simp only;omega,by simp,by have:=De hd.pos;simp only;omega⟩,fun ht=>by have:=(ak.timed ht).1;omega⟩
  ·exact h.ws.sn j r' q
 ·rcases ab j r' hj with ⟨rfl,rfl⟩|⟨an,q⟩
  ·exact⟨d,hd.ok.made,hd.ok.uid,by simp,by simp,by simp,fun _=>⟨_,ag⟩⟩
  ·obtain⟨d',q'⟩:=h.sn j r' q am;refine⟨d',q'.made,q'.uid,q'.Ga,q'.wait,fun hs=>?_,fun hs=>?_⟩
   ·obtain⟨o1,o2⟩:=q'.open' hs;have ap:=(h.bk _ d' q'.made).1.uid;by_cases e:d'.uid=d.uid
    ·rw[e];refine⟨?_,?_⟩
     ·unfold DC;show (decide (1<=d.uid)&&((((G.Ab.set n {s with log:=s.log++[BR G i r d s]}))[(d.uid-1).toNat]?).map (·.alive)).getD false)=true;rw[show (d.uid-1).toNat=n by have:=hd.uid;omega];simp[hn,hd.alive];have:=hd.uid;omega
     ·show ∀e∈Fs (G.Ab.set n {s with log:=s.log++[BR G i r d s]}) d.uid,_;rw[aa];intro x hx;rcases agb.1 hx with hx|hx
      ·rw[e,ac]at o2;exact o2 x hx
      ·rw[af3.1 hx,ae];intro k;simp only[Key.mk.injEq]at k;omega
    ·have ai:¬n=(d'.uid-1).toNat:=by have:=hd.uid;omega
     have a1:DC (G.Ab.set n {s with log:=s.log++[BR G i r d s]}) d'.uid=DC G.Ab d'.uid:=by
      unfold DC;rw[afV,if_neg ai]
     have a2:Fs (G.Ab.set n {s with log:=s.log++[BR G i r d s]}) d'.uid=Fs G.Ab d'.uid:=by
      unfold Fs;rw[afV,if_neg ai]
     exact⟨a1.trans o1,by
      show ∀e∈Fs (G.Ab.set n {s with log:=s.log++[BR G i r d s]}) d'.uid,_;rw[a2];exact o2⟩
   ·obtain⟨e,he⟩:=q'.ans hs;exact⟨e,he.grow hg⟩
 ·rcases ah u s' hs with ⟨rfl,rfl⟩|⟨_,q⟩
  ·have hl:=h.lg u s hd.sv;refine⟨fun e he=>?_,?_,fun j e he=>?_⟩
   ·rcases agb.1 he with he|he
    ·exact hl.each e he
    ·rw[af3.1 he];exact⟨d,rb,by rw[ae];exact hd.ok.made,hd.uid,rfl,rfl,hd.byt,hd.pos⟩
   ·rw[List.pairwise_append];refine⟨hl.ord,by simp,fun a ha b hb=>?_⟩;rw[af3.1 hb];intro k1 k2 k3;have hf:=h.R9 u s a hd.sv hd.alive ha;have am:=aj.2 a (by rw[ac];exact ha);simp only[BR]at k1 k2 k3 ⊢;unfold Mb Nx at hf;rw[k1,k2,k3]at hf;simp only[afY]at hf;rw[show 3*(i / 3)+i % 3=i by omega,hd.seen]at hf;simp only[af2]at hf;have hs:a.seq≠r.seq:=fun e=>am (by simp[Bl,k1,k2,k3,e])
    omega
   ·simp only at he ⊢;rcases agy j s.log.length with hj|hj
    ·rw[af4 hj]at he;rw[agp (by omega)];exact hl.told j e he
    ·rw[agh hj]at he;cases hjn:j-s.log.length with
     |zero=>
      rw[hjn]at he;simp at he;have:j=s.log.length:=by omega
      subst this;rw[<-he];simp[BR]
     |succ m=>rw[hjn]at he;simp at he
  ·exact h.lg u s' q
 ·show Mb G.Aj (G.seen.set i {r with state:=3,result:=rb,at':=0}) e;rcases ah u s' hs with ⟨rfl,rfl⟩|⟨_,q⟩
  ·rcases agb.1 he with he|he
   ·rcases h.R9 u s e hd.sv hd.alive he with q|⟨q1,q2⟩
    ·exact afJ q
    ·exact afM ⟨q1,Int.le_trans q2 (ad e)⟩
   ·rw[af3.1 he];refine afM ⟨?_,?_⟩
    ·simp only[BR,afY]
    ·unfold Nx;simp only[BR,afY];rw[show 3*(i / 3)+i % 3=i by omega];simp[al]
  ·rcases h.R9 u s' e q ha he with q|⟨q1,q2⟩
   ·exact afJ q
   ·exact afM ⟨q1,Int.le_trans q2 (ad e)⟩
theorem Inv.done(h:Inv M G)(hi:i<9)(h2:(AY G i).state=2):Inv M (Gm G i):=by
 obtain⟨d,n,s,rb,hd⟩:=h.Tf hi h2;rw[hd.eq h2];have h3:=h.Gn hi hd h2;exact h3.tell hi (r:={AY G i with state:=3,result:=rb,at':=0}) (by simp[R.Gn,(afG.1 hd.seen).1]) rfl
theorem Inv.ZG:∀(js:List Jb) {G:Wd} (_:Inv M G) (_:∃a,G.jobs=a++js),Inv M (Br G js).2
 |[],G,h,_=>by
  simp only[Br];have ac:=h.wf.cf;unfold BD at ac;exact h.Ni (by simp;omega) (by simp)
 |j :: js,G,h,⟨a,ha⟩=>by
  simp only[Br];have aa:∀x∈j :: js,x∈G.jobs:=fun x hx=>by rw[ha];exact List.mem_append_right _ hx
  have ab:(js.length:Int)<=G.c.table:=by
   have:=h.ws.jl;rw[ha]at this;simp at this;omega
  split
  ·rename_i hw;have h1:=h.Ni (js:=js) ab (fun x hx=>⟨h.ws.jb x (aa x (agC _ hx)),h.jb x (aa x (agC _ hx))⟩);have hj:=h.ws.jb j (aa j (agQ));exact h1.done (by omega) hw.1
  ·exact Inv.ZG js h ⟨a++[j],by rw[ha];simp⟩
theorem Inv.BV(h:Inv M G):Inv M (BV G).2:=Inv.ZG G.jobs h ⟨[],rfl⟩
def cnt(l:List Sn):Nat:=(l.filter fun r=>decide (0<r.seq)).length
theorem D9(r:Sn)(l:List Sn):cnt (r :: l)=(if 0<r.seq then 1 else 0)+cnt l:=by
 unfold cnt;rw[List.filter_cons];by_cases h:0<r.seq
 ·simp[h];omega
 ·simp[h]
theorem MB:∀(l:List Sn) (i:Nat) (r':Sn),cnt (l.set i r')<=cnt l+1
 |[],i,r'=>by simp[cnt]
 |r :: l,0,r'=>by
  rw[afP,D9,D9];split<;>split<;>omega
 |r :: l,i+1,r'=>by
  rw[afQ,D9,D9];have:=MB l i r';omega
theorem JO:∀(l:List Sn) (i:Nat) (r r':Sn),l[i]?=some r->(0<r'.seq->0<r.seq)->cnt (l.set i r')<=cnt l
 |[],i,r,r',h,_=>by simp at h
 |x :: l,0,r,r',h,hs=>by
  simp at h;subst h;rw[afP,D9,D9];split
  ·rename_i q;rw[if_pos (hs q)];omega
  ·omega
 |x :: l,i+1,r,r',h,hs=>by
  rw[afQ,D9,D9];have:=JO l i r r' (by simpa using h) hs;omega
theorem Pd(G:Wd)(i:Nat)(r':Sn)(hs:0<r'.seq->0<(AY G i).seq):cnt (G.seen.set i r')<=cnt G.seen:=by
 cases h:G.seen[i]? with
 |none=>
  have:G.seen.set i r'=G.seen:=List.set_eq_of_length_le (by simpa using h);rw[this];exact afI _
 |some r=>
  rw[Bn h]at hs;exact JO _ _ r r' h hs
theorem aap(l:List Sn)(f:Sn->Sn)(hf:∀r,(f r).seq=r.seq):cnt (l.map f)=cnt l:=by
 induction l with
 |nil=>rfl
 |cons r l ih=>rw[agD,D9,D9,ih,hf]
def Room(G:Wd):Prop:=(cnt G.seen:Int)<=G.c.table
theorem Room.of(h:Room G)(hc:G'.c=G.c)(hs:cnt G'.seen<=cnt G.seen):Room G':=by
 unfold Room at *;rw[hc];omega
theorem Room.same(h:Room G)(hc:G'.c=G.c)(hs:G'.seen=G.seen):Room G':=h.of hc (by rw[hs];exact afI _)
theorem Room.send(h:Room G)(to:Int)(p:Pk):Room (Bg G to p):=h.same (Kc G to p) (G9 G to p)
theorem Room.line(h:Room G)(i k:Int)(l:Ln):Room (Am G i k l):=h.same rfl rfl
theorem Room.seen(h:Room G)(i:Nat)(r':Sn)(hs:0<r'.seq->0<(AY G i).seq):Room (AB G i r'):=h.of rfl (Pd G i r' hs)
theorem Room.OE(h:Room G)(i:Nat){r':Sn}(hs:r'.seq=(AY G i).seq):Room (AB G i r'):=h.seen i r' (fun q=>by rw[<-hs];exact q)
theorem Room.result(h:Room G)(i:Nat):Room (AL G i):=h.send _ _
theorem Room.tell(h:Room G)(i:Nat):Room (Em G i):=by
 unfold Em;simp only;exact Room.OE (h.result i) i rfl
theorem Room.Dx(h:Room G)(p:Pk)(a b c:Int):Room (C3 G p a b c):=h.send _ _
theorem Room.Si(h:Room G)(p:Pk):Room (IX G p):=by
 unfold IX;split
 ·exact h.Dx p _ _ _
 ·exact h
theorem Room.gather(h:Room G)(i:Nat)(p:Pk):Room (CL G i p):=by
 unfold CL;simp only;split
 ·split
  ·split
   ·exact h
   ·refine Room.Si ?_ p;exact(h.seen i {AY G i with state:=2,message:=(AY G i).message++p.body,pieces:=(AY G i).pieces+1} (fun q=>q)).same rfl rfl
  ·refine Room.Si ?_ p;exact Room.OE h i rfl
 ·exact h.Si p
theorem Room.known(h:Room G)(i:Nat)(p:Pk):Room (Dq G i p):=by
 unfold Dq;simp only;repeat' split
 ·exact h.gather i p
 ·exact h
 ·exact h.Dx p _ _ _
 ·exact h
 ·exact h.tell i
 ·exact h.Dx p _ _ _
 ·exact h.Dx p _ _ _
theorem Room.Aj(h:Room G)(p:Pk):Room (Dr G p):=by
 unfold Dr;split
 ·have z:∀K:Wd,Room K->∀i,Room (AB K i Cs):=fun K hK i=>hK.seen i Cs (fun q=>by simp[Cs]at q)
  exact(z _ (z _ (z _ h (3*p.client.toNat)) (3*p.client.toNat+1)) (3*p.client.toNat+2)).same rfl rfl
 ·exact h
theorem Room.ask(h:Room G)(i:Nat)(p:Pk)(h0:0<=(AY G i).seq):Room (JI G i p):=by
 unfold JI;simp only;repeat' split
 ·refine Room.tell ?_ i;exact Room.OE h i rfl
 ·exact h
 ·exact h.known i p
 ·exact h
 ·exact h.Dx p _ _ _
 ·exact h
 ·exact h.Dx p _ _ _
 ·rename_i hn;refine Room.known ?_ i p;by_cases hz:(AY G i).seq=0
  ·have aa:¬G.c.table<=(BZ G:Int):=fun q=>hn ⟨hz,q⟩
   have h2:BZ G=cnt G.seen:=rfl;rw[h2]at aa;refine Int.le_trans (Int.ofNat_le.2 (MB G.seen i _)) ?_;show ((cnt G.seen+1:Nat):Int)<=G.c.table;omega
  ·exact h.seen i _ (fun _=>by omega)
theorem Room.heard(h:Room G)(c:Int)(p:Pk):Room (Ee G c p):=by
 unfold Ee Dy ET I1 AA;simp only;repeat' split
 all_goals first
  |exact h
  |exact h.line _ _ _
  |exact h.send _ _
  |exact((h.line _ _ _).send _ _).line _ _ _
  |exact(h.line _ _ _).line _ _ _
theorem Room.Cr(h:Room G)(hI:Inv M G)(i:Int):Room (Bc G i).2:=by
 unfold Bc;split
 ·exact h
 ·split
  ·exact h
  ·rename_i f hf;have h1:Room {G with Ak:=G.Ak.eraseIdx i.toNat}:=h.same rfl rfl;simp only;split
   ·exact h1
   ·split
    ·exact h1
    ·rename_i p _;split
     ·unfold Er;split
      ·exact h1
      ·refine Room.ask (h1.Aj p) _ p ?_;have z:∀(K:Wd) (k:Nat),(∀r∈K.seen,0<=r.seq)->0<=(AY K k).seq:=fun K k hK=>by
        unfold AY;cases hk:K.seen[k]? with
        |none=>simp[Cs]
        |some r=>exact hK r (afU hk)
       have s0:∀r∈G.seen,0<=r.seq:=fun r hr=>by
        obtain⟨k,hk⟩:=agY.1 hr;exact(hI.ws.sn k r hk).seq.1
       refine z _ _ ?_;unfold Dr;split
       ·intro r hr;rcases agc hr with hr|rfl
        ·rcases agc hr with hr|rfl
         ·rcases agc hr with hr|rfl
          ·exact s0 r hr
          ·simp[Cs]
         ·simp[Cs]
        ·simp[Cs]
       ·exact s0
     ·exact h1.heard _ p
theorem Room.AJ(h:Room G)(i:Nat):Room (AJ G i):=by
 unfold R.AJ;simp only;repeat' split
 ·exact h
 ·exact Room.OE h i rfl
 ·exact Room.OE h i rfl
 ·refine Room.result ?_ i;exact Room.OE h i rfl
theorem Room.AU(h:Room G)(i k:Int):Room (AU G i k):=by
 unfold R.AU AA Fw;simp only;repeat' split
 all_goals first
  |exact h
  |exact h.line _ _ _
  |exact(h.line _ _ _).send _ _
theorem Room.fold{α:Type}(f:Wd->α->Wd)(hf:∀G a,Room G->Room (f G a)):∀(l:List α) (G:Wd),Room G->Room (l.foldl f G)
 |[],_,h=>h
 |a :: l,G,h=>Room.fold f hf l (f G a) (hf G a h)
theorem Room.tick(h:Room G):Room (IB G):=by
 unfold IB EG;refine Room.fold _ (fun K i hK=>hK.AJ i) _ _ ?_;refine Room.fold _ (fun K i hK=>?_) _ _ h;exact Room.fold _ (fun K k hK=>hK.AU _ _) _ _ hK
theorem Room.done(h:Room G)(i:Nat):Room (Gm G i):=by
 unfold Gm;simp only;refine Room.tell ?_ i;exact(h.seen i {AY G i with state:=3,result:=(Ba ((C6 ((G.Ab[((AY G i).uid-1).toNat]?).getD ⟨0,false,[]⟩).kind (256*(((AY G i).message.getD 0 0).toNat:Int)+(((AY G i).message.getD 1 0).toNat:Int))).getD (⟨#[]⟩,⟨#[]⟩)).2 (Cu ((G.Ab[((AY G i).uid-1).toNat]?).getD ⟨0,false,[]⟩).kind ((G.Ab[((AY G i).uid-1).toNat]?).getD ⟨0,false,[]⟩).log (256*(((AY G i).message.getD 0 0).toNat:Int)+(((AY G i).message.getD 1 0).toNat:Int)) (V.D5 ((C6 ((G.Ab[((AY G i).uid-1).toNat]?).getD ⟨0,false,[]⟩).kind (256*(((AY G i).message.getD 0 0).toNat:Int)+(((AY G i).message.getD 1 0).toNat:Int))).getD (⟨#[]⟩,⟨#[]⟩)).1 ((AY G i).message.drop 2)).2)).getD [],at':=0} (fun q=>q)).same rfl rfl
theorem Room.serve(h:Room G):Room (BV G).2:=by
 unfold BV;have:∀(l:List Jb),Room (Br G l).2:=fun l=>by
  induction l with
  |nil=>exact h.same rfl rfl
  |cons j l ih=>
   unfold Br;split
   ·exact Room.done (G:={G with jobs:=l}) (h.same rfl rfl) _
   ·exact ih
 exact this _
theorem Room.ends(h:Room G)(uid:Int):Room (Ch G uid):=by
 refine h.of rfl ?_;unfold Ch;simp only;rw[aap]
 ·exact afI _
 ·intro r;split<;>rfl
theorem Room.export(h:Room G)(name:List UInt8)(kind:Int):Room (Bd G name kind).2:=by
 unfold Bd;repeat' split
 all_goals first
  |exact h
  |exact h.same rfl rfl
  |exact(h.ends _).same rfl rfl
theorem Room.imports(h:Room G)(c:Int)(name:List UInt8):Room (E4 G c name).2:=by
 unfold E4;repeat' split
 all_goals first
  |exact h
  |exact h.same rfl rfl
theorem Room.call(h:Room G)(c l u p:Int)(arg:List It):Room (Cw G c l u p arg).2:=by
 unfold Cw AA;dsimp only;repeat' split
 all_goals first
  |exact h
  |exact(h.line _ _ _).send _ _
theorem Room.Gk(h:Room G)(hc:BD G.c)(aa:Int):Room (Bb G aa).2:=by
 unfold Bb;repeat' split
 ·unfold Room;have:cnt (List.replicate 9 Cs)=0:=by decide
  simp only[this];unfold BD at hc;omega
 ·exact h
 ·exact h
 ·exact h.same rfl rfl
theorem Room.drop(h:Room G)(i:Int):Room (Ej G i).2:=by
 unfold Ej;split
 ·exact h
 ·exact h.same rfl rfl
theorem Room.copy(h:Room G)(i:Int):Room (DG G i).2:=by
 unfold DG;repeat' split
 all_goals first
  |exact h
  |exact h.same rfl rfl
theorem Room.Ji(h:Room G)(i a b:Int):Room (Dt G i a b).2:=by
 unfold Dt;repeat' split
 all_goals first
  |exact h
  |exact h.same rfl rfl
theorem Room.new{c:Cf}(h:Wj c=some G):Room G:=by
 unfold Wj at h;split at h
 ·rename_i hc;cases h;unfold Room;have:cnt (List.replicate 9 Cs)=0:=by decide
  simp only[this];unfold BD at hc;omega
 ·cases h
structure Xt(a b:List Ln):Prop where
 len:b.length=a.length
 each:∀(k:Nat) (l':Ln),b[k]?=some l'->∃l,a[k]?=some l/\l'.seq=l.seq
structure R8(a b:List Cl):Prop where
 len:b.length=a.length
 each:∀(i:Nat) (c':Cl),b[i]?=some c'->∃c,a[i]?=some c/\c'.Ae=c.Ae/\c'.bound=c.bound/\Xt c.lines c'.lines
structure OX(a b:List Sv):Prop where
 len:b.length=a.length
 each:∀(u:Nat) (s':Sv),b[u]?=some s'->∃s,a[u]?=some s/\s'.kind=s.kind/\(s.alive=false->s'.alive=false/\s'.log=s.log)/\∃t,s'.log=s.log++t
structure Sm(G G':Wd):Prop where
 c:G'.c=G.c
 names:G'.names=G.names
 stands:G'.stands=G.stands
 sv:OX G.Ab G'.Ab
 cl:R8 G.Ad G'.Ad
theorem Xt.refl(a:List Ln):Xt a a:=⟨rfl,fun _ l h=>⟨l,h,rfl⟩⟩
theorem R8.refl(a:List Cl):R8 a a:=⟨rfl,fun _ c h=>⟨c,h,rfl,rfl,Xt.refl _⟩⟩
theorem OX.refl(a:List Sv):OX a a:=⟨rfl,fun _ s h=>⟨s,h,rfl,fun q=>⟨q,rfl⟩,[],by simp⟩⟩
theorem Sm.refl(G:Wd):Sm G G:=⟨rfl,rfl,rfl,OX.refl _,R8.refl _⟩
theorem Xt.trans{a b c:List Ln}(h:Xt a b)(k:Xt b c):Xt a c:=⟨k.len.trans h.len,fun i l hl=>by
 obtain⟨l1,h1,h2⟩:=k.each i l hl;obtain⟨l2,h3,h4⟩:=h.each i l1 h1;exact⟨l2,h3,h2.trans h4⟩⟩
theorem R8.trans{a b c:List Cl}(h:R8 a b)(k:R8 b c):R8 a c:=⟨k.len.trans h.len,fun i l hl=>by
 obtain⟨l1,h1,h2,h3,h4⟩:=k.each i l hl;obtain⟨l2,g1,g2,g3,g4⟩:=h.each i l1 h1;exact⟨l2,g1,h2.trans g2,h3.trans g3,g4.trans h4⟩⟩
theorem OX.trans{b c:List Sv}(h:OX a b)(k:OX b c):OX a c:=⟨k.len.trans h.len,fun i l hl=>by
 obtain⟨l1,h1,h2,h3,t1,h4⟩:=k.each i l hl;obtain⟨l2,g1,g2,g3,t2,g4⟩:=h.each i l1 h1;refine⟨l2,g1,h2.trans g2,fun q=>?_,t2++t1,by rw[h4,g4,agk]⟩;obtain⟨p1,p2⟩:=g3 q;obtain⟨p3,p4⟩:=h3 p1;exact⟨p3,p4.trans p2⟩⟩
theorem Sm.trans{a b c:Wd}(h:Sm a b)(k:Sm b c):Sm a c:=⟨k.c.trans h.c,k.names.trans h.names,k.stands.trans h.stands,h.sv.trans k.sv,h.cl.trans k.cl⟩
theorem Sm.send(G:Wd)(to:Int)(p:Pk):Sm G (Bg G to p):=by
 unfold Bg;split
 ·exact⟨rfl,rfl,rfl,OX.refl _,R8.refl _⟩
 ·exact Sm.refl G
theorem Xt.set{a:List Ln}{k:Nat}(h:∀l,a[k]?=some l->l'.seq=l.seq):Xt a (a.set k l'):=by
 refine⟨by simp,fun j l hl=>?_⟩;rw[afV]at hl;split at hl
 ·rename_i e;subst e;split at hl
  ·rename_i hk;cases hl;exact⟨_,afH hk,h _ (afH hk)⟩
  ·cases hl
 ·exact⟨l,hl,rfl⟩
theorem Ys{i:Int}{c:Cl}{l:Ln}(hc:G.Ad[i.toNat]?=some c)(hl:c.lines[k.toNat]?=some l):BH G i k=l:=by
 unfold BH;rw[hc];simp[hl]
theorem Sm.line{i:Int}(h:l'.seq=(BH G i k).seq):Sm G (Am G i k l'):=by
 refine⟨rfl,rfl,rfl,OX.refl _,⟨by simp[Am],fun j c' hj=>?_⟩⟩;unfold Am at hj;simp only[agm]at hj;cases hc:G.Ad[j]? with
 |none=>rw[hc]at hj;simp at hj
 |some c=>
  rw[hc]at hj;simp at hj;split at hj
  ·rename_i e;subst e;cases hj;exact⟨c,rfl,rfl,rfl,Xt.set (fun l hl=>by rw[h,Ys hc hl])⟩
  ·cases hj;exact⟨_,rfl,rfl,rfl,Xt.refl _⟩
theorem Sm.seen(G:Wd)(i:Nat)(r:Sn):Sm G (AB G i r):=⟨rfl,rfl,rfl,OX.refl _,R8.refl _⟩
theorem Sm.E3(G:Wd)(f:List Fl):Sm G {G with Ak:=f}:=⟨rfl,rfl,rfl,OX.refl _,R8.refl _⟩
theorem Sm.piece(G:Wd)(i k:Int)(b:Bool):Sm G (AA G i k b):=Sm.send _ _ _
theorem Sm.Ro(G:Wd)(i k:Int):Sm G (Fw G i k):=Sm.send _ _ _
theorem Sm.AU(G:Wd)(i k:Int):Sm G (AU G i k):=by
 unfold R.AU;simp only;split
 ·exact Sm.refl G
 ·split
  ·exact Sm.line rfl
  ·split
   ·exact Sm.line rfl
   ·split
    ·exact(Sm.line (G:=G) (i:=i) (k:=k) (l':={BH G i k with wait:=G.c.Ay,tries:=(BH G i k).tries-1}) rfl).trans (Sm.piece _ _ _ _)
    ·exact(Sm.line (G:=G) (i:=i) (k:=k) (l':={BH G i k with wait:=G.c.Ay,tries:=(BH G i k).tries-1}) rfl).trans (Sm.Ro _ _ _)
theorem Sm.fold{α:Type}(f:Wd->α->Wd)(hf:∀G a,Sm G (f G a)):∀(l:List α) (G:Wd),Sm G (l.foldl f G)
 |[],G=>Sm.refl G
 |a :: l,G=>(hf G a).trans (Sm.fold f hf l (f G a))
theorem Sm.DR(G:Wd)(i:Nat):Sm G (AL G i):=Sm.send _ _ _
theorem Sm.AJ(G:Wd)(i:Nat):Sm G (AJ G i):=by
 unfold R.AJ;simp only;split
 ·exact Sm.refl G
 ·split
  ·exact Sm.seen _ _ _
  ·split
   ·exact Sm.seen _ _ _
   ·exact(Sm.seen G i _).trans (Sm.DR _ _)
theorem Sm.tick(G:Wd):Sm G (IB G):=by
 unfold IB EG;refine Sm.trans (Sm.fold _ (fun G a=>?_) _ _) (Sm.fold _ (fun G a=>Sm.AJ G a) _ _);exact Sm.fold _ (fun G b=>Sm.AU G _ _) _ _
theorem Sm.rest(G:Wd)(i k:Int):Sm G (ET G i k):=Sm.line rfl
theorem Sm.got(G:Wd)(i:Int)(p:Pk):Sm G (I1 G i p):=Sm.send _ _ _
theorem Sm.result(G:Wd)(i:Int)(p:Pk):Sm G (Dy G i p):=by
 unfold Dy;simp only;split
 ·exact Sm.refl G
 ·split
  ·split
   ·exact Sm.line rfl
   ·exact((Sm.line (G:=G) (i:=i) (k:=p.line) (l':={BH G i p.line with came:=(BH G i p.line).came++p.body,pieces:=(BH G i p.line).pieces+1,Ao:=Ag (BH G i p.line).message}) rfl).trans (Sm.got _ _ _)).trans (Sm.rest _ _ _)
  ·exact Sm.got _ _ _
theorem Sm.heard(G:Wd)(i:Int)(p:Pk):Sm G (Ee G i p):=by
 unfold Ee;simp only;split
 ·exact Sm.refl G
 ·split
  ·split
   ·refine Sm.trans (Sm.line (G:=G) (i:=i) (k:=p.line) (l':={BH G i p.line with Ao:=(BH G i p.line).Ao+1}) rfl) ?_;split
    ·exact(Sm.piece _ _ _ _).trans (Sm.rest _ _ _)
    ·exact Sm.rest _ _ _
   ·exact Sm.refl G
  ·split
   ·exact Sm.rest _ _ _
   ·split
    ·exact Sm.result _ _ _
    ·split
     ·exact Sm.line rfl
     ·exact Sm.refl G
theorem Sm.Dx(G:Wd)(p:Pk)(a b c:Int):Sm G (C3 G p a b c):=Sm.send _ _ _
theorem Sm.tell(G:Wd)(i:Nat):Sm G (Em G i):=by
 unfold Em;exact(Sm.DR G i).trans (Sm.seen _ _ _)
theorem Sm.Si(G:Wd)(p:Pk):Sm G (IX G p):=by
 unfold IX;split
 ·exact Sm.Dx _ _ _ _ _
 ·exact Sm.refl G
theorem Sm.gather(G:Wd)(i:Nat)(p:Pk):Sm G (CL G i p):=by
 unfold CL;simp only;split
 ·split
  ·split
   ·exact Sm.refl G
   ·refine Sm.trans ?_ (Sm.Si _ _);exact⟨rfl,rfl,rfl,OX.refl _,R8.refl _⟩
  ·exact(Sm.seen G i _).trans (Sm.Si _ _)
 ·exact Sm.Si _ _
theorem Sm.known(G:Wd)(i:Nat)(p:Pk):Sm G (Dq G i p):=by
 unfold Dq;simp only;split
 ·split
  ·exact Sm.gather _ _ _
  ·exact Sm.refl G
 ·split
  ·exact Sm.Dx _ _ _ _ _
  ·split
   ·exact Sm.refl G
   ·split
    ·exact Sm.tell _ _
    ·split
     ·exact Sm.Dx _ _ _ _ _
     ·exact Sm.Dx _ _ _ _ _
theorem Sm.Aj(G:Wd)(p:Pk):Sm G (Dr G p):=by
 unfold Dr;split
 ·exact⟨rfl,rfl,rfl,OX.refl _,R8.refl _⟩
 ·exact Sm.refl G
theorem Sm.ask(G:Wd)(i:Nat)(p:Pk):Sm G (JI G i p):=by
 unfold JI;simp only;split
 ·split
  ·exact(Sm.seen G i _).trans (Sm.tell _ _)
  ·exact Sm.refl G
 ·split
  ·exact Sm.known _ _ _
  ·split
   ·exact Sm.refl G
   ·split
    ·exact Sm.Dx _ _ _ _ _
    ·split
     ·exact Sm.refl G
     ·split
      ·exact Sm.Dx _ _ _ _ _
      ·exact(Sm.seen G i _).trans (Sm.known _ _ _)
theorem Sm.asked(G:Wd)(p:Pk):Sm G (Er G p):=by
 unfold Er;split
 ·exact Sm.refl G
 ·exact(Sm.Aj G p).trans (Sm.ask _ _ _)
theorem Sm.Cr(G:Wd)(i:Int):Sm G (Bc G i).2:=by
 unfold Bc;split
 ·exact Sm.refl G
 ·split
  ·exact Sm.refl G
  ·simp only;refine Sm.trans (Sm.E3 G (G.Ak.eraseIdx i.toNat)) ?_;split
   ·exact Sm.refl _
   ·split
    ·exact Sm.refl _
    ·split
     ·exact Sm.asked _ _
     ·exact Sm.heard _ _ _
theorem Sm.drop(G:Wd)(i:Int):Sm G (Ej G i).2:=by
 unfold Ej;split
 ·exact Sm.refl G
 ·exact Sm.E3 G _
theorem Sm.copy(G:Wd)(i:Int):Sm G (DG G i).2:=by
 unfold DG;split
 ·exact Sm.refl G
 ·split
  ·exact Sm.refl G
  ·split
   ·exact Sm.refl G
   ·exact Sm.E3 G _
theorem Sm.Ji(G:Wd)(i a b:Int):Sm G (Dt G i a b).2:=by
 unfold Dt;split
 ·exact Sm.refl G
 ·split
  ·exact Sm.refl G
  ·split
   ·exact Sm.refl G
   ·split
    ·exact Sm.refl G
    ·exact Sm.E3 G _
theorem OX.done(hs:a[n]?=some s)(aa:s.alive=true)(e:En):OX a (a.set n {s with log:=s.log++[e]}):=by
 refine⟨by simp,fun u s' hu=>?_⟩;rw[afV]at hu;split at hu
 ·rename_i q;subst q;split at hu
  ·cases hu;exact⟨s,hs,rfl,(fun q=>by rw[aa]at q;cases q),[e],rfl⟩
  ·cases hu
 ·exact⟨s',hu,rfl,fun q=>⟨q,rfl⟩,[],by simp⟩
theorem Sm.done(h:Inv M G)(hi:i<9)(h2:(AY G i).state=2):Sm G (Gm G i):=by
 obtain⟨d,n,s,rb,hd⟩:=h.Tf hi h2;rw[hd.eq h2];refine Sm.trans ?_ (Sm.tell _ _);unfold Gn;exact⟨rfl,rfl,rfl,OX.done hd.sv hd.alive _,R8.refl _⟩
theorem Sm.Br:∀(js:List Jb) {G:Wd} (_:Inv M G) (_:∃a,G.jobs=a++js),Sm G (Br G js).2
 |[],G,_,_=>by
  unfold R.Br;exact⟨rfl,rfl,rfl,OX.refl _,R8.refl _⟩
 |j :: js,G,h,⟨a,ha⟩=>by
  unfold R.Br;split
  ·rename_i hw;unfold FC at hw;have aa:j∈G.jobs:=by rw[ha];simp
   have hb:=h.ws.jb j aa;refine Sm.trans (b:={G with jobs:=js}) ⟨rfl,rfl,rfl,OX.refl _,R8.refl _⟩ ?_;have hI:Inv M {G with jobs:=js}:=h.Ni (by
    have:=h.ws.jl;rw[ha]at this;simp at this;omega) (fun q hq=>⟨h.ws.jb q (by rw[ha];simp[hq]),h.jb q (by rw[ha];simp[hq])⟩)
   exact Sm.done hI (by omega) hw.1
  ·exact Sm.Br js h ⟨a++[j],by rw[ha];simp⟩
theorem Sm.serve(h:Inv M G):Sm G (BV G).2:=Sm.Br G.jobs h ⟨[],rfl⟩
end Go.Proofs.YtblomippkddgiabGreatDoor.R
