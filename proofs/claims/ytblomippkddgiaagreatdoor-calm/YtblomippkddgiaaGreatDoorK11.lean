import Derived.Test.YtblomippkddgiaaGreatDoorK10
namespace Go.Proofs.YtblomippkddgiaaGreatDoor.R
theorem MS{G:Wd}{name:List UInt8}{k:Nat}(h:Dg G name=some k):G.names[k]?=some name:=by
 unfold Dg at h;rw[List.findIdx?_eq_some_iff_getElem]at h;obtain⟨hl,e,_⟩:=h;rw[List.getElem?_eq_getElem hl];simpa using e
theorem Up{G:Wd}{name:List UInt8}(h:Dg G name=none):name ∉ G.names:=by
 unfold Dg at h;rw[List.findIdx?_eq_none_iff]at h;intro hm;simpa using h name hm
theorem Wf.ends{G:Wd}(h:Wf G)(uid:Int):Wf (Ez G uid):=by
 refine⟨h.cf,h.KF,fun i c hc=>?_,h.Ih,h.Hf,by simpa [Ez] using h.sv,fun s hs=>?_,h.nm,h.st,h.nd,fun u hu=>?_⟩
 ·have q:=h.cl i c hc;exact⟨q.lines,q.Ag,fun u hu=>by simpa [Ez] using q.bound u hu,q.line⟩
 ·obtain⟨j,hj⟩:=List.mem_iff_getElem?.1 hs;simp only[Ez,List.getElem?_modify]at hj;cases hg:G.Ac[j]? with
  |none=>rw[hg]at hj;cases hj
  |some s0=>
   rw[hg]at hj;have hk:=h.MA s0 (List.mem_of_getElem? hg);have hj':=Option.some.inj hj;rw[<-hj'];split<;>exact hk
 ·simpa [Ez] using h.Ma u hu
theorem Wf.serve{G:Wd}(h:Wf G){kind:Int}(hk:0<=kind/\kind<=2)(hs:G.Ac.length<255){nm:List (List UInt8)}{st:List Int}(h6:nm.length<=6)(hst:st.length=nm.length)(hnd:nm.Nodup)(hsts:∀u∈st,1<=u/\u<=(G.Ac.length:Int)+1):Wf {G with names:=nm,stands:=st,Ac:=G.Ac++[⟨kind,true,[]⟩]}:=by
 refine⟨h.cf,h.KF,fun i c hc=>?_,h.Ih,h.Hf,by simp only[List.length_append,List.length_singleton];omega,fun s hs'=>?_,h6,hst,hnd,fun u hu=>?_⟩
 ·have q:=h.cl i c hc;refine⟨q.lines,q.Ag,fun u hu=>?_,q.line⟩;have:=q.bound u hu;simp only[List.length_append,List.length_singleton];omega
 ·rcases List.mem_append.1 hs' with q|q
  ·exact h.MA s q
  ·rw[List.mem_singleton.1 q];exact hk
 ·have:=hsts u hu;simp only[List.length_append,List.length_singleton];omega
theorem Wf.export{G:Wd}(h:Wf G)(name:List UInt8)(kind:Int):Wf (Fj G name kind).2:=by
 unfold Fj;split
 ·exact h
 ·split
  ·exact h
  ·rename_i hk;split
   ·rename_i he;split
    ·exact h
    ·split
     ·exact h
     ·rename_i h6 hs;have h6':=h.nm;have hs':=h.sv;refine h.serve (by omega) (by omega) (by simp only[List.length_append,List.length_singleton];omega) (by simp[h.st]) ?_ (fun u hu=>?_)
      ·rw[List.nodup_append];refine⟨h.nd,by simp,fun a ha b hb=>?_⟩;rw[List.mem_singleton.1 hb];intro e;exact Up he (e ▸ ha)
      ·rcases List.mem_append.1 hu with q|q
       ·have:=h.Ma u q;omega
       ·rw[List.mem_singleton.1 q];omega
   ·rename_i k he;split
    ·exact h
    ·rename_i hs;have hs':=h.sv;have hE:=h.ends (G.stands.getD k 0);have hl:(Ez G (G.stands.getD k 0)).Ac.length=G.Ac.length:=by simp[Ez]
     have:=hE.serve (kind:=kind) (nm:=G.names) (st:=G.stands.set k ((G.Ac.length:Int)+1)) (by omega) (by rw[hl];omega) h.nm (by rw[List.length_set];exact h.st) h.nd (fun u hu=>by
      rw[hl];rcases List.mem_or_eq_of_mem_set hu with q|q
      ·have:=h.Ma u q;omega
      ·rw[q];omega)
     exact this
theorem Wf.imports{G:Wd}(h:Wf G)(client:Int)(name:List UInt8):Wf (EQ G client name).2:=by
 unfold EQ;split
 ·exact h
 ·split
  ·exact h
  ·rename_i k he;refine⟨h.cf,by simpa using h.KF,fun i c hc=>?_,h.Ih,h.Hf,h.sv,h.MA,h.nm,h.st,h.nd,h.Ma⟩;simp only[List.getElem?_modify]at hc;cases hg:G.Ad[i]? with
   |none=>rw[hg]at hc;cases hc
   |some c0=>
    rw[hg]at hc;have q:=h.cl i c0 hg;have hc':=Option.some.inj hc;rw[<-hc'];split
    ·refine⟨q.lines,q.Ag,fun u hu=>?_,q.line⟩;rcases List.mem_append.1 hu with r|r
     ·exact q.bound u r
     ·rw[List.mem_singleton.1 r];have hk:=(List.getElem?_eq_some_iff.1 (MS he)).1;have hk2:k<G.stands.length:=by rw[h.st];exact hk
      have:G.stands.getD k 0∈G.stands:=by
       rw[List.getD_eq_getElem?_getD,List.getElem?_eq_getElem hk2];exact List.getElem_mem hk2
      exact h.Ma _ this
    ·exact⟨q.lines,q.Ag,q.bound,q.line⟩
structure Key where
 client:Int
 Ag:Int
 line:Int
 seq:Int
 deriving DecidableEq
structure Cd where
 uid:Int
 proc:Int
 arg:List It
 from':ByteArray
 to:ByteArray
 bs:List UInt8
abbrev Bk:=Key->Option Cd
def Cd.msg(d:Cd):List UInt8:=AX d.proc++d.bs
def DZ(p:Pk):Key:=⟨p.client,p.Ag,p.line,p.seq⟩
def CX(e:En):Key:=⟨e.client,e.Ag,e.line,e.seq⟩
def FU(sv:List Sv)(u:Int):Int:=((sv[(u-1).toNat]?).map (·.kind)).getD 0
def EK(sv:List Sv)(u:Int):List En:=((sv[(u-1).toNat]?).map (·.log)).getD []
def Dp(sv:List Sv)(u:Int):Bool:=decide (1<=u)&&((sv[(u-1).toNat]?).map (·.alive)).getD false
structure KJ(sv:List Sv)(d:Cd):Prop where
 uid:1<=d.uid/\d.uid<=(sv.length:Int)
 sig:CO (FU sv d.uid) d.proc=some (d.from',d.to)
 bs:AV d.from' d.arg=some d.bs
structure EH(sv:List Sv)(k:Key)(d:Cd)(e:En)(rb:List UInt8):Prop where
 mem:e∈EK sv d.uid
 key:CX e=k
 bytes:AV d.to e.result=some rb
 pos:1<=rb.length
def Nt(M:Bk)(sv:List Sv)(to:Int)(p:Pk):Prop:=∃d,M (DZ p)=some d/\p.uid=d.uid /\
 ((p.kind=1/\to=-1/\p.off=Ae d.msg/\p.body=Bb d.msg p.part) \/
  (p.kind=2/\to=p.client/\p.off=Ae d.msg) \/
  (p.kind=3/\to=-1) \/
  (p.kind=4/\to=p.client) \/
  (p.kind=5/\to=p.client/\∃e rb,EH sv (DZ p) d e rb/\p.off=Ae rb/\p.body=Bb rb p.part) \/
  (p.kind=6/\to=-1) \/
  (p.kind=7/\to=p.client/\p.off=2))
def Ns(M:Bk)(sv:List Sv)(f:Fl):Prop:=if f.VS=true then Dk f.s=none else ∃p,AJ p/\f.s=CB p/\Nt M sv f.to p
structure D9(M:Bk)(sv:List Sv)(i:Nat)(Ag:Int)(bound:List Int)(k:Nat)(l:Ln):Prop where
 idle:l.state=0↔l.seq=0
 made:1<=l.seq->∃d,M ⟨i,Ag,k,l.seq⟩=some d
 way:l.state=1->∃d,M ⟨i,Ag,k,l.seq⟩=some d/\l.uid=d.uid/\l.message=d.msg/\l.to=d.to/\d.uid∈bound/\(0<=l.pieces/\(l.came.length:Int)=8*l.pieces)/\(0<l.pieces->∃e rb,EH sv ⟨i,Ag,k,l.seq⟩ d e rb/\l.came=rb.take (8*l.pieces.toNat)/\8*l.pieces<(rb.length:Int))
 done:l.state=2->∃d e rb,M ⟨i,Ag,k,l.seq⟩=some d/\EH sv ⟨i,Ag,k,l.seq⟩ d e rb/\l.result=e.result
 none:l.state≠2->l.result=[]
structure Gf(M:Bk)(sv:List Sv)(k:Key)(r:Sn)(d:Cd):Prop where
 made:M k=some d
 uid:r.uid=d.uid
 IV:r.state=1->r.message=d.msg.take (8*r.pieces.toNat)/\8*r.pieces<(d.msg.length:Int)
 wait:r.state=2->r.message=d.msg
 open':r.state=1\/r.state=2->Dp sv d.uid=true/\∀e∈EK sv d.uid,CX e≠k
 ans:r.state=3->∃e,EH sv k d e r.result
structure YC(M:Bk)(u:Int)(e:En):Prop where
 some:∃d rb,M (CX e)=some d/\d.uid=u/\e.proc=d.proc/\e.arg=d.arg/\AV d.to e.result=.some rb/\1<=rb.length
def Told(kind:Int)(l:List En):Prop:=∀i e,l[i]?=some e->e.result=Cs kind (l.take i) e.proc e.arg
def Before(a b:En):Prop:=a.client=b.client->a.Ag=b.Ag->a.line=b.line->a.seq<b.seq
structure SZ(M:Bk)(u:Int)(s:Sv):Prop where
 each:∀e∈s.log,YC M u e
 ord:s.log.Pairwise Before
 told:Told s.kind s.log
def LZ(seen:List Sn)(client line:Int):Sn:=(seen[3*client.toNat+line.toNat]?).getD De
def KL(Ai:List Int)(seen:List Sn)(e:En):Prop:=e.Ag<Ai.getD e.client.toNat 0\/(e.Ag=Ai.getD e.client.toNat 0/\e.seq<=(LZ seen e.client e.line).seq)
def InR(cl:List Cl)(k:Key):Prop:=∃(i:Nat) (c:Cl) (n:Nat) (l:Ln),k.client=i/\cl[i]?=some c/\k.line=n/\c.lines[n]?=some l/\1<=k.Ag/\k.Ag<=c.Ag/\1<=k.seq/\k.seq<=999/\(k.Ag=c.Ag->k.seq<=l.seq)
structure Oy(Ag:Int)(r:Sn):Prop where
 zero:r.seq=0->r=De
 seq:0<=r.seq/\r.seq<=999
 some:r.seq≠0->1<=Ag/\(1<=r.uid/\r.uid<=255)/\(1<=r.state/\r.state<=4)
 IV:r.state=1->(r.message.length:Int)=8*r.pieces/\0<=r.pieces/\r.pieces<=8
 wait:r.state=2->2<=r.message.length/\r.message.length<=72
 ans:r.state=3->1<=r.result.length/\r.result.length<=72/\0<=r.at'/\r.at'<Ae r.result
 timed:r.timed=true->r.state=3/\(1<=r.wait/\r.wait<=8)/\(0<=r.tries/\r.tries<=6)
structure KQ(c:Cf)(Ai:List Int)(seen:List Sn)(jobs:List Jb):Prop where
 ll:Ai.length=3
 lv:∀x∈Ai,0<=x/\x<=255
 sl:seen.length=9
 sn:∀i r,seen[i]?=some r->Oy (Ai.getD (i / 3) 0) r
 jl:(jobs.length:Int)<=c.table
 jb:∀j∈jobs,(0<=j.client/\j.client<=2)/\(0<=j.line/\j.line<=2)
structure Inv(M:Bk)(G:Wd):Prop where
 wf:Wf G
 ws:KQ G.c G.Ai G.seen G.jobs
 bk:∀k d,M k=some d->KJ G.Ac d/\InR G.Ad k
 ln:∀(i:Nat) (c:Cl) (k:Nat) (l:Ln),G.Ad[i]?=some c->c.lines[k]?=some l->D9 M G.Ac i c.Ag c.bound k l
 fl:∀f∈G.Ao,Ns M G.Ac f
 sn:∀(i:Nat) (r:Sn),G.seen[i]?=some r->r.seq≠0->∃d,Gf M G.Ac ⟨((i / 3:Nat):Int),G.Ai.getD (i / 3) 0,((i % 3:Nat):Int),r.seq⟩ r d
 lg:∀(u:Nat) (s:Sv),G.Ac[u]?=some s->SZ M ((u:Int)+1) s
 Rq:∀(u:Nat) (s:Sv) (e:En),G.Ac[u]?=some s->s.alive=true->e∈s.log->KL G.Ai G.seen e
 jb:∀j∈G.jobs,∃d,M ⟨j.client,j.Ag,j.line,j.seq⟩=some d/\j.uid=d.uid
 lv:∀(i:Nat) (c:Cl),G.Ad[i]?=some c->G.Ai.getD i 0<=c.Ag
structure Gr(a b:List Sv):Prop where
 len:a.length<=b.length
 each:∀(u:Nat) (s:Sv),a[u]?=some s->∃s',b[u]?=some s'/\s'.kind=s.kind/\∃t,s'.log=s.log++t
theorem Gr.refl(a:List Sv):Gr a a:=⟨Nat.le_refl _,fun u s h=>⟨s,h,rfl,[],by simp⟩⟩
theorem Gr.kind{a b:List Sv}(h:Gr a b){u:Int}(hu:1<=u/\u<=(a.length:Int)):FU b u=FU a u:=by
 have hlt:(u-1).toNat<a.length:=by omega
 obtain⟨s',h1,h2,_⟩:=h.each _ _ (List.getElem?_eq_getElem hlt);unfold FU;rw[h1,List.getElem?_eq_getElem hlt];simp[h2]
theorem Gr.log{a b:List Sv}(h:Gr a b){u:Int}{e:En}(he:e∈EK a u):e∈EK b u:=by
 unfold EK at he ⊢;cases ha:a[(u-1).toNat]? with
 |none=>rw[ha]at he;simp at he
 |some s=>
  rw[ha]at he;obtain⟨s',h1,_,t,h3⟩:=h.each _ _ ha;rw[h1];simp at he ⊢;rw[h3];exact List.mem_append_left _ he
theorem KJ.grow{a b:List Sv}(h:Gr a b){d:Cd}(hd:KJ a d):KJ b d:=by
 have:=h.len;have hu:=hd.uid;exact⟨by omega,by rw[h.kind hu];exact hd.sig,hd.bs⟩
theorem EH.grow{a b:List Sv}(h:Gr a b){k:Key}{d:Cd}{e:En}{rb:List UInt8}(hd:EH a k d e rb):EH b k d e rb:=⟨h.log hd.mem,hd.key,hd.bytes,hd.pos⟩
def Le(M N:Bk):Prop:=∀k d,M k=some d->N k=some d
theorem Le.refl(M:Bk):Le M M:=fun _ _ h=>h
theorem Nt.grow{M N:Bk}(hM:Le M N){a b:List Sv}(h:Gr a b){to:Int}{p:Pk}(hp:Nt M a to p):Nt N b to p:=by
 obtain⟨d,h1,h2,h3⟩:=hp;refine⟨d,hM _ _ h1,h2,?_⟩;rcases h3 with q|q|q|q|⟨q1,q2,e,rb,q3,q4⟩|q|q
 ·exact Or.inl q
 ·exact Or.inr (Or.inl q)
 ·exact Or.inr (Or.inr (Or.inl q))
 ·exact Or.inr (Or.inr (Or.inr (Or.inl q)))
 ·exact Or.inr (Or.inr (Or.inr (Or.inr (Or.inl ⟨q1,q2,e,rb,q3.grow h,q4⟩))))
 ·exact Or.inr (Or.inr (Or.inr (Or.inr (Or.inr (Or.inl q)))))
 ·exact Or.inr (Or.inr (Or.inr (Or.inr (Or.inr (Or.inr q)))))
theorem Ns.grow{M N:Bk}(hM:Le M N){a b:List Sv}(h:Gr a b){f:Fl}(hp:Ns M a f):Ns N b f:=by
 unfold Ns at hp ⊢;split
 ·rename_i hb;rw[if_pos hb]at hp;exact hp
 ·rename_i hb;rw[if_neg hb]at hp;obtain⟨p,h1,h2,h3⟩:=hp;exact⟨p,h1,h2,h3.grow hM h⟩
theorem D9.grow{M N:Bk}(hM:Le M N){a b:List Sv}(h:Gr a b){i k:Nat}{Ag:Int}{bound bound':List Int}(hb:∀u∈bound,u∈bound'){l:Ln}(hl:D9 M a i Ag bound k l):D9 N b i Ag bound' k l:=by
 refine⟨hl.idle,fun h1=>?_,fun h1=>?_,fun h1=>?_,hl.none⟩
 ·obtain⟨d,hd⟩:=hl.made h1;exact⟨d,hM _ _ hd⟩
 ·obtain⟨d,q1,q2,q3,q4,q5,q6,q7⟩:=hl.way h1;refine⟨d,hM _ _ q1,q2,q3,q4,hb _ q5,q6,fun hp=>?_⟩;obtain⟨e,rb,r1,r2⟩:=q7 hp;exact⟨e,rb,r1.grow h,r2⟩
 ·obtain⟨d,e,rb,q1,q2,q3⟩:=hl.done h1;exact⟨d,e,rb,hM _ _ q1,q2.grow h,q3⟩
theorem YC.grow{M N:Bk}(hM:Le M N){u:Int}{e:En}(h:YC M u e):YC N u e:=by
 obtain⟨d,rb,h1,h2⟩:=h.some;exact⟨d,rb,hM _ _ h1,h2⟩
theorem SZ.grow{M N:Bk}(hM:Le M N){u:Int}{s:Sv}(h:SZ M u s):SZ N u s:=⟨fun e he=>(h.each e he).grow hM,h.ord,h.told⟩
theorem Gf.grow{M N:Bk}(hM:Le M N){a:List Sv}{k:Key}{r:Sn}{d:Cd}(h:Gf M a k r d):Gf N a k r d:=⟨hM _ _ h.made,h.uid,h.IV,h.wait,h.open',h.ans⟩
theorem PY{l:List En}(h:l.Pairwise Before){a b:En}(ha:a∈l)(hb:b∈l)(e:CX a=CX b):a=b:=by
 induction l with
 |nil=>cases ha
 |cons x l ih=>
  rw[List.pairwise_cons]at h;have key:∀{y z:En},CX y=CX z->y.client=z.client/\y.Ag=z.Ag/\y.line=z.line/\y.seq=z.seq:=fun e=>by
   simp only[CX,Key.mk.injEq]at e;exact e
  rcases List.mem_cons.1 ha with rfl|ha'
  ·rcases List.mem_cons.1 hb with rfl|hb'
   ·rfl
   ·obtain⟨k1,k2,k3,k4⟩:=key e;have:=h.1 b hb' k1 k2 k3;omega
  ·rcases List.mem_cons.1 hb with rfl|hb'
   ·obtain⟨k1,k2,k3,k4⟩:=key e;have:=h.1 a ha' k1.symm k2.symm k3.symm;omega
   ·exact ih h.2 ha' hb'
theorem Zl{sv:List Sv}{u:Int}{e:En}(h:e∈EK sv u)(hu:1<=u):∃(n:Nat) (s:Sv),u=(n:Int)+1/\sv[n]?=some s/\e∈s.log:=by
 unfold EK at h;cases ha:sv[(u-1).toNat]? with
 |none=>rw[ha]at h;simp at h
 |some s=>
  rw[ha]at h;exact⟨(u-1).toNat,s,by omega,ha,by simpa using h⟩
theorem Ju{sv:List Sv}{n:Nat}{s:Sv}(h:sv[n]?=some s):EK sv ((n:Int)+1)=s.log:=by
 simp[EK,h]
theorem Inv.unique{M:Bk}{G:Wd}(h:Inv M G){k:Key}{d:Cd}(hd:M k=some d){e e':En}{rb rb':List UInt8}(h1:EH G.Ac k d e rb)(h2:EH G.Ac k d e' rb'):e'=e/\rb'=rb:=by
 obtain⟨n,s,q1,q2,q3⟩:=Zl h1.mem (h.bk k d hd).1.uid.1;have h2m:=h2.mem;rw[q1,Ju q2]at h2m;have he:=PY (h.lg n s q2).ord h2m q3 (by rw[h1.key,h2.key]);subst he;refine⟨rfl,?_⟩;have b1:=h1.bytes;have b2:=h2.bytes;rw[b1]at b2;exact(Option.some.inj b2).symm
theorem Gk{t:ByteArray}{v:List It}{bs:List UInt8}(h:AV t v=some bs):bs.length<=70:=by
 unfold AV at h;split at h
 ·rename_i h0;cases h;exact V.Gv h0
 ·cases h
theorem Fi{t:ByteArray}{v:List It}{bs:List UInt8}(h:AV t v=some bs):V.D3 t bs=(0,v):=by
 unfold AV at h;split at h
 ·rename_i h0;cases h;exact V.SI h0
 ·cases h
theorem KE{sv:List Sv}{d:Cd}(h:KJ sv d):2<=d.msg.length/\d.msg.length<=72:=by
 have:=Gk h.bs;simp[Cd.msg,AX];omega
theorem Inv.AU{M:Bk}{G:Wd}(h:Inv M G){to:Int}{p:Pk}(hr:AJ p)(hp:Nt M G.Ac to p):Inv M (AU G to p):=by
 have hw:=h.wf.AU (to:=to) hr;unfold R.AU at hw ⊢;split
 ·rename_i hl;rw[if_pos hl]at hw;refine⟨hw,h.ws,h.bk,h.ln,fun f hf=>?_,h.sn,h.lg,h.Rq,h.jb,h.lv⟩;rcases List.mem_append.1 hf with q|q
  ·exact h.fl f q
  ·simp only[List.mem_singleton]at q;subst q;unfold Ns;rw[if_neg (by simp)];exact⟨p,hr,rfl,hp⟩
 ·exact h
theorem Inv.Ih{M:Bk}{G:Wd}(h:Inv M G){fl:List Fl}(hw:Wf {G with Ao:=fl})(hf:∀f∈fl,Ns M G.Ac f):Inv M {G with Ao:=fl}:=⟨hw,h.ws,h.bk,h.ln,hf,h.sn,h.lg,h.Rq,h.jb,h.lv⟩
theorem Inv.Qn{M N:Bk}{G:Wd}(h:Inv M G){i k:Nat}{c:Cl}{l l':Ln}(hc:G.Ad[i]?=some c)(hl:c.lines[k]?=some l)(hok:KM l')(hseq:l.seq<=l'.seq)(hN:Le M N)(hnew:∀q d,N q=some d->M q=some d\/(q=⟨i,c.Ag,k,l'.seq⟩/\KJ G.Ac d/\1<=l'.seq))(hlo:D9 N G.Ac i c.Ag c.bound k l'):Inv N (Al G i k l'):=by
 refine⟨h.wf.Al hok,h.ws,fun q d hq=>?_,fun j c' n x hj hx=>?_,fun f hf=>(h.fl f hf).grow hN (Gr.refl _),fun j r hr hne=>?_,fun u s hs=>(h.lg u s hs).grow hN,h.Rq,fun j hj=>?_,fun j c' hj=>?_⟩
 ·rcases hnew q d hq with hq|⟨rfl,h1,h2⟩
  ·obtain⟨h1,a,ca,n,x,r1,r2,r3,r4,r5,r6,r7,r8,r9⟩:=h.bk q d hq;refine⟨h1,a,(if i=a then {ca with lines:=ca.lines.set k l'} else ca),n,(if i=a/\k=n then l' else x),r1,by rw[Bf,r2];rfl,r3,?_,r5,?_,r7,r8,fun e=>?_⟩
   ·by_cases hia:i=a
    ·subst hia;simp only[if_true,true_and];rw[List.getElem?_set];by_cases hkn:k=n
     ·subst hkn;simp[(List.getElem?_eq_some_iff.1 r4).1]
     ·simp[hkn,r4]
    ·simp[hia,r4]
   ·split<;>exact r6
   ·have e':q.Ag=ca.Ag:=by
     rw[e];split<;>rfl
    have:=r9 e';by_cases hh:i=a/\k=n
    ·obtain⟨rfl,rfl⟩:=hh;rw[hc]at r2;cases r2;rw[hl]at r4;cases r4;simp;omega
    ·rw[if_neg hh];exact this
  ·have hcw:=(h.wf.cl i c hc).Ag;refine⟨h1,i,{c with lines:=c.lines.set k l'},k,l',rfl,by rw[Bf,hc];simp,rfl,by simp[(List.getElem?_eq_some_iff.1 hl).1],hcw.1,Int.le_refl _,h2,hok.seq.2,fun _=>Int.le_refl _⟩
 ·rw[Bf]at hj;cases h0:G.Ad[j]? with
  |none=>rw[h0]at hj;cases hj
  |some c0=>
   rw[h0]at hj;simp only[Option.map_some,Option.some.injEq]at hj;subst hj;by_cases hij:i=j
   ·subst hij;rw[hc]at h0;cases h0;simp only[if_true]at hx ⊢;rw[List.getElem?_set]at hx;by_cases hkn:k=n
    ·subst hkn;simp only[if_true]at hx;split at hx
     ·cases hx;exact hlo
     ·cases hx
    ·simp only[hkn,if_false]at hx;exact(h.ln i c n x hc hx).grow hN (Gr.refl _) (fun _ q=>q)
   ·simp only[hij,if_false]at hx ⊢;exact(h.ln j c0 n x h0 hx).grow hN (Gr.refl _) (fun _ q=>q)
 ·obtain⟨d,hd⟩:=h.sn j r hr hne;exact⟨d,hd.grow hN⟩
 ·obtain⟨d,q1,q2⟩:=h.jb j hj;exact⟨d,hN _ _ q1,q2⟩
 ·rw[Bf]at hj;cases h0:G.Ad[j]? with
  |none=>rw[h0]at hj;cases hj
  |some c0=>
   rw[h0]at hj;simp only[Option.map_some,Option.some.injEq]at hj;subst hj;have:=h.lv j c0 h0;split<;>exact this
theorem Inv.Al{M:Bk}{G:Wd}(h:Inv M G){i k:Nat}{c:Cl}{l l':Ln}(hc:G.Ad[i]?=some c)(hl:c.lines[k]?=some l)(hok:KM l')(hseq:l.seq<=l'.seq)(hlo:D9 M G.Ac i c.Ag c.bound k l'):Inv M (Al G i k l'):=
 h.Qn hc hl hok hseq (Le.refl M) (fun _ _ q=>Or.inl q) hlo
theorem Inv.Av{M:Bk}{G:Wd}(h:Inv M G){i:Nat}{r r':Sn}(hr:G.seen[i]?=some r)(hseq:r.seq<=r'.seq)(hok:Oy (G.Ai.getD (i / 3) 0) r')(hd:r'.seq≠0->∃d,Gf M G.Ac ⟨((i / 3:Nat):Int),G.Ai.getD (i / 3) 0,((i % 3:Nat):Int),r'.seq⟩ r' d):Inv M (Av G i r'):=by
 have hi:=(List.getElem?_eq_some_iff.1 hr).1;have hget:∀j x,(G.seen.set i r')[j]?=some x->(j=i/\x=r')\/(j≠i/\G.seen[j]?=some x):=fun j x hx=>by
  rw[List.getElem?_set]at hx;by_cases hij:i=j
  ·subst hij;simp[hi]at hx;exact Or.inl ⟨rfl,hx.symm⟩
  ·simp[hij]at hx;exact Or.inr ⟨fun e=>hij e.symm,hx⟩
 refine⟨⟨h.wf.cf,h.wf.KF,fun j c hc=>⟨(h.wf.cl j c hc).lines,(h.wf.cl j c hc).Ag,(h.wf.cl j c hc).bound,(h.wf.cl j c hc).line⟩,h.wf.Ih,h.wf.Hf,h.wf.sv,h.wf.MA,h.wf.nm,h.wf.st,h.wf.nd,h.wf.Ma⟩,⟨h.ws.ll,h.ws.lv,by simpa [R.Av] using h.ws.sl,fun j x hx=>?_,h.ws.jl,h.ws.jb⟩,h.bk,h.ln,h.fl,fun j x hx hne=>?_,h.lg,fun u s e hs ha he=>?_,h.jb,h.lv⟩
 ·rcases hget j x hx with ⟨rfl,rfl⟩|⟨_,hx'⟩
  ·exact hok
  ·exact h.ws.sn j x hx'
 ·rcases hget j x hx with ⟨rfl,rfl⟩|⟨_,hx'⟩
  ·exact hd hne
  ·exact h.sn j x hx' hne
 ·rcases h.Rq u s e hs ha he with q|⟨q1,q2⟩
  ·exact Or.inl q
  ·refine Or.inr ⟨q1,Int.le_trans q2 ?_⟩;unfold LZ;show _<=(((G.seen.set i r')[3*e.client.toNat+e.line.toNat]?).getD De).seq;rw[List.getElem?_set];by_cases hij:i=3*e.client.toNat+e.line.toNat
   ·rw[<-hij,hr];simp[hi];exact hseq
   ·simp[hij]
end Go.Proofs.YtblomippkddgiaaGreatDoor.R
namespace Go.Proofs.YtblomippkddgiaaGreatDoor
open Go.RowKit
abbrev ptr(b:Nat):Value:=.pointer (some ⟨b,0,none⟩)
structure MV where
 wk:Value
 dn:Value
 sb:Nat
 bk:Value
def Hq(z:R.Sv×MV):List Value:=[.int .i64 z.1.kind,z.2.wk,z.2.dn]
theorem IW(z:R.Sv×MV):(Hq z).length=3:=rfl
def EJ(z:R.En×Value×Value):List Value:=[.int .i64 z.1.client,.int .i64 z.1.Ag,.int .i64 z.1.line,.int .i64 z.1.seq,.int .i64 z.1.proc,z.2.1,z.2.2]
theorem Rk(z:R.En×Value×Value):(EJ z).length=7:=rfl
def strs(l:List ByteArray):List Value:=l.map fun s=>Value.string s
inductive Works (w:World) (F:Aq) (l:List R.En) (b:Nat) (K:Value):Int->Value->Prop
 |counter (hF:F b) (hb:w.heap[b]?=some (.cells #[.int .u16 (R.Bq l 0)] 330 (0,0))) (hK:K=.slice none 0 0):Works w F l b K 0 (.iface 328 (ptr b))
 |Fh (hF:F b) (hb:w.heap[b]?=some (.cells #[K] 333 (0,0))) (hK:w.ownsRow 0 9 1 K (R.Br l).length (strs (R.Br l))) (hKF:∀j,K.ownBlock=some j->F j):Works w F l b K 1 (.iface 331 (ptr b))
 |IP (d0 d1 d2:Value) (hF:F b) (hb:w.heap[b]?=some (.cells #[d0,d1,d2] 337 (0,0))) (hK:K=.slice none 0 0) (h0:Ir w F d0 (R.E3 l 0 [])) (h1:Ir w F d1 (R.E3 l 1 [])) (h2:Ir w F d2 (R.E3 l 2 [])):Works w F l b K 2 (.iface 334 (ptr b))
structure QM(w:World)(F:Aq)(z:R.Sv×MV):Prop where
 wk:if z.1.alive=true then Works w F z.1.log z.2.sb z.2.bk z.1.kind z.2.wk else z.2.wk=.nilIface
 log:∃es:List (R.En×Value×Value),es.map (·.1)=z.1.log/\w.ownsRow 0 98 7 z.2.dn es.length (tab EJ es)/\∀y∈es,BD w F y.2.1 y.1.arg/\BD w F y.2.2 y.1.result
 own:∀j,z.2.dn.ownBlock=some j->F j
structure Ku where
 client:Int
 Ag:Int
 line:Int
 seq:Int
 uid:Int
 state:Int
 asked:List UInt8
 answer:List UInt8
 at':Int
 wait:Int
 tries:Int
def Ku.cells(y:Ku):List Value:=[.int .i64 y.client,.int .i64 y.Ag,.int .i64 y.line,.int .i64 y.seq,.int .i64 y.uid,.int .i64 y.state,.string (str y.asked),.string (str y.answer),.int .i64 y.at',.int .i64 y.wait,.int .i64 y.tries]
structure J7(i:Nat)(Ag:Int)(r:R.Sn)(y:Ku):Prop where
 client:y.client=((i / 3:Nat):Int)
 Ag:y.Ag=Ag
 line:y.line=((i % 3:Nat):Int)
 seq:y.seq=r.seq
 uid:y.uid=r.uid
 state:y.state=r.state-1
 asked:r.state=1\/r.state=2->y.asked=r.message
 ans:r.state=3->y.answer=r.result/\y.at'=r.at'
 wait:y.wait=if r.timed=true then r.wait else 0
 tries:r.timed=true->y.tries=r.tries
def NY(j:R.Jb):Value:=.agg #[.int .i64 j.client,.int .i64 j.Ag,.int .i64 j.line,.int .i64 j.seq,.int .i64 j.uid]
structure SP where
 K:Value
 zs:List (R.Sv×MV)
 ql:Nat->Nat
 jc:Nat
def Bm(t:SP)(seen:List R.Sn)(i:Nat):Value:=if ((seen[i]?).getD R.De).seq=0 then .pointer none else ptr (t.ql i)
def Cv(n nm:Nat)(t:SP)(c:R.Cf)(Ai:List Int)(seen:List R.Sn):List Value:=
 [.int .i64 c.Ad,.int .i64 c.lines,.int .i64 c.Be,.int .i64 c.tries,.int .i64 c.table,.map (some nm),t.K,.int .i64 (Ai.getD 0 0),.int .i64 (Ai.getD 1 0),.int .i64 (Ai.getD 2 0),
  Bm t seen 0,Bm t seen 1,Bm t seen 2,Bm t seen 3,Bm t seen 4,Bm t seen 5,Bm t seen 6,Bm t seen 7,Bm t seen 8,.chan (some t.jc),ptr n]
structure Cp(s n nm:Nat)(t:SP)(F:Aq)(c:R.Cf)(sv:List R.Sv)(Ai:List Int)(seen:List R.Sn)(jobs:List R.Jb)(w:World):Prop where
 bs:w.heap[s]?=some (.cells (Cv n nm t c Ai seen).toArray 167 (0,0))
 zs:t.zs.map (·.1)=sv
 made:w.ownsRow 0 213 3 t.K t.zs.length (tab Hq t.zs)
 each:∀z∈t.zs,QM w F z
 dns:∀(i j:Nat) (z y:R.Sv×MV),t.zs[i]?=some z->t.zs[j]?=some y->i≠j->∀k,z.2.dn.ownBlock=some k->y.2.dn.ownBlock≠some k
 ZW:∀(i j:Nat) (z y:R.Sv×MV),t.zs[i]?=some z->t.zs[j]?=some y->i≠j->z.1.alive=true->y.1.alive=true->z.2.sb≠y.2.sb/\∀k,z.2.bk.ownBlock=some k->y.2.bk.ownBlock≠some k
 ln:∀(i:Nat) (r:R.Sn),seen[i]?=some r->r.seq≠0->∃y:Ku,w.heap[t.ql i]?=some (.cells y.cells.toArray 147 (0,0))/\J7 i (Ai.getD (i / 3) 0) r y/\F (t.ql i)
 inj:∀(i j:Nat) (r r':R.Sn),seen[i]?=some r->seen[j]?=some r'->r.seq≠0->r'.seq≠0->i≠j->t.ql i≠t.ql j
 jobs:∃a b:Nat,w.heap[t.jc]?=some (.chan c.table.toNat (jobs.map NY).toArray false a b false)
 BM:F s/\F t.jc/\∀j,t.K.ownBlock=some j->F j
def L5(t:TypeId):Bool:=t==167 || t==213 || t==98 || t==106 || t==147 || t==330 || t==333 || t==337 || t==9
structure Avoid(w:World)(F E:Aq):Prop where
 cells:∀b cur t z,F b->L5 t=true->w.heap[b]?=some (.cells cur t z)->¬E b
 chan:∀b cap buf cl a r tm,F b->w.heap[b]?=some (.chan cap buf cl a r tm)->¬E b
theorem Avoid.apart{w:World}{F E:Aq}(h:∀k,F k->¬E k):Avoid w F E:=⟨fun b _ _ _ hF _ _=>h b hF,fun b _ _ _ _ _ _ hF _=>h b hF⟩
theorem Avoid.tags{w:World}{F E:Aq}(h:∀b,E b->(∃cur t z,w.heap[b]?=some (.cells cur t z)/\L5 t=false)\/∃es cl,w.heap[b]?=some (.map es cl)):Avoid w F E:=by
 refine⟨fun b cur t z _ ht hb hE=>?_,fun b cap buf cl a r tm _ hb hE=>?_⟩
 ·rcases h b hE with ⟨cur',t',z',h1,h2⟩|⟨es,cl,h1⟩
  ·rw[hb]at h1;cases h1;rw[ht]at h2;cases h2
  ·rw[hb]at h1;cases h1
 ·rcases h b hE with ⟨cur',t',z',h1,h2⟩|⟨es,cl,h1⟩
  ·rw[hb]at h1;cases h1
  ·rw[hb]at h1;cases h1
theorem Avoid.one{w:World}{F:Aq}{b:Nat}{cur:Array Value}{t:TypeId}{z:Nat×Nat}(h:w.heap[b]?=some (.cells cur t z))(ht:L5 t=false):Avoid w F (fun k=>k=b):=Avoid.tags (fun k hk=>Or.inl ⟨cur,t,z,by subst hk;exact h,ht⟩)
def Ni(t:TypeId):Bool:=t==98 || t==106 || t==330 || t==333 || t==337 || t==9
def Kt(w:World)(F E:Aq):Prop:=∀b cur t z,F b->Ni t=true->w.heap[b]?=some (.cells cur t z)->¬E b
theorem Vl{t:TypeId}(h:Ni t=true):L5 t=true:=by
 simp only[Ni,Bool.or_eq_true,beq_iff_eq]at h;rcases h with ((((h|h)|h)|h)|h)|h<;>rw[h]<;>rfl
theorem Avoid.sv{w:World}{F E:Aq}(h:Avoid w F E):Kt w F E:=fun b cur t z hF ht hb=>h.cells b cur t z hF (Vl ht) hb
theorem Kt.tags{w:World}{F E:Aq}(h:∀b,E b->(∃cur t z,w.heap[b]?=some (.cells cur t z)/\Ni t=false)\/(∃es cl,w.heap[b]?=some (.map es cl))\/∃cap buf cl a r tm,w.heap[b]?=some (.chan cap buf cl a r tm)):Kt w F E:=by
 intro b cur t z _ ht hb hE;rcases h b hE with ⟨cur',t',z',h1,h2⟩|⟨es,cl,h1⟩|⟨cap,buf,cl,a,r,tm,h1⟩
 ·rw[hb]at h1;cases h1;rw[ht]at h2;cases h2
 ·rw[hb]at h1;cases h1
 ·rw[hb]at h1;cases h1
theorem Kt.one{w:World}{F:Aq}{b:Nat}{cur:Array Value}{t:TypeId}{z:Nat×Nat}(h:w.heap[b]?=some (.cells cur t z))(ht:Ni t=false):Kt w F (fun k=>k=b):=Kt.tags (fun k hk=>Or.inl ⟨cur,t,z,by subst hk;exact h,ht⟩)
theorem Nk{w w':World}{F E:Aq}{B n size:Nat}{e:TypeId}{v:Value}{xs:List Value}(hr:w.ownsRow B e size v n xs)(hk:Af E w w')(ha:Kt w F E)(he:Ni e=true)(hF:∀j,v.ownBlock=some j->F j):w'.ownsRow B e size v n xs:=by
 refine hk.row hr (fun j hj=>?_);rcases hr.2 with ⟨rfl,_⟩|⟨g,cap,cur,rfl,_,hg,_⟩
 ·cases hj
 ·cases hj;exact ha g cur e _ (hF g rfl) he hg
theorem Vh{w w':World}{F E:Aq}{B n size:Nat}{e:TypeId}{v:Value}{xs:List Value}(hr:w.ownsRow B e size v n xs)(hk:Af E w w')(ha:Avoid w F E)(he:L5 e=true)(hF:∀j,v.ownBlock=some j->F j):w'.ownsRow B e size v n xs:=by
 refine hk.row hr (fun j hj=>?_);rcases hr.2 with ⟨rfl,_⟩|⟨g,cap,cur,rfl,_,hg,_⟩
 ·cases hj
 ·cases hj;exact ha.cells g cur e _ (hF g rfl) he hg
theorem BD.Ea{w w':World}{F E F':Aq}{V:Value}{l:List R.It}(h:BD w F V l)(hk:Af E w w')(ha:Kt w F E)(hF:∀k,F k->F' k):BD w' F' V l:=h.keep hk (fun b cur hb hc=>ha b cur 106 (0,0) hb rfl hc) hF
theorem Ir.Ea{w w':World}{F E F':Aq}{V:Value}{l:List R.It}(h:Ir w F V l)(hk:Af E w w')(ha:Kt w F E)(hF:∀k,F k->F' k):Ir w' F' V l:=h.keep hk (fun b cur hb hc=>ha b cur 106 (0,0) hb rfl hc) hF
theorem Works.keep{w w':World}{F E F':Aq}{l:List R.En}{b:Nat}{K:Value}{k:Int}{W:Value}(h:Works w F l b K k W)(hk:Af E w w')(ha:Kt w F E)(hF:∀k,F k->F' k):Works w' F' l b K k W:=by
 cases h with
 |counter h1 h2 h3=>exact .counter (hF _ h1) (hk.at h2 (ha b _ _ _ h1 rfl h2)) h3
 |Fh h1 h2 h3 h4=>exact .Fh (hF _ h1) (hk.at h2 (ha b _ _ _ h1 rfl h2)) (Nk h3 hk ha rfl h4) (fun j hj=>hF _ (h4 j hj))
 |IP d0 d1 d2 h1 h2 h0 h3 h4 h5=>exact .IP d0 d1 d2 (hF _ h1) (hk.at h2 (ha b _ _ _ h1 rfl h2)) h0 (h3.Ea hk ha hF) (h4.Ea hk ha hF) (h5.Ea hk ha hF)
theorem QM.keep{w w':World}{F E F':Aq}{z:R.Sv×MV}(h:QM w F z)(hk:Af E w w')(ha:Kt w F E)(hF:∀k,F k->F' k):QM w' F' z:=by
 refine⟨?_,?_,fun j hj=>hF _ (h.own j hj)⟩
 ·have hw:=h.wk;split
  ·rename_i e;rw[if_pos e]at hw;exact hw.keep hk ha hF
  ·rename_i e;rw[if_neg e]at hw;exact hw
 ·obtain⟨es,h1,h2,h3⟩:=h.log;exact⟨es,h1,Nk h2 hk ha rfl h.own,fun y hy=>⟨(h3 y hy).1.Ea hk ha hF,(h3 y hy).2.Ea hk ha hF⟩⟩
theorem Cp.keep{s n nm:Nat}{t:SP}{F E F':Aq}{c:R.Cf}{sv:List R.Sv}{Ai:List Int}{seen:List R.Sn}{jobs:List R.Jb}{w w':World}(h:Cp s n nm t F c sv Ai seen jobs w)(hk:Af E w w')(ha:Avoid w F E)(hF:∀k,F k->F' k):Cp s n nm t F' c sv Ai seen jobs w':=by
 obtain⟨f1,f2,f3⟩:=h.BM;refine⟨hk.at h.bs (ha.cells s _ _ _ f1 rfl h.bs),h.zs,Vh h.made hk ha rfl f3,fun z hz=>(h.each z hz).keep hk ha.sv hF,h.dns,h.ZW,fun i r hr hne=>?_,h.inj,?_,hF _ f1,hF _ f2,fun j hj=>hF _ (f3 j hj)⟩
 ·obtain⟨y,h1,h2,h3⟩:=h.ln i r hr hne;exact⟨y,hk.at h1 (ha.cells _ _ _ _ h3 rfl h1),h2,hF _ h3⟩
 ·obtain⟨a,b,hj⟩:=h.jobs;exact⟨a,b,hk.at hj (ha.chan _ _ _ _ _ _ _ f2 hj)⟩
end Go.Proofs.YtblomippkddgiaaGreatDoor
