import Derived.Test.YtblomippkddgiaaGreatDoorJ17
set_option maxRecDepth 100000
set_option maxHeartbeats 2000000
namespace Go.Proofs.YtblomippkddgiaaGreatDoor.R
theorem CS{G:Wd}{name:List UInt8}{k:Nat}(h:Bh G name=some k):G.names[k]?=some name:=by
 unfold Bh at h;rw[List.findIdx?_eq_some_iff_getElem]at h;obtain⟨hl,e,_⟩:=h;rw[List.getElem?_eq_getElem hl];simpa using e
theorem J6{G:Wd}{name:List UInt8}(h:Bh G name=none):name ∉ G.names:=by
 unfold Bh at h;rw[List.findIdx?_eq_none_iff]at h;intro hm;simpa using h name hm
theorem Wf.ends{G:Wd}(h:Wf G)(uid:Int):Wf (Ce G uid):=by
 refine⟨h.cf,h.JL,fun i c hc=>?_,h.EC,h.EO,by simpa [Ce] using h.sv,fun s hs=>?_,h.nm,h.st,h.nd,fun u hu=>?_⟩
 ·have q:=h.cl i c hc;exact⟨q.lines,q.Ax,fun u hu=>by simpa [Ce] using q.bound u hu,q.line⟩
 ·obtain⟨j,hj⟩:=List.mem_iff_getElem?.1 hs;simp only[Ce,List.getElem?_modify]at hj;cases hg:G.Ac[j]? with
  |none=>rw[hg]at hj;cases hj
  |some s0=>
   rw[hg]at hj;have hk:=h.Lr s0 (List.mem_of_getElem? hg);have hj':=Option.some.inj hj;rw[<-hj'];split<;>exact hk
 ·simpa [Ce] using h.IC u hu
theorem Wf.serve{G:Wd}(h:Wf G){kind:Int}(hk:0<=kind/\kind<=2)(hs:G.Ac.length<255){nm:List (List UInt8)}{st:List Int}(h6:nm.length<=6)(hst:st.length=nm.length)(hnd:nm.Nodup)(hsts:∀u∈st,1<=u/\u<=(G.Ac.length:Int)+1):Wf {G with names:=nm,stands:=st,Ac:=G.Ac++[⟨kind,true,[]⟩]}:=by
 refine⟨h.cf,h.JL,fun i c hc=>?_,h.EC,h.EO,by simp only[List.length_append,List.length_singleton];omega,fun s hs'=>?_,h6,hst,hnd,fun u hu=>?_⟩
 ·have q:=h.cl i c hc;refine⟨q.lines,q.Ax,fun u hu=>?_,q.line⟩;have:=q.bound u hu;simp only[List.length_append,List.length_singleton];omega
 ·rcases List.mem_append.1 hs' with q|q
  ·exact h.Lr s q
  ·rw[List.mem_singleton.1 q];exact hk
 ·have:=hsts u hu;simp only[List.length_append,List.length_singleton];omega
theorem Wf.export{G:Wd}(h:Wf G)(name:List UInt8)(kind:Int):Wf (AJ G name kind).2:=by
 unfold AJ;split
 ·exact h
 ·split
  ·exact h
  ·rename_i hk;split
   ·rename_i he;split
    ·exact h
    ·split
     ·exact h
     ·rename_i h6 hs;have h6':=h.nm;have hs':=h.sv;refine h.serve (by omega) (by omega) (by simp only[List.length_append,List.length_singleton];omega) (by simp[h.st]) ?_ (fun u hu=>?_)
      ·rw[List.nodup_append];refine⟨h.nd,by simp,fun a ha b hb=>?_⟩;rw[List.mem_singleton.1 hb];intro e;exact J6 he (e ▸ ha)
      ·rcases List.mem_append.1 hu with q|q
       ·have:=h.IC u q;omega
       ·rw[List.mem_singleton.1 q];omega
   ·rename_i k he;split
    ·exact h
    ·rename_i hs;have hs':=h.sv;have hE:=h.ends (G.stands.getD k 0);have hl:(Ce G (G.stands.getD k 0)).Ac.length=G.Ac.length:=by simp[Ce]
     have:=hE.serve (kind:=kind) (nm:=G.names) (st:=G.stands.set k ((G.Ac.length:Int)+1)) (by omega) (by rw[hl];omega) h.nm (by rw[List.length_set];exact h.st) h.nd (fun u hu=>by
      rw[hl];rcases List.mem_or_eq_of_mem_set hu with q|q
      ·have:=h.IC u q;omega
      ·rw[q];omega)
     exact this
theorem Wf.EA{G:Wd}(h:Wf G)(name:List UInt8):Wf (AU G name).2:=by
 unfold AU;split
 ·exact h
 ·rename_i k he;have hE:=h.ends (G.stands.getD k 0);refine⟨hE.cf,hE.JL,fun i c hc=>⟨(hE.cl i c hc).lines,(hE.cl i c hc).Ax,(hE.cl i c hc).bound,(hE.cl i c hc).line⟩,hE.EC,hE.EO,hE.sv,hE.Lr,?_,?_,hE.nd.sublist (List.eraseIdx_sublist ..),fun u hu=>hE.IC u (List.mem_of_mem_eraseIdx hu)⟩
  ·have:=List.length_eraseIdx_le (l:=G.names) (i:=k);have:=h.nm;simp only;exact Nat.le_trans ‹_› this
  ·have h1:=h.st;show ((G.stands.eraseIdx k).length)=(G.names.eraseIdx k).length;rw[List.length_eraseIdx,List.length_eraseIdx,h1]
theorem Wf.imports{G:Wd}(h:Wf G)(client:Int)(name:List UInt8):Wf (Bn G client name).2:=by
 unfold Bn;split
 ·exact h
 ·split
  ·exact h
  ·rename_i k he;refine⟨h.cf,by simpa using h.JL,fun i c hc=>?_,h.EC,h.EO,h.sv,h.Lr,h.nm,h.st,h.nd,h.IC⟩;simp only[List.getElem?_modify]at hc;cases hg:G.Ad[i]? with
   |none=>rw[hg]at hc;cases hc
   |some c0=>
    rw[hg]at hc;have q:=h.cl i c0 hg;have hc':=Option.some.inj hc;rw[<-hc'];split
    ·refine⟨q.lines,q.Ax,fun u hu=>?_,q.line⟩;rcases List.mem_append.1 hu with r|r
     ·exact q.bound u r
     ·rw[List.mem_singleton.1 r];have hk:=(List.getElem?_eq_some_iff.1 (CS he)).1;have hk2:k<G.stands.length:=by rw[h.st];exact hk
      have:G.stands.getD k 0∈G.stands:=by
       rw[List.getD_eq_getElem?_getD,List.getElem?_eq_getElem hk2];exact List.getElem_mem hk2
      exact h.IC _ this
    ·exact⟨q.lines,q.Ax,q.bound,q.line⟩
structure Cd where
 uid:Int
 proc:Int
 arg:List It
 from':ByteArray
 to:ByteArray
 bs:List UInt8
def Cd.msg(d:Cd):List UInt8:=AF d.proc++d.bs
def ZB(sv:List Sv)(u:Int):Int:=((sv[(u-1).toNat]?).map (·.kind)).getD 0
structure ZV(sv:List Sv)(d:Cd):Prop where
 uid:1<=d.uid/\d.uid<=(sv.length:Int)
 sig:E3 (ZB sv d.uid) d.proc=some (d.from',d.to)
 bs:Fa d.from' d.arg=some d.bs
structure VR(Ax:Int)(r:Sn):Prop where
 zero:r.seq=0->r=Ef
 seq:0<=r.seq/\r.seq<=999
 some:r.seq≠0->1<=Ax/\(1<=r.uid/\r.uid<=255)/\(1<=r.state/\r.state<=4)
 Yf:r.state=1->(r.message.length:Int)=8*r.pieces/\0<=r.pieces/\r.pieces<=8
 wait:r.state=2->2<=r.message.length/\r.message.length<=72
 ans:r.state=3->1<=r.result.length/\r.result.length<=72/\0<=r.at'/\r.at'<Ak r.result
 timed:r.timed=true->r.state=3/\(1<=r.wait/\r.wait<=8)/\(0<=r.tries/\r.tries<=6)
structure Ni(c:Cf)(Ao:List Int)(seen:List Sn)(jobs:List Jb):Prop where
 ll:Ao.length=3
 lv:∀x∈Ao,0<=x/\x<=255
 sl:seen.length=9
 sn:∀i r,seen[i]?=some r->VR (Ao.getD (i / 3) 0) r
 jl:(jobs.length:Int)<=c.table
 jb:∀j∈jobs,(0<=j.client/\j.client<=2)/\(0<=j.line/\j.line<=2)
theorem NB{t:ByteArray}{v:List It}{bs:List UInt8}(h:Fa t v=some bs):bs.length<=70:=by
 unfold Fa at h;split at h
 ·rename_i h0;cases h;exact V.WN h0
 ·cases h
end Go.Proofs.YtblomippkddgiaaGreatDoor.R
namespace Go.Proofs.YtblomippkddgiaaGreatDoor
open Go.RowKit
abbrev ptr(b:Nat):Value:=.pointer (some ⟨b,0,none⟩)
structure MV where
 wk:Value
 dn:Value
 sb:Nat
 bk:Value
def Gk(z:R.Sv×MV):List Value:=[.int .i64 z.1.kind,z.2.wk,z.2.dn]
theorem Gl(z:R.Sv×MV):(Gk z).length=3:=rfl
def TP(z:R.En×Value×Value):List Value:=[.int .i64 z.1.client,.int .i64 z.1.Ax,.int .i64 z.1.line,.int .i64 z.1.seq,.int .i64 z.1.proc,z.2.1,z.2.2]
theorem Yd(z:R.En×Value×Value):(TP z).length=7:=rfl
def strs(l:List ByteArray):List Value:=l.map fun s=>Value.string s
inductive Works (w:World) (F:Ag) (l:List R.En) (b:Nat) (K:Value):Int->Value->Prop
 |counter (hF:F b) (hb:w.heap[b]?=some (.cells #[.int .u16 (R.LP l 0)] 330 (0,0))) (hK:K=.slice none 0 0):Works w F l b K 0 (.iface 328 (ptr b))
 |PS (hF:F b) (hb:w.heap[b]?=some (.cells #[K] 333 (0,0))) (hK:w.ownsRow 0 9 1 K (R.Qf l).length (strs (R.Qf l))) (hKF:∀j,K.ownBlock=some j->F j):Works w F l b K 1 (.iface 331 (ptr b))
 |Wi (d0 d1 d2:Value) (hF:F b) (hb:w.heap[b]?=some (.cells #[d0,d1,d2] 337 (0,0))) (hK:K=.slice none 0 0) (h0:KB w F d0 (R.P8 l 0 [])) (h1:KB w F d1 (R.P8 l 1 [])) (h2:KB w F d2 (R.P8 l 2 [])):Works w F l b K 2 (.iface 334 (ptr b))
structure VS(w:World)(F:Ag)(z:R.Sv×MV):Prop where
 wk:if z.1.alive=true then Works w F z.1.log z.2.sb z.2.bk z.1.kind z.2.wk else z.2.wk=.nilIface
 log:∃es:List (R.En×Value×Value),es.map (·.1)=z.1.log/\w.ownsRow 0 98 7 z.2.dn es.length (tab TP es)/\∀y∈es,ED w F y.2.1 y.1.arg/\ED w F y.2.2 y.1.result
 own:∀j,z.2.dn.ownBlock=some j->F j
structure Na where
 client:Int
 Ax:Int
 line:Int
 seq:Int
 uid:Int
 state:Int
 asked:List UInt8
 answer:List UInt8
 at':Int
 wait:Int
 tries:Int
def Na.cells(y:Na):List Value:=[.int .i64 y.client,.int .i64 y.Ax,.int .i64 y.line,.int .i64 y.seq,.int .i64 y.uid,.int .i64 y.state,.string (str y.asked),.string (str y.answer),.int .i64 y.at',.int .i64 y.wait,.int .i64 y.tries]
structure PN(i:Nat)(Ax:Int)(r:R.Sn)(y:Na):Prop where
 client:y.client=((i / 3:Nat):Int)
 Ax:y.Ax=Ax
 line:y.line=((i % 3:Nat):Int)
 seq:y.seq=r.seq
 uid:y.uid=r.uid
 state:y.state=r.state-1
 asked:r.state=1\/r.state=2->y.asked=r.message
 ans:r.state=3->y.answer=r.result/\y.at'=r.at'
 wait:y.wait=if r.timed=true then r.wait else 0
 tries:r.timed=true->y.tries=r.tries
def Z4(j:R.Jb):Value:=.agg #[.int .i64 j.client,.int .i64 j.Ax,.int .i64 j.line,.int .i64 j.seq,.int .i64 j.uid]
structure SP where
 K:Value
 zs:List (R.Sv×MV)
 ql:Nat->Nat
 jc:Nat
def EJ(t:SP)(seen:List R.Sn)(i:Nat):Value:=if ((seen[i]?).getD R.Ef).seq=0 then .pointer none else ptr (t.ql i)
def EQ(n nm:Nat)(t:SP)(c:R.Cf)(Ao:List Int)(seen:List R.Sn):List Value:=
 [.int .i64 c.Ad,.int .i64 c.lines,.int .i64 c.Al,.int .i64 c.tries,.int .i64 c.table,.map (some nm),t.K,.int .i64 (Ao.getD 0 0),.int .i64 (Ao.getD 1 0),.int .i64 (Ao.getD 2 0),
  EJ t seen 0,EJ t seen 1,EJ t seen 2,EJ t seen 3,EJ t seen 4,EJ t seen 5,EJ t seen 6,EJ t seen 7,EJ t seen 8,.chan (some t.jc),ptr n]
structure Dh(s n nm:Nat)(t:SP)(F:Ag)(c:R.Cf)(sv:List R.Sv)(Ao:List Int)(seen:List R.Sn)(jobs:List R.Jb)(w:World):Prop where
 bs:w.heap[s]?=some (.cells (EQ n nm t c Ao seen).toArray 167 (0,0))
 zs:t.zs.map (·.1)=sv
 made:w.ownsRow 0 213 3 t.K t.zs.length (tab Gk t.zs)
 each:∀z∈t.zs,VS w F z
 dns:∀(i j:Nat) (z y:R.Sv×MV),t.zs[i]?=some z->t.zs[j]?=some y->i≠j->∀k,z.2.dn.ownBlock=some k->y.2.dn.ownBlock≠some k
 ZU:∀(i j:Nat) (z y:R.Sv×MV),t.zs[i]?=some z->t.zs[j]?=some y->i≠j->z.1.alive=true->y.1.alive=true->z.2.sb≠y.2.sb/\∀k,z.2.bk.ownBlock=some k->y.2.bk.ownBlock≠some k
 ln:∀(i:Nat) (r:R.Sn),seen[i]?=some r->r.seq≠0->∃y:Na,w.heap[t.ql i]?=some (.cells y.cells.toArray 147 (0,0))/\PN i (Ao.getD (i / 3) 0) r y/\F (t.ql i)
 inj:∀(i j:Nat) (r r':R.Sn),seen[i]?=some r->seen[j]?=some r'->r.seq≠0->r'.seq≠0->i≠j->t.ql i≠t.ql j
 jobs:∃a b:Nat,w.heap[t.jc]?=some (.chan c.table.toNat (jobs.map Z4).toArray false a b false)
 A4:F s/\F t.jc/\∀j,t.K.ownBlock=some j->F j
def Jx(t:TypeId):Bool:=t==167 || t==213 || t==98 || t==106 || t==147 || t==330 || t==333 || t==337 || t==9
structure Avoid(w:World)(F E:Ag):Prop where
 cells:∀b cur t z,F b->Jx t=true->w.heap[b]?=some (.cells cur t z)->¬E b
 chan:∀b cap buf cl a r tm,F b->w.heap[b]?=some (.chan cap buf cl a r tm)->¬E b
theorem Avoid.apart{w:World}{F E:Ag}(h:∀k,F k->¬E k):Avoid w F E:=⟨fun b _ _ _ hF _ _=>h b hF,fun b _ _ _ _ _ _ hF _=>h b hF⟩
theorem Avoid.tags{w:World}{F E:Ag}(h:∀b,E b->(∃cur t z,w.heap[b]?=some (.cells cur t z)/\Jx t=false)\/∃es cl,w.heap[b]?=some (.map es cl)):Avoid w F E:=by
 refine⟨fun b cur t z _ ht hb hE=>?_,fun b cap buf cl a r tm _ hb hE=>?_⟩
 ·rcases h b hE with ⟨cur',t',z',h1,h2⟩|⟨es,cl,h1⟩
  ·rw[hb]at h1;cases h1;rw[ht]at h2;cases h2
  ·rw[hb]at h1;cases h1
 ·rcases h b hE with ⟨cur',t',z',h1,h2⟩|⟨es,cl,h1⟩
  ·rw[hb]at h1;cases h1
  ·rw[hb]at h1;cases h1
theorem Avoid.one{w:World}{F:Ag}{b:Nat}{cur:Array Value}{t:TypeId}{z:Nat×Nat}(h:w.heap[b]?=some (.cells cur t z))(ht:Jx t=false):Avoid w F (fun k=>k=b):=Avoid.tags (fun k hk=>Or.inl ⟨cur,t,z,by subst hk;exact h,ht⟩)
def Kt(t:TypeId):Bool:=t==98 || t==106 || t==330 || t==333 || t==337 || t==9
def Kz(w:World)(F E:Ag):Prop:=∀b cur t z,F b->Kt t=true->w.heap[b]?=some (.cells cur t z)->¬E b
theorem Sw{t:TypeId}(h:Kt t=true):Jx t=true:=by
 simp only[Kt,Bool.or_eq_true,beq_iff_eq]at h;rcases h with ((((h|h)|h)|h)|h)|h<;>rw[h]<;>rfl
theorem Avoid.sv{w:World}{F E:Ag}(h:Avoid w F E):Kz w F E:=fun b cur t z hF ht hb=>h.cells b cur t z hF (Sw ht) hb
theorem Kz.tags{w:World}{F E:Ag}(h:∀b,E b->(∃cur t z,w.heap[b]?=some (.cells cur t z)/\Kt t=false)\/(∃es cl,w.heap[b]?=some (.map es cl))\/∃cap buf cl a r tm,w.heap[b]?=some (.chan cap buf cl a r tm)):Kz w F E:=by
 intro b cur t z _ ht hb hE;rcases h b hE with ⟨cur',t',z',h1,h2⟩|⟨es,cl,h1⟩|⟨cap,buf,cl,a,r,tm,h1⟩
 ·rw[hb]at h1;cases h1;rw[ht]at h2;cases h2
 ·rw[hb]at h1;cases h1
 ·rw[hb]at h1;cases h1
theorem Kz.one{w:World}{F:Ag}{b:Nat}{cur:Array Value}{t:TypeId}{z:Nat×Nat}(h:w.heap[b]?=some (.cells cur t z))(ht:Kt t=false):Kz w F (fun k=>k=b):=Kz.tags (fun k hk=>Or.inl ⟨cur,t,z,by subst hk;exact h,ht⟩)
theorem Kw{w w':World}{F E:Ag}{B n size:Nat}{e:TypeId}{v:Value}{xs:List Value}(hr:w.ownsRow B e size v n xs)(hk:Ae E w w')(ha:Kz w F E)(he:Kt e=true)(hF:∀j,v.ownBlock=some j->F j):w'.ownsRow B e size v n xs:=by
 refine hk.row hr (fun j hj=>?_);rcases hr.2 with ⟨rfl,_⟩|⟨g,cap,cur,rfl,_,hg,_⟩
 ·cases hj
 ·cases hj;exact ha g cur e _ (hF g rfl) he hg
theorem Sp{w w':World}{F E:Ag}{B n size:Nat}{e:TypeId}{v:Value}{xs:List Value}(hr:w.ownsRow B e size v n xs)(hk:Ae E w w')(ha:Avoid w F E)(he:Jx e=true)(hF:∀j,v.ownBlock=some j->F j):w'.ownsRow B e size v n xs:=by
 refine hk.row hr (fun j hj=>?_);rcases hr.2 with ⟨rfl,_⟩|⟨g,cap,cur,rfl,_,hg,_⟩
 ·cases hj
 ·cases hj;exact ha.cells g cur e _ (hF g rfl) he hg
theorem ED.Ed{w w':World}{F E F':Ag}{V:Value}{l:List R.It}(h:ED w F V l)(hk:Ae E w w')(ha:Kz w F E)(hF:∀k,F k->F' k):ED w' F' V l:=h.keep hk (fun b cur hb hc=>ha b cur 106 (0,0) hb rfl hc) hF
theorem KB.Ed{w w':World}{F E F':Ag}{V:Value}{l:List R.It}(h:KB w F V l)(hk:Ae E w w')(ha:Kz w F E)(hF:∀k,F k->F' k):KB w' F' V l:=h.keep hk (fun b cur hb hc=>ha b cur 106 (0,0) hb rfl hc) hF
theorem Works.keep{w w':World}{F E F':Ag}{l:List R.En}{b:Nat}{K:Value}{k:Int}{W:Value}(h:Works w F l b K k W)(hk:Ae E w w')(ha:Kz w F E)(hF:∀k,F k->F' k):Works w' F' l b K k W:=by
 cases h with
 |counter h1 h2 h3=>exact .counter (hF _ h1) (hk.at h2 (ha b _ _ _ h1 rfl h2)) h3
 |PS h1 h2 h3 h4=>exact .PS (hF _ h1) (hk.at h2 (ha b _ _ _ h1 rfl h2)) (Kw h3 hk ha rfl h4) (fun j hj=>hF _ (h4 j hj))
 |Wi d0 d1 d2 h1 h2 h0 h3 h4 h5=>exact .Wi d0 d1 d2 (hF _ h1) (hk.at h2 (ha b _ _ _ h1 rfl h2)) h0 (h3.Ed hk ha hF) (h4.Ed hk ha hF) (h5.Ed hk ha hF)
theorem VS.keep{w w':World}{F E F':Ag}{z:R.Sv×MV}(h:VS w F z)(hk:Ae E w w')(ha:Kz w F E)(hF:∀k,F k->F' k):VS w' F' z:=by
 refine⟨?_,?_,fun j hj=>hF _ (h.own j hj)⟩
 ·have hw:=h.wk;split
  ·rename_i e;rw[if_pos e]at hw;exact hw.keep hk ha hF
  ·rename_i e;rw[if_neg e]at hw;exact hw
 ·obtain⟨es,h1,h2,h3⟩:=h.log;exact⟨es,h1,Kw h2 hk ha rfl h.own,fun y hy=>⟨(h3 y hy).1.Ed hk ha hF,(h3 y hy).2.Ed hk ha hF⟩⟩
theorem Dh.keep{s n nm:Nat}{t:SP}{F E F':Ag}{c:R.Cf}{sv:List R.Sv}{Ao:List Int}{seen:List R.Sn}{jobs:List R.Jb}{w w':World}(h:Dh s n nm t F c sv Ao seen jobs w)(hk:Ae E w w')(ha:Avoid w F E)(hF:∀k,F k->F' k):Dh s n nm t F' c sv Ao seen jobs w':=by
 obtain⟨f1,f2,f3⟩:=h.A4;refine⟨hk.at h.bs (ha.cells s _ _ _ f1 rfl h.bs),h.zs,Sp h.made hk ha rfl f3,fun z hz=>(h.each z hz).keep hk ha.sv hF,h.dns,h.ZU,fun i r hr hne=>?_,h.inj,?_,hF _ f1,hF _ f2,fun j hj=>hF _ (f3 j hj)⟩
 ·obtain⟨y,h1,h2,h3⟩:=h.ln i r hr hne;exact⟨y,hk.at h1 (ha.cells _ _ _ _ h3 rfl h1),h2,hF _ h3⟩
 ·obtain⟨a,b,hj⟩:=h.jobs;exact⟨a,b,hk.at hj (ha.chan _ _ _ _ _ _ _ f2 hj)⟩
theorem US(w1:World)(B:Nat)(hB:B<=w1.heap.size)(k c li ln:Int)(q1:0<=k/\k<=255)(q2:0<=c/\c<=255)(q3:0<=li/\li<=255)(q4:0<=ln/\ln<=255):
  Own (w1.alloc (.cells #[.int .u8 k,.int .u8 c,.int .u8 li,.int .u8 ln] 5)) B (.slice (some ⟨w1.heap.size,0,none⟩) 4 4) [b8 k,b8 c,b8 li,b8 ln]:=by
 have h:=World.ownsRow_lit (base:=B) (e:=5) (size:=1) w1 #[.int .u8 k,.int .u8 c,.int .u8 li,.int .u8 ln] 4 hB (by unfold maxLen;omega) rfl;have e:DF [b8 k,b8 c,b8 li,b8 ln]=[.int .u8 k,.int .u8 c,.int .u8 li,.int .u8 ln]:=by
  unfold DF;simp only[List.map_cons,List.map_nil,CZ q1.1 q1.2,CZ q2.1 q2.2,CZ q3.1 q3.2,CZ q4.1 q4.2]
 unfold Own;rw[e];exact h
theorem I8(u pa o n m:Int)(q1:0<=u/\u<=255)(q2:0<=pa/\pa<=255)(q3:0<=o/\o<=255)(q4:0<=n/\n<=255)(q5:0<=m/\m<=255):DF [b8 u,b8 pa,b8 o,b8 n,b8 m]=[.int .u8 u,.int .u8 pa,.int .u8 o,.int .u8 n,.int .u8 m]:=by
 unfold DF;simp only[List.map_cons,List.map_nil,CZ q1.1 q1.2,CZ q2.1 q2.2,CZ q3.1 q3.2,CZ q4.1 q4.2,CZ q5.1 q5.2]
theorem wrap_u8(n:Int):IntKind.u8.wrap n=n % 256:=by
 simp[IntKind.wrap,IntKind.bits,IntKind.signed]
def Ky(p:Pk)(w:World)(e:Ending)(w':World):Prop:=Below w.heap.size w w'/\((Bq p/\e=.returned (.string (str (DG p))))\/(¬Bq p/\e=A5 7 0))
theorem Hy(p:Pk)(w:World):Calls Tryz.prog 212 #[pv p] w (Ky p w):=by
 obtain⟨post,hpost⟩:∃post,post=Ky p w:=⟨_,rfl⟩;have HNO:Hid (∀w',Below w.heap.size w w'->¬Bq p->post (A5 7 0) w'):=by
  rw[hpost];exact fun w' hb hr=>⟨hb,Or.inr ⟨hr,rfl⟩⟩
 have HYES:Hid (∀w',Below w.heap.size w w'->Bq p->post (.returned (.string (str (DG p)))) w'):=by
  rw[hpost];exact fun w' hb hr=>⟨hb,Or.inl ⟨hr,rfl⟩⟩
 rw[<-hpost];clear hpost;have HRT:=Ab (fun w=>RL p w);have HLE:=Ab (fun h:Bq p=>KE h);have HWH:=Ab (fun h:Bq p=>h);have HSB:Hid (DG p=Et p++AF (FE (Et p))):=rfl;have HHB:Hid (Et p=[b8 p.kind,b8 p.client,b8 p.Ax,b8 p.line]++AF p.seq++[b8 p.uid,b8 p.part,b8 p.off,b8 (yes p.please),b8 (p.body.length:Int)]++p.body):=rfl;obtain⟨k,c,li,ln,sq,u,pa,o,pl,body⟩:=p;go_enter Tryz.func212,Tryz.ntmps212;go_wp2_with fail
 refine((Aa HRT) _).mono ?_;rintro e w1 ⟨hb1,⟨hrt,rfl⟩|⟨hnr,rfl⟩⟩
 ·have hs1:=hb1.size;have hbx:=(hb1.block w.heap.size (by simp)).trans (heap_alloc_new w _);have HB1:=Ab (((Below.refl w.heap.size w).alloc (Nat.le_refl _) (.cells #[.int .i64 k,.int .i64 c,.int .i64 li,.int .i64 ln,.int .i64 sq,.int .i64 u,.int .i64 pa,.int .i64 o,.bool pl,.string (str body)] 41)).trans (hb1.mono (by simp)));have hbl:=(Aa HLE) hrt;simp at hs1 hbl;have HRR:=Ab hrt;obtain⟨b1,b2,b3,b4,b5,b6,b7,b8',_⟩:=hrt;simp only at b1 b2 b3 b4 b5 b6 b7 b8';have q1:0<=k/\k<=255:=by omega
  have q2:0<=c/\c<=255:=by omega
  have q3:0<=li/\li<=255:=by omega
  have q4:0<=ln/\ln<=255:=by omega
  have q6:0<=u/\u<=255:=by omega
  have q7:0<=pa/\pa<=255:=by omega
  have q8:0<=o/\o<=255:=by omega
  have e0:w1.cell? ⟨w.heap.size,0,none⟩=some (.int .i64 k):=cell_of hbx 0 _ rfl;have e1:w1.cell? ⟨w.heap.size,1,none⟩=some (.int .i64 c):=cell_of hbx 1 _ rfl;have e2:w1.cell? ⟨w.heap.size,2,none⟩=some (.int .i64 li):=cell_of hbx 2 _ rfl;have e3:w1.cell? ⟨w.heap.size,3,none⟩=some (.int .i64 ln):=cell_of hbx 3 _ rfl;have e4:w1.cell? ⟨w.heap.size,4,none⟩=some (.int .i64 sq):=cell_of hbx 4 _ rfl;have hcl:w.heap.size<w1.heap.size:=by omega
  have HBX:=Ab hbx;clear hbx hb1;go_wp2_with fail
  refine(EN (w.heap.size+1) _ _ sq _ (US w1 (w.heap.size+1) (by omega) k c li ln q1 q2 q3 q4) (by simp;omega) (by simp) (by omega)).mono ?_;rintro e w2 ⟨O2,rfl,hown2,hb2⟩;have hs2:=hb2.size;simp at hs2;have hbx2:=(hb2.block w.heap.size (by omega)).trans ((Below.heap_alloc w1 _ _ hcl).trans (Aa HBX));obtain⟨o2a,o2n,o2c,hO2⟩:=Am hown2;subst hO2;have hlt2:=fun k=>World.ownsRow.lt hown2 k
  have HLT2:=Ab hlt2;have HB2:=Ab (((Aa HB1).alloc (by omega) (.cells #[.int .u8 k,.int .u8 c,.int .u8 li,.int .u8 ln] 5)).trans (hb2.mono (by omega)));have e5:w2.cell? ⟨w.heap.size,5,none⟩=some (.int .i64 u):=cell_of hbx2 5 _ rfl;have e6:w2.cell? ⟨w.heap.size,6,none⟩=some (.int .i64 pa):=cell_of hbx2 6 _ rfl;have e7:w2.cell? ⟨w.heap.size,7,none⟩=some (.int .i64 o):=cell_of hbx2 7 _ rfl;have e8:w2.cell? ⟨w.heap.size,8,none⟩=some (.bool pl):=cell_of hbx2 8 _ rfl;have e9:w2.cell? ⟨w.heap.size,9,none⟩=some (.string (str body)):=cell_of hbx2 9 _ rfl;have HBX2:=Ab hbx2;have HOW2:=Ab hown2;have hcl2:w.heap.size<w2.heap.size:=by omega
  have HZO:=Ab JW;have hne:¬w2.heap.size=w.heap.size:=by omega
  obtain⟨i0,hi,hz0,hz1,hz2⟩:=info_parts info5;have qs:0<=(body.length:Int)/\(body.length:Int)<=255:=by omega
  have wu:IntKind.u8.wrap u=u:=by rw[wrap_u8];omega
  have wpa:IntKind.u8.wrap pa=pa:=by rw[wrap_u8];omega
  have wo:IntKind.u8.wrap o=o:=by rw[wrap_u8];omega
  have wl:IntKind.u8.wrap (body.length:Int)=(body.length:Int):=by rw[wrap_u8];omega
  have qy:0<=yes pl/\yes pl<=255:=by unfold yes;split<;>omega
  generalize hYP:yes pl=Y at *;have HN:=J2 w2 (DF [b8 u,b8 pa,b8 o,b8 Y,b8 (body.length:Int)]);rw[I8 u pa o Y (body.length:Int) q6 q7 q8 qy qs]at HN;have HNN:=Ab HN;have HF5:=Ab (I8 u pa o Y (body.length:Int) q6 q7 q8 qy qs);have HGR:Hid (∀(o5:Obj) (wz:World),((w2.alloc o5).drew).grownBy wz (Value.slice o2a o2n o2c).ownBlock->Below (w.heap.size+1) w2 wz/\wz.heap[w.heap.size]?=w2.heap[w.heap.size]?):=by
   intro o5 wz hg;have h:=((Below.refl (w.heap.size+1) w2).alloc (by omega) o5).drew.grown hg (by simp;omega) (fun k hk=>(hlt2 k hk).1);exact⟨h,h.block _ (by omega)⟩
  clear HN hbx2 hown2 hb2 hlt2 e0 e1 e2 e3 e4 HRT HLE HBX HB1;go_wp2;go_region_held3 (fun w'=>w'.cell? ⟨w.heap.size,5,none⟩=some (.int .i64 u)/\w'.cell? ⟨w.heap.size,6,none⟩=some (.int .i64 pa)/\w'.cell? ⟨w.heap.size,7,none⟩=some (.int .i64 o)/\w'.cell? ⟨w.heap.size,8,none⟩=some (.bool pl)/\w'.cell? ⟨w.heap.size,9,none⟩=some (.string (str body))) (go_keep)
   (first
    |(go_at_call 245;refine((Aa HZO) _ _).mono ?_;rintro e w' ⟨rfl,rfl⟩)
    |(refine Bb rfl (.tmp 23) (.tmp 40) 199 rfl (w.heap.size+1) 5 i0 (.int .u8 0) 1 1 Tryz.underlying199 hi hz0 hz1 hz2 rfl (by decide) (.slice o2a o2n o2c) 6 (DF ([b8 k,b8 c,b8 li,b8 ln]++AF sq)) rfl (by exact(Aa HOW2).alloc _) ⟨w2.heap.size,0,none⟩ 5 5 [.int .u8 u,.int .u8 pa,.int .u8 o,.int .u8 Y,.int .u8 (body.length:Int)] rfl rfl (by first|exact(Aa HNN)|(rw[wu,wpa,wo,wl];exact(Aa HNN))) (by rw[<-Aa HF5];exact GN _) (by unfold maxLen;omega) (by omega) (by simp;omega) ?_;intro v' wz hown hgrow hat;obtain⟨va,vn,vc,hvs⟩:=Am hown;subst hvs;have hgg:=(Aa HGR) _ _ hgrow;obtain⟨hbz,hkz⟩:=hgg;have hbxz:=hkz.trans (Aa HBX2);have f5:=cell_of hbxz 5 _ rfl;have f6:=cell_of hbxz 6 _ rfl;have f7:=cell_of hbxz 7 _ rfl;have f8:=cell_of hbxz 8 _ rfl;have f9:=cell_of hbxz 9 _ rfl;have HOZ:=Ab hown;have HBZ:=Ab hbz;clear hown hgrow hat hbz hkz hbxz))
  have hown3:=Aa HOZ;rw[<-Aa HF5]at hown3;have hown3':Own wz (w.heap.size+1) (.slice va vn vc) ([b8 k,b8 c,b8 li,b8 ln]++AF sq++[b8 u,b8 pa,b8 o,b8 Y,b8 (body.length:Int)]):=Own.push hown3;have HOW3:=Ab hown3';have hlt3:=fun k=>World.ownsRow.lt hown3' k
  have HLT3:=Ab hlt3;have hsz3:=(Aa HBZ).size;have HB3:=Ab ((Aa HB2).trans ((Aa HBZ).mono (by omega:w.heap.size<=w.heap.size+1)));have g9:wz.cell? ⟨w.heap.size,9,none⟩=some (.string (str body)):=f9;obtain⟨acc,hacc⟩:∃acc,acc=[b8 k,b8 c,b8 li,b8 ln]++AF sq++[b8 u,b8 pa,b8 o,b8 Y,b8 (body.length:Int)]:=⟨_,rfl⟩;have hal:acc.length=11:=by rw[hacc];rfl
  rw[<-hacc]at HOW3;have HACC:=Ab hacc;have hsb:(str body).size=body.length:=Au body;have HSC:Hid (Lib.strCells (str body)=DF body):=rfl;clear hown3 hown3' HOZ f5 f6 f7 f8 f9 e5 e6 e7 e8 e9 HNN HF5 HGR HOW2 HLT2 HBZ HBX2 HB2 HZO hlt3 hacc;go_wp2_with (at_builtin;go_must (refine Lib.wpList_append_own_string _ rfl (.tmp 42) (.tmp 44) 199 9 rfl (w.heap.size+1) 5 i0 Tryz.underlying199 Tryz.underlying9 hi hz0 hz1 hz2 (.slice va vn vc) acc.length (DF acc) rfl (by exact Aa HOW3) (str body) rfl (by unfold maxLen;omega) (by omega) (by omega) ?_))
  intro O4 w4 hown4 hgrow4 _;obtain⟨o4a,o4n,o4c,hO4⟩:=Am hown4;subst hO4;have hbl4:=(Below.refl (w.heap.size+1) wz).grown hgrow4 (by omega) (fun k hk=>((Aa HLT3) k hk).1);have hs4:=hbl4.size;have HB4:=Ab ((Aa HB3).trans (hbl4.mono (by omega:w.heap.size<=w.heap.size+1)));rw[Aa HSC]at hown4;have hown4':Own w4 (w.heap.size+1) (.slice o4a o4n o4c) (acc++body):=Own.push (by rw[hal];exact hown4);have hhd:acc++body=Et ⟨k,c,li,ln,sq,u,pa,o,pl,body⟩:=by rw[Aa HACC,Aa HHB]
  rw[hhd]at hown4';have hhl:(Et ⟨k,c,li,ln,sq,u,pa,o,pl,body⟩).length<=1000:=by rw[<-hhd,List.length_append];omega
  generalize hHH:Et ⟨k,c,li,ln,sq,u,pa,o,pl,body⟩=H at *;have hcv:=hown4'.conv;have H6:=Ab (fun w=>MR H w (by omega));have hcd:((crc H).toNat:Int)=FE H:=rfl;rw[hcd]at H6;have H7:=Ab (EN (w.heap.size+1) _ H (FE H) w4 hown4' (by omega) hhl (KO H));generalize hC:FE H=C at *;clear hown4 hown4' hgrow4 hbl4 HB3 HOW3 HLT3 g9 hhd hcd;generalize hSH:str H=SH at *;go_wp2_with fail
  refine((Aa H6) _).mono ?_;rintro e w5 ⟨rfl,rfl⟩;go_wp2_with fail
  refine(Aa H7).mono ?_;rintro e w6 ⟨O6,rfl,hown6,hb6⟩;obtain⟨o6a,o6n,o6c,hO6⟩:=Am hown6;subst hO6;have hcv6:=hown6.conv;have HB6:=Ab ((Aa HB4).trans (hb6.mono (by omega:w.heap.size<=w.heap.size+1)));clear hown6 hb6 hcv;have HY:=(Aa HYES);rw[Aa HSB]at HY;have HY':=Ab HY;clear HY HYES HNO HSB HHB;generalize hST:str (H++AF C)=ST at *;go_wp2;exact(Aa HY') _ (Aa HB6) (Aa HRR)
 ·go_wp2;exact⟨rfl,(Aa HNO) _ (((Below.refl _ _).alloc (Nat.le_refl _) _).trans (hb1.mono (by simp))) hnr⟩
end Go.Proofs.YtblomippkddgiaaGreatDoor
