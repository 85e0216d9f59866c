import Derived.Test.YtblomippkddgiaaGreatDoorJ27
import Derived.Test.YtblomippkddgiaaGreatDoorJ36
import Derived.Test.YtblomippkddgiaaGreatDoorJ21
import Derived.Test.YtblomippkddgiaaGreatDoorJ37
import Derived.Test.YtblomippkddgiaaGreatDoorJ22
namespace Go.Proofs.YtblomippkddgiaaGreatDoor
open Go.RowKit
theorem ne_chan{w:World}{b b':Nat}{cur:Array Value}{t:TypeId}{z:Nat×Nat}{cap:Nat}{buf:Array Value}{cl:Bool}{a r:Nat}{tm:Bool}(h:w.heap[b]?=some (.cells cur t z))(h':w.heap[b']?=some (.chan cap buf cl a r tm)):b≠b':=fun e=>by
 rw[e,h']at h
 cases h
theorem amr{w:World}{B n size:Nat}{e:TypeId}{v:Value}{xs:List Value}(hr:w.ownsRow B e size v n xs){b' cap:Nat}{buf:Array Value}{cl:Bool}{a r:Nat}{tm:Bool}(h':w.heap[b']?=some (.chan cap buf cl a r tm))(j:Nat)(hj:v.ownBlock=some j):j≠b':=by
 rcases hr.2 with ⟨rfl,_⟩|⟨g,cap,cur,rfl,_,hg,_⟩
 ·cases hj
 ·cases hj
  exact ne_chan hg h'
theorem set_get'{α:Type}{l:List α}{u i:Nat}{x y:α}(h:(l.set u x)[i]?=some y):(i=u∧y=x)∨(i≠u∧l[i]?=some y):=by
 rw[List.getElem?_set]at h
 by_cases e:u=i
 ·rw[if_pos e]at h
  split at h
  ·exact Or.inl ⟨e.symm,(Option.some.inj h).symm⟩
  ·cases h
 ·rw[if_neg e]at h
  exact Or.inr ⟨fun q=>e q.symm,h⟩
def SP.put(t:SP)(i b:Nat):SP:={t with ql:=fun j=>if j=i then b else t.ql j}
theorem akB(t:SP)(seen:List R.Sn)(i b:Nat)(r':R.Sn)(hi:i<seen.length)(hne:r'.seq≠0)(j:Nat):aaE (t.put i b) (seen.set i r') j=if j=i then ptr b else aaE t seen j:=by
 unfold aaE SP.put
 rw[List.getElem?_set]
 by_cases e:i=j
 ·subst e
  rw[if_pos rfl,if_pos hi,if_pos rfl]
  simp[hne]
 ·have e':¬j=i:=fun q=>e q.symm
  simp[e,e']
theorem aiQ(n nm:Nat)(t:SP)(c:R.Cf)(lives:List Int)(seen:List R.Sn)(i b:Nat)(r':R.Sn)(hl:seen.length=9)(hi:i<9)(hne:r'.seq≠0):aaS n nm (t.put i b) c lives (seen.set i r')=(aaS n nm t c lives seen).set (10+i) (ptr b):=by
 have q:=akB t seen i b r' (by omega) hne
 unfold aaS
 simp only[q]
 have h:i=0∨i=1∨i=2∨i=3∨i=4∨i=5∨i=6∨i=7∨i=8:=by omega
 rcases h with rfl|rfl|rfl|rfl|rfl|rfl|rfl|rfl|rfl <;> rfl
theorem SrvAt.newLine{s n nm:Nat}{t:SP}{F:aai}{c:R.Cf}{sv:List R.Sv}{lives:List Int}{seen:List R.Sn}{jobs:List R.Jb}{w w':World}(h:SrvAt s n nm t F c sv lives seen jobs w)(hlt:∀k,F k→k<w.heap.size){i b:Nat}{r':R.Sn}{y:SLn}(hl:seen.length=9)(hi:i<9)(hne:r'.seq≠0)(hb:w.heap.size≤b)(hk:Keeps (fun k=>k=s) w w')(hs:w'.heap[s]?=some (.cells ((aaS n nm t c lives seen).set (10+i) (ptr b)).toArray 167 (0,0)))(hy:w'.heap[b]?=some (.cells y.cells.toArray 147 (0,0)))(hrel:SnRel i (lives.getD (i / 3) 0) r' y) :
  SrvAt s n nm (t.put i b) (fun k=>F k∨k=b) c sv lives (seen.set i r') jobs w':=by
 obtain⟨f1,f2,f3⟩:=h.foot
 have hav:AvT w F (fun k=>k=s):=AvT.one h.bs (by decide)
 obtain⟨ja,jb,hj⟩:=h.jobs
 have hq:∀(j:Nat) (x:R.Sn),(seen.set i r')[j]?=some x→(j=i∧x=r')∨(j≠i∧seen[j]?=some x):=fun j x hx=>by
  rw[List.getElem?_set]at hx
  by_cases e:i=j
  ·rw[if_pos e]at hx
   split at hx
   ·exact Or.inl ⟨e.symm,(Option.some.inj hx).symm⟩
   ·cases hx
  ·rw[if_neg e]at hx
   exact Or.inr ⟨fun q=>e q.symm,hx⟩
 refine⟨by rw[aiQ n nm t c lives seen i b r' hl hi hne];exact hs,h.zs,hk.row h.made (fun j hj e=>aao h.made h.bs (by decide) (by rw[←e];exact hj)),fun z hz=>(h.each z hz).keep hk hav (fun _ q=>Or.inl q),h.dns,h.wks,fun j x hx hxe=>?_,fun j j' x x' hx hx' hxe hxe' hjj=>?_,⟨ja,jb,hk.at hj (ne_chan h.bs hj).symm⟩,Or.inl f1,Or.inl f2,fun j hj=>Or.inl (f3 j hj)⟩
 ·rcases hq j x hx with ⟨rfl,rfl⟩|⟨e,hx⟩
  ·refine⟨y,?_,hrel,Or.inr ?_⟩
   ·simp only[SP.put,if_true]
    exact hy
   ·simp[SP.put]
  ·obtain⟨y',h1,h2,h3⟩:=h.ln j x hx hxe
   refine⟨y',?_,h2,Or.inl ?_⟩
   ·simp only[SP.put,if_neg e]
    exact hk.at h1 (ne_tag h1 h.bs (by decide))
   ·simp only[SP.put,if_neg e]
    exact h3
 ·rcases hq j x hx with ⟨e,_⟩|⟨e,hx0⟩
  ·rcases hq j' x' hx' with ⟨e',_⟩|⟨e',hx1⟩
   ·exact absurd (e.trans e'.symm) hjj
   ·obtain⟨y',_,_,h3⟩:=h.ln j' x' hx1 hxe'
    have:=hlt _ h3
    simp only[SP.put,if_pos e,if_neg e']
    omega
  ·rcases hq j' x' hx' with ⟨e',_⟩|⟨e',hx1⟩
   ·obtain⟨y',_,_,h3⟩:=h.ln j x hx0 hxe
    have:=hlt _ h3
    simp only[SP.put,if_pos e',if_neg e]
    omega
   ·simp only[SP.put,if_neg e,if_neg e']
    exact h.inj j j' x x' hx0 hx1 hxe hxe' hjj
theorem SrvAt.jobsTurn{s n nm:Nat}{t:SP}{F:aai}{c:R.Cf}{sv:List R.Sv}{lives:List Int}{seen:List R.Sn}{jobs jobs':List R.Jb}{w w':World}(h:SrvAt s n nm t F c sv lives seen jobs w)(hk:Keeps (fun k=>k=t.jc) w w')(hj':∃a b:Nat,w'.heap[t.jc]?=some (.chan c.table.toNat (jobs'.map jval).toArray false a b false)) :
  SrvAt s n nm t F c sv lives seen jobs' w':=by
 obtain⟨ja,jb,hj⟩:=h.jobs
 have hav:AvT w F (fun k=>k=t.jc):=AvT.tags (fun b hb=>Or.inr (Or.inr ⟨_,_,_,_,_,_,by subst hb;exact hj⟩))
 refine⟨hk.at h.bs (ne_chan h.bs hj),h.zs,hk.row h.made (amr h.made hj),fun z hz=>(h.each z hz).keep hk hav (fun _ q=>q),h.dns,h.wks,fun j x hx hxe=>?_,h.inj,hj',h.foot⟩
 obtain⟨y',h1,h2,h3⟩:=h.ln j x hx hxe
 exact⟨y',hk.at h1 (ne_chan h1 hj),h2,h3⟩
def forgot(seen:List R.Sn)(k:Nat):List R.Sn:=((seen.set (3*k) R.sn0).set (3*k+1) R.sn0).set (3*k+2) R.sn0
theorem forgot_get(seen:List R.Sn)(k j:Nat)(x:R.Sn)(h:(forgot seen k)[j]?=some x):(j / 3=k∧x=R.sn0)∨(j / 3≠k∧seen[j]?=some x):=by
 unfold forgot at h
 rcases set_get' h with ⟨e1,e2⟩|⟨n1,h⟩
 ·exact Or.inl ⟨by omega,e2⟩
 ·rcases set_get' h with ⟨e1,e2⟩|⟨n2,h⟩
  ·exact Or.inl ⟨by omega,e2⟩
  ·rcases set_get' h with ⟨e1,e2⟩|⟨n3,h⟩
   ·exact Or.inl ⟨by omega,e2⟩
   ·by_cases e:j / 3=k
    ·omega
    ·exact Or.inr ⟨e,h⟩
theorem afe(n nm:Nat)(t:SP)(c:R.Cf)(lives:List Int)(seen:List R.Sn)(k:Nat)(life:Int)(hll:lives.length=3)(hk:k<3):aaS n nm t c (lives.set k life) (forgot seen k)=((((aaS n nm t c lives seen).set (7+k) (.int .i64 life)).set (10+3*k) (.pointer none)).set (10+3*k+1) (.pointer none)).set (10+3*k+2) (.pointer none):=by
 have hh:k=0∨k=1∨k=2:=by omega
 have q:∀j,aaE t (forgot seen k) j=if j / 3=k then .pointer none else aaE t seen j:=fun j=>by
  unfold aaE
  by_cases e:j / 3=k
  ·rw[if_pos e]
   cases hx:(forgot seen k)[j]? with
   |none=>simp[R.sn0]
   |some x=>
    rcases forgot_get seen k j x hx with ⟨_,rfl⟩|⟨e',_⟩
    ·simp[R.sn0]
    ·exact absurd e e'
  ·rw[if_neg e]
   have:(forgot seen k)[j]?=seen[j]?:=by
    unfold forgot
    rw[List.getElem?_set,if_neg (by omega),List.getElem?_set,if_neg (by omega),List.getElem?_set,if_neg (by omega)]
   rw[this]
 obtain⟨a,b,d,rfl⟩:∃a b d,lives=[a,b,d]:=by
  match lives,hll with
  |[a,b,d],_=>exact⟨a,b,d,rfl⟩
 unfold aaS
 simp only[q]
 rcases hh with rfl|rfl|rfl <;> rfl
theorem SrvAt.forget{s n nm:Nat}{t:SP}{F:aai}{c:R.Cf}{sv:List R.Sv}{lives:List Int}{seen:List R.Sn}{jobs:List R.Jb}{w w':World}(h:SrvAt s n nm t F c sv lives seen jobs w){k:Nat}{life:Int}(hll:lives.length=3)(hk3:k<3)(hk:Keeps (fun k=>k=s) w w')(hs:w'.heap[s]?=some (.cells (((((aaS n nm t c lives seen).set (7+k) (.int .i64 life)).set (10+3*k) (.pointer none)).set (10+3*k+1) (.pointer none)).set (10+3*k+2) (.pointer none)).toArray 167 (0,0))) :
  SrvAt s n nm t F c sv (lives.set k life) (forgot seen k) jobs w':=by
 have hav:AvT w F (fun k=>k=s):=AvT.one h.bs (by decide)
 obtain⟨ja,jb,hj⟩:=h.jobs
 refine⟨by rw[afe n nm t c lives seen k life hll hk3];exact hs,h.zs,hk.row h.made (fun j hj e=>aao h.made h.bs (by decide) (by rw[←e];exact hj)),fun z hz=>(h.each z hz).keep hk hav (fun _ q=>q),h.dns,h.wks,fun j x hx hxe=>?_,fun j j' x x' hx hx' hxe hxe' hjj=>?_,⟨ja,jb,hk.at hj (ne_chan h.bs hj).symm⟩,h.foot⟩
 ·rcases forgot_get seen k j x hx with ⟨_,rfl⟩|⟨e,hx⟩
  ·exact absurd rfl hxe
  ·obtain⟨y',h1,h2,h3⟩:=h.ln j x hx hxe
   refine⟨y',hk.at h1 (ne_tag h1 h.bs (by decide)),?_,h3⟩
   have:(lives.set k life).getD (j / 3) 0=lives.getD (j / 3) 0:=by
    rw[List.getD_eq_getElem?_getD,List.getD_eq_getElem?_getD,List.getElem?_set,if_neg (fun q=>e q.symm)]
   rw[this]
   exact h2
 ·rcases forgot_get seen k j x hx with ⟨_,rfl⟩|⟨e,hx⟩
  ·exact absurd rfl hxe
  ·rcases forgot_get seen k j' x' hx' with ⟨_,rfl⟩|⟨e',hx'⟩
   ·exact absurd rfl hxe'
   ·exact h.inj j j' x x' hx hx' hxe hxe' hjj
end Go.Proofs.YtblomippkddgiaaGreatDoor
namespace Go.Proofs.YtblomippkddgiaaGreatDoor.R
def cnt(l:List Sn):Nat:=(l.filter fun r=>decide (0<r.seq)).length
theorem abi(r:Sn)(l:List Sn):cnt (r :: l)=(if 0<r.seq then 1 else 0)+cnt l:=by
 unfold cnt
 rw[List.filter_cons]
 by_cases h:0<r.seq
 ·simp[h]
  omega
 ·simp[h]
theorem ae4:∀(l:List Sn) (i:Nat) (r':Sn),cnt (l.set i r')≤cnt l+1
 |[],i,r'=>by simp[cnt]
 |r :: l,0,r'=>by
  rw[List.set_cons_zero,abi,abi]
  split <;> split <;> omega
 |r :: l,i+1,r'=>by
  rw[List.set_cons_succ,abi,abi]
  have:=ae4 l i r'
  omega
theorem adv:∀(l:List Sn) (i:Nat) (r r':Sn),l[i]?=some r→(0<r'.seq→0<r.seq)→cnt (l.set i r')≤cnt l
 |[],i,r,r',h,_=>by simp at h
 |x :: l,0,r,r',h,hs=>by
  simp at h
  subst h
  rw[List.set_cons_zero,abi,abi]
  split
  ·rename_i q
   rw[if_pos (hs q)]
   omega
  ·omega
 |x :: l,i+1,r,r',h,hs=>by
  rw[List.set_cons_succ,abi,abi]
  have:=adv l i r r' (by simpa using h) hs
  omega
theorem agj(G:Wd)(i:Nat)(r':Sn)(hs:0<r'.seq→0<(seenP G i).seq):cnt (G.seen.set i r')≤cnt G.seen:=by
 cases h:G.seen[i]? with
 |none=>
  have:G.seen.set i r'=G.seen:=List.set_eq_of_length_le (by simpa using h)
  rw[this]
  exact Nat.le_refl _
 |some r=>
  rw[seenP_some h]at hs
  exact adv _ _ r r' h hs
theorem apa(l:List Sn)(f:Sn→Sn)(hf:∀r,(f r).seq=r.seq):cnt (l.map f)=cnt l:=by
 induction l with
 |nil=>rfl
 |cons r l ih=>rw[List.map_cons,abi,abi,ih,hf]
def Room(G:Wd):Prop:=(cnt G.seen:Int)≤G.c.table
theorem Room.of{G G':Wd}(h:Room G)(hc:G'.c=G.c)(hs:cnt G'.seen≤cnt G.seen):Room G':=by
 unfold Room at *
 rw[hc]
 omega
theorem Room.same{G G':Wd}(h:Room G)(hc:G'.c=G.c)(hs:G'.seen=G.seen):Room G':=h.of hc (by rw[hs];exact Nat.le_refl _)
theorem Room.send{G:Wd}(h:Room G)(to:Int)(p:Pk):Room (sendP G to p):=h.same (sendP_c' G to p) (sendP_seen G to p)
theorem Room.line{G:Wd}(h:Room G)(i k:Int)(l:Ln):Room (setLine G i k l):=h.same rfl rfl
theorem Room.seen{G:Wd}(h:Room G)(i:Nat)(r':Sn)(hs:0<r'.seq→0<(seenP G i).seq):Room (setSeen G i r'):=h.of rfl (agj G i r' hs)
theorem Room.seenE{G:Wd}(h:Room G)(i:Nat){r':Sn}(hs:r'.seq=(seenP G i).seq):Room (setSeen G i r'):=h.seen i r' (fun q=>by rw[←hs];exact q)
theorem Room.result{G:Wd}(h:Room G)(i:Nat):Room (sendResultP G i):=h.send _ _
theorem Room.tell{G:Wd}(h:Room G)(i:Nat):Room (tellP G i):=by
 unfold tellP
 simp only
 exact Room.seenE (h.result i) i rfl
theorem Room.reply{G:Wd}(h:Room G)(p:Pk)(a b c:Int):Room (replyP G p a b c):=h.send _ _
theorem Room.ack{G:Wd}(h:Room G)(p:Pk):Room (ackP G p):=by
 unfold ackP
 split
 ·exact h.reply p _ _ _
 ·exact h
theorem Room.gather{G:Wd}(h:Room G)(i:Nat)(p:Pk):Room (gatherP G i p):=by
 unfold gatherP
 simp only
 split
 ·split
  ·split
   ·exact h
   ·refine Room.ack ?_ p
    exact(h.seen i {seenP G i with state:=2,message:=(seenP G i).message++p.body,pieces:=(seenP G i).pieces+1} (fun q=>q)).same rfl rfl
  ·refine Room.ack ?_ p
   exact Room.seenE h i rfl
 ·exact h.ack p
theorem Room.known{G:Wd}(h:Room G)(i:Nat)(p:Pk):Room (knownP G i p):=by
 unfold knownP
 simp only
 repeat' split
 ·exact h.gather i p
 ·exact h
 ·exact h.reply p _ _ _
 ·exact h
 ·exact h.tell i
 ·exact h.reply p _ _ _
 ·exact h.reply p _ _ _
theorem Room.lives{G:Wd}(h:Room G)(p:Pk):Room (livesP G p):=by
 unfold livesP
 split
 ·have z:∀K:Wd,Room K→∀i,Room (setSeen K i sn0):=fun K hK i=>hK.seen i sn0 (fun q=>by simp[sn0]at q)
  exact(z _ (z _ (z _ h (3*p.client.toNat)) (3*p.client.toNat+1)) (3*p.client.toNat+2)).same rfl rfl
 ·exact h
theorem Room.ask{G:Wd}(h:Room G)(i:Nat)(p:Pk)(h0:0≤(seenP G i).seq):Room (askP G i p):=by
 unfold askP
 simp only
 repeat' split
 ·refine Room.tell ?_ i
  exact Room.seenE h i rfl
 ·exact h
 ·exact h.known i p
 ·exact h
 ·exact h.reply p _ _ _
 ·exact h
 ·exact h.reply p _ _ _
 ·rename_i hn
  refine Room.known ?_ i p
  by_cases hz:(seenP G i).seq=0
  ·have hlt:¬G.c.table≤(rememberedP G:Int):=fun q=>hn ⟨hz,q⟩
   have h2:rememberedP G=cnt G.seen:=rfl
   rw[h2]at hlt
   refine Int.le_trans (Int.ofNat_le.2 (ae4 G.seen i _)) ?_
   show ((cnt G.seen+1:Nat):Int)≤G.c.table
   omega
  ·exact h.seen i _ (fun _=>by omega)
theorem Room.heard{G:Wd}(h:Room G)(c:Int)(p:Pk):Room (heardP G c p):=by
 unfold heardP resultP restP gotP sendPieceP
 simp only
 repeat' split
 all_goals first
  |exact h
  |exact h.line _ _ _
  |exact h.send _ _
  |exact((h.line _ _ _).send _ _).line _ _ _
  |exact(h.line _ _ _).line _ _ _
theorem Room.deliver{M:Bk}{G:Wd}(h:Room G)(hI:Inv M G)(i:Int):Room (deliverP G i).2:=by
 unfold deliverP
 split
 ·exact h
 ·split
  ·exact h
  ·rename_i f hf
   have h1:Room {G with flying:=G.flying.eraseIdx i.toNat}:=h.same rfl rfl
   simp only
   split
   ·exact h1
   ·split
    ·exact h1
    ·rename_i p _
     split
     ·unfold askedP
      split
      ·exact h1
      ·refine Room.ask (h1.lives p) _ p ?_
       have z:∀(K:Wd) (k:Nat),(∀r∈K.seen,0≤r.seq)→0≤(seenP K k).seq:=fun K k hK=>by
        unfold seenP
        cases hk:K.seen[k]? with
        |none=>simp[sn0]
        |some r=>exact hK r (List.mem_of_getElem? hk)
       have s0:∀r∈G.seen,0≤r.seq:=fun r hr=>by
        obtain⟨k,hk⟩:=List.mem_iff_getElem?.1 hr
        exact(hI.ws.sn k r hk).seq.1
       refine z _ _ ?_
       unfold livesP
       split
       ·intro r hr
        rcases List.mem_or_eq_of_mem_set hr with hr|rfl
        ·rcases List.mem_or_eq_of_mem_set hr with hr|rfl
         ·rcases List.mem_or_eq_of_mem_set hr with hr|rfl
          ·exact s0 r hr
          ·simp[sn0]
         ·simp[sn0]
        ·simp[sn0]
       ·exact s0
     ·exact h1.heard _ p
theorem Room.tickSeen{G:Wd}(h:Room G)(i:Nat):Room (tickSeen G i):=by
 unfold R.tickSeen
 simp only
 repeat' split
 ·exact h
 ·exact Room.seenE h i rfl
 ·exact Room.seenE h i rfl
 ·refine Room.result ?_ i
  exact Room.seenE h i rfl
theorem Room.tickLine{G:Wd}(h:Room G)(i k:Int):Room (tickLine G i k):=by
 unfold R.tickLine sendPieceP probeP
 simp only
 repeat' split
 all_goals first
  |exact h
  |exact h.line _ _ _
  |exact(h.line _ _ _).send _ _
theorem Room.fold{α:Type}(f:Wd→α→Wd)(hf:∀G a,Room G→Room (f G a)):∀(l:List α) (G:Wd),Room G→Room (l.foldl f G)
 |[],_,h=>h
 |a :: l,G,h=>Room.fold f hf l (f G a) (hf G a h)
theorem Room.tick{G:Wd}(h:Room G):Room (tickP G):=by
 unfold tickP tickLines
 refine Room.fold _ (fun K i hK=>hK.tickSeen i) _ _ ?_
 refine Room.fold _ (fun K i hK=>?_) _ _ h
 exact Room.fold _ (fun K k hK=>hK.tickLine _ _) _ _ hK
theorem Room.done{G:Wd}(h:Room G)(i:Nat):Room (doneP G i):=by
 unfold doneP
 simp only
 refine Room.tell ?_ i
 exact(h.seen i {seenP G i with state:=3,result:=(bytesP ((sigP ((G.services[((seenP G i).uid-1).toNat]?).getD ⟨0,false,[]⟩).kind (256*(((seenP G i).message.getD 0 0).toNat:Int)+(((seenP G i).message.getD 1 0).toNat:Int))).getD (⟨#[]⟩,⟨#[]⟩)).2 (doesP ((G.services[((seenP G i).uid-1).toNat]?).getD ⟨0,false,[]⟩).kind ((G.services[((seenP G i).uid-1).toNat]?).getD ⟨0,false,[]⟩).log (256*(((seenP G i).message.getD 0 0).toNat:Int)+(((seenP G i).message.getD 1 0).toNat:Int)) (V.uFull ((sigP ((G.services[((seenP G i).uid-1).toNat]?).getD ⟨0,false,[]⟩).kind (256*(((seenP G i).message.getD 0 0).toNat:Int)+(((seenP G i).message.getD 1 0).toNat:Int))).getD (⟨#[]⟩,⟨#[]⟩)).1 ((seenP G i).message.drop 2)).2)).getD [],at':=0} (fun q=>q)).same rfl rfl
theorem Room.serve{G:Wd}(h:Room G):Room (serveP G).2:=by
 unfold serveP
 have:∀(l:List Jb),Room (serveGo G l).2:=fun l=>by
  induction l with
  |nil=>exact h.same rfl rfl
  |cons j l ih=>
   unfold serveGo
   split
   ·exact Room.done (G:={G with jobs:=l}) (h.same rfl rfl) _
   ·exact ih
 exact this _
theorem Room.ends{G:Wd}(h:Room G)(uid:Int):Room (adu G uid):=by
 refine h.of rfl ?_
 unfold adu
 simp only
 rw[apa]
 ·exact Nat.le_refl _
 ·intro r
  split <;> rfl
theorem Room.export{G:Wd}(h:Room G)(name:List UInt8)(kind:Int):Room (exportP G name kind).2:=by
 unfold exportP
 repeat' split
 all_goals first
  |exact h
  |exact h.same rfl rfl
  |exact(h.ends _).same rfl rfl
theorem Room.imports{G:Wd}(h:Room G)(c:Int)(name:List UInt8):Room (importP G c name).2:=by
 unfold importP
 repeat' split
 all_goals first
  |exact h
  |exact h.same rfl rfl
theorem Room.call{G:Wd}(h:Room G)(c l u p:Int)(arg:List It):Room (callP G c l u p arg).2:=by
 unfold callP sendPieceP
 dsimp only
 repeat' split
 all_goals first
  |exact h
  |exact(h.line _ _ _).send _ _
theorem Room.drop{G:Wd}(h:Room G)(i:Int):Room (dropP G i).2:=by
 unfold dropP
 split
 ·exact h
 ·exact h.same rfl rfl
theorem Room.new{c:Cf}{G:Wd}(h:newP c=some G):Room G:=by
 unfold newP at h
 split at h
 ·rename_i hc
  cases h
  unfold Room
  have:cnt (List.replicate 9 sn0)=0:=by decide
  simp only[this]
  unfold okCf at hc
  omega
 ·cases h
end Go.Proofs.YtblomippkddgiaaGreatDoor.R
namespace Go.Proofs.YtblomippkddgiaaGreatDoor
open Go.RowKit
theorem LW.reply{p:Pl}{F:aai}{G:R.Wd}{w:World}(h:LW p F G w){P:Pk}(hP:aaj P){kd pa o:Int}(hk:1≤kd∧kd≤7)(hn:kd≠1∧kd≠5)(ho:1≤o∧o≤9)(hpa:0≤pa∧pa≤o-1) :
  Calls Tryz.prog 192 #[ptr p.s,cv P,pvs kd 0 0 0 0 0 pa o false ⟨#[]⟩] w fun e w'=>e=.returned (.tuple #[])∧∃F',LW p F' (R.replyP G P kd pa o) w'∧Went F F' w w':=by
 obtain⟨_,h2,h3,h4,h5,h6,_⟩:=hP
 refine(h.sendS P.client P.life P.line P.seq P.uid kd pa o false [] ⟨hk,h2,h3,h4,h5,h6,ho,hpa,?_⟩).mono (fun e w' q=>q)
 unfold bodyOk
 rw[if_neg (by simp only;omega)]
 rfl
theorem LW.rejectS{p:Pl}{F:aai}{G:R.Wd}{w:World}(h:LW p F G w){P:Pk}(hP:aaj P){why:Int}(hw:why=0∨why=1) :
  Calls Tryz.prog 234 #[ptr p.s,pv P,.int .i64 why] w fun e w'=>e=.returned (.tuple #[])∧∃F',LW p F' (R.replyP G P 7 why 2) w'∧Went F F' w w':=by
 refine agV w p.s P why _ (fun wa hb=>?_)
 refine((h.below hb).reply hP (by omega) (by omega) (by omega) (by omega)).mono ?_
 rintro e w' ⟨rfl,F',q1,q2⟩
 exact⟨rfl,F',q1,(Went.ofBelow F hb).trans q2⟩
def agO(G:R.Wd)(P:Pk):R.Wd:=if P.kind=3 then R.replyP G P 4 0 1 else R.replyP G P 2 P.part P.off
theorem LW.signS{p:Pl}{F:aai}{G:R.Wd}{w:World}(h:LW p F G w){P:Pk}(hP:aaj P) :
  Calls Tryz.prog 237 #[ptr p.s,pv P] w fun e w'=>e=.returned (.tuple #[])∧∃F',LW p F' (agO G P) w'∧Went F F' w w':=by
 have ho:=hP.2.2.2.2.2.2.1
 have hpa:=hP.2.2.2.2.2.2.2.1
 unfold agO
 by_cases hk:P.kind=3
 ·rw[if_pos hk]
  refine afR w p.s P 4 0 1 _ (Or.inl ⟨hk,rfl,rfl,rfl⟩) (fun wa hb=>?_)
  refine((h.below hb).reply hP (by omega) (by omega) (by omega) (by omega)).mono ?_
  rintro e w' ⟨rfl,F',q1,q2⟩
  exact⟨rfl,F',q1,(Went.ofBelow F hb).trans q2⟩
 ·rw[if_neg hk]
  refine afR w p.s P 2 P.part P.off _ (Or.inr ⟨hk,rfl,rfl,rfl⟩) (fun wa hb=>?_)
  refine((h.below hb).reply hP (by omega) (by omega) ho hpa).mono ?_
  rintro e w' ⟨rfl,F',q1,q2⟩
  exact⟨rfl,F',q1,(Went.ofBelow F hb).trans q2⟩
theorem LW.alive{p:Pl}{F:aai}{G:R.Wd}{w:World}(h:LW p F G w)(u:Int) :
  Calls Tryz.prog 233 #[ptr p.s,.int .i64 u] w fun e w'=>e=.returned (.bool (R.aliveP G u))∧w'=w:=by
 obtain⟨a,c,hK⟩:=aas h.srv.made
 have hzl:p.t.zs.length=G.services.length:=by rw[←h.srv.zs,List.length_map]
 have c6:w.cell? ⟨p.s,6,none⟩=some (.slice a p.t.zs.length c):=aaa h.srv.bs 6 _ (by rw[←hK];rfl)
 have h255:=h.wf.sv
 by_cases hu:1≤u∧u≤(G.services.length:Int)
 ·obtain⟨n,rfl⟩:∃n:Nat,u=(n:Int)+1:=⟨(u-1).toNat,by omega⟩
  have hn:n<G.services.length:=by omega
  obtain⟨z,hz,hz1⟩:=afE h.srv.zs (List.getElem?_eq_getElem hn)
  obtain⟨g,cap,cur,hK',_,_,_,k1,_⟩:=h.srv.madeAt hz
  have c6':w.cell? ⟨p.s,6,none⟩=some (.slice (some ⟨g,0,none⟩) p.t.zs.length cap):=aaa h.srv.bs 6 _ (by rw[←hK'];rfl)
  have hal:R.aliveP G ((n:Int)+1)=z.1.alive:=by
   unfold R.aliveP
   have e:((n:Int)+1-1).toNat=n:=by omega
   rw[e,List.getElem?_eq_getElem hn,←hz1]
   simp
   omega
  rw[hal]
  have hsv:=(h.srv.each z (List.mem_of_getElem? hz)).wk
  cases hb:z.1.alive with
  |true=>
   rw[if_pos hb]at hsv
   have:∃T b,z.2.wk=.iface T (ptr b):=by
    generalize z.1.kind=kd at hsv
    generalize z.2.wk=W at hsv
    cases hsv with
    |counter=>exact⟨_,_,rfl⟩
    |board=>exact⟨_,_,rfl⟩
    |desk=>exact⟨_,_,rfl⟩
   obtain⟨T,b,hT⟩:=this
   rw[hT]at k1
   exact alM w p.s g n p.t.zs.length cap T b c6' (by omega) (by omega) k1
  |false=>
   rw[if_neg (by rw[hb];simp)]at hsv
   rw[hsv]at k1
   exact ajI w p.s g n p.t.zs.length cap c6' (by omega) (by omega) k1
 ·have hal:R.aliveP G u=false:=by
   unfold R.aliveP
   by_cases h1:1≤u
   ·rw[List.getElem?_eq_none (by omega)]
    simp
   ·simp[h1]
  rw[hal]
  exact anK w p.s p.t.zs.length a c u c6 (by omega)
end Go.Proofs.YtblomippkddgiaaGreatDoor
