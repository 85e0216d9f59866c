import Derived.Test.YtblomippkddgiaaGreatDoorK16
namespace Go.Proofs.YtblomippkddgiaaGreatDoor.R
theorem BN{G:Wd}{i:Nat}{r:Sn}(h:G.seen[i]?=some r):Ap G i=r:=by simp[Ap,h]
theorem Inv.Dl{M:Bk}{G:Wd}(h:Inv M G){i:Nat}(hi:i<9):G.seen[i]?=some (Ap G i):=by
 have hl:i<G.seen.length:=by rw[h.ws.sl];exact hi
 rw[BN (List.getElem?_eq_getElem hl)];exact List.getElem?_eq_getElem hl
theorem Inv.Im{M:Bk}{G:Wd}(h:Inv M G){p:Pk}(hr:AJ p){d:Cd}(hd:M (DZ p)=some d)(hu:p.uid=d.uid){kind k of':Int}(hk:1<=kind/\kind<=7)(ho:1<=of'/\of'<=9)(hp:0<=k/\k<of')(hok:(kind=2/\of'=Ae d.msg)\/kind=4\/(kind=7/\of'=2)):Inv M (CU G p kind k of'):=by
 obtain⟨r1,r2,r3,r4,r5,r6,r7,r8,r9⟩:=hr;unfold CU;refine h.AU ⟨hk,r2,r3,r4,r5,r6,ho,by simp only;omega,?_⟩ ⟨d,hd,hu,?_⟩
 ·show C5 _;unfold C5;rw[if_neg (by simp only;omega)];rfl
 ·rcases hok with ⟨rfl,rfl⟩|rfl|⟨rfl,rfl⟩
  ·exact Or.inr (Or.inl ⟨rfl,rfl,rfl⟩)
  ·exact Or.inr (Or.inr (Or.inr (Or.inl ⟨rfl,rfl⟩)))
  ·exact Or.inr (Or.inr (Or.inr (Or.inr (Or.inr (Or.inr ⟨rfl,rfl,rfl⟩)))))
theorem LD{s:List UInt8}{k:Int}:8*k+8<(s.length:Int)↔k<Ae s-1:=by unfold Ae;omega
theorem Inv.ER{M:Bk}{G:Wd}(h:Inv M G){i:Nat}(hi:i<9){r:Sn}(hr:G.seen[i]?=some r)(h3:r.state=3):
  AJ ⟨5,((i / 3:Nat):Int),(G.Ai[i / 3]?).getD 0,((i % 3:Nat):Int),r.seq,r.uid,r.at',Ae r.result,false,Bb r.result r.at'⟩:=by
 have hs:=h.ws.sn i r hr;have hne:r.seq≠0:=fun e=>by
  rw[hs.zero e]at h3;cases h3
 obtain⟨a1,a2,a3⟩:=hs.some hne;obtain⟨b1,b2,b3,b4⟩:=hs.ans h3;have hq:=hs.seq;have hlf:∀x∈G.Ai,0<=x/\x<=255:=h.ws.lv;have hlt:i / 3<G.Ai.length:=by rw[h.ws.ll];omega
 have hl1:=hlf _ (List.getElem_mem hlt);rw[List.getD_eq_getElem?_getD,List.getElem?_eq_getElem hlt]at a1;rw[List.getElem?_eq_getElem hlt];simp only[Option.getD_some]at a1 ⊢;have hp1:=Du b1;have hp2:=Er b2;refine⟨by simp,by simp only;omega,by simp only;omega,by simp only;omega,by simp only;omega,a2,by simp only;omega,by simp only;omega,?_⟩;show C5 _;unfold C5;rw[if_pos (by simp)];exact Gx b3
theorem Inv.I1{M:Bk}{G:Wd}(h:Inv M G){i:Nat}(hi:i<9){r:Sn}(hr:G.seen[i]?=some r)(h3:r.state=3):Inv M (AB G i):=by
 have hrt:=h.ER hi hr h3;have hs:=h.ws.sn i r hr;have hne:r.seq≠0:=fun e=>by
  rw[hs.zero e]at h3;cases h3
 unfold AB;simp only;rw[BN hr];refine h.AU hrt ?_;obtain⟨d,q⟩:=h.sn i r hr hne;obtain⟨e,he⟩:=q.ans h3;have hm:=q.made;rw[List.getD_eq_getElem?_getD]at hm he;exact⟨d,hm,q.uid,Or.inr (Or.inr (Or.inr (Or.inr (Or.inl ⟨rfl,rfl,e,r.result,he,rfl,rfl⟩))))⟩
theorem Gf.same{M:Bk}{sv:List Sv}{k:Key}{r r':Sn}{d:Cd}(h:Gf M sv k r d)(e1:r'.uid=r.uid)(e2:r'.state=r.state)(e3:r'.message=r.message)(e4:r'.pieces=r.pieces)(e5:r'.result=r.result):Gf M sv k r' d:=
 ⟨h.made,by rw[e1];exact h.uid,by rw[e2,e3,e4];exact h.IV,by rw[e2,e3];exact h.wait,by rw[e2];exact h.open',by rw[e2,e5];exact h.ans⟩
theorem Inv.tell{M:Bk}{G:Wd}(h:Inv M G){i:Nat}(hi:i<9){r:Sn}(hr:G.seen[i]?=some r)(h3:r.state=3):Inv M (DR G i):=by
 have h1:=h.I1 hi hr h3;have hs:=h.ws.sn i r hr;have hr1:(AB G i).seen[i]?=some r:=by unfold AB;rw[Cw];exact hr
 have hc1:(AB G i).c=G.c:=by unfold AB;rw[Gb]
 have hl1:(AB G i).Ai=G.Ai:=by unfold AB;rw[Hy]
 unfold DR;simp only;rw[BN hr1];have hcf:=h.wf.cf;unfold BL at hcf;refine h1.Av hr1 (Int.le_refl _) ?_ (fun hne=>?_)
 ·rw[hl1];refine⟨fun e=>?_,hs.seq,hs.some,hs.IV,hs.wait,hs.ans,fun _=>⟨h3,by simp only;omega,by simp only;omega⟩⟩;have:=hs.zero e;rw[this]at h3;cases h3
 ·obtain⟨d,q⟩:=h1.sn i r hr1 hne;exact⟨d,q.same rfl rfl rfl rfl rfl⟩
theorem Inv.Ai{M:Bk}{G:Wd}(h:Inv M G){p:Pk}(hr:AJ p){d:Cd}(hd:M (DZ p)=some d):Inv M (CM G p):=by
 unfold CM;split
 ·rename_i hlt;obtain⟨_,i,c,k,l,r1,r2,r3,r4,r5,r6,r7,r8,r9⟩:=h.bk _ d hd;simp only[DZ]at r1 r5 r6;obtain⟨_,p2,p3,_⟩:=hr;have hi3:i<3:=by omega
  rw[r1,Int.toNat_natCast]at hlt ⊢;have hll:=h.ws.ll;have hsl:=h.ws.sl;have hg:∀j,(G.Ai.set i p.Ag).getD j 0=if j=i then p.Ag else G.Ai.getD j 0:=fun j=>by
   simp only[List.getD_eq_getElem?_getD,List.getElem?_set];by_cases e:i=j
   ·subst e;simp[hll,hi3]
   ·have e2:¬j=i:=fun q=>e q.symm
    simp[e,e2]
  have hset:∀(l:List Sn) (m j:Nat) (r:Sn),(l.set m De)[j]?=some r->(m=j/\r=De)\/(m≠j/\l[j]?=some r):=fun l m j r hj=>by
   rw[List.getElem?_set]at hj;by_cases e:m=j
   ·rw[if_pos e]at hj;split at hj
    ·exact Or.inl ⟨e,(Option.some.inj hj).symm⟩
    ·cases hj
   ·rw[if_neg e]at hj;exact Or.inr ⟨e,hj⟩
  have hsn:∀(j:Nat) (r:Sn),(((G.seen.set (3*i) De).set (3*i+1) De).set (3*i+2) De)[j]?=some r->(j / 3=i/\r=De)\/(j / 3≠i/\G.seen[j]?=some r):=fun j r hj=>by
   rcases hset _ _ j r hj with ⟨e,q⟩|⟨e2,hj⟩
   ·exact Or.inl ⟨by omega,q⟩
   ·rcases hset _ _ j r hj with ⟨e,q⟩|⟨e1,hj⟩
    ·exact Or.inl ⟨by omega,q⟩
    ·rcases hset _ _ j r hj with ⟨e,q⟩|⟨e0,hj⟩
     ·exact Or.inl ⟨by omega,q⟩
     ·exact Or.inr ⟨by omega,hj⟩
  refine⟨⟨h.wf.cf,h.wf.KF,fun j c hc=>⟨(h.wf.cl j c hc).lines,(h.wf.cl j c hc).Ag,(h.wf.cl j c hc).bound,(h.wf.cl j c hc).line⟩,h.wf.Ih,h.wf.Hf,h.wf.sv,h.wf.MA,h.wf.nm,h.wf.st,h.wf.nd,h.wf.Ma⟩,⟨by simpa using hll,fun x hx=>?_,by simpa using hsl,fun j r hj=>?_,h.ws.jl,h.ws.jb⟩,h.bk,h.ln,h.fl,fun j r hj hne=>?_,h.lg,fun u s e hs ha he=>?_,h.jb,fun j c' hj=>?_⟩
  ·rcases List.mem_or_eq_of_mem_set hx with q|q
   ·exact h.ws.lv x q
   ·rw[q];omega
  ·rcases hsn j r hj with ⟨_,rfl⟩|⟨q1,q2⟩
   ·exact Yd _
   ·rw[hg,if_neg q1];exact h.ws.sn j r q2
  ·rcases hsn j r hj with ⟨_,rfl⟩|⟨q1,q2⟩
   ·exact absurd rfl hne
   ·rw[hg,if_neg q1];exact h.sn j r q2 hne
  ·have hen:=(h.lg u s hs).each e he;obtain⟨de,_,hde,_⟩:=hen.some;obtain⟨_,a,ca,n,x,s1,s2,s3,s4,_⟩:=h.bk _ de hde;simp only[CX]at s1 s3;have hw:=h.wf.cl a ca s2;have hn3:=(List.getElem?_eq_some_iff.1 s4).1;have hcf:=h.wf.cf;unfold BL at hcf;have hnl:=hw.lines;unfold KL;rw[s1,Int.toNat_natCast];simp only;rw[hg];have hf:=h.Rq u s e hs ha he;unfold KL at hf;rw[s1,Int.toNat_natCast]at hf;by_cases hai:a=i
   ·subst hai;rw[if_pos rfl];rcases hf with q|⟨q,_⟩
    ·exact Or.inl (by omega)
    ·exact Or.inl (by omega)
   ·rw[if_neg hai];rcases hf with q|⟨q1,q2⟩
    ·exact Or.inl q
    ·refine Or.inr ⟨q1,?_⟩;unfold LZ at q2 ⊢;have e3:(3*(a:Int).toNat+e.line.toNat) / 3=a:=by rw[s3];omega
     simp only[List.getElem?_set];rw[if_neg (by omega),if_neg (by omega),if_neg (by omega)];exact q2
  ·rw[hg];split
   ·rename_i e;subst e;rw[r2]at hj;cases hj;exact r6
   ·exact h.lv j c' hj
 ·exact h
theorem Inv.JW{M:Bk}{G:Wd}(h:Inv M G){js:List Jb}(hl:(js.length:Int)<=G.c.table)(hj:∀j∈js,((0<=j.client/\j.client<=2)/\(0<=j.line/\j.line<=2))/\∃d,M ⟨j.client,j.Ag,j.line,j.seq⟩=some d/\j.uid=d.uid):Inv M {G with jobs:=js}:=
 ⟨⟨h.wf.cf,h.wf.KF,fun j c hc=>⟨(h.wf.cl j c hc).lines,(h.wf.cl j c hc).Ag,(h.wf.cl j c hc).bound,(h.wf.cl j c hc).line⟩,h.wf.Ih,h.wf.Hf,h.wf.sv,h.wf.MA,h.wf.nm,h.wf.st,h.wf.nd,h.wf.Ma⟩,⟨h.ws.ll,h.ws.lv,h.ws.sl,h.ws.sn,hl,fun j q=>(hj j q).1⟩,h.bk,h.ln,h.fl,h.sn,h.lg,h.Rq,fun j q=>(hj j q).2,h.lv⟩
structure Fy(M:Bk)(G:Wd)(p:Pk)(d:Cd)(i:Nat):Prop where
 right:AJ p
 made:M (DZ p)=some d
 uid:p.uid=d.uid
 Ag:p.Ag=G.Ai.getD (i / 3) 0
 i:i=3*p.client.toNat+p.line.toNat
theorem Fy.key{M:Bk}{G:Wd}{p:Pk}{d:Cd}{i:Nat}(h:Fy M G p d i):DZ p=⟨((i / 3:Nat):Int),G.Ai.getD (i / 3) 0,((i % 3:Nat):Int),p.seq⟩:=by
 obtain⟨_,p2,_,p4,_⟩:=h.right;have:=h.i;simp only[DZ,Key.mk.injEq];exact⟨by omega,h.Ag,by omega,trivial⟩
theorem Fy.lt{M:Bk}{G:Wd}{p:Pk}{d:Cd}{i:Nat}(h:Fy M G p d i):i<9:=by
 obtain⟨_,p2,_,p4,_⟩:=h.right;have:=h.i;omega
theorem Fy.YM{M:Bk}{G G':Wd}{p:Pk}{d:Cd}{i:Nat}(h:Fy M G p d i)(e:G'.Ai=G.Ai):Fy M G' p d i:=⟨h.right,h.made,h.uid,by rw[e];exact h.Ag,h.i⟩
theorem Inv.Nv{M:Bk}{G:Wd}(h:Inv M G){p:Pk}{d:Cd}{i:Nat}(ha:Fy M G p d i)(ho:p.off=Ae d.msg):Inv M (Iu G p):=by
 obtain⟨r1,r2,r3,r4,r5,r6,r7,r8,r9⟩:=ha.right;unfold Iu;split
 ·exact h.Im ha.right ha.made ha.uid (by decide) r7 (by omega) (Or.inl ⟨rfl,ho⟩)
 ·exact h
theorem Inv.gather{M:Bk}{G:Wd}(h:Inv M G){p:Pk}{d:Cd}{i:Nat}(ha:Fy M G p d i)(ho:p.off=Ae d.msg)(hb:p.body=Bb d.msg p.part){r:Sn}(hr:G.seen[i]?=some r)(hs:r.seq=p.seq)(h1:r.state=1):Inv M (Cy G i p):=by
 have hsn:=h.ws.sn i r hr;obtain⟨_,_,_,_,hq5,_,ho9,hpt,_⟩:=ha.right;have hne:r.seq≠0:=by omega
 obtain⟨d',q⟩:=h.sn i r hr hne;have hkey:=ha.key;rw[<-hs]at hkey;have hdd:d'=d:=by
  have:=q.made;rw[<-hkey,ha.made]at this;exact(Option.some.inj this).symm
 subst hdd;obtain⟨g1,g2⟩:=q.IV h1;obtain⟨g3,g4,g5⟩:=hsn.IV h1;have hml:=KE (h.bk _ _ q.made).1;obtain⟨n,hn⟩:∃n:Nat,r.pieces=(n:Int):=⟨r.pieces.toNat,by omega⟩;rw[hn,Int.toNat_natCast]at g1;have hi:=ha.lt;unfold Cy;simp only;rw[BN hr];split
 ·rename_i hf;have hmsg:r.message++p.body=d'.msg.take (8*(n+1)):=by rw[g1,hb,hf,hn,GH]
  split
  ·rename_i hlast;have hall:r.message++p.body=d'.msg:=by rw[hmsg,Gz (by rw[<-ho];omega)]
   split
   ·exact h
   ·rename_i hroom;have h2:=h.Av (r':={r with state:=2,message:=r.message++p.body,pieces:=r.pieces+1}) hr (Int.le_refl _) ⟨fun e=>absurd e hne,hsn.seq,fun e=>⟨(hsn.some e).1,(hsn.some e).2.1,by simp⟩,by simp,by simp only[hall];omega,by simp,fun ht=>by have:=(hsn.timed ht).1;omega⟩ (fun _=>⟨d',q.made,q.uid,by simp,fun _=>hall,fun _=>q.open' (Or.inl h1),by simp⟩);have h3:=h2.JW (js:=G.jobs++[⟨p.client,p.line,p.Ag,p.seq,p.uid⟩]) (by simp only[List.length_append,List.length_singleton];show _<=G.c.table;omega) (fun j hj=>by
     rcases List.mem_append.1 hj with hj|hj
     ·exact⟨h.ws.jb j hj,h.jb j hj⟩
     ·rw[List.mem_singleton.1 hj];obtain⟨_,p2,_,p4,_⟩:=ha.right;exact⟨⟨p2,p4⟩,d',ha.made,ha.uid⟩)
    exact h3.Nv (ha.YM rfl) ho
  ·rename_i hlast;have hlt:((n+1:Nat):Int)<Ae d'.msg:=by omega
   have h8:=Kj hlt;have h2:=h.Av (r':={r with message:=r.message++p.body,pieces:=r.pieces+1}) hr (Int.le_refl _) ⟨fun e=>absurd e hne,hsn.seq,hsn.some,fun _=>?_,fun e=>by simp only at e;omega,hsn.ans,hsn.timed⟩ (fun _=>⟨d',q.made,q.uid,fun _=>⟨?_,?_⟩,fun e=>by simp only at e;omega,q.open',q.ans⟩)
   ·exact h2.Nv (ha.YM rfl) ho
   ·simp only;rw[hmsg,List.length_take,Nat.min_eq_left (by omega)];omega
   ·simp only;rw[hmsg,hn];congr 1
   ·simp only;omega
 ·exact h.Nv ha ho
theorem Inv.known{M:Bk}{G:Wd}(h:Inv M G){p:Pk}{d:Cd}{i:Nat}(ha:Fy M G p d i)(hk:(p.kind=1/\p.off=Ae d.msg/\p.body=Bb d.msg p.part)\/p.kind=3){r:Sn}(hr:G.seen[i]?=some r)(hs:r.seq=p.seq):Inv M (CL G i p):=by
 obtain⟨r1,r2,r3,r4,r5,r6,r7,r8,r9⟩:=ha.right;unfold CL;simp only;rw[BN hr];split
 ·rename_i h1;split
  ·rename_i hx;rcases hk with ⟨_,ho,hb⟩|q
   ·exact h.gather ha ho hb hr hs h1
   ·omega
  ·exact h
 ·split
  ·exact h.Im ha.right ha.made ha.uid (by decide) (by decide) (by decide) (Or.inr (Or.inr ⟨rfl,rfl⟩))
  ·split
   ·exact h
   ·split
    ·rename_i h3;exact h.tell ha.lt hr h3
    ·split
     ·exact h.Im ha.right ha.made ha.uid (by decide) (by decide) (by decide) (Or.inr (Or.inl rfl))
     ·rcases hk with ⟨_,ho,hb⟩|q
      ·exact h.Im ha.right ha.made ha.uid (by decide) r7 (by omega) (Or.inl ⟨rfl,ho⟩)
      ·contradiction
theorem KR{sv:List Sv}{u:Int}(h:Dp sv u=true):∃(n:Nat) (s:Sv),u=(n:Int)+1/\sv[n]?=some s/\s.alive=true:=by
 unfold Dp at h;rw[Bool.and_eq_true,decide_eq_true_eq]at h;cases ha:sv[(u-1).toNat]? with
 |none=>rw[ha]at h;simp at h
 |some s=>
  rw[ha]at h;exact⟨(u-1).toNat,s,by omega,ha,by simpa using h.2⟩
theorem Inv.ask{M:Bk}{G:Wd}(h:Inv M G){p:Pk}{d:Cd}{i:Nat}(ha:Fy M G p d i)(hk:(p.kind=1/\p.off=Ae d.msg/\p.body=Bb d.msg p.part)\/p.kind=3\/p.kind=6):Inv M (G0 G i p):=by
 have hr:=h.Dl ha.lt;unfold G0;simp only;generalize Ap G i=r at hr ⊢;have hsn:=h.ws.sn i r hr;obtain⟨_,_,_,_,hq5,_,ho9,hpt,_⟩:=ha.right;split
 ·split
  ·rename_i hx;obtain⟨x1,x2,x3,x4,x5⟩:=hx;obtain⟨b1,b2,b3,b4⟩:=hsn.ans x2;have hne:r.seq≠0:=by omega
   obtain⟨d',q⟩:=h.sn i r hr hne;have h2:=h.Av (r':={r with at':=r.at'+1}) hr (Int.le_refl _) ⟨fun e=>absurd e hne,hsn.seq,hsn.some,hsn.IV,hsn.wait,fun _=>⟨b1,b2,by simp only;omega,by simp only;omega⟩,hsn.timed⟩ (fun _=>⟨d',q.same rfl rfl rfl rfl rfl⟩);exact h2.tell ha.lt (r:={r with at':=r.at'+1}) (by simp[R.Av,(List.getElem?_eq_some_iff.1 hr).1]) x2
  ·exact h
 ·rename_i h6;have hk':(p.kind=1/\p.off=Ae d.msg/\p.body=Bb d.msg p.part)\/p.kind=3:=by
   rcases hk with q|q|q
   ·exact Or.inl q
   ·exact Or.inr q
   ·exact absurd q h6
  split
  ·rename_i hs;exact h.known ha hk' hr hs
  ·split
   ·exact h
   ·split
    ·exact h.Im ha.right ha.made ha.uid (by decide) (by decide) (by decide) (Or.inr (Or.inr ⟨rfl,rfl⟩))
    ·rename_i hs hlt hal;have hal:Dp G.Ac p.uid=true:=by simpa [AO,Dp] using hal
     split
     ·exact h
     ·split
      ·exact h.Im ha.right ha.made ha.uid (by decide) (by decide) (by decide) (Or.inr (Or.inr ⟨rfl,rfl⟩))
      ·have hkey:=ha.key;have hcd:=(h.bk _ d ha.made).1;have hml:=KE hcd;have h255:=h.wf.sv;obtain⟨_,_,hlf,_,_,hu6,_⟩:=ha.right;have h2:=h.Av (r':={De with seq:=p.seq,uid:=p.uid,state:=1}) hr (by simp only;omega) ⟨fun e=>by simp only at e;omega,by simp only;omega,fun _=>⟨by rw[<-ha.Ag];exact hlf.1,hu6,by simp⟩,by simp[De],by simp,by simp,by simp[De]⟩ (fun _=>⟨d,by rw[<-hkey];exact ha.made,ha.uid,fun _=>⟨by simp[De],by simp only[De];omega⟩,by simp,fun _=>?_,by simp⟩)
       ·exact h2.known (ha.YM rfl) hk' (r:={De with seq:=p.seq,uid:=p.uid,state:=1}) (by simp[R.Av,(List.getElem?_eq_some_iff.1 hr).1]) rfl
       ·rw[<-ha.uid];refine⟨hal,fun e he hek=>?_⟩;obtain⟨n,s,a1,a2,a3⟩:=KR hal;rw[a1,Ju a2]at he;have hf:=h.Rq n s e a2 a3 he;rw[<-hkey]at hek;simp only[CX,DZ,Key.mk.injEq]at hek;obtain⟨e1,e2,e3,e4⟩:=hek;unfold KL LZ at hf;rw[e1,e2,e3,e4,<-ha.i,hr]at hf;have hl:=ha.Ag;obtain⟨_,p2,_,p4,_⟩:=ha.right;have hdiv:i / 3=p.client.toNat:=by have:=ha.i;omega
        rw[hdiv]at hl;simp only[Option.getD_some]at hf;omega
theorem Px{G:Wd}{p:Pk}(h:¬p.Ag<G.Ai.getD p.client.toNat 0)(hl:p.client.toNat<G.Ai.length):(CM G p).Ai.getD p.client.toNat 0=p.Ag:=by
 unfold CM;split
 ·simp[hl]
 ·omega
theorem Inv.asked{M:Bk}{G:Wd}(h:Inv M G){p:Pk}(hr:AJ p)(hp:Nt M G.Ac (-1) p):Inv M (C3 G p):=by
 obtain⟨d,hd,hu,hk⟩:=hp;obtain⟨_,p2,_,p4,_⟩:=id hr;have hne:(-1:Int)≠p.client:=by omega
 have hk':(p.kind=1/\p.off=Ae d.msg/\p.body=Bb d.msg p.part)\/p.kind=3\/p.kind=6:=by
  rcases hk with ⟨q1,_,q2,q3⟩|⟨_,q,_⟩|⟨q,_⟩|⟨_,q⟩|⟨_,q,_⟩|⟨q,_⟩|⟨_,q,_⟩
  ·exact Or.inl ⟨q1,q2,q3⟩
  ·exact absurd q hne
  ·exact Or.inr (Or.inl q)
  ·exact absurd q hne
  ·exact absurd q hne
  ·exact Or.inr (Or.inr q)
  ·exact absurd q hne
 unfold C3;split
 ·exact h
 ·rename_i hx;have h2:=h.Ai hr hd;refine h2.ask (d:=d) ⟨hr,hd,hu,?_,rfl⟩ hk';have hdiv:(3*p.client.toNat+p.line.toNat) / 3=p.client.toNat:=by omega
  rw[hdiv,Px hx (by rw[h.ws.ll];omega)]
theorem Inv.CR{M:Bk}{G:Wd}(h:Inv M G)(i:Int):Inv M (Au G i).2:=by
 unfold Au;split
 ·exact h
 ·split
  ·exact h
  ·rename_i f hf;have hI:=h.erase i.toNat;have hfo:=h.fl f (List.mem_of_getElem? hf);unfold Ns at hfo;simp only;split
   ·exact hI
   ·rename_i hb;rw[if_neg hb]at hfo;obtain⟨p,q1,q2,q3⟩:=hfo;rw[q2,GA q1];simp only;split
    ·rename_i ht;rw[ht]at q3;exact hI.asked q1 q3
    ·rename_i ht;exact hI.heard q1 ht q3
theorem Nf{kind proc:Int}{x:ByteArray×ByteArray}(h:CO kind proc=some x):proc=0\/proc=1:=by
 unfold CO at h;split at h
 ·omega
 ·split at h
  ·omega
  ·split at h
   ·omega
   ·split at h
    ·omega
    ·split at h
     ·omega
     ·cases h
theorem WX{d:Cd}(h:d.proc=0\/d.proc=1):256*((d.msg.getD 0 0).toNat:Int)+((d.msg.getD 1 0).toNat:Int)=d.proc/\d.msg.drop 2=d.bs:=by
 refine⟨?_,by simp[Cd.msg,AX]⟩;have h1:d.msg.getD 0 0=b8 (d.proc / 256):=by simp[Cd.msg,AX]
 have h2:d.msg.getD 1 0=b8 (d.proc % 256):=by simp[Cd.msg,AX]
 rw[h1,h2,Bn (by omega) (by omega),Bn (by omega) (by omega)];omega
structure Nr(M:Bk)(G:Wd)(i:Nat)(r:Sn)(d:Cd)(n:Nat)(s:Sv)(rb:List UInt8):Prop where
 seen:G.seen[i]?=some r
 ne:r.seq≠0
 ok:Gf M G.Ac ⟨((i / 3:Nat):Int),G.Ai.getD (i / 3) 0,((i % 3:Nat):Int),r.seq⟩ r d
 cd:KJ G.Ac d
 uid:d.uid=(n:Int)+1
 sv:G.Ac[n]?=some s
 alive:s.alive=true
 sig:CO s.kind d.proc=some (d.from',d.to)
 byt:AV d.to (Cs s.kind s.log d.proc d.arg)=some rb
 pos:1<=rb.length
theorem Inv.NK{M:Bk}{G:Wd}(h:Inv M G){i:Nat}(hi:i<9)(h2:(Ap G i).state=2):∃d n s rb,Nr M G i (Ap G i) d n s rb:=by
 have hr:=h.Dl hi;generalize Ap G i=r at hr h2 ⊢;have hsn:=h.ws.sn i r hr;have hne:r.seq≠0:=fun e=>by
  rw[hsn.zero e]at h2;cases h2
 obtain⟨d,q⟩:=h.sn i r hr hne;obtain⟨q1,q2⟩:=q.open' (Or.inr h2);have hcd:=(h.bk _ d q.made).1;obtain⟨n,s,a1,a2,a3⟩:=KR q1;have hk:FU G.Ac d.uid=s.kind:=by
  unfold FU;rw[show (d.uid-1).toNat=n by omega,a2];rfl
 have hsig:=hcd.sig;rw[hk]at hsig;obtain⟨rb,b1,b2⟩:=YU hsig hcd.bs (log:=s.log) (fun e he=>by
  obtain⟨d',rb',g1,g2,g3,g4,g5,g6⟩:=((h.lg n s a2).each e he).some;have hcd':=(h.bk _ d' g1).1;have hk':FU G.Ac d'.uid=s.kind:=by
   rw[g2];unfold FU;rw[show ((n:Int)+1-1).toNat=n by omega,a2];rfl
  have:=hcd'.sig;rw[hk']at this;exact⟨d'.from',d'.to,d'.bs,by rw[g3];exact this,by rw[g4];exact hcd'.bs⟩)
 exact⟨d,n,s,rb,hr,hne,q,hcd,a1,a2,a3,hsig,b1,b2⟩
def BF(G:Wd)(i:Nat)(r:Sn)(d:Cd)(s:Sv):En:=⟨((i / 3:Nat):Int),G.Ai.getD (i / 3) 0,((i % 3:Nat):Int),r.seq,d.proc,d.arg,Cs s.kind s.log d.proc d.arg⟩
def EM(G:Wd)(i:Nat)(r:Sn)(d:Cd)(n:Nat)(s:Sv)(rb:List UInt8):Wd:={G with Ac:=G.Ac.set n {s with log:=s.log++[BF G i r d s]},seen:=G.seen.set i {r with state:=3,result:=rb,at':=0}}
theorem Nr.eq{M:Bk}{G:Wd}{i:Nat}{r:Sn}{d:Cd}{n:Nat}{s:Sv}{rb:List UInt8}(h:Nr M G i r d n s rb)(h2:r.state=2):Ha G i=DR (EM G i r d n s rb) i:=by
 have hm:=h.ok.wait h2;have hu:(r.uid-1).toNat=n:=by rw[h.ok.uid,h.uid];omega
 obtain⟨m1,m2⟩:=WX (Nf h.sig);unfold Ha;simp only;rw[BN h.seen,hu,h.sv,hm];simp only[Option.getD_some];rw[m1,h.sig,m2];simp only[Option.getD_some];rw[Fi h.cd.bs,h.byt,<-hm];rfl
theorem Inv.EM{M:Bk}{G:Wd}(h:Inv M G){i:Nat}(hi:i<9){r:Sn}{d:Cd}{n:Nat}{s:Sv}{rb:List UInt8}(hd:Nr M G i r d n s rb)(h2:r.state=2):Inv M (EM G i r d n s rb):=by
 have hn:=(List.getElem?_eq_some_iff.1 hd.sv).1;have hir:=(List.getElem?_eq_some_iff.1 hd.seen).1;have hsn:=h.ws.sn i r hd.seen;have hget:∀(u:Nat) (s':Sv),(G.Ac.set n {s with log:=s.log++[BF G i r d s]})[u]?=some s'->(u=n/\s'={s with log:=s.log++[BF G i r d s]})\/(u≠n/\G.Ac[u]?=some s'):=fun u s' hu=>by
  rw[List.getElem?_set]at hu;by_cases e:n=u
  ·rw[if_pos e]at hu;simp only[hn,if_true]at hu;exact Or.inl ⟨e.symm,(Option.some.inj hu).symm⟩
  ·rw[if_neg e]at hu;exact Or.inr ⟨fun q=>e q.symm,hu⟩
 have hget2:∀(j:Nat) (r':Sn),(G.seen.set i {r with state:=3,result:=rb,at':=0})[j]?=some r'->(j=i/\r'={r with state:=3,result:=rb,at':=0})\/(j≠i/\G.seen[j]?=some r'):=fun j r' hj=>by
  rw[List.getElem?_set]at hj;by_cases e:i=j
  ·rw[if_pos e]at hj;simp only[hir,if_true]at hj;exact Or.inl ⟨e.symm,(Option.some.inj hj).symm⟩
  ·rw[if_neg e]at hj;exact Or.inr ⟨fun q=>e q.symm,hj⟩
 have hg:Gr G.Ac (G.Ac.set n {s with log:=s.log++[BF G i r d s]}):=by
  refine⟨by simp,fun u x hx=>?_⟩;by_cases e:n=u
  ·subst e;rw[hd.sv]at hx;cases hx;exact⟨{s with log:=s.log++[BF G i r d s]},by simp[hn],rfl,[BF G i r d s],rfl⟩
  ·exact⟨x,by rw[List.getElem?_set,if_neg e];exact hx,rfl,[],by simp⟩
 have hlogn:EK G.Ac d.uid=s.log:=by rw[hd.uid];exact Ju hd.sv
 have hlogn':EK (G.Ac.set n {s with log:=s.log++[BF G i r d s]}) d.uid=s.log++[BF G i r d s]:=by
  rw[hd.uid];exact Ju (s:={s with log:=s.log++[BF G i r d s]}) (by simp[hn])
 have hopen:=hd.ok.open' (Or.inr h2);have hkey:CX (BF G i r d s)=⟨((i / 3:Nat):Int),G.Ai.getD (i / 3) 0,((i % 3:Nat):Int),r.seq⟩:=rfl;have hdone:EH (G.Ac.set n {s with log:=s.log++[BF G i r d s]}) ⟨((i / 3:Nat):Int),G.Ai.getD (i / 3) 0,((i % 3:Nat):Int),r.seq⟩ d (BF G i r d s) rb:=⟨by rw[hlogn'];simp,hkey,hd.byt,hd.pos⟩;have hrb:=Gk hd.byt;have hlen:(G.Ac.set n {s with log:=s.log++[BF G i r d s]}).length=G.Ac.length:=by simp
 have hsnAt:∀e:En,(LZ G.seen e.client e.line).seq<=(LZ (G.seen.set i {r with state:=3,result:=rb,at':=0}) e.client e.line).seq:=fun e=>by
  unfold LZ;rw[List.getElem?_set];by_cases e':i=3*e.client.toNat+e.line.toNat
  ·rw[<-e',hd.seen];simp[hir]
  ·simp[e']
 refine⟨⟨h.wf.cf,h.wf.KF,fun j c hc=>⟨(h.wf.cl j c hc).lines,(h.wf.cl j c hc).Ag,fun u hu=>by rw[show (R.EM G i r d n s rb).Ac.length=G.Ac.length from hlen];exact(h.wf.cl j c hc).bound u hu,(h.wf.cl j c hc).line⟩,h.wf.Ih,h.wf.Hf,by rw[show (R.EM G i r d n s rb).Ac.length=G.Ac.length from hlen];exact h.wf.sv,fun x hx=>?_,h.wf.nm,h.wf.st,h.wf.nd,fun u hu=>by rw[show (R.EM G i r d n s rb).Ac.length=G.Ac.length from hlen];exact h.wf.Ma u hu⟩,⟨h.ws.ll,h.ws.lv,by simpa [R.EM] using h.ws.sl,fun j r' hj=>?_,h.ws.jl,h.ws.jb⟩,fun k x hx=>⟨(h.bk k x hx).1.grow hg,(h.bk k x hx).2⟩,fun j c k l hc hl=>(h.ln j c k l hc hl).grow (Le.refl M) hg (fun _ q=>q),fun f hf=>(h.fl f hf).grow (Le.refl M) hg,fun j r' hj hne=>?_,fun u s' hs=>?_,fun u s' e hs ha he=>?_,h.jb,h.lv⟩
 ·rcases List.mem_or_eq_of_mem_set hx with q|q
  ·exact h.wf.MA x q
  ·rw[q];exact h.wf.MA s (List.mem_of_getElem? hd.sv)
 ·rcases hget2 j r' hj with ⟨rfl,rfl⟩|⟨_,q⟩
  ·refine⟨fun e=>absurd e hd.ne,hsn.seq,fun e=>⟨(hsn.some e).1,(hsn.some e).2.1,by simp⟩,by simp,by simp,fun _=>⟨hd.pos,by simp only;omega,by simp,by have:=Du hd.pos;simp only;omega⟩,fun ht=>by have:=(hsn.timed ht).1;omega⟩
  ·exact h.ws.sn j r' q
 ·rcases hget2 j r' hj with ⟨rfl,rfl⟩|⟨hji,q⟩
  ·exact⟨d,hd.ok.made,hd.ok.uid,by simp,by simp,by simp,fun _=>⟨_,hdone⟩⟩
  ·obtain⟨d',q'⟩:=h.sn j r' q hne;refine⟨d',q'.made,q'.uid,q'.IV,q'.wait,fun hs=>?_,fun hs=>?_⟩
   ·obtain⟨o1,o2⟩:=q'.open' hs;have hu':=(h.bk _ d' q'.made).1.uid;by_cases e:d'.uid=d.uid
    ·rw[e];refine⟨?_,?_⟩
     ·unfold Dp;show (decide (1<=d.uid)&&((((G.Ac.set n {s with log:=s.log++[BF G i r d s]}))[(d.uid-1).toNat]?).map (·.alive)).getD false)=true;rw[show (d.uid-1).toNat=n by have:=hd.uid;omega];simp[hn,hd.alive];have:=hd.uid;omega
     ·show ∀e∈EK (G.Ac.set n {s with log:=s.log++[BF G i r d s]}) d.uid,_;rw[hlogn'];intro x hx;rcases List.mem_append.1 hx with hx|hx
      ·rw[e,hlogn]at o2;exact o2 x hx
      ·rw[List.mem_singleton.1 hx,hkey];intro k;simp only[Key.mk.injEq]at k;omega
    ·have hne2:¬n=(d'.uid-1).toNat:=by have:=hd.uid;omega
     have a1:Dp (G.Ac.set n {s with log:=s.log++[BF G i r d s]}) d'.uid=Dp G.Ac d'.uid:=by
      unfold Dp;rw[List.getElem?_set,if_neg hne2]
     have a2:EK (G.Ac.set n {s with log:=s.log++[BF G i r d s]}) d'.uid=EK G.Ac d'.uid:=by
      unfold EK;rw[List.getElem?_set,if_neg hne2]
     exact⟨a1.trans o1,by
      show ∀e∈EK (G.Ac.set n {s with log:=s.log++[BF G i r d s]}) d'.uid,_;rw[a2];exact o2⟩
   ·obtain⟨e,he⟩:=q'.ans hs;exact⟨e,he.grow hg⟩
 ·rcases hget u s' hs with ⟨rfl,rfl⟩|⟨_,q⟩
  ·have hl:=h.lg u s hd.sv;refine⟨fun e he=>?_,?_,fun j e he=>?_⟩
   ·rcases List.mem_append.1 he with he|he
    ·exact hl.each e he
    ·rw[List.mem_singleton.1 he];exact⟨d,rb,by rw[hkey];exact hd.ok.made,hd.uid,rfl,rfl,hd.byt,hd.pos⟩
   ·rw[List.pairwise_append];refine⟨hl.ord,by simp,fun a ha b hb=>?_⟩;rw[List.mem_singleton.1 hb];intro k1 k2 k3;have hf:=h.Rq u s a hd.sv hd.alive ha;have hne:=hopen.2 a (by rw[hlogn];exact ha);simp only[BF]at k1 k2 k3 ⊢;unfold KL LZ at hf;rw[k1,k2,k3]at hf;simp only[Int.toNat_natCast]at hf;rw[show 3*(i / 3)+i % 3=i by omega,hd.seen]at hf;simp only[Option.getD_some]at hf;have hs:a.seq≠r.seq:=fun e=>hne (by simp[CX,k1,k2,k3,e])
    omega
   ·simp only at he ⊢;rcases Nat.lt_or_ge j s.log.length with hj|hj
    ·rw[List.getElem?_append_left hj]at he;rw[List.take_append_of_le_length (by omega)];exact hl.told j e he
    ·rw[List.getElem?_append_right hj]at he;cases hjn:j-s.log.length with
     |zero=>
      rw[hjn]at he;simp at he;have:j=s.log.length:=by omega
      subst this;rw[<-he];simp[BF]
     |succ m=>rw[hjn]at he;simp at he
  ·exact h.lg u s' q
 ·show KL G.Ai (G.seen.set i {r with state:=3,result:=rb,at':=0}) e;rcases hget u s' hs with ⟨rfl,rfl⟩|⟨_,q⟩
  ·rcases List.mem_append.1 he with he|he
   ·rcases h.Rq u s e hd.sv hd.alive he with q|⟨q1,q2⟩
    ·exact Or.inl q
    ·exact Or.inr ⟨q1,Int.le_trans q2 (hsnAt e)⟩
   ·rw[List.mem_singleton.1 he];refine Or.inr ⟨?_,?_⟩
    ·simp only[BF,Int.toNat_natCast]
    ·unfold LZ;simp only[BF,Int.toNat_natCast];rw[show 3*(i / 3)+i % 3=i by omega];simp[hir]
  ·rcases h.Rq u s' e q ha he with q|⟨q1,q2⟩
   ·exact Or.inl q
   ·exact Or.inr ⟨q1,Int.le_trans q2 (hsnAt e)⟩
theorem Inv.done{M:Bk}{G:Wd}(h:Inv M G){i:Nat}(hi:i<9)(h2:(Ap G i).state=2):Inv M (Ha G i):=by
 obtain⟨d,n,s,rb,hd⟩:=h.NK hi h2;rw[hd.eq h2];have h3:=h.EM hi hd h2;exact h3.tell hi (r:={Ap G i with state:=3,result:=rb,at':=0}) (by simp[R.EM,(List.getElem?_eq_some_iff.1 hd.seen).1]) rfl
theorem Inv.X4{M:Bk}:∀(js:List Jb) {G:Wd} (_:Inv M G) (_:∃a,G.jobs=a++js),Inv M (BV G js).2
 |[],G,h,_=>by
  simp only[BV];have hcf:=h.wf.cf;unfold BL at hcf;exact h.JW (by simp;omega) (by simp)
 |j :: js,G,h,⟨a,ha⟩=>by
  simp only[BV];have hmem:∀x∈j :: js,x∈G.jobs:=fun x hx=>by rw[ha];exact List.mem_append_right _ hx
  have hlen:(js.length:Int)<=G.c.table:=by
   have:=h.ws.jl;rw[ha]at this;simp at this;omega
  split
  ·rename_i hw;have h1:=h.JW (js:=js) hlen (fun x hx=>⟨h.ws.jb x (hmem x (List.mem_cons_of_mem _ hx)),h.jb x (hmem x (List.mem_cons_of_mem _ hx))⟩);have hj:=h.ws.jb j (hmem j (List.mem_cons_self));exact h1.done (by omega) hw.1
  ·exact Inv.X4 js h ⟨a++[j],by rw[ha];simp⟩
theorem Inv.AP{M:Bk}{G:Wd}(h:Inv M G):Inv M (AP G).2:=Inv.X4 G.jobs h ⟨[],rfl⟩
end Go.Proofs.YtblomippkddgiaaGreatDoor.R
