import Derived.Test.YtblomippkddgiaaGreatDoorK45
import Derived.Lib.SliceRun
set_option maxRecDepth 100000
set_option maxHeartbeats 2000000
namespace Go.Proofs.YtblomippkddgiaaGreatDoor
open Go.RowKit
def CW(c:R.Cf)(k:Nat):R.Li:=(k / c.lines.toNat,k % c.lines.toNat)
def DV(c:R.Cf):Nat:=min (c.Ad.toNat*c.lines.toNat) c.table.toNat
def EI(c:R.Cf):List R.Li:=(List.range (DV c)).map (CW c)
theorem NV{c:R.Cf}(hc:R.BL c){k:Nat}(hk:k<DV c):(CW c k).1<c.Ad.toNat/\(CW c k).2<c.lines.toNat:=by
 unfold R.BL at hc;unfold DV at hk;have h1:k<c.Ad.toNat*c.lines.toNat:=by omega
 exact⟨Nat.div_lt_of_lt_mul (by rw[Nat.mul_comm];exact h1),Nat.mod_lt _ (by omega)⟩
theorem NU{c:R.Cf}{j k:Nat}(h:CW c j=CW c k):j=k:=by
 have h1:=Nat.div_add_mod j c.lines.toNat;have h2:=Nat.div_add_mod k c.lines.toNat;have e1:j / c.lines.toNat=k / c.lines.toNat:=congrArg Prod.fst h;have e2:j % c.lines.toNat=k % c.lines.toNat:=congrArg Prod.snd h;rw[e1,e2]at h1;exact h1.symm.trans h2
theorem QO(c:R.Cf):(EI c).Nodup:=by
 unfold EI;rw[List.Nodup,List.pairwise_map];exact List.nodup_range.imp (fun h e=>h (NU e))
theorem DX{c:R.Cf}{x:R.Li}:x∈EI c↔∃k,k<DV c/\CW c k=x:=by
 simp[EI]
theorem VM(c:R.Cf):(EI c).length=DV c:=by simp[EI]
theorem Pw{c:R.Cf}(hc:R.BL c){x:R.Li}(hx:x∈EI c):R.AQ (CS c c.Ad.toNat) x=R.Ou:=by
 obtain⟨k,hk,rfl⟩:=DX.1 hx;obtain⟨h1,h2⟩:=NV hc hk;have hp:=FY c c.Ad.toNat;have hlen:(CS c c.Ad.toNat).Ad.length=c.Ad.toNat:=by rw[Ex,Jx]
 have hx0:=List.getElem?_eq_getElem (l:=(CS c c.Ad.toNat).Ad) (i:=(CW c k).1) (by omega);unfold R.AQ;refine R.Cu hx0 ?_;rw[(hp.each _ _ hx0).1,List.getElem?_replicate,if_pos h2]
theorem Qj(c:R.Cf)(j:Nat):R.Ap (CS c c.Ad.toNat) j=R.De:=by
 have hp:=(FY c c.Ad.toNat).Co;simp only[Prod.mk.injEq]at hp;unfold R.Ap;rw[hp.2.1,List.getElem?_replicate];split<;>rfl
theorem QX{c:R.Cf}(hc:R.BL c):R.Cm (fun _=>none) (EI c) [] [] (fun _=>.idle) (CS c c.Ad.toNat):=by
 have hcf:=hc;unfold R.BL at hcf;have hp:=FY c c.Ad.toNat;have hlen:(CS c c.Ad.toNat).Ad.length=c.Ad.toNat:=by rw[Ex,Jx]
 have hsrv:=hp.Co;simp only[Prod.mk.injEq]at hsrv;refine⟨(NS hc c.Ad.toNat (by rw[Jx];exact Nat.le_refl _)).1,fun i x hx=>(hp.each i x hx).2,QO c,fun x hx=>?_,?_,fun x hx=>?_,fun _ _ q=>absurd rfl q,by rw[hp.Ih];rfl,List.nodup_nil,fun x=>⟨fun q=>by simp at q,fun q=>by simp[R.Ph.IC]at q⟩,by rw[hsrv.2.2];rfl,List.nodup_nil,fun x=>⟨fun q=>by simp at q,fun q=>by simp at q⟩,fun j _ q=>absurd (by rw[Qj];rfl) q,fun _ _ q=>absurd rfl q,fun x hx=>by simp at hx⟩
 ·obtain⟨k,hk,rfl⟩:=DX.1 hx;obtain⟨h1,h2⟩:=NV hc hk;rw[hp.cf,hlen];omega
 ·rw[VM,hp.cf];unfold DV;omega
 ·rw[Pw hc hx];unfold R.AZ;rw[Qj];exact⟨by decide,by decide⟩
structure GU(c:R.Cf)(n:Int)(s:RS)(M:R.Bk)(G:R.Wd):Prop where
 agree:Agree c s M G
 cm:R.Cm M (EI c) [] [] (fun _=>.idle) G
 seq:∀x∈EI c,(R.AQ G x).seq=n
 alive:∀u∈s.uid,R.AO G u=true
theorem TN(c:R.Cf):∀u∈Ef 3,R.AO (CS c c.Ad.toNat) u=true:=by
 intro u hu;have hs:(CS c c.Ad.toNat).Ac=[⟨0,true,[]⟩,⟨1,true,[]⟩,⟨2,true,[]⟩]:=(Gi c _).trans (Cg c 3);unfold R.AO;rw[hs];simp only[Ef]at hu;simp at hu;rcases hu with rfl|rfl|rfl<;>rfl
theorem OI{c:R.Cf}(hc:R.BL c)(D K:Value):GU c 0 ⟨List.replicate c.Ad.toNat 1,List.replicate (3*c.Ad.toNat) 0,Ef 3,3,.slice none 0 0,D,K,[],FL 3,GM 3⟩ (fun _=>none) (CS c c.Ad.toNat):=
 ⟨agree_start hc D K,QX hc,fun x hx=>by rw[Pw hc hx];rfl,TN c⟩
structure GV(c:R.Cf)(n:Int)(m k:Nat)(s:RS)(M:R.Bk)(G:R.Wd):Prop where
 agree:Agree c s M G
 alive:∀u∈s.uid,R.AO G u=true
 made:s.made.length=m+k
 cm:∃fl ph,R.Cm M (EI c) fl [] ph G/\(∀j,j<DV c->(ph (CW c j)=.idle↔k<=j))/\R.I7 G (EI c) ph=0/\R.Fu (EI c) ph=0
 seq:∀j,j<DV c->(R.AQ G (CW c j)).seq=if j<k then n+1 else n
 each:∀j,j<k->∃z,s.made[m+j]?=some z/\z.1.client=((CW c j).1:Int)/\z.1.Ag=1/\z.1.line=((CW c j).2:Int)/\z.1.seq=n+1
theorem EA(G:R.Wd)(A:List R.Li):R.I7 G A (fun _=>.idle)=0/\R.Fu A (fun _=>.idle)=0:=by
 unfold R.I7 R.Fu;induction A with
 |nil=>exact⟨rfl,rfl⟩
 |cons a A ih=>
  simp only[List.map_cons,List.sum_cons];rw[ih.1,ih.2];exact⟨rfl,rfl⟩
theorem GU.one{c:R.Cf}{n:Int}{s:RS}{M:R.Bk}{G:R.Wd}(h:GU c n s M G):GV c n s.made.length 0 s M G:=
 ⟨h.agree,h.alive,rfl,⟨[],_,h.cm,fun j _=>⟨fun _=>Nat.zero_le _,fun _=>rfl⟩,(EA G _).1,(EA G _).2⟩,fun j hj=>by rw[if_neg (by omega)];exact h.seq _ (DX.2 ⟨j,hj,rfl⟩),fun j hj=>by omega⟩
theorem T8(G:R.Wd)(i k:Nat)(l:R.Ln)(d:R.Cd):(CQ G i k l d).Ac=G.Ac:=by
 unfold CQ R.AA R.AU;simp only;split<;>rfl
theorem WN{sv:List R.Sv}{u:Int}{e:R.En}(h:e∈R.EK sv u):e∈Cq sv:=by
 unfold R.EK at h;cases hs:sv[(u-1).toNat]? with
 |none=>
  rw[hs]at h;simp at h
 |some s=>
  rw[hs]at h;exact List.mem_flatMap.2 ⟨s,List.mem_of_getElem? hs,by simpa using h⟩
theorem NC(G:R.Wd)(i k:Nat)(l:R.Ln)(d:R.Cd)(u:Int):R.AO (CQ G i k l d) u=R.AO G u:=by
 unfold R.AO;rw[T8]
theorem OH{G:R.Wd}{i k:Nat}{cl:R.Cl}{l:R.Ln}(hc:G.Ad[i]?=some cl)(hl:cl.lines[k]?=some l)(d:R.Cd)(y:R.Li):R.AQ (CQ G i k l d) y=if y=(i,k) then R.Ci G l d else R.AQ G y:=by
 have hkl:=(List.getElem?_eq_some_iff.1 hl).1;unfold R.AQ CQ R.AA;simp only;rw[Ep,R.Eo hc hkl];by_cases e:y=(i,k)
 ·subst e;simp
 ·rw[if_neg e,if_neg (fun q=>e (Prod.ext q.1 q.2))]
theorem GV.at{c:R.Cf}{n:Int}{m k:Nat}{s:RS}{M:R.Bk}{G:R.Wd}(h:GV c n m k s M G){j:Nat}(hj:j<DV c):∃cl,R.At G (CW c j).1 (CW c j).2 cl (R.AQ G (CW c j))/\cl.Ag=1:=by
 obtain⟨fl,ph,hC,_⟩:=h.cm;exact hC.VP (DX.2 ⟨j,hj,rfl⟩)
theorem GV.rests{c:R.Cf}{n:Int}{m k:Nat}{s:RS}{M:R.Bk}{G:R.Wd}(h:GV c n m k s M G)(hk:k<DV c):(R.AQ G (CW c k)).state≠1:=by
 obtain⟨fl,ph,hC,hi,_⟩:=h.cm;have:=hC.pc _ (DX.2 ⟨k,hk,rfl⟩);rw[(hi k hk).2 (Nat.le_refl _)]at this;exact this.1
theorem GV.called{c:R.Cf}{n:Int}{m k kd:Nat}{s s':RS}{M M':R.Bk}{G G':R.Wd}(h:GV c n m k s M G)(hk:k<DV c)(hn:n≠999){cl:R.Cl}(hat:R.At G (CW c k).1 (CW c k).2 cl (R.AQ G (CW c k)))(hlf:cl.Ag=1)(hA:Agree c s' M' G')(hT:QG s M G (CW c k).1 (CW c k).2 kd cl (R.AQ G (CW c k)) s' M' G'):GV c n m (k+1) s' M' G':=by
 have hsq:=h.seq k hk;rw[if_neg (by omega)]at hsq;obtain⟨u,pr,v,X,Mv,g1,g2,g3,g4,g5,g6,g7⟩:=hT.yes (h.rests hk) (by rw[hsq];exact hn);have hx:CW c k∈EI c:=DX.2 ⟨k,hk,rfl⟩;obtain⟨fl,ph,hC,hi,t1,t2⟩:=h.cm;have hI:=hA.inv;rw[hlf]at g6;subst g6;have hcd:=hC.called hx ((hi k hk).2 (Nat.le_refl _)) (d:=FK u kd pr v) (G':=G') (by rw[g7];rfl) hI (h.alive u (List.mem_of_getElem? g1));have hln:=OH hat.cl hat.ln (FK u kd pr v);rw[<-g7]at hln;refine⟨hA,fun u' hu'=>?_,by rw[g5];simp[h.made];omega,⟨_,_,hcd.1,fun j hj=>?_,hcd.2.1.trans t1,hcd.2.2.trans t2⟩,fun j hj=>?_,fun j hj=>?_⟩
 ·rw[g7,NC];rw[g5]at hu';exact h.alive u' hu'
 ·unfold R.Es;by_cases e:j=k
  ·subst e;rw[if_pos rfl];constructor
   ·intro q;cases q
   ·intro q;omega
  ·rw[if_neg (fun q=>e (NU q)),hi j hj];omega
 ·rw[hln];by_cases e:j=k
  ·subst e;rw[if_pos rfl,if_pos (by omega)];show (R.AQ G (CW c j)).seq+1=n+1;rw[hsq]
  ·rw[if_neg (fun q=>e (NU q)),h.seq j hj];by_cases e2:j<k
   ·rw[if_pos e2,if_pos (by omega)]
   ·rw[if_neg e2,if_neg (by omega)]
 ·by_cases e:j=k
  ·subst e;refine⟨((⟨(CW c j).1,cl.Ag,(CW c j).2,(R.AQ G (CW c j)).seq+1,u,pr,v⟩:Mk),X),?_,rfl,hlf,rfl,?_⟩
   ·rw[g5];show (s.made++_)[m+j]?=_;rw[<-h.made];simp
   show (R.AQ G (CW c j)).seq+1=n+1;rw[hsq]
  ·obtain⟨z,z1,z2⟩:=h.each j (by omega);refine⟨z,?_,z2⟩;rw[g5];show (s.made++_)[m+j]?=_;rw[List.getElem?_append_left (by rw[h.made];omega)];exact z1
def Uf(G:R.Wd)(x:R.Li):Int:=2*R.Ae (R.AQ G x).message+2*R.Ae (R.AZ G x).result-2
def JC(G:R.Wd)(c:R.Cf)(K k:Nat):Int:=(((List.range K).drop k).map fun j=>Uf G (CW c j)).sum
theorem Nh{G:R.Wd}{c:R.Cf}{K k:Nat}(hk:k<K):JC G c K k=Uf G (CW c k)+JC G c K (k+1):=by
 unfold JC;rw[List.drop_eq_getElem_cons (by simpa using hk)];simp
theorem Qs(G:R.Wd)(c:R.Cf)(K:Nat):JC G c K K=0:=by
 unfold JC;rw[List.drop_eq_nil_of_le (by simp)];rfl
structure GX(c:R.Cf)(n:Int)(m K:Nat)(s:RS)(M:R.Bk)(G:R.Wd):Prop where
 agree:Agree c s M G
 alive:∀u∈s.uid,R.AO G u=true
 made:s.made.length=m+K
 cm:∃ph,R.Cm M (EI c) [] [] ph G/\∀j,j<K->ph (CW c j)=.done
 seq:∀x∈EI c,(R.AQ G x).seq=n
 few:K<=DV c
 each:∀j,j<K->∃z,s.made[m+j]?=some z/\z.1.client=((CW c j).1:Int)/\z.1.Ag=1/\z.1.line=((CW c j).2:Int)/\z.1.seq=n
theorem GX.next{c:R.Cf}{n:Int}{m K:Nat}{s:RS}{M:R.Bk}{G:R.Wd}(h:GX c n m K s M G):GU c n s M G:=by
 obtain⟨ph,hC,_⟩:=h.cm;exact⟨h.agree,hC.anew,h.seq,h.alive⟩
theorem GU.two{c:R.Cf}{n:Int}{s:RS}{M:R.Bk}{G:R.Wd}(h:GU c n s M G):GX c n s.made.length 0 s M G:=
 ⟨h.agree,h.alive,rfl,⟨_,h.cm,fun j hj=>by omega⟩,h.seq,Nat.zero_le _,fun j hj=>by omega⟩
theorem Qm{c:R.Cf}{s:RS}{M:R.Bk}{G G':R.Wd}(h:Agree c s M G)(h':Agree c s M G'){i k:Nat}{cl cl':R.Cl}{l l':R.Ln}(a:R.At G i k cl l)(a':R.At G' i k cl' l'):l'.seq=l.seq:=by
 have h1:=h.seq i cl k l a.cl a.ln;have h2:=h'.seq i cl' k l' a'.cl a'.ln;exact Option.some.inj (h2.symm.trans h1)
theorem Yn{c:R.Cf}{G:R.Wd}{ph:R.Li->R.Ph}(h:∀j,j<DV c->ph (CW c j)=.done):R.I7 G (EI c) ph=JC G c (DV c) 0:=by
 unfold R.I7 JC EI;rw[List.drop_zero,List.map_map];congr 1;refine List.map_congr_left (fun j hj=>?_);simp only[Function.comp];rw[h j (by simpa using hj)];rfl
theorem GV.aaJ{c:R.Cf}{n:Int}{m:Nat}{s:RS}{M:R.Bk}{G G':R.Wd}{fl:List R.Li}{ph ph':R.Li->R.Ph}(h:GV c n m (DV c) s M G)(hC:R.Cm M (EI c) fl [] ph G)(hi:∀j,j<DV c->(ph (CW c j)=.idle↔DV c<=j))(hA:Agree c s M G')(hal:∀u,R.AO G' u=R.AO G u)(hC':R.Cm M (EI c) [] [] ph' G')(hi':∀y,ph' y=.idle↔ph y=.idle):GX c (n+1) m (DV c) s M G'/\R.I7 G' (EI c) ph'=JC G' c (DV c) 0:=by
 have hd:∀j,j<DV c->ph' (CW c j)=.done:=fun j hj=>hC'.over (DX.2 ⟨j,hj,rfl⟩) (fun q=>by have:=(hi j hj).1 ((hi' _).1 q);omega)
 refine⟨⟨hA,fun u hu=>(hal u).trans (h.alive u hu),h.made,⟨ph',hC',hd⟩,fun x hx=>?_,Nat.le_refl _,h.each⟩,Yn hd⟩;obtain⟨j,hj,rfl⟩:=DX.1 hx;obtain⟨cl,a,_⟩:=hC.VP hx;obtain⟨cl',a',_⟩:=hC'.VP hx;rw[Qm h.agree hA a a',h.seq j hj,if_pos hj]
structure aby(c:R.Cf)(s:RS)(G:R.Wd)(x:R.Li)(z:Mk×Value)(l:R.Ln)(kd:Int)(f t:ByteArray)(bs rb:List UInt8):Prop where
 kind:s.kinds[(z.1.uid-1).toNat]?=some kd
 uid:1<=z.1.uid/\z.1.uid<=(s.kinds.length:Int)
 sig:R.CO kd z.1.proc=some (f,t)
 arg:R.AV f z.1.arg=some bs
 res:R.AV t l.result=some rb
 pos:1<=rb.length
 cnt:Uf G x=2*(((2+bs.length+7) / 8:Nat):Int)+2*(((rb.length+7) / 8:Nat):Int)-2
theorem GX.needs{c:R.Cf}{n:Int}{m K k:Nat}{s:RS}{M:R.Bk}{G:R.Wd}(h:GX c n m K s M G)(hk:k<K):
  ∃z cl,s.made[m+k]?=some z/\z.1.client=((CW c k).1:Int)/\z.1.line=((CW c k).2:Int)/\z.1.seq=n/\R.At G (CW c k).1 (CW c k).2 cl (R.AQ G (CW c k))/\(R.AQ G (CW c k)).state=2/\(R.AQ G (CW c k)).seq=n/\∃kd f t bs rb,aby c s G (CW c k) z (R.AQ G (CW c k)) kd f t bs rb:=by
 have hkN:=Nat.lt_of_lt_of_le hk h.few;have hx:CW c k∈EI c:=DX.2 ⟨k,hkN,rfl⟩;obtain⟨ph,hC,hd⟩:=h.cm;obtain⟨z,z1,z2,z3,z4,z5⟩:=h.each k hk;obtain⟨cl,hat,hlf⟩:=hC.VP hx;have hsm:=hC.small hx;have hpc:=hC.pc _ hx;rw[hd k hk]at hpc;obtain⟨p1,p2,p3⟩:=hpc;have hsq:=h.seq _ hx;have hI:=h.agree.inv;have hkey:z.1.key=⟨((CW c k).1:Int),1,((CW c k).2:Int),n⟩:=by
  unfold Mk.key;rw[z2,z3,z4,z5]
 have hzm:z.1∈s.made.map (·.1):=List.mem_map.2 ⟨z,List.mem_of_getElem? z1,rfl⟩;obtain⟨d,hd1⟩:=h.agree.book.all _ hzm;have hbk:=h.agree.book;obtain⟨i0,m0,e1,e2,e3,e4,e5⟩:=hbk.at hd1;have hzi:(s.made.map (·.1))[m+k]?=some z.1:=by simp[z1]
 have:m+k=i0:=hbk.uniq hzi e1 e2.symm;subst this;obtain rfl:=Option.some.inj (hzi.symm.trans e1);rw[hkey]at hd1;obtain⟨d',m1,m2⟩:=hC.msg _ hx (by rw[hd k hk];intro q;cases q);rw[hsq]at m1;obtain rfl:=Option.some.inj (hd1.symm.trans m1);obtain⟨hcd,_⟩:=hI.bk _ _ hd1;have hseen:=hI.Dl (i:=3*(CW c k).1+(CW c k).2) (by omega);have hne:(R.AZ G (CW c k)).seq≠0:=by
  have:=hI.ln _ _ _ _ hat.cl hat.ln;intro q;have q1:(R.AQ G (CW c k)).seq=0:=by rw[<-p2];exact q
  have:=this.idle.2 q1;omega
 obtain⟨d2,hS⟩:=hI.sn _ _ hseen hne;have hlv:=hC.live hx hne;have hk3:=R.at3 (i:=(CW c k).1) hsm.2;have hkk:(⟨(((3*(CW c k).1+(CW c k).2) / 3:Nat):Int),G.Ai.getD ((3*(CW c k).1+(CW c k).2) / 3) 0,(((3*(CW c k).1+(CW c k).2) % 3:Nat):Int),(R.Ap G (3*(CW c k).1+(CW c k).2)).seq⟩:R.Key)=⟨((CW c k).1:Int),1,((CW c k).2:Int),n⟩:=by
  rw[hk3.1,hk3.2,hlv];have:(R.Ap G (3*(CW c k).1+(CW c k).2)).seq=n:=p2.trans hsq;rw[this]
 rw[hkk]at hS;obtain rfl:=Option.some.inj (hd1.symm.trans hS.made);obtain⟨e,hDI⟩:=hS.ans p3;have hone:=MQ hI hat.cl hat.ln p1;have hem:e∈Cq G.Ac:=WN hDI.mem;have her:e.result=(R.AQ G (CW c k)).result:=hone.2 e hem (by rw[hDI.key,hlf,hsq]);have hu:=hcd.uid;have hks:s.kinds=G.Ac.map (·.kind):=h.agree.kinds;have hul:(d.uid-1).toNat<G.Ac.length:=by omega
 refine⟨z,cl,z1,z2,z4,z5,hat,p1,hsq,R.FU G.Ac d.uid,d.from',d.to,d.bs,(R.AZ G (CW c k)).result,?_,?_,?_,?_,?_,hDI.pos,?_⟩
 ·rw[hks,e3,List.getElem?_map,List.getElem?_eq_getElem hul];unfold R.FU;rw[List.getElem?_eq_getElem hul];rfl
 ·rw[hks,e3,List.length_map];exact hu
 ·rw[e4];exact hcd.sig
 ·rw[e5];exact hcd.bs
 ·rw[<-her];exact hDI.bytes
 ·unfold Uf;rw[m2];have hml:d.msg.length=2+d.bs.length:=by unfold R.Cd.msg;simp[AX];omega
  unfold R.Ae;rw[hml]
structure Iy(w0:World)(q:RP)(p:Pl)(c:R.Cf)(s:RS)(M:R.Bk)(A:List R.Li)(ph:R.Li->R.Ph)(G G1:R.Wd)(fl jl:List R.Li)(ph1:R.Li->R.Ph)(i:Nat)(wr:World):Prop where
 both:A9 w0 q p c s G1 wr
 agree:Agree c s M G1
 cm:R.Cm M A fl jl ph1 G1
 idle:∀y,ph1 y=.idle↔ph y=.idle
 alive:∀u,R.AO G1 u=R.AO G u
 I7:0<=R.I7 G1 A ph1
 late:0<=R.Fu A ph1
 far:(i:Int)<=R.I7 G1 A ph1+R.Fu A ph1
theorem Iy.next{w0:World}{q:RP}{p:Pl}{c:R.Cf}{s:RS}{M:R.Bk}{A:List R.Li}{ph ph1:R.Li->R.Ph}{G G1:R.Wd}{fl jl:List R.Li}{i:Nat}{wr w':World}(h:Iy w0 q p c s M A ph G G1 fl jl ph1 i wr){e f:Int}(he:0<=e)(hf:0<=f)(hef:1<=e+f)(hS:R.Sp M A ph1 G1 (R.AP (R.Au G1 0).2).2 e f)(hB:A9 w0 q p c s (R.AP (R.Au G1 0).2).2 w'):
  ∃fl' jl' ph',Iy w0 q p c s M A ph G (R.AP (R.Au G1 0).2).2 fl' jl' ph' (i+1) w'/\R.I7 (R.AP (R.Au G1 0).2).2 A ph'=R.I7 G1 A ph1+e:=by
 obtain⟨fl',jl',ph',hC,t1,t2,t3,t4⟩:=hS.ex;have h1:=h.I7;have h2:=h.late;have h3:=h.far;exact⟨fl',jl',ph',⟨hB,(h.agree.CR 0).serve,hC,fun y=>(t3 y).trans (h.idle y),fun u=>(t4 u).trans (h.alive u),by omega,by omega,by omega⟩,t1⟩
theorem Pe{w0 w:World}{q:RP}{p:Pl}{c:R.Cf}{s:RS}{M:R.Bk}{A fl jl:List R.Li}{ph:R.Li->R.Ph}{G:R.Wd}(h:Iy w0 q p c s M A ph G G fl jl ph 0 w)(ht:R.I7 G A ph=0):
  Calls Tryz.prog 18 #[ptr q.r] w fun e w'=>∃G' ph' i,e=.returned (.int .i64 (R.I7 G' A ph'))/\Iy w0 q p c s M A ph G G' [] [] ph' i w':=by
 have HF:=Ab h;have HT:=Ab ht;clear h ht;go_enter Tryz.func18,Tryz.ntmps18;go_wp2_with fail
 go_loopw [3,4] (fun nv iv wr=>∃(i:Nat) (G1:R.Wd) (fl1 jl1:List R.Li) (ph1:R.Li->R.Ph),iv=.int .i64 (i:Int)/\nv=.int .i64 (R.I7 G1 A ph1)/\Iy w0 q p c s M A ph G G1 fl1 jl1 ph1 i wr) (fun _ iv _=>2000-(intOf iv).toNat)
 case atStart=>exact⟨0,G,fl,jl,ph,rfl,by rw[Aa HT],Aa HF⟩
 case round=>
  obtain⟨i,G1,fl1,jl1,ph1,rfl,rfl,hFl⟩:=hrel;have hbd:=hFl.cm.bound;have h1:=hFl.I7;have h2:=hFl.late;have h3:=hFl.far;have hi:(i:Int)<2000:=by omega
  have a0:=hFl.both.cells.a0;have lr:=hFl.both.cells.RN;have hwi:IntKind.i64.wrap ((i:Int)+1)=(i:Int)+1:=by rw[IntKind.wrap_i64];omega
  have hwt:IntKind.i64.wrap (R.I7 G1 A ph1+1)=R.I7 G1 A ph1+1:=by rw[IntKind.wrap_i64];omega
  have HDL:=Ab (hFl.both.V8 hFl.agree.inv hFl.agree.room 0);have HSV:Hid (∀w',A9 w0 q p c s (R.Au G1 0).2 w'->(w'.cell? ⟨q.r,0,none⟩=some (ptr q.x)/\q.r<w'.heap.size)/\Calls Tryz.prog 22 #[ptr q.x] w' fun e w''=>e=.returned (.int .i64 (R.AP (R.Au G1 0).2).1)/\A9 w0 q p c s (R.AP (R.Au G1 0).2).2 w''):=fun w' h'=>⟨⟨h'.cells.a0,h'.cells.RN⟩,h'.aa1 (hFl.agree.CR 0).inv⟩
  have HFL:=Ab hFl;rcases hFl.cm.acM with ⟨e9,s19,hsame,rfl,rfl⟩|⟨e,f,he,hf,hef,hSp⟩
  ·have HE:Hid (∀w'',A9 w0 q p c s (R.AP (R.Au G1 0).2).2 w''->Iy w0 q p c s M A ph G G1 [] [] ph1 i w''):=fun w'' hB=>by
    rw[hsame]at hB;exact⟨hB,(Aa HFL).agree,(Aa HFL).cm,(Aa HFL).idle,(Aa HFL).alive,(Aa HFL).I7,(Aa HFL).late,(Aa HFL).far⟩
   rw[e9]at HDL;rw[s19]at HSV;clear hFl HFL hsame e9 s19 hbd h1 h2 h3;go_wp2_with fail
   refine(Aa HDL).mono ?_;rintro e w2 ⟨rfl,hB2⟩;obtain⟨⟨b0,lb⟩,hC⟩:=(Aa HSV) w2 hB2;have HC:=Ab hC;clear hB2 hC a0 lr HDL;go_wp2_with fail
   refine(Aa HC).mono ?_;rintro e w3 ⟨rfl,hB3⟩;have HR:=Ab ((Aa HE) w3 hB3);clear hB3;go_wp2_with fail
   go_returns;exact⟨G1,ph1,i,rfl,Aa HR⟩
  ·have HN:Hid (∀w'',A9 w0 q p c s (R.AP (R.Au G1 0).2).2 w''->∃fl' jl' ph',Iy w0 q p c s M A ph G (R.AP (R.Au G1 0).2).2 fl' jl' ph' (i+1) w''/\R.I7 (R.AP (R.Au G1 0).2).2 A ph'=R.I7 G1 A ph1+e):=fun w'' hB=>(Aa HFL).next (by omega) (by omega) hef hSp hB
   generalize hD:(R.Au G1 0).1=dv at HDL he;generalize hS:(R.AP (R.Au G1 0).2).1=sv at HSV hf;clear hFl HFL hSp hbd h1 h2 h3 hD hS;rcases he with ⟨rfl,rfl⟩|⟨rfl,rfl⟩;all_goals
    rcases hf with ⟨rfl,rfl⟩|⟨rfl,rfl⟩;all_goals
     first
     |omega
     |(go_wp2_with fail
       refine(Aa HDL).mono ?_;rintro e w2 ⟨rfl,hB2⟩;obtain⟨⟨b0,lb⟩,hC⟩:=(Aa HSV) w2 hB2;have HC:=Ab hC;clear hB2 hC a0 lr HDL;go_wp2_with fail
       refine(Aa HC).mono ?_;rintro e w3 ⟨rfl,hB3⟩;obtain⟨fl',jl',ph',hF3,ht3⟩:=(Aa HN) w3 hB3;have HF3:=Ab hF3;clear hB3 hF3;go_wp2_with fail
       go_roundw
       case rel=>exact⟨i+1,_,fl',jl',ph',by go_num,by rw[ht3]<;>first|rfl|go_num|simp,Aa HF3⟩
       case measure=>simp[intOf];omega)
theorem Ej{t:ByteArray}{v:List R.It}{bs:List UInt8}(h:R.AV t v=some bs):V.Cn t v=(0,bs):=by
 unfold R.AV at h;split at h
 ·rename_i h0;cases h;exact Prod.ext h0 rfl
 ·cases h
theorem Wo{k p:Int}{f t:ByteArray}(h:R.CO k p=some (f,t))(w:World)(ht:DU w):Calls Tryz.prog 41 #[.int .i64 k,.int .i64 p] w fun e w'=>e=.returned (.tuple #[.string f,.string t,.int .i64 0])/\Below w.heap.size w w':=by
 obtain⟨tt,fr,hg⟩:=ht;have hs:=(E9 h).1;have HC:=Ab (Oi k p w tt fr hg);rw[hs]at HC;clear hg hs h;go_enter Tryz.func41,Tryz.ntmps41;go_wp2_with fail
 refine(Aa HC).mono ?_;rintro e w' ⟨rfl,hb⟩;have HB:=Ab hb;clear hb;go_wp2_with fail
 go_returns;exact⟨rfl,Aa HB⟩
theorem Ki(n:Nat)(hn:n<=1000000)(w:World):Calls Tryz.prog 43 #[.int .i64 (n:Int)] w fun e w'=>e=.returned (.int .i64 (((n+7) / 8:Nat):Int))/\w'=w:=by
 have hw:IntKind.i64.wrap ((n:Int)+7)=((n+7:Nat):Int):=by rw[IntKind.wrap_i64];omega
 have hd:((n+7:Nat):Int).tdiv 8=(((n+7) / 8:Nat):Int):=by
  rw[Int.tdiv_eq_ediv_of_nonneg (by omega)];omega
 have hw2:IntKind.i64.wrap ((((n+7) / 8:Nat):Int))=(((n+7) / 8:Nat):Int):=by rw[IntKind.wrap_i64];omega
 go_enter Tryz.func43,Tryz.ntmps43;go_wp2_with fail
 go_returns;exact⟨rfl,rfl⟩
theorem Xb(m:Mk)(za oa:Option Addr)(zn zc on oc:Nat)(kd:Int){f t:ByteArray}{bs rb:List UInt8}{res:List R.It}(w:World)(ht:DU w)(hI:V.Items w (.slice za zn zc) m.arg)(hR:V.Items w (.slice oa on oc) res)(hs:R.CO kd m.proc=some (f,t))(ha:R.AV f m.arg=some bs)(hr:R.AV t res=some rb)(hp:1<=rb.length)(hal:m.arg.length<=1000)(hrl:res.length<=1000):
  Calls Tryz.prog 19 #[.agg #[.int .i64 m.client,.int .i64 m.Ag,.int .i64 m.line,.int .i64 m.seq,.int .i64 m.uid,.int .i64 m.proc,.slice za zn zc],.int .i64 kd,.slice oa on oc] w fun e w'=>e=.returned (.int .i64 (2*(((2+bs.length+7) / 8:Nat):Int)+2*(((rb.length+7) / 8:Nat):Int)-2))/\Below w.heap.size w w':=by
 have hbl:bs.length<=70:=by
  have:=V.Gv (R.Bv ha);rw[Ej ha]at this;exact this
 have hrl2:rb.length<=70:=by
  have:=V.Gv (R.Bv hr);rw[Ej hr]at this;exact this
 obtain⟨W0,hW0⟩:∃W0,w.alloc (.cells #[.int .i64 m.client,.int .i64 m.Ag,.int .i64 m.line,.int .i64 m.seq,.int .i64 m.uid,.int .i64 m.proc,.slice za zn zc] 55)=W0:=⟨_,rfl⟩;have hb0:Below w.heap.size w W0:=by rw[<-hW0];exact(Below.refl _ _).alloc (Nat.le_refl _) _
 have hx0:W0.heap[w.heap.size]?=some (.cells #[.int .i64 m.client,.int .i64 m.Ag,.int .i64 m.line,.int .i64 m.seq,.int .i64 m.uid,.int .i64 m.proc,.slice za zn zc] 55 (0,0)):=by rw[<-hW0];exact heap_alloc_new w _
 have c5:W0.cell? ⟨w.heap.size,5,none⟩=some (.int .i64 m.proc):=cell_of hx0 5 _ rfl;have hl0:=lt_of_block hx0;have HC1:=Ab (Wo hs W0 (ht.below hb0));have HM:Hid (∀W,Below W0.heap.size W0 W->(W.cell? ⟨w.heap.size,6,none⟩=some (.slice za zn zc)/\w.heap.size<W.heap.size/\Below w.heap.size w W)/\(Calls Tryz.prog 42 #[.string f,.slice za zn zc] W fun e w'=>e=.returned (.tuple #[.string ⟨bs.toArray⟩,.int .i64 0])/\Below W.heap.size W w')/\Calls Tryz.prog 42 #[.string t,.slice oa on oc] W fun e w'=>e=.returned (.tuple #[.string ⟨rb.toArray⟩,.int .i64 0])/\Below W.heap.size W w'):=fun W hb=>by
  have hb1:=hb0.trans (hb.mono hb0.size);have m1:=V.Kf f (.slice za zn zc) m.arg W (hI.below hb1) (by omega);have m2:=V.Kf t (.slice oa on oc) res W (hR.below hb1) (by omega);rw[Ej ha]at m1;rw[Ej hr]at m2;exact⟨⟨(hb.cell (p:=⟨w.heap.size,6,none⟩) hl0).trans (cell_of hx0 6 _ rfl),Nat.lt_of_lt_of_le hl0 hb.size,hb1⟩,m1,m2⟩
 have HW0:=Ab hW0;obtain⟨SB,hSB,hsb⟩:∃SB:ByteArray,(⟨bs.toArray⟩:ByteArray)=SB/\SB.size=bs.length:=⟨_,rfl,by simp[ByteArray.size]⟩;obtain⟨SR,hSR,hsr⟩:∃SR:ByteArray,(⟨rb.toArray⟩:ByteArray)=SR/\SR.size=rb.length:=⟨_,rfl,by simp[ByteArray.size]⟩;rw[hSB,hSR]at HM;rw[<-hsb,<-hsr];have hz1:SB.size<=70:=by omega
 have hz2:SR.size<=70:=by omega
 have hz3:1<=SR.size:=by omega
 clear hsb hsr hSB hSR hW0 hb0 hx0 hI hR ha hr hs ht hp hbl hrl2;have HP1:=Ab (fun W=>Ki (2+SB.size) (by omega) W);have HP2:=Ab (fun W=>Ki SR.size (by omega) W);have e1:((SR.size:Int)==0)=false:=beq_eq_false_iff_ne.2 (by omega);have hwa:IntKind.i64.wrap (2+(SB.size:Int))=((2+SB.size:Nat):Int):=by rw[IntKind.wrap_i64];omega
 obtain⟨p1,hp1⟩:∃p1:Int,p1=(((2+SB.size+7) / 8:Nat):Int):=⟨_,rfl⟩;obtain⟨p2,hp2⟩:∃p2:Int,p2=(((SR.size+7) / 8:Nat):Int):=⟨_,rfl⟩;have hw1:IntKind.i64.wrap (2*p1)=2*p1:=by rw[IntKind.wrap_i64];omega
 have hw2:IntKind.i64.wrap (2*p2)=2*p2:=by rw[IntKind.wrap_i64];omega
 have hw3:IntKind.i64.wrap (2*p1+2*p2)=2*p1+2*p2:=by rw[IntKind.wrap_i64];omega
 have hw4:IntKind.i64.wrap (2*p1+2*p2-2)=2*p1+2*p2-2:=by rw[IntKind.wrap_i64];omega
 rw[<-hp1]at HP1;rw[<-hp2]at HP2;rw[<-hp1,<-hp2];clear hp1 hp2;go_enter Tryz.func19,Tryz.ntmps19;go_wp2_with fail
 rw[Aa HW0];refine(Aa HC1).mono ?_;rintro e w1 ⟨rfl,hb1⟩;obtain⟨⟨c6,hl1,hq1⟩,hM1,_⟩:=(Aa HM) w1 hb1;have HM1:=Ab hM1;have HB1:=Ab hb1;clear hM1 hb1 c5 hq1 HC1;go_wp2_with fail
 refine(Aa HM1).mono ?_;rintro e w2 ⟨rfl,hb2⟩;have hb2':=(Aa HB1).trans (hb2.mono (Aa HB1).size);obtain⟨_,_,hM2⟩:=(Aa HM) w2 hb2';have HM2:=Ab hM2;have HB2:=Ab hb2';clear hM2 hb2 hb2' c6 HM1;go_wp2_with fail
 refine(Aa HM2).mono ?_;rintro e w3 ⟨rfl,hb3⟩;have hb3':=(Aa HB2).trans (hb3.mono (Aa HB2).size);have HB3:=Ab ((Aa HM) w3 hb3').1.2.2;clear hb3 hb3' HM2;go_wp2_with fail
 refine((Aa HP1) _).mono ?_;rintro e w4 ⟨rfl,hw4'⟩;rw[hw4'];clear hw4' w4;go_wp2_with fail
 refine((Aa HP2) _).mono ?_;rintro e w4 ⟨rfl,hw4'⟩;rw[hw4'];clear hw4' w4;go_wp2_with fail
 go_returns;exact⟨rfl,Aa HB3⟩
end Go.Proofs.YtblomippkddgiaaGreatDoor
