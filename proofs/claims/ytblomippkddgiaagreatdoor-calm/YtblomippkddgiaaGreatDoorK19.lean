import Derived.Test.YtblomippkddgiaaGreatDoorK18
namespace Go.Proofs.YtblomippkddgiaaGreatDoor.R
theorem Eo{G:Wd}{i k:Nat}{cl:Cl}(hc:G.Ad[i]?=some cl)(hk:k<cl.lines.length)(l':Ln)(i' k':Nat):A7 (Al G i k l') i' k'=if i'=i/\k'=k then l' else A7 G i' k':=by
 unfold A7;simp only[Int.toNat_natCast];rw[Bf];by_cases hi:i=i'
 ·subst hi;rw[hc];simp only[Option.map_some,if_true,Option.bind_some,true_and];rw[List.getElem?_set];by_cases hkk:k=k'
  ·subst hkk;simp[hk]
  ·rw[if_neg hkk,if_neg (fun e=>hkk e.symm)]
 ·rw[if_neg (fun e=>hi e.1.symm)];cases G.Ad[i']? with
  |none=>rfl
  |some c0=>simp[hi]
def Kh(i k:Nat)(l:Ln):Pk:=⟨1,i,1,k,l.seq,l.uid,l.Ah,Ae l.message,decide (l.Ah<Ae l.message-1),Bb l.message l.Ah⟩
def akL(i k:Nat)(l:Ln):Pk:=⟨2,i,1,k,l.seq,l.uid,l.Ah,Ae l.message,false,[]⟩
def Ow(i k:Nat)(r:Sn):Pk:=⟨5,i,1,k,r.seq,r.uid,r.at',Ae r.result,false,Bb r.result r.at'⟩
def goL(i k:Nat)(l:Ln)(r:Sn):Pk:=⟨6,i,1,k,l.seq,l.uid,r.at',Ae r.result,false,[]⟩
structure Ev(G G':Wd)(i k:Nat)(l':Ln)(r':Sn)(fl:List Fl)(jb:List Jb):Prop where
 line:∀i' k':Nat,A7 G' i' k'=if i'=i/\k'=k then l' else A7 G i' k'
 seen:∀j,j<9->Ap G' j=if j=3*i+k then r' else Ap G j
 fl:G'.Ao=G.Ao++fl
 jb:G'.jobs=G.jobs++jb
 alive:∀u,AO G' u=AO G u
theorem Ev.N6{G G':Wd}{i k:Nat}{l':Ln}{fl:List Fl}(h1:∀i' k':Nat,A7 G' i' k'=if i'=i/\k'=k then l' else A7 G i' k')(h2:G'.seen=G.seen)(h3:G'.Ao=G.Ao++fl)(h4:G'.jobs=G.jobs)(h5:G'.Ac=G.Ac):Ev G G' i k l' (Ap G (3*i+k)) fl []:=by
 refine⟨h1,fun j _=>?_,h3,by rw[h4,List.append_nil],fun u=>by unfold AO;rw[h5]⟩;unfold Ap;rw[h2];split
 ·rename_i e;rw[e]
 ·rfl
theorem aaD{G:Wd}{i k:Nat}{c:Cl}{l:Ln}(hat:At G i k c l)(h1:l.state=1)(hlife:c.Ag=1)(hf:G.Ao.length<40){p:Pk}(hk:p.kind=2)(hl:p.line=k)(hlf:p.Ag=1)(hs:p.seq=l.seq)(hp:p.part=l.Ah)(hlt:l.Ah+1<Ae l.message):
  Ev G (CF G i p) i k {l with Ah:=l.Ah+1,wait:=G.c.Be,tries:=G.c.tries} (Ap G (3*i+k)) [Fs (-1) (Kh i k {l with Ah:=l.Ah+1})] []:=by
 have hline:=hat.line;have hA:=hat.set {l with Ah:=l.Ah+1};have e1:CF G i p=DN (AA (Al G i k {l with Ah:=l.Ah+1}) i k false) i k:=by
  unfold CF;simp only[hl,hline,Bt hat.cl];rw[if_neg (by rw[h1,hlf,hlife,hs];simp),if_pos hk,if_pos hp,if_pos hlt]
 have hpk:Cb (Al G i k {l with Ah:=l.Ah+1}) i k {l with Ah:=l.Ah+1} false=Kh i k {l with Ah:=l.Ah+1}:=by
  unfold Cb Kh;rw[Bt hA.cl];simp[hlife]
 rw[e1,Ew hA.line,hpk];have hB:=hA.send (-1) (Kh i k {l with Ah:=l.Ah+1});have e2:DN (AU (Al G i k {l with Ah:=l.Ah+1}) (-1) (Kh i k {l with Ah:=l.Ah+1})) i k=Al (AU (Al G i k {l with Ah:=l.Ah+1}) (-1) (Kh i k {l with Ah:=l.Ah+1})) i k {l with Ah:=l.Ah+1,wait:=G.c.Be,tries:=G.c.tries}:=by
  unfold DN;rw[hB.line,Gb];rfl
 rw[e2];have hkl:=(List.getElem?_eq_some_iff.1 hat.ln).1;refine Ev.N6 (fun i' k'=>?_) (Cw _ _ _) ?_ (E6 _ _ _) (Dw _ _ _)
 ·rw[Eo hB.cl (by simpa using hkl)];split
  ·rfl
  ·rename_i hn;rw[Ep,Eo hat.cl hkl,if_neg hn]
 ·rw[BH,E7 (by rw[BH];exact hf),BH];rfl
theorem Y2{G:Wd}{i k:Nat}{c:Cl}{l:Ln}(hat:At G i k c l)(h1:l.state=1)(hlife:c.Ag=1)(hf:G.Ao.length<40){p:Pk}(hk:p.kind=5)(hl:p.line=k)(hlf:p.Ag=1)(hs:p.seq=l.seq)(hp:p.part=l.pieces)(ha:Ae l.message-1<=l.Ah)(hlt:¬l.pieces+1=p.off):
  ∃l',Ev G (CF G i p) i k l' (Ap G (3*i+k)) [Fs (-1) ⟨6,i,1,k,l.seq,l.uid,p.part,p.off,false,[]⟩] []/\l'.state=1/\l'.seq=l.seq/\l'.uid=l.uid/\l'.message=l.message/\l'.Ah=Ae l.message/\l'.pieces=l.pieces+1:=by
 have hline:=hat.line;have hA:=hat.set {l with came:=l.came++p.body,pieces:=l.pieces+1,Ah:=Ae l.message};have e1:CF G i p=DN (GQ (Al G i k {l with came:=l.came++p.body,pieces:=l.pieces+1,Ah:=Ae l.message}) i p) i k:=by
  unfold CF;simp only[hl,hline,Bt hat.cl];rw[if_neg (by rw[h1,hlf,hlife,hs];simp),if_neg (by omega),if_neg (by omega),if_pos hk];unfold DG;simp only[hl,hline];rw[if_neg (by omega),if_pos hp,if_neg hlt]
 have e3:GQ (Al G i k {l with came:=l.came++p.body,pieces:=l.pieces+1,Ah:=Ae l.message}) i p=AU (Al G i k {l with came:=l.came++p.body,pieces:=l.pieces+1,Ah:=Ae l.message}) (-1) ⟨6,i,1,k,l.seq,l.uid,p.part,p.off,false,[]⟩:=by
  unfold GQ;simp only[hl,hA.line,Bt hA.cl,hlife]
 rw[e1,e3];have hB:=hA.send (-1) ⟨6,i,1,k,l.seq,l.uid,p.part,p.off,false,[]⟩;have hkl:=(List.getElem?_eq_some_iff.1 hat.ln).1;refine⟨{l with came:=l.came++p.body,pieces:=l.pieces+1,Ah:=Ae l.message,wait:=G.c.Be,tries:=G.c.tries},?_,h1,rfl,rfl,rfl,rfl,rfl⟩;have e2:DN (AU (Al G i k {l with came:=l.came++p.body,pieces:=l.pieces+1,Ah:=Ae l.message}) (-1) ⟨6,i,1,k,l.seq,l.uid,p.part,p.off,false,[]⟩) i k=Al (AU (Al G i k {l with came:=l.came++p.body,pieces:=l.pieces+1,Ah:=Ae l.message}) (-1) ⟨6,i,1,k,l.seq,l.uid,p.part,p.off,false,[]⟩) i k {l with came:=l.came++p.body,pieces:=l.pieces+1,Ah:=Ae l.message,wait:=G.c.Be,tries:=G.c.tries}:=by
  unfold DN;rw[hB.line,Gb];rfl
 rw[e2];refine Ev.N6 (fun i' k'=>?_) (Cw _ _ _) ?_ (E6 _ _ _) (Dw _ _ _)
 ·rw[Eo hB.cl (by simpa using hkl)];split
  ·rfl
  ·rename_i hn;rw[Ep,Eo hat.cl hkl,if_neg hn]
 ·rw[BH,E7 (by rw[BH];exact hf),BH];rfl
theorem Y1{G:Wd}{i k:Nat}{c:Cl}{l:Ln}(hat:At G i k c l)(h1:l.state=1)(hlife:c.Ag=1){p:Pk}(hk:p.kind=5)(hl:p.line=k)(hlf:p.Ag=1)(hs:p.seq=l.seq)(hp:p.part=l.pieces)(ha:Ae l.message-1<=l.Ah)(hlt:l.pieces+1=p.off):
  ∃l',Ev G (CF G i p) i k l' (Ap G (3*i+k)) [] []/\l'.state=2/\l'.seq=l.seq/\l'.message=l.message/\l'.uid=l.uid:=by
 have hline:=hat.line;have hkl:=(List.getElem?_eq_some_iff.1 hat.ln).1;refine⟨{l with came:=l.came++p.body,pieces:=l.pieces+1,Ah:=Ae l.message,result:=(V.D3 l.to (l.came++p.body)).2,state:=2},?_,rfl,rfl,rfl,rfl⟩;have e1:CF G i p=Al G i k {l with came:=l.came++p.body,pieces:=l.pieces+1,Ah:=Ae l.message,result:=(V.D3 l.to (l.came++p.body)).2,state:=2}:=by
  unfold CF;simp only[hl,hline,Bt hat.cl];rw[if_neg (by rw[h1,hlf,hlife,hs];simp),if_neg (by omega),if_neg (by omega),if_pos hk];unfold DG;simp only[hl,hline];rw[if_neg (by omega),if_pos hp,if_pos hlt]
 rw[e1];exact Ev.N6 (fun i' k'=>Eo hat.cl hkl _ i' k') rfl (by simp[BH]) rfl rfl
theorem D8{G:Wd}{n:Nat}(hn:n<G.seen.length)(r:Sn)(j:Nat):Ap (Av G n r) j=if j=n then r else Ap G j:=by
 unfold Ap Av;simp only[List.getElem?_set];by_cases h:n=j
 ·subst h;simp[hn]
 ·rw[if_neg h,if_neg (fun e=>h e.symm)]
theorem at3{i k:Nat}(hk:k<3):(3*i+k) / 3=i/\(3*i+k) % 3=k:=by omega
theorem ZO{K:Wd}{i k:Nat}{r:Sn}(hr:Ap K (3*i+k)=r)(hk:k<3)(hlv:K.Ai.getD i 0=1):
  ∃t,DR K (3*i+k)=Av (AU K i (Ow i k r)) (3*i+k) {r with timed:=t,wait:=K.c.Be,tries:=K.c.tries}:=by
 have e1:AB K (3*i+k)=AU K i (Ow i k r):=by
  unfold AB;obtain⟨d1,d2⟩:=at3 (i:=i) hk;simp only[hr,d1,d2];have:(K.Ai[i]?).getD 0=1:=by rw[<-hlv];rw[List.getD_eq_getElem?_getD]
  rw[this];rfl
 have e2:Ap (AU K i (Ow i k r)) (3*i+k)=r:=by
  unfold Ap;rw[Cw];exact hr
 refine⟨decide (8*r.at'+8<(r.result.length:Int)),?_⟩;unfold DR;simp only[e1,e2]
theorem Nj{G K:Wd}{i k:Nat}{r:Sn}(hr:Ap K (3*i+k)=r)(hn:3*i+k<K.seen.length)(hk:k<3)(hlv:K.Ai.getD i 0=1)(hf:K.Ao.length<40)(hline:∀i' k':Nat,A7 K i' k'=A7 G i' k')(hse:∀j,j≠3*i+k->Ap K j=Ap G j)(hfl:K.Ao=G.Ao)(hal:∀u,AO K u=AO G u):
  ∃r',Ev {G with jobs:=K.jobs} (DR K (3*i+k)) i k (A7 G i k) r' [Fs i (Ow i k r')] []/\r'.seq=r.seq/\r'.state=r.state/\r'.result=r.result/\r'.at'=r.at':=by
 obtain⟨t,ht⟩:=ZO hr hk hlv;refine⟨{r with timed:=t,wait:=K.c.Be,tries:=K.c.tries},?_,rfl,rfl,rfl,rfl⟩;rw[ht];refine⟨fun i' k'=>?_,fun j _=>?_,?_,?_,fun u=>?_⟩
 ·have:A7 (Av (AU K i (Ow i k r)) (3*i+k) {r with timed:=t,wait:=K.c.Be,tries:=K.c.tries}) i' k'=A7 G i' k':=by
   rw[<-hline i' k',<-Ep (G:=K) (to:=i) (p:=Ow i k r)];rfl
  rw[this];split
  ·rename_i e;rw[e.1,e.2]
  ·rfl
 ·rw[D8 (by rw[Cw];exact hn)];split
  ·rfl
  ·rename_i hj;have:Ap (AU K i (Ow i k r)) j=Ap K j:=by unfold Ap;rw[Cw]
   rw[this,hse j hj];rfl
 ·show (AU K i (Ow i k r)).Ao=_;rw[E7 hf,hfl];rfl
 ·show (AU K i (Ow i k r)).jobs=_;rw[E6,List.append_nil]
 ·have:AO (Av (AU K i (Ow i k r)) (3*i+k) {r with timed:=t,wait:=K.c.Be,tries:=K.c.tries}) u=AO K u:=by
   unfold AO Av;simp only[Dw]
  rw[this,hal];rfl
theorem aaE{G:Wd}{i k:Nat}{r:Sn}(hr:Ap G (3*i+k)=r)(hn:3*i+k<G.seen.length)(hk3:k<3)(hlv:G.Ai.getD i 0=1)(hf:G.Ao.length<40){p:Pk}(hk:p.kind=6)(hc:p.client=i)(hl:p.line=k)(hlf:p.Ag=1)(hs:p.seq=r.seq)(h3:r.state=3)(hp:p.part=r.at')(ho:p.off=Ae r.result)(hlt:r.at'<Ae r.result-1):
  ∃r',Ev G (C3 G p) i k (A7 G i k) r' [Fs i (Ow i k r')] []/\r'.seq=r.seq/\r'.state=3/\r'.result=r.result/\r'.at'=r.at'+1:=by
 have e1:C3 G p=DR (Av G (3*i+k) {r with at':=r.at'+1}) (3*i+k):=by
  unfold C3;have hci:p.client.toNat=i:=by omega
  have hli:p.line.toNat=k:=by omega
  rw[hci,hli,if_neg (by omega)];have:CM G p=G:=by
   unfold CM;rw[hci,if_neg (by omega)]
  rw[this];unfold G0;simp only[hr];rw[if_pos hk,if_pos ⟨hs.symm,h3,ho,hp,hlt⟩]
 rw[e1];obtain⟨r',h1,h2,h4,h5,h6⟩:=Nj (G:=G) (K:=Av G (3*i+k) {r with at':=r.at'+1}) (r:={r with at':=r.at'+1}) (by rw[D8 hn,if_pos rfl]) (by unfold Av;simpa using hn) hk3 hlv hf (fun _ _=>rfl) (fun j hj=>by rw[D8 hn,if_neg hj]) rfl (fun _=>rfl);exact⟨r',h1,h2,h4.trans h3,h5,h6⟩
theorem MU{G K:Wd}{i k:Nat}{r:Sn}(hr:Ap K (3*i+k)=r)(hn:3*i+k<K.seen.length)(hf:K.Ao.length<40)(hline:∀i' k':Nat,A7 K i' k'=A7 G i' k')(hse:∀j,j≠3*i+k->Ap K j=Ap G j)(hfl:K.Ao=G.Ao)(hal:∀u,AO K u=AO G u)(hjb:K.jobs=G.jobs){p:Pk}(hc:p.client=i)(hk:p.kind=1)(h1:r.state=1)(hp:p.part=r.pieces)(hpl:p.please=decide (p.part<p.off-1))(hpo:p.part<p.off)(hroom:(K.jobs.length:Int)<K.c.table):
  ∃r',r'.seq=r.seq/\r'.pieces=r.pieces+1/\((p.part<p.off-1/\r'.state=1/\Ev G (CL K (3*i+k) p) i k (A7 G i k) r' [Fs i ⟨2,i,p.Ag,p.line,p.seq,p.uid,p.part,p.off,false,[]⟩] [])\/(p.part=p.off-1/\r'.state=2/\Ev G (CL K (3*i+k) p) i k (A7 G i k) r' [] [⟨i,p.line,p.Ag,p.seq,p.uid⟩])):=by
 have e0:CL K (3*i+k) p=Cy K (3*i+k) p:=by
  unfold CL;simp only[hr];rw[if_pos h1,if_pos ⟨hk,by omega⟩]
 rw[e0];by_cases hlt:p.part<p.off-1
 ·refine⟨{r with message:=r.message++p.body,pieces:=r.pieces+1},rfl,rfl,Or.inl ⟨hlt,h1,?_⟩⟩;have hpt:p.please=true:=by rw[hpl];simp[hlt]
  have e1:Cy K (3*i+k) p=AU (Av K (3*i+k) {r with message:=r.message++p.body,pieces:=r.pieces+1}) i ⟨2,i,p.Ag,p.line,p.seq,p.uid,p.part,p.off,false,[]⟩:=by
   unfold Cy;simp only[hr];rw[if_pos hp,if_neg (by omega)];unfold Iu CU;rw[if_pos hpt,hc]
  rw[e1];refine⟨fun i' k'=>?_,fun j _=>?_,?_,?_,fun u=>?_⟩
  ·rw[Ep];show A7 K i' k'=_;rw[hline];split
   ·rename_i e;rw[e.1,e.2]
   ·rfl
  ·have:Ap (AU (Av K (3*i+k) {r with message:=r.message++p.body,pieces:=r.pieces+1}) i ⟨2,i,p.Ag,p.line,p.seq,p.uid,p.part,p.off,false,[]⟩) j=Ap (Av K (3*i+k) {r with message:=r.message++p.body,pieces:=r.pieces+1}) j:=by unfold Ap;rw[Cw]
   rw[this,D8 hn];split
   ·rfl
   ·rename_i hj;exact hse j hj
  ·rw[E7 (by exact hf)];show K.Ao++_=_;rw[hfl];rfl
  ·rw[E6,List.append_nil];exact hjb
  ·have:AO (AU (Av K (3*i+k) {r with message:=r.message++p.body,pieces:=r.pieces+1}) i ⟨2,i,p.Ag,p.line,p.seq,p.uid,p.part,p.off,false,[]⟩) u=AO K u:=by
    unfold AO;rw[Dw];rfl
   rw[this,hal]
 ·refine⟨{r with state:=2,message:=r.message++p.body,pieces:=r.pieces+1},rfl,rfl,Or.inr ⟨by omega,rfl,?_⟩⟩;have hpt:¬p.please=true:=by rw[hpl];simp[hlt]
  have e1:Cy K (3*i+k) p={Av K (3*i+k) {r with state:=2,message:=r.message++p.body,pieces:=r.pieces+1} with jobs:=K.jobs++[⟨i,p.line,p.Ag,p.seq,p.uid⟩]}:=by
   unfold Cy;simp only[hr];rw[if_pos hp,if_pos (by omega),if_neg (by omega)];unfold Iu;rw[if_neg hpt,hc]
  rw[e1];refine⟨fun i' k'=>?_,fun j _=>?_,?_,?_,fun u=>?_⟩
  ·show A7 K i' k'=_;rw[hline];split
   ·rename_i e;rw[e.1,e.2]
   ·rfl
  ·show Ap (Av K (3*i+k) {r with state:=2,message:=r.message++p.body,pieces:=r.pieces+1}) j=_;rw[D8 hn];split
   ·rfl
   ·rename_i hj;exact hse j hj
  ·show K.Ao=_;rw[hfl,List.append_nil]
  ·show K.jobs++_=_;rw[hjb]
  ·show AO K u=_;rw[hal]
theorem LU{s:List Sn}{m:Nat}(h:∀x,s[m]?=some x->x=De):s.set m De=s:=by
 refine List.ext_getElem? (fun j=>?_);rw[List.getElem?_set];split
 ·rename_i e;subst e;split
  ·rename_i hm;rw[List.getElem?_eq_getElem hm,h _ (List.getElem?_eq_getElem hm)]
  ·rename_i hm;rw[List.getElem?_eq_none (by omega)]
 ·rfl
theorem RJ{M:Bk}{G:Wd}(hI:Inv M G){p:Pk}(hp:p.Ag=1):(CM G p).seen=G.seen:=by
 unfold CM;split
 ·rename_i hlt;rw[hp]at hlt;have z:∀m,m<3->∀x,G.seen[3*p.client.toNat+m]?=some x->x=De:=fun m hm x hx=>by
   have hs:=hI.ws.sn _ x hx;rw[(at3 hm).1]at hs;by_cases h0:x.seq=0
   ·exact hs.zero h0
   ·have:=(hs.some h0).1;omega
  show ((G.seen.set (3*p.client.toNat) De).set (3*p.client.toNat+1) De).set (3*p.client.toNat+2) De=G.seen;rw[LU (s:=G.seen) (m:=3*p.client.toNat) (z 0 (by omega)),LU (z 1 (by omega)),LU (z 2 (by omega))]
 ·rfl
theorem Y0{M:Bk}{G:Wd}(hI:Inv M G){i k:Nat}{c:Cl}{l:Ln}(hat:At G i k c l)(hlife:c.Ag=1)(hal:AO G l.uid=true)(hf:G.Ao.length<40)(ha:0<=l.Ah/\l.Ah<Ae l.message)(hi:i<3)(hk3:k<3)
  (hcase:(l.Ah=0/\(Ap G (3*i+k)).seq<l.seq)\/(0<l.Ah/\(Ap G (3*i+k)).seq=l.seq/\(Ap G (3*i+k)).state=1/\(Ap G (3*i+k)).pieces=l.Ah)) (hjobs:(G.jobs.length:Int)<G.c.table) (hrem:(Ap G (3*i+k)).seq=0->(A5 G:Int)<G.c.table):
  ∃r',r'.seq=l.seq/\r'.pieces=l.Ah+1/\((l.Ah<Ae l.message-1/\r'.state=1/\Ev G (C3 G (Kh i k l)) i k l r' [Fs i (akL i k l)] [])\/(l.Ah=Ae l.message-1/\r'.state=2/\Ev G (C3 G (Kh i k l)) i k l r' [] [⟨i,k,1,l.seq,l.uid⟩])):=by
 have hlv:=hI.lv i c hat.cl;have hsl:=hI.ws.sl;have hn:3*i+k<G.seen.length:=by omega
 have hsm:=RJ hI (p:=Kh i k l) rfl;obtain⟨K,hK⟩:∃K,CM G (Kh i k l)=K:=⟨_,rfl⟩;have hKo:K.c=G.c/\K.Ad=G.Ad/\K.Ao=G.Ao/\K.jobs=G.jobs/\K.Ac=G.Ac:=by
  rw[<-hK];unfold CM;split<;>exact⟨rfl,rfl,rfl,rfl,rfl⟩
 obtain⟨k1,k2,k3,k4,k5⟩:=hKo;rw[hK]at hsm;have hseen:∀j,Ap K j=Ap G j:=fun j=>by unfold Ap;rw[hsm]
 have hline:∀i' k':Nat,A7 K i' k'=A7 G i' k':=fun i' k'=>by unfold A7;rw[k2]
 have hali:∀u,AO K u=AO G u:=fun u=>by unfold AO;rw[k5]
 have hrm:A5 K=A5 G:=by unfold A5;rw[hsm]
 have e0:C3 G (Kh i k l)=G0 K (3*i+k) (Kh i k l):=by
  unfold C3;have hci:(Kh i k l).client.toNat=i:=by show ((i:Nat):Int).toNat=i;omega
  have hli:(Kh i k l).line.toNat=k:=by show ((k:Nat):Int).toNat=k;omega
  rw[hci,hli,if_neg (by show ¬(1:Int)<_;omega),hK]
 rw[e0];have hl:=hat.line;rcases hcase with ⟨h0,hlt⟩|⟨h0,h1,h2,h3⟩
 ·have e1:G0 K (3*i+k) (Kh i k l)=CL (Av K (3*i+k) {De with seq:=l.seq,uid:=l.uid,state:=1}) (3*i+k) (Kh i k l):=by
   unfold G0;simp only[hseen];rw[if_neg (by show ¬(1:Int)=6;omega),if_neg (by show ¬_=l.seq;omega),if_neg (by show ¬l.seq<_;omega),if_neg (by show ¬AO K l.uid=false;rw[hali,hal];simp),if_neg (by show ¬((1:Int)=3\/l.Ah≠0);omega),if_neg (fun e=>by have:=hrem e.1;rw[hrm,k1]at e;omega)];rfl
  have hn':3*i+k<K.seen.length:=by rw[hsm];exact hn
  obtain⟨r',a1,a2,a3⟩:=MU (G:=G) (K:=Av K (3*i+k) {De with seq:=l.seq,uid:=l.uid,state:=1}) (i:=i) (k:=k) (r:={De with seq:=l.seq,uid:=l.uid,state:=1}) (by rw[D8 hn',if_pos rfl]) (by unfold Av;simpa using hn') (by show K.Ao.length<40;rw[k3];exact hf) hline (fun j hj=>by rw[D8 hn',if_neg hj,hseen]) k3 hali k4 (p:=Kh i k l) rfl rfl rfl h0 rfl ha.2 (by show (K.jobs.length:Int)<K.c.table;rw[k4,k1];exact hjobs);rw[e1];refine⟨r',a1,by rw[a2,h0];rfl,?_⟩;rw[hl]at a3;exact a3
 ·have e1:G0 K (3*i+k) (Kh i k l)=CL K (3*i+k) (Kh i k l):=by
   unfold G0;simp only[hseen];rw[if_neg (by show ¬(1:Int)=6;omega),if_pos (by show _=l.seq;exact h1)]
  have hn':3*i+k<K.seen.length:=by rw[hsm];exact hn
  obtain⟨r',a1,a2,a3⟩:=MU (G:=G) (K:=K) (i:=i) (k:=k) (r:=Ap G (3*i+k)) (hseen _) hn' (by rw[k3];exact hf) hline (fun j _=>hseen j) k3 hali k4 (p:=Kh i k l) rfl rfl h2 h3.symm rfl ha.2 (by rw[k4,k1];exact hjobs);rw[e1];refine⟨r',a1.trans h1,by rw[a2,h3],?_⟩;rw[hl]at a3;exact a3
theorem TP{G:Wd}{n:Nat}{s:Sv}(hs:G.Ac[n]?=some s)(e:List En)(se:List Sn)(u:Int):AO {G with Ac:=G.Ac.set n {s with log:=e},seen:=se} u=AO G u:=by
 unfold AO;simp only;rw[List.getElem?_set];split
 ·rename_i q;subst q;split
  ·rw[hs];rfl
  ·rename_i hn;have:=(List.getElem?_eq_some_iff.1 hs).1;exact absurd this hn
 ·rfl
theorem Wn{M:Bk}{G:Wd}(hI:Inv M G){i k:Nat}(hi:i<3)(hk3:k<3){js:List Jb}{seq uid:Int}(hj:G.jobs=⟨i,k,1,seq,uid⟩ :: js)(h2:(Ap G (3*i+k)).state=2)(hs:(Ap G (3*i+k)).seq=seq)(hlv:G.Ai.getD i 0=1)(hf:G.Ao.length<40):
  (AP G).1=0/\∃r',Ev {G with jobs:=js} (AP G).2 i k (A7 G i k) r' [Fs i (Ow i k r')] []/\r'.seq=seq/\r'.state=3/\r'.at'=0:=by
 have hsl:=hI.ws.sl;have hw:Et G ⟨i,k,1,seq,uid⟩:=by
  unfold Et;simp only[Int.toNat_natCast];exact⟨h2,hs,hlv⟩
 have e0:AP G=(0,Ha {G with jobs:=js} (3*i+k)):=by
  unfold AP;rw[hj];unfold BV;rw[if_pos hw];simp only[Int.toNat_natCast]
 rw[e0];refine⟨rfl,?_⟩;have hI':Inv M {G with jobs:=js}:=hI.JW (by
  have:=hI.ws.jl;rw[hj]at this;simp at this;omega) (fun q hq=>⟨hI.ws.jb q (by rw[hj];simp[hq]),hI.jb q (by rw[hj];simp[hq])⟩)
 obtain⟨d,n,s,rb,hd⟩:=hI'.NK (i:=3*i+k) (by omega) h2;have e1:=hd.eq h2;show ∃r',Ev {G with jobs:=js} (Ha {G with jobs:=js} (3*i+k)) i k (A7 G i k) r' [Fs i (Ow i k r')] []/\_;rw[e1];have hn:3*i+k<G.seen.length:=by omega
 have hse:∀j,Ap (EM {G with jobs:=js} (3*i+k) (Ap {G with jobs:=js} (3*i+k)) d n s rb) j=if j=3*i+k then {Ap G (3*i+k) with state:=3,result:=rb,at':=0} else Ap G j:=fun j=>D8 hn _ j
 obtain⟨r',b1,b2,b3,b4,b5⟩:=Nj (G:={G with jobs:=js}) (K:=EM {G with jobs:=js} (3*i+k) (Ap {G with jobs:=js} (3*i+k)) d n s rb) (i:=i) (k:=k) (r:={Ap G (3*i+k) with state:=3,result:=rb,at':=0}) (by rw[hse,if_pos rfl]) (by unfold EM;simpa using hn) hk3 hlv hf (fun _ _=>rfl) (fun j hjn=>by rw[hse,if_neg hjn];rfl) rfl (fun u=>TP hd.sv _ _ u);exact⟨r',b1,b2.trans hs,b3,b5⟩
inductive Ph where
 |idle|call|Nv|Tp|res|got|done
 deriving DecidableEq
def Ph.IC:Ph->Bool
 |.idle=>false
 |.Tp=>false
 |.done=>false
 |_=>true
def Pc(l:Ln)(r:Sn):Ph->Prop
 |.idle=>l.state≠1/\r.seq<=l.seq
 |.call=>l.state=1/\l.pieces=0/\(0<=l.Ah/\l.Ah<Ae l.message)/\((l.Ah=0/\r.seq<l.seq)\/(0<l.Ah/\r.seq=l.seq/\r.state=1/\r.pieces=l.Ah))
 |.Nv=>l.state=1/\l.pieces=0/\(0<=l.Ah/\l.Ah<Ae l.message-1)/\r.seq=l.seq/\r.state=1/\r.pieces=l.Ah+1
 |.Tp=>l.state=1/\l.pieces=0/\l.Ah=Ae l.message-1/\r.seq=l.seq/\r.state=2
 |.res=>l.state=1/\l.pieces=r.at'/\Ae l.message-1<=l.Ah/\r.seq=l.seq/\r.state=3
 |.got=>l.state=1/\l.pieces=r.at'+1/\Ae l.message-1<=l.Ah/\r.seq=l.seq/\r.state=3/\r.at'<Ae r.result-1
 |.done=>l.state=2/\r.seq=l.seq/\r.state=3
def Mc(i k:Nat)(l:Ln)(r:Sn):Ph->Int×Pk
 |.call=>(-1,Kh i k l)
 |.Nv=>(i,akL i k l)
 |.res=>(i,Ow i k r)
 |.got=>(-1,goL i k l r)
 |_=>(-1,Kh i k l)
def tok(i k:Nat)(l:Ln)(r:Sn)(ph:Ph):Fl:=Fs (Mc i k l r ph).1 (Mc i k l r ph).2
def Jg(l:Ln)(r:Sn):Ph->Int
 |.idle=>0
 |.call=>2*l.Ah
 |.Nv=>2*l.Ah+1
 |.Tp=>2*Ae l.message-1
 |.res=>2*Ae l.message-1+2*r.at'
 |.got=>2*Ae l.message+2*r.at'
 |.done=>2*Ae l.message+2*Ae r.result-2
def Ph.late:Ph->Int
 |.res=>1
 |.got=>1
 |.done=>1
 |_=>0
abbrev Li:=Nat×Nat
def AQ(G:Wd)(x:Li):Ln:=A7 G x.1 x.2
def AZ(G:Wd)(x:Li):Sn:=Ap G (3*x.1+x.2)
def RA(G:Wd)(x:Li):Jb:=⟨x.1,x.2,1,(AQ G x).seq,(AQ G x).uid⟩
structure Cm(M:Bk)(A fl jl:List Li)(ph:Li->Ph)(G:Wd):Prop where
 inv:Inv M G
 Ag:∀(i:Nat) (c:Cl),G.Ad[i]?=some c->c.Ag=1
 nd:A.Nodup
 rng:∀x∈A,x.1<G.Ad.length/\(x.2:Int)<G.c.lines
 tb:(A.length:Int)<=G.c.table
 pc:∀x∈A,Pc (AQ G x) (AZ G x) (ph x)
 al:∀x∈A,ph x≠.idle->AO G (AQ G x).uid=true
 Ih:G.Ao=fl.map fun x=>tok x.1 x.2 (AQ G x) (AZ G x) (ph x)
 fnd:fl.Nodup
 fin:∀x,x∈fl↔x∈A/\(ph x).IC=true
 jbs:G.jobs=jl.map (RA G)
 jnd:jl.Nodup
 jin:∀x,x∈jl↔x∈A/\ph x=.Tp
 rem:∀j,j<9->(Ap G j).seq≠0->∃x∈A,j=3*x.1+x.2
 msg:∀x∈A,ph x≠.idle->∃d,M ⟨x.1,1,x.2,(AQ G x).seq⟩=some d/\(AQ G x).message=d.msg
 right:∀x∈fl,AJ (Mc x.1 x.2 (AQ G x) (AZ G x) (ph x)).2
theorem Cm.small{M:Bk}{A fl jl:List Li}{ph:Li->Ph}{G:Wd}(h:Cm M A fl jl ph G){x:Li}(hx:x∈A):x.1<3/\x.2<3:=by
 have hr:=h.rng x hx;have hn:=h.inv.wf.KF;have hc:=h.inv.wf.cf;unfold BL at hc;omega
theorem Cm.VP{M:Bk}{A fl jl:List Li}{ph:Li->Ph}{G:Wd}(h:Cm M A fl jl ph G){x:Li}(hx:x∈A):∃c,At G x.1 x.2 c (AQ G x)/\c.Ag=1:=by
 have hr:=h.rng x hx;have hg:=List.getElem?_eq_getElem hr.1;have hl:=(h.inv.wf.cl _ _ hg).lines;have hk:x.2<(G.Ad[x.1]).lines.length:=by omega
 refine⟨G.Ad[x.1],⟨hg,?_⟩,h.Ag _ _ hg⟩;unfold AQ;rw[Cu hg (List.getElem?_eq_getElem hk)];exact List.getElem?_eq_getElem hk
theorem FW{α:Type}[DecidableEq α]:∀{a b:List α} (_:a.Nodup) (_:∀x∈a,x∈b),a.length<=b.length
 |[],_,_,_=>Nat.zero_le _
 |x :: a,b,h,hs=>by
  rw[List.nodup_cons]at h;have hx:=hs x (List.mem_cons_self ..);have h1:=FW (a:=a) (b:=b.erase x) h.2 (fun y hy=>(List.mem_erase_of_ne (fun e=>h.1 (by rw[<-e];exact hy))).2 (hs y (List.mem_cons_of_mem _ hy)));rw[List.length_erase_of_mem hx]at h1;have h2:=List.length_pos_of_mem hx;simp only[List.length_cons];omega
theorem Cm.few{M:Bk}{A fl jl:List Li}{ph:Li->Ph}{G:Wd}(h:Cm M A fl jl ph G):A.length<=9/\fl.length<=A.length/\jl.length<=A.length:=by
 refine⟨?_,FW h.fnd (fun x hx=>((h.fin x).1 hx).1),FW h.jnd (fun x hx=>((h.jin x).1 hx).1)⟩;have:=h.tb;have hc:=h.inv.wf.cf;unfold BL at hc;omega
def Es(ph:Li->Ph)(x:Li)(p:Ph):Li->Ph:=fun y=>if y=x then p else ph y
theorem Cm.turn{M M':Bk}{A fl jl:List Li}{ph:Li->Ph}{G K G':Wd}{x:Li}{fl' jl':List Li}(h:Cm M A fl jl ph G)(hx:x∈A)(hI:Inv M' G')(hc:G'.c=G.c)(hcl:G'.Ad.length=G.Ad.length)(hlife:∀(i:Nat) (c:Cl),G'.Ad[i]?=some c->c.Ag=1){l':Ln}{r':Sn}{f:List Fl}{j:List Jb}(hev:Ev K G' x.1 x.2 l' r' f j)(hKl:∀i' k':Nat,A7 K i' k'=A7 G i' k')(hKs:∀j,Ap K j=Ap G j)(hKa:∀u,AO K u=AO G u){p:Ph}(hpc:Pc l' r' p)(hu:p≠.idle->AO G l'.uid=true)(hM:∀y:Li,y≠x->∀n,M' ⟨y.1,1,y.2,n⟩=M ⟨y.1,1,y.2,n⟩)(hmx:p≠.idle->∃d,M' ⟨x.1,1,x.2,l'.seq⟩=some d/\l'.message=d.msg)
  (hfx:¬x∈fl') (hfn:fl'.Nodup) (hfi:∀y,y≠x->(y∈fl'↔y∈fl)) (hKf:K.Ao=fl'.map fun x=>tok x.1 x.2 (AQ G x) (AZ G x) (ph x)) (hf:f=if p.IC=true then [tok x.1 x.2 l' r' p] else []) (hr:p.IC=true->AJ (Mc x.1 x.2 l' r' p).2)
  (hjx:¬x∈jl') (hjn:jl'.Nodup) (hji:∀y,y≠x->(y∈jl'↔y∈jl)) (hKj:K.jobs=jl'.map (RA G)) (hj:j=if p=.Tp then [⟨x.1,x.2,1,l'.seq,l'.uid⟩] else []):
  Cm M' A (fl'++if p.IC=true then [x] else []) (jl'++if p=.Tp then [x] else []) (Es ph x p) G':=by
 have hln:∀y:Li,AQ G' y=if y=x then l' else AQ G y:=fun y=>by
  unfold AQ;rw[hev.line y.1 y.2,hKl];by_cases e:y=x
  ·subst e;simp
  ·rw[if_neg e,if_neg (fun q=>e (Prod.ext q.1 q.2))]
 have hsn:∀y∈A,AZ G' y=if y=x then r' else AZ G y:=fun y hy=>by
  have hs:=h.small hy;have hs':=h.small hx;unfold AZ;rw[hev.seen _ (by omega),hKs];by_cases e:y=x
  ·subst e;simp
  ·rw[if_neg e,if_neg (fun q=>e (Prod.ext (by omega) (by omega)))]
 have hflA:∀y∈fl',y∈A:=fun y hy=>by
  have hne:y≠x:=fun e=>hfx (e ▸ hy)
  exact((h.fin y).1 ((hfi y hne).1 hy)).1
 have hjlA:∀y∈jl',y∈A:=fun y hy=>by
  have hne:y≠x:=fun e=>hjx (e ▸ hy)
  exact((h.jin y).1 ((hji y hne).1 hy)).1
 have htk:∀y∈fl',tok y.1 y.2 (AQ G' y) (AZ G' y) (Es ph x p y)=tok y.1 y.2 (AQ G y) (AZ G y) (ph y):=fun y hy=>by
  have hne:y≠x:=fun e=>hfx (e ▸ hy)
  rw[hln,hsn y (hflA y hy),Es,if_neg hne,if_neg hne,if_neg hne]
 refine⟨hI,hlife,h.nd,fun y hy=>?_,by rw[hc];exact h.tb,fun y hy=>?_,fun y hy hni=>?_,?_,?_,fun y=>?_,?_,?_,fun y=>?_,fun n hn hne=>?_,fun y hy hni=>?_,fun y hy=>?_⟩
 ·rw[hcl,hc];exact h.rng y hy
 ·rw[hln,hsn y hy,Es];by_cases e:y=x
  ·rw[if_pos e,if_pos e,if_pos e];exact hpc
  ·rw[if_neg e,if_neg e,if_neg e];exact h.pc y hy
 ·rw[hev.alive,hKa,hln];by_cases e:y=x
  ·rw[if_pos e];refine hu (fun q=>hni ?_);rw[Es,if_pos e,q]
  ·rw[if_neg e];refine h.al y hy (fun q=>hni ?_);rw[Es,if_neg e,q]
 ·rw[hev.fl,hKf,hf,List.map_append];congr 1
  ·exact(List.map_congr_left htk).symm
  ·split
   ·simp[hln,hsn x hx,Es]
   ·rfl
 ·split
  ·exact List.nodup_append.2 ⟨hfn,by simp,fun a ha b hb e=>by simp at hb;subst hb;subst e;exact hfx ha⟩
  ·simpa using hfn
 ·rw[List.mem_append];by_cases e:y=x
  ·subst e;unfold Es;rw[if_pos rfl];constructor
   ·intro q;refine⟨hx,?_⟩;rcases q with q|q
    ·exact absurd q hfx
    ·split at q
     ·assumption
     ·cases q
   ·intro q;rw[if_pos q.2];simp
  ·unfold Es;rw[if_neg e,hfi y e,h.fin y];constructor
   ·intro q;rcases q with q|q
    ·exact q
    ·split at q
     ·simp at q;exact absurd q e
     ·cases q
   ·exact Or.inl
 ·rw[hev.jb,hKj,hj,List.map_append];congr 1
  ·refine List.map_congr_left (fun y hy=>?_);have hne:y≠x:=fun e=>hjx (e ▸ hy)
   unfold RA;rw[hln,if_neg hne]
  ·split
   ·simp[RA,hln]
   ·rfl
 ·split
  ·exact List.nodup_append.2 ⟨hjn,by simp,fun a ha b hb e=>by simp at hb;subst hb;subst e;exact hjx ha⟩
  ·simpa using hjn
 ·rw[List.mem_append];by_cases e:y=x
  ·subst e;unfold Es;rw[if_pos rfl];constructor
   ·intro q;refine⟨hx,?_⟩;rcases q with q|q
    ·exact absurd q hjx
    ·split at q
     ·assumption
     ·cases q
   ·intro q;rw[if_pos q.2];simp
  ·unfold Es;rw[if_neg e,hji y e,h.jin y];constructor
   ·intro q;rcases q with q|q
    ·exact q
    ·split at q
     ·simp at q;exact absurd q e
     ·cases q
   ·exact Or.inl
 ·rw[hev.seen n hn]at hne;by_cases e:n=3*x.1+x.2
  ·exact⟨x,hx,e⟩
  ·rw[if_neg e,hKs]at hne;exact h.rem n hn hne
 ·rw[hln];by_cases e:y=x
  ·rw[if_pos e,e];refine hmx (fun q=>hni ?_);rw[Es,if_pos e,q]
  ·rw[if_neg e,hM y e];refine h.msg y hy (fun q=>hni ?_);rw[Es,if_neg e,q]
 ·rcases List.mem_append.1 hy with hy|hy
  ·have hne:y≠x:=fun e=>hfx (e ▸ hy)
   rw[hln,hsn y (hflA y hy),Es,if_neg hne,if_neg hne,if_neg hne];exact h.right y ((hfi y hne).1 hy)
  ·split at hy
   ·rename_i hp;simp at hy;subst hy;rw[hln,hsn y hx,Es,if_pos rfl,if_pos rfl,if_pos rfl];exact hr hp
   ·cases hy
end Go.Proofs.YtblomippkddgiaaGreatDoor.R
