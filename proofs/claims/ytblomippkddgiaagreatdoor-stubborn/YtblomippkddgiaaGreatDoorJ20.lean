import Derived.Test.YtblomippkddgiaaGreatDoorJ19
namespace Go.Proofs.YtblomippkddgiaaGreatDoor.R
structure At(G:Wd)(i k:Nat)(c:Cl)(l:Ln):Prop where
 cl:G.clients[i]?=some c
 ln:c.lines[k]?=some l
theorem acu(G:Wd)(to:Int)(p:Pk):(sendP G to p).clients=G.clients:=by unfold sendP;split <;> rfl
theorem sendP_seen(G:Wd)(to:Int)(p:Pk):(sendP G to p).seen=G.seen:=by unfold sendP;split <;> rfl
theorem sendP_lives(G:Wd)(to:Int)(p:Pk):(sendP G to p).lives=G.lives:=by unfold sendP;split <;> rfl
theorem sendP_c'(G:Wd)(to:Int)(p:Pk):(sendP G to p).c=G.c:=by unfold sendP;split <;> rfl
theorem At.send{G:Wd}{i k:Nat}{c:Cl}{l:Ln}(h:At G i k c l)(to:Int)(p:Pk):At (sendP G to p) i k c l:=⟨by rw[acu];exact h.cl,h.ln⟩
theorem At.set{G:Wd}{i k:Nat}{c:Cl}{l:Ln}(h:At G i k c l)(l':Ln):At (setLine G i k l') i k {c with lines:=c.lines.set k l'} l':=⟨by rw[setLine_client,h.cl];simp,by simp[(List.getElem?_eq_some_iff.1 h.ln).1]⟩
theorem At.line{G:Wd}{i k:Nat}{c:Cl}{l:Ln}(h:At G i k c l):lineP G i k=l:=lineP_some h.cl h.ln
theorem LineOk.same{M:Bk}{sv:List Sv}{i:Nat}{life:Int}{bound:List Int}{k:Nat}{l l':Ln}(h:LineOk M sv i life bound k l)(e1:l'.seq=l.seq)(e2:l'.state=l.state)(e3:l'.uid=l.uid)(e4:l'.message=l.message)(e5:l'.to=l.to)(e6:l'.pieces=l.pieces)(e7:l'.came=l.came)(e8:l'.result=l.result):LineOk M sv i life bound k l':=by
 refine⟨by rw[e1,e2];exact h.idle,by rw[e1];exact h.made,by rw[e1,e2,e3,e4,e5,e6,e7];exact h.way,by rw[e1,e2,e8];exact h.done,by rw[e2,e8];exact h.none⟩
theorem LineOk.over{M:Bk}{sv:List Sv}{i:Nat}{life:Int}{bound:List Int}{k:Nat}{l l':Ln}(h:LineOk M sv i life bound k l)(h1:l.state=1)(e1:l'.seq=l.seq)(e2:3≤l'.state)(e8:l'.result=l.result):LineOk M sv i life bound k l':=by
 refine⟨?_,by rw[e1];exact h.made,fun q=>by omega,fun q=>by omega,fun _=>by rw[e8];exact h.none (by omega)⟩
 rw[e1]
 have:=h.idle
 constructor
 ·intro q;omega
 ·intro q
  have:=this.2 q
  omega
theorem LnOk.over{l l':Ln}(h:LnOk l)(e1:l'.seq=l.seq)(e2:l'.state≠1):LnOk l':=⟨by rw[e1];exact h.seq,fun q=>absurd q e2⟩
theorem Inv.way{M:Bk}{G:Wd}(h:Inv M G){i k:Nat}{c:Cl}{l:Ln}(hat:At G i k c l)(h1:l.state=1):∃d,M ⟨i,c.life,k,l.seq⟩=some d∧l.uid=d.uid∧l.message=d.msg:=by
 obtain⟨d,q1,q2,q3,_⟩:=(h.ln i c k l hat.cl hat.ln).way h1
 exact⟨d,q1,q2,q3⟩
theorem Inv.piece{M:Bk}{G:Wd}(h:Inv M G){i k:Nat}{c:Cl}{l:Ln}(hat:At G i k c l)(h1:l.state=1)(ha:l.acked<piecesP l.message)(again:Bool):Inv M (sendPieceP G i k again):=by
 rw[sendPieceP_eq hat.line]
 have hr:=call_right h.wf hat.cl hat.ln h1 ha again
 refine h.sendP hr ?_
 obtain⟨d,q1,q2,q3⟩:=h.way hat h1
 refine⟨d,?_,q2,Or.inl ⟨rfl,rfl,?_,?_⟩⟩
 ·simp only[callPk,pkKey,lifeP_some hat.cl]
  exact q1
 ·simp only[callPk,q3]
 ·simp only[callPk,q3]
theorem Inv.probe{M:Bk}{G:Wd}(h:Inv M G){i k:Nat}{c:Cl}{l:Ln}(hat:At G i k c l)(h1:l.state=1):Inv M (probeP G i k):=by
 rw[probeP_eq hat.line]
 refine h.sendP (probe_right h.wf hat.cl hat.ln h1) ?_
 obtain⟨d,q1,q2,q3⟩:=h.way hat h1
 refine⟨d,?_,q2,Or.inr (Or.inr (Or.inl ⟨rfl,rfl⟩))⟩
 simp only[probePk,pkKey,lifeP_some hat.cl]
 exact q1
def newLn(G:Wd)(l:Ln)(d:Cd):Ln:=⟨l.seq+1,1,[],d.uid,d.to,d.msg,0,[],0,G.c.retry,G.c.tries⟩
inductive CallIs (G:Wd) (client line uid proc:Int) (arg:List It) (r:(Int×Int)×Wd):Prop
 |no (n:Int) (hn:n≠0) (h:r=((0,n),G))
 |yes (i k:Nat) (c:Cl) (l:Ln) (d:Cd) (hi:client=i) (hk:line=k) (hat:At G i k c l) (h1:l.state≠1) (hs:l.seq≠999) (hb:uid∈c.bound) (hu:d.uid=uid) (hp:d.proc=proc) (ha:d.arg=arg) (hd:CdOk G.services d) (h:r=((l.seq+1,0),sendPieceP (setLine G i k (newLn G l d)) i k false))
theorem call_is{G:Wd}(h:Wf G)(client line uid proc:Int)(arg:List It):CallIs G client line uid proc arg (callP G client line uid proc arg):=by
 generalize hr:callP G client line uid proc arg=r
 unfold callP at hr
 split at hr
 ·exact .no 13 (by decide) hr.symm
 ·rename_i h1
  split at hr
  ·exact .no 14 (by decide) hr.symm
  ·rename_i h2
   split at hr
   ·exact .no 15 (by decide) hr.symm
   ·rename_i h3
    split at hr
    ·exact .no 16 (by decide) hr.symm
    ·rename_i from' to h4
     split at hr
     ·exact .no 4 (by decide) hr.symm
     ·rename_i bs h5
      simp only at hr
      obtain⟨i,rfl⟩:∃i:Nat,client=(i:Int):=⟨client.toNat,by omega⟩
      obtain⟨k,rfl⟩:∃k:Nat,line=(k:Int):=⟨line.toNat,by omega⟩
      have hi:i<G.clients.length:=by omega
      have hc:=List.getElem?_eq_getElem hi
      have hcl:=(h.cl i _ hc).lines
      have hk:k<G.clients[i].lines.length:=by omega
      have hl:=List.getElem?_eq_getElem hk
      rw[lineP_some hc hl]at hr
      split at hr
      ·exact .no 17 (by decide) hr.symm
      ·rename_i h6
       split at hr
       ·exact .no 11 (by decide) hr.symm
       ·rename_i h7
        rw[Int.toNat_natCast,hc]at h3
        simp only[Option.map_some,Option.getD_some,Decidable.not_not]at h3
        have hb:=(h.cl i _ hc).bound uid h3
        exact .yes i k G.clients[i] G.clients[i].lines[k] ⟨uid,proc,arg,from',to,bs⟩ rfl rfl ⟨hc,hl⟩ h6 h7 h3 rfl rfl rfl ⟨hb,h4,h5⟩ hr.symm
def upd(M:Bk)(k:Key)(d:Cd):Bk:=fun q=>if q=k then some d else M q
theorem Inv.called{M:Bk}{G:Wd}(h:Inv M G){i k:Nat}{c:Cl}{l:Ln}{d:Cd}(hat:At G i k c l)(hs:l.seq≠999)(hb:d.uid∈c.bound)(hd:CdOk G.services d):Inv (upd M ⟨i,c.life,k,l.seq+1⟩ d) (sendPieceP (R.setLine G i k (newLn G l d)) i k false)∧M ⟨i,c.life,k,l.seq+1⟩=none:=by
 have hfresh:M ⟨i,c.life,k,l.seq+1⟩=none:=by
  cases hq:M ⟨i,c.life,k,l.seq+1⟩ with
  |none=>rfl
  |some d'=>
   obtain⟨_,a,ca,n,x,r1,r2,r3,r4,r5,r6,r7,r8,r9⟩:=h.bk _ d' hq
   obtain rfl:i=a:=by simp only at r1;omega
   obtain rfl:k=n:=by simp only at r3;omega
   rw[hat.cl]at r2
   cases r2
   rw[hat.ln]at r4
   cases r4
   have:=r9 rfl
   simp only at this
   omega
 refine⟨?_,hfresh⟩
 have hlw:=(h.wf.cl i c hat.cl).line k l hat.ln
 have hm:=afq hd
 have hcf:=h.wf.cf
 unfold okCf at hcf
 have hsl:=hlw.seq
 have hu:=hd.uid
 have h255:=h.wf.sv
 have hp0:1≤piecesP d.msg:=pieces_pos (by omega)
 have hok:LnOk (newLn G l d):=⟨by simp only[newLn];omega,fun _=>⟨by simp only[newLn];omega,by simp only[newLn];omega,by simp only[newLn];omega,by simp only[newLn];omega,by simp only[newLn];omega,by simp only[newLn];omega⟩⟩
 have hup:upd M ⟨i,c.life,k,l.seq+1⟩ d ⟨i,c.life,k,l.seq+1⟩=some d:=by simp[upd]
 have hlo:LineOk (upd M ⟨i,c.life,k,l.seq+1⟩ d) G.services i c.life c.bound k (newLn G l d):=by
  refine⟨?_,fun _=>⟨d,hup⟩,fun _=>⟨d,hup,rfl,rfl,rfl,hb,?_,?_⟩,?_,fun _=>rfl⟩
  ·simp only[newLn];omega
  ·simp[newLn]
  ·simp[newLn]
  ·simp[newLn]
 have hle:Le M (upd M ⟨i,c.life,k,l.seq+1⟩ d):=fun q x hq=>by
  unfold upd
  split
  ·rename_i e
   rw[e,hfresh]at hq
   cases hq
  ·exact hq
 have h2:=h.setLineN (N:=upd M ⟨i,c.life,k,l.seq+1⟩ d) hat.cl hat.ln hok (by simp only[newLn];omega) hle (fun q x hq=>by
  unfold upd at hq
  split at hq
  ·rename_i e
   cases hq
   exact Or.inr ⟨e,hd,by simp only[newLn];omega⟩
  ·exact Or.inl hq) hlo
 exact h2.piece (hat.set _) rfl (by simp only[newLn];omega) false
theorem Inv.tickLine{M:Bk}{G:Wd}(h:Inv M G){i k:Nat}{c:Cl}{l:Ln}(hat:At G i k c l):Inv M (tickLine G i k):=by
 unfold R.tickLine
 simp only
 rw[hat.line]
 have hlw:=(h.wf.cl i c hat.cl).line k l hat.ln
 have hlo:=h.ln i c k l hat.cl hat.ln
 split
 ·exact h
 ·rename_i h1
  have h1:l.state=1:=Decidable.not_not.1 h1
  obtain⟨z1,z2,z3,z4,z5,z6⟩:=hlw.one h1
  have hcf:=h.wf.cf
  unfold okCf at hcf
  split
  ·rename_i h2
   exact h.setLine hat.cl hat.ln ⟨hlw.seq,fun _=>⟨z1,z2,z3,z4,by simp only;omega,z6⟩⟩ (Int.le_refl _) (hlo.same rfl rfl rfl rfl rfl rfl rfl rfl)
  ·split
   ·exact h.setLine hat.cl hat.ln (hlw.over rfl (by simp)) (Int.le_refl _) (hlo.over h1 rfl (by simp) rfl)
   ·rename_i h2 h3
    have hI:=h.setLine (l':={l with wait:=G.c.retry,tries:=l.tries-1}) hat.cl hat.ln ⟨hlw.seq,fun _=>⟨z1,z2,z3,z4,by simp only;omega,by simp only;omega⟩⟩ (Int.le_refl _) (hlo.same rfl rfl rfl rfl rfl rfl rfl rfl)
    split
    ·rename_i h4
     exact hI.piece (hat.set _) h1 (acked_iff.1 h4) true
    ·exact hI.probe (hat.set _) h1
theorem Inv.rest{M:Bk}{G:Wd}(h:Inv M G){i k:Nat}{c:Cl}{l:Ln}(hat:At G i k c l):Inv M (restP G i k):=by
 unfold restP
 rw[hat.line]
 have hlw:=(h.wf.cl i c hat.cl).line k l hat.ln
 have hlo:=h.ln i c k l hat.cl hat.ln
 have hcf:=h.wf.cf
 unfold okCf at hcf
 refine h.setLine hat.cl hat.ln ⟨hlw.seq,fun h1=>?_⟩ (Int.le_refl _) (hlo.same rfl rfl rfl rfl rfl rfl rfl rfl)
 obtain⟨z1,z2,z3,z4,z5,z6⟩:=hlw.one h1
 exact⟨z1,z2,z3,z4,by simp only;omega,by simp only;omega⟩
theorem Inv.got{M:Bk}{G:Wd}(h:Inv M G){i k:Nat}{c:Cl}{l:Ln}(hat:At G i k c l)(h1:l.state=1){p:Pk}(hr:aaj p)(hk:p.line=k):Inv M (gotP G i p):=by
 unfold gotP
 simp only
 rw[hk,hat.line,lifeP_some hat.cl]
 obtain⟨d,q1,q2,q3⟩:=h.way hat h1
 have hi:=(List.getElem?_eq_some_iff.1 hat.cl).1
 have hkl:=(List.getElem?_eq_some_iff.1 hat.ln).1
 have h0:=h.wf.cl i c hat.cl
 obtain⟨z1,z2,z3,z4,z5,z6⟩:=(h0.line k l hat.ln).one h1
 have hs:=(h0.line k l hat.ln).seq
 have hn:=h.wf.ncl
 have hcf:=h.wf.cf
 have hln:=h0.lines
 have hlf:=h0.life
 unfold okCf at hcf
 obtain⟨r1,r2,r3,r4,r5,r6,r7,r8,r9⟩:=hr
 refine h.sendP ⟨by simp,by simp only;omega,hlf,by simp only;omega,by simp only;omega,z2,r7,r8,by simp[bodyOk]⟩ ⟨d,q1,q2,Or.inr (Or.inr (Or.inr (Or.inr (Or.inr (Or.inl ⟨rfl,rfl⟩)))))⟩
theorem take_piece(rb:List UInt8)(n:Nat):rb.take (8*n)++pieceP rb (n:Int)=rb.take (8*(n+1)):=by
 unfold pieceP
 rw[Int.toNat_natCast,show 8*(n+1)=8*n+8 by omega,List.take_add]
theorem pieces_all{rb:List UInt8}{n:Nat}(h:(n:Int)=piecesP rb):rb.take (8*n)=rb:=List.take_of_length_le (by unfold piecesP at h;omega)
theorem ad5{rb:List UInt8}{n:Nat}(h:(n:Int)<piecesP rb):8*n<rb.length:=by unfold piecesP at h;omega
theorem Inv.result{M:Bk}{G:Wd}(h:Inv M G){i k:Nat}{c:Cl}{l:Ln}(hat:At G i k c l)(h1:l.state=1){p:Pk}(hr:aaj p)(hk:p.line=k){d:Cd}{e:En}{rb:List UInt8}(hd:M ⟨i,c.life,k,l.seq⟩=some d)(hdn:DoneIs G.services ⟨i,c.life,k,l.seq⟩ d e rb)(ho:p.off=piecesP rb)(hb:p.body=pieceP rb p.part):Inv M (resultP G i p):=by
 have hlw:=(h.wf.cl i c hat.cl).line k l hat.ln
 have hlo:=h.ln i c k l hat.cl hat.ln
 obtain⟨z1,z2,z3,z4,z5,z6⟩:=hlw.one h1
 obtain⟨d',w1,w2,w3,w4,w5,w6,w7⟩:=hlo.way h1
 rw[hd]at w1
 cases w1
 unfold resultP
 simp only
 rw[hk,hat.line]
 split
 ·exact h
 ·rename_i hx
  split
  ·rename_i hf
   obtain⟨n,hn⟩:∃n:Nat,l.pieces=(n:Int):=⟨l.pieces.toNat,by omega⟩
   have hcame:l.came=rb.take (8*n):=by
    rcases Nat.eq_zero_or_pos n with h0|h0
    ·subst h0
     have:l.came.length=0:=by omega
     simp[List.length_eq_zero_iff.1 this]
    ·obtain⟨e',rb',g1,g2,g3⟩:=w7 (by omega)
     obtain⟨_,u2⟩:=h.unique hd hdn g1
     rw[g2,u2,hn,Int.toNat_natCast]
   have hnew:l.came++p.body=rb.take (8*(n+1)):=by rw[hcame,hb,hf,hn,take_piece]
   split
   ·rename_i hall
    have hwhole:l.came++p.body=rb:=by rw[hnew,pieces_all (by rw[←ho,←hall,hn];rfl)]
    refine h.setLine hat.cl hat.ln (hlw.over rfl (by simp)) (Int.le_refl _) ⟨?_,hlo.made,by simp,fun _=>⟨d,e,rb,hd,hdn,?_⟩,by simp⟩
    ·have:=hlo.idle
     simp only
     omega
    ·simp only
     rw[hwhole,w4,bytesP_back hdn.bytes]
   ·rename_i hall
    have hlt:((n+1:Nat):Int)<piecesP rb:=by
     have:=hr.2.2.2.2.2.2.2.1
     omega
    have h8:=ad5 hlt
    have hI:=h.setLine (l':={l with came:=l.came++p.body,pieces:=l.pieces+1,acked:=piecesP l.message}) hat.cl hat.ln ⟨hlw.seq,fun _=>⟨z1,z2,z3,by have:=pieces_pos z3.1;simp only;omega,z5,z6⟩⟩ (Int.le_refl _) ⟨hlo.idle,hlo.made,fun _=>⟨d,hd,w2,w3,w4,w5,?_,fun _=>⟨e,rb,hdn,?_,?_⟩⟩,hlo.done,hlo.none⟩
    ·have hat2:=hat.set {l with came:=l.came++p.body,pieces:=l.pieces+1,acked:=piecesP l.message}
     have hI2:=hI.got hat2 h1 hr hk
     refine hI2.rest (c:={c with lines:=c.lines.set k {l with came:=l.came++p.body,pieces:=l.pieces+1,acked:=piecesP l.message}}) (l:={l with came:=l.came++p.body,pieces:=l.pieces+1,acked:=piecesP l.message}) ?_
     unfold gotP
     exact hat2.send _ _
    ·simp only
     rw[hnew,List.length_take,Nat.min_eq_left (by omega)]
     omega
    ·simp only
     rw[hnew,hn]
     congr 1
    ·simp only
     omega
  ·exact h.got hat h1 hr hk
theorem Inv.heard{M:Bk}{G:Wd}(h:Inv M G){p:Pk}(hr:aaj p){to:Int}(hto:to≠-1)(hp:PkOk M G.services to p):Inv M (heardP G to p):=by
 obtain⟨d,hd,hu,hk⟩:=hp
 obtain⟨hcd,i,c,k,l,r1,r2,r3,r4,r5,r6,r7,r8,r9⟩:=h.bk _ d hd
 simp only[pkKey]at r1 r3 r5 r6 r7 r8 r9
 have hat:At G i k c l:=⟨r2,r4⟩
 have hti:to=(i:Int):=by
  rcases hk with ⟨_,q,_⟩|⟨_,q,_⟩|⟨_,q⟩|⟨_,q⟩|⟨_,q,_⟩|⟨_,q⟩|⟨_,q,_⟩
  ·exact absurd q hto
  ·rw[q,r1]
  ·exact absurd q hto
  ·rw[q,r1]
  ·rw[q,r1]
  ·exact absurd q hto
  ·rw[q,r1]
 subst hti
 unfold heardP
 simp only
 rw[r3,hat.line,lifeP_some hat.cl]
 split
 ·exact h
 ·rename_i hx
  obtain⟨h1,h2,h3⟩:l.state=1∧p.life=c.life∧p.seq=l.seq:=by
   refine⟨?_,?_,?_⟩ <;> omega
  have hkey:pkKey p=⟨i,c.life,k,l.seq⟩:=by simp[pkKey,r1,h2,r3,h3]
  rw[hkey]at hd hk
  have hlw:=(h.wf.cl i c hat.cl).line k l hat.ln
  have hlo:=h.ln i c k l hat.cl hat.ln
  obtain⟨z1,z2,z3,z4,z5,z6⟩:=hlw.one h1
  obtain⟨d',w1,w2,w3,w4,w5,w6,w7⟩:=hlo.way h1
  rw[hd]at w1
  cases w1
  split
  ·rename_i hk2
   split
   ·rename_i ha
    have ho:p.off=piecesP d.msg:=by
     rcases hk with ⟨q,_⟩|⟨_,_,q⟩|⟨q,_⟩|⟨q,_⟩|⟨q,_⟩|⟨q,_⟩|⟨q,_⟩
     ·omega
     ·exact q
     all_goals omega
    have hpart:=hr.2.2.2.2.2.2.2.1
    rw[←w3]at ho
    have hI:=h.setLine (l':={l with acked:=l.acked+1}) hat.cl hat.ln ⟨hlw.seq,fun _=>⟨z1,z2,z3,by simp only;omega,z5,z6⟩⟩ (Int.le_refl _) (hlo.same rfl rfl rfl rfl rfl rfl rfl rfl)
    have hat2:=hat.set {l with acked:=l.acked+1}
    split
    ·rename_i hm
     refine(hI.piece hat2 h1 hm false).rest (c:={c with lines:=c.lines.set k {l with acked:=l.acked+1}}) (l:={l with acked:=l.acked+1}) ?_
     unfold sendPieceP
     exact hat2.send _ _
    ·exact hI.rest hat2
   ·exact h
  ·split
   ·exact h.rest hat
   ·split
    ·rename_i hk5
     rcases hk with ⟨q,_⟩|⟨q,_⟩|⟨q,_⟩|⟨q,_⟩|⟨_,_,e,rb,q1,q2,q3⟩|⟨q,_⟩|⟨q,_⟩
     case inr.inr.inr.inr.inl=>exact h.result hat h1 hr r3 hd q1 q2 q3
     all_goals omega
    ·split
     ·have hpart:=hr.2.2.2.2.2.2.2.1
      exact h.setLine hat.cl hat.ln (hlw.over rfl (by simp only;omega)) (Int.le_refl _) (hlo.over h1 rfl (by simp only;omega) rfl)
     ·exact h
theorem seenP_some{G:Wd}{i:Nat}{r:Sn}(h:G.seen[i]?=some r):seenP G i=r:=by simp[seenP,h]
theorem Inv.seen_at{M:Bk}{G:Wd}(h:Inv M G){i:Nat}(hi:i<9):G.seen[i]?=some (seenP G i):=by
 have hl:i<G.seen.length:=by rw[h.ws.sl];exact hi
 rw[seenP_some (List.getElem?_eq_getElem hl)]
 exact List.getElem?_eq_getElem hl
theorem Inv.replied{M:Bk}{G:Wd}(h:Inv M G){p:Pk}(hr:aaj p){d:Cd}(hd:M (pkKey p)=some d)(hu:p.uid=d.uid){kind k of':Int}(hk:1≤kind∧kind≤7)(ho:1≤of'∧of'≤9)(hp:0≤k∧k<of')(hok:(kind=2∧of'=piecesP d.msg)∨kind=4∨(kind=7∧of'=2)):Inv M (replyP G p kind k of'):=by
 obtain⟨r1,r2,r3,r4,r5,r6,r7,r8,r9⟩:=hr
 unfold replyP
 refine h.sendP ⟨hk,r2,r3,r4,r5,r6,ho,by simp only;omega,?_⟩ ⟨d,hd,hu,?_⟩
 ·show bodyOk _
  unfold bodyOk
  rw[if_neg (by simp only;omega)]
  rfl
 ·rcases hok with ⟨rfl,rfl⟩|rfl|⟨rfl,rfl⟩
  ·exact Or.inr (Or.inl ⟨rfl,rfl,rfl⟩)
  ·exact Or.inr (Or.inr (Or.inr (Or.inl ⟨rfl,rfl⟩)))
  ·exact Or.inr (Or.inr (Or.inr (Or.inr (Or.inr (Or.inr ⟨rfl,rfl,rfl⟩)))))
theorem piece_last{s:List UInt8}{k:Int}:8*k+8<(s.length:Int)↔k<piecesP s-1:=by unfold piecesP;omega
theorem Inv.result_right{M:Bk}{G:Wd}(h:Inv M G){i:Nat}(hi:i<9){r:Sn}(hr:G.seen[i]?=some r)(h3:r.state=3) :
  aaj ⟨5,((i / 3:Nat):Int),(G.lives[i / 3]?).getD 0,((i % 3:Nat):Int),r.seq,r.uid,r.at',piecesP r.result,false,pieceP r.result r.at'⟩:=by
 have hs:=h.ws.sn i r hr
 have hne:r.seq≠0:=fun e=>by
  rw[hs.zero e]at h3
  cases h3
 obtain⟨a1,a2,a3⟩:=hs.some hne
 obtain⟨b1,b2,b3,b4⟩:=hs.ans h3
 have hq:=hs.seq
 have hlf:∀x∈G.lives,0≤x∧x≤255:=h.ws.lv
 have hlt:i / 3<G.lives.length:=by rw[h.ws.ll];omega
 have hl1:=hlf _ (List.getElem_mem hlt)
 rw[List.getD_eq_getElem?_getD,List.getElem?_eq_getElem hlt]at a1
 rw[List.getElem?_eq_getElem hlt]
 simp only[Option.getD_some]at a1 ⊢
 have hp1:=pieces_pos b1
 have hp2:=pieces_le b2
 refine⟨by simp,by simp only;omega,by simp only;omega,by simp only;omega,by simp only;omega,a2,by simp only;omega,by simp only;omega,?_⟩
 show bodyOk _
 unfold bodyOk
 rw[if_pos (by simp)]
 exact piece_body b3
theorem Inv.sendResult{M:Bk}{G:Wd}(h:Inv M G){i:Nat}(hi:i<9){r:Sn}(hr:G.seen[i]?=some r)(h3:r.state=3):Inv M (sendResultP G i):=by
 have hrt:=h.result_right hi hr h3
 have hs:=h.ws.sn i r hr
 have hne:r.seq≠0:=fun e=>by
  rw[hs.zero e]at h3
  cases h3
 unfold sendResultP
 simp only
 rw[seenP_some hr]
 refine h.sendP hrt ?_
 obtain⟨d,q⟩:=h.sn i r hr hne
 obtain⟨e,he⟩:=q.ans h3
 have hm:=q.made
 rw[List.getD_eq_getElem?_getD]at hm he
 exact⟨d,hm,q.uid,Or.inr (Or.inr (Or.inr (Or.inr (Or.inl ⟨rfl,rfl,e,r.result,he,rfl,rfl⟩))))⟩
theorem SeenOk.same{M:Bk}{sv:List Sv}{k:Key}{r r':Sn}{d:Cd}(h:SeenOk M sv k r d)(e1:r'.uid=r.uid)(e2:r'.state=r.state)(e3:r'.message=r.message)(e4:r'.pieces=r.pieces)(e5:r'.result=r.result):SeenOk M sv k r' d:=
 ⟨h.made,by rw[e1];exact h.uid,by rw[e2,e3,e4];exact h.gath,by rw[e2,e3];exact h.wait,by rw[e2];exact h.open',by rw[e2,e5];exact h.ans⟩
theorem Inv.tell{M:Bk}{G:Wd}(h:Inv M G){i:Nat}(hi:i<9){r:Sn}(hr:G.seen[i]?=some r)(h3:r.state=3):Inv M (tellP G i):=by
 have h1:=h.sendResult hi hr h3
 have hs:=h.ws.sn i r hr
 have hr1:(sendResultP G i).seen[i]?=some r:=by unfold sendResultP;rw[sendP_seen];exact hr
 have hc1:(sendResultP G i).c=G.c:=by unfold sendResultP;rw[sendP_c']
 have hl1:(sendResultP G i).lives=G.lives:=by unfold sendResultP;rw[sendP_lives]
 unfold tellP
 simp only
 rw[seenP_some hr1]
 have hcf:=h.wf.cf
 unfold okCf at hcf
 refine h1.setSeen hr1 (Int.le_refl _) ?_ (fun hne=>?_)
 ·rw[hl1]
  refine⟨fun e=>?_,hs.seq,hs.some,hs.gath,hs.wait,hs.ans,fun _=>⟨h3,by simp only;omega,by simp only;omega⟩⟩
  have:=hs.zero e
  rw[this]at h3
  cases h3
 ·obtain⟨d,q⟩:=h1.sn i r hr1 hne
  exact⟨d,q.same rfl rfl rfl rfl rfl⟩
theorem Inv.tickSeen{M:Bk}{G:Wd}(h:Inv M G){i:Nat}(hi:i<9):Inv M (tickSeen G i):=by
 have hr:=h.seen_at hi
 unfold R.tickSeen
 simp only
 generalize seenP G i=r at hr ⊢
 have hs:=h.ws.sn i r hr
 have hcf:=h.wf.cf
 unfold okCf at hcf
 split
 ·exact h
 ·rename_i ht
  have ht:r.timed=true:=by simpa using ht
  obtain⟨t1,t3,t4⟩:=hs.timed ht
  have hne:r.seq≠0:=fun e=>by
   rw[hs.zero e]at t1
   cases t1
  have z:∀{r':Sn},r'.seq=r.seq→(r'.seq=0→r'=sn0):=fun e q=>absurd (e ▸ q) hne
  obtain⟨d,q⟩:=h.sn i r hr hne
  split
  ·rename_i h1
   exact h.setSeen hr (Int.le_refl _) ⟨z rfl,hs.seq,hs.some,hs.gath,hs.wait,hs.ans,fun _=>⟨t1,by simp only;omega,t4⟩⟩ (fun _=>⟨d,q.same rfl rfl rfl rfl rfl⟩)
  ·split
   ·exact h.setSeen hr (Int.le_refl _) ⟨z rfl,hs.seq,hs.some,hs.gath,hs.wait,hs.ans,by simp⟩ (fun _=>⟨d,q.same rfl rfl rfl rfl rfl⟩)
   ·rename_i h1 h2
    have h3:=h.setSeen (r':={r with wait:=G.c.retry,tries:=r.tries-1}) hr (Int.le_refl _) ⟨z rfl,hs.seq,hs.some,hs.gath,hs.wait,hs.ans,fun _=>⟨t1,by simp only;omega,by simp only;omega⟩⟩ (fun _=>⟨d,q.same rfl rfl rfl rfl rfl⟩)
    exact h3.sendResult hi (r:={r with wait:=G.c.retry,tries:=r.tries-1}) (by simp[R.setSeen,(List.getElem?_eq_some_iff.1 hr).1]) t1
theorem aes(G:Wd)(i k:Int):(tickLine G i k).c=G.c∧(tickLine G i k).clients.length=G.clients.length:=by
 unfold tickLine sendPieceP probeP
 simp only
 repeat' split
 all_goals first|exact⟨rfl,rfl⟩|(rw[sendP_c',acu];simp[setLine];done)|(simp[setLine];done)
theorem Inv.tick{M:Bk}{G:Wd}(h:Inv M G):Inv M (tickP G):=by
 have hlines:∀(i:Nat) (G:Wd),Inv M G→i<G.clients.length→∀n:Nat,(n:Int)≤G.c.lines→Inv M ((List.range n).foldl (fun w (k:Nat)=>R.tickLine w (i:Int) (k:Int)) G)∧((List.range n).foldl (fun w (k:Nat)=>R.tickLine w (i:Int) (k:Int)) G).c=G.c∧((List.range n).foldl (fun w (k:Nat)=>R.tickLine w (i:Int) (k:Int)) G).clients.length=G.clients.length:=by
  intro i G h hi n
  induction n with
  |zero=>exact fun _=>⟨h,rfl,rfl⟩
  |succ n ih=>
   intro hn
   obtain⟨q1,q2,q3⟩:=ih (by omega)
   rw[List.range_succ,List.foldl_append]
   simp only[List.foldl_cons,List.foldl_nil]
   generalize (List.range n).foldl (fun w (k:Nat)=>R.tickLine w (i:Int) (k:Int)) G=K at q1 q2 q3 ⊢
   have hi':i<K.clients.length:=by omega
   have hc:=List.getElem?_eq_getElem hi'
   have hl:=(q1.wf.cl i _ hc).lines
   have hn':n<K.clients[i].lines.length:=by rw[q2]at hl;omega
   obtain⟨s1,s2⟩:=aes K i n
   exact⟨q1.tickLine ⟨hc,List.getElem?_eq_getElem hn'⟩,s1.trans q2,s2.trans q3⟩
 have hcl:∀n,n≤G.clients.length→Inv M ((List.range n).foldl (fun w (i:Nat)=>(List.range w.c.lines.toNat).foldl (fun w (k:Nat)=>R.tickLine w (i:Int) (k:Int)) w) G)∧((List.range n).foldl (fun w (i:Nat)=>(List.range w.c.lines.toNat).foldl (fun w (k:Nat)=>R.tickLine w (i:Int) (k:Int)) w) G).clients.length=G.clients.length:=by
  intro n
  induction n with
  |zero=>exact fun _=>⟨h,rfl⟩
  |succ n ih=>
   intro hn
   obtain⟨q1,q2⟩:=ih (by omega)
   rw[List.range_succ,List.foldl_append]
   simp only[List.foldl_cons,List.foldl_nil]
   generalize (List.range n).foldl (fun w (i:Nat)=>(List.range w.c.lines.toNat).foldl (fun w (k:Nat)=>R.tickLine w (i:Int) (k:Int)) w) G=K at q1 q2 ⊢
   have hcf:=q1.wf.cf
   unfold okCf at hcf
   obtain⟨s1,s2,s3⟩:=hlines n K q1 (by omega) K.c.lines.toNat (by omega)
   exact⟨s1,s3.trans q2⟩
 have hL:Inv M (tickLines G):=(hcl _ (Nat.le_refl _)).1
 have hS:∀n,n≤9→Inv M ((List.range n).foldl R.tickSeen (tickLines G)):=by
  intro n
  induction n with
  |zero=>exact fun _=>hL
  |succ n ih=>
   intro hn
   rw[List.range_succ,List.foldl_append]
   exact(ih (by omega)).tickSeen (by omega)
 exact hS 9 (Nat.le_refl _)
theorem Inv.lives{M:Bk}{G:Wd}(h:Inv M G){p:Pk}(hr:aaj p){d:Cd}(hd:M (pkKey p)=some d):Inv M (livesP G p):=by
 unfold livesP
 split
 ·rename_i hlt
  obtain⟨_,i,c,k,l,r1,r2,r3,r4,r5,r6,r7,r8,r9⟩:=h.bk _ d hd
  simp only[pkKey]at r1 r5 r6
  obtain⟨_,p2,p3,_⟩:=hr
  have hi3:i<3:=by omega
  rw[r1,Int.toNat_natCast]at hlt ⊢
  have hll:=h.ws.ll
  have hsl:=h.ws.sl
  have hg:∀j,(G.lives.set i p.life).getD j 0=if j=i then p.life else G.lives.getD j 0:=fun j=>by
   simp only[List.getD_eq_getElem?_getD,List.getElem?_set]
   by_cases e:i=j
   ·subst e
    simp[hll,hi3]
   ·have e2:¬j=i:=fun q=>e q.symm
    simp[e,e2]
  have hset:∀(l:List Sn) (m j:Nat) (r:Sn),(l.set m sn0)[j]?=some r→(m=j∧r=sn0)∨(m≠j∧l[j]?=some r):=fun l m j r hj=>by
   rw[List.getElem?_set]at hj
   by_cases e:m=j
   ·rw[if_pos e]at hj
    split at hj
    ·exact Or.inl ⟨e,(Option.some.inj hj).symm⟩
    ·cases hj
   ·rw[if_neg e]at hj
    exact Or.inr ⟨e,hj⟩
  have hsn:∀(j:Nat) (r:Sn),(((G.seen.set (3*i) sn0).set (3*i+1) sn0).set (3*i+2) sn0)[j]?=some r→(j / 3=i∧r=sn0)∨(j / 3≠i∧G.seen[j]?=some r):=fun j r hj=>by
   rcases hset _ _ j r hj with ⟨e,q⟩|⟨e2,hj⟩
   ·exact Or.inl ⟨by omega,q⟩
   ·rcases hset _ _ j r hj with ⟨e,q⟩|⟨e1,hj⟩
    ·exact Or.inl ⟨by omega,q⟩
    ·rcases hset _ _ j r hj with ⟨e,q⟩|⟨e0,hj⟩
     ·exact Or.inl ⟨by omega,q⟩
     ·exact Or.inr ⟨by omega,hj⟩
  refine⟨⟨h.wf.cf,h.wf.ncl,fun j c hc=>⟨(h.wf.cl j c hc).lines,(h.wf.cl j c hc).life,(h.wf.cl j c hc).bound,(h.wf.cl j c hc).line⟩,h.wf.fly,h.wf.flys,h.wf.sv,h.wf.svk,h.wf.nm,h.wf.st,h.wf.nd,h.wf.sts⟩,⟨by simpa using hll,fun x hx=>?_,by simpa using hsl,fun j r hj=>?_,h.ws.jl,h.ws.jb⟩,h.bk,h.ln,h.fl,fun j r hj hne=>?_,h.lg,fun u s e hs ha he=>?_,h.jb,fun j c' hj=>?_⟩
  ·rcases List.mem_or_eq_of_mem_set hx with q|q
   ·exact h.ws.lv x q
   ·rw[q]
    omega
  ·rcases hsn j r hj with ⟨_,rfl⟩|⟨q1,q2⟩
   ·exact anQ _
   ·rw[hg,if_neg q1]
    exact h.ws.sn j r q2
  ·rcases hsn j r hj with ⟨_,rfl⟩|⟨q1,q2⟩
   ·exact absurd rfl hne
   ·rw[hg,if_neg q1]
    exact h.sn j r q2 hne
  ·have hen:=(h.lg u s hs).each e he
   obtain⟨de,_,hde,_⟩:=hen.some
   obtain⟨_,a,ca,n,x,s1,s2,s3,s4,_⟩:=h.bk _ de hde
   simp only[enKey]at s1 s3
   have hw:=h.wf.cl a ca s2
   have hn3:=(List.getElem?_eq_some_iff.1 s4).1
   have hcf:=h.wf.cf
   unfold okCf at hcf
   have hnl:=hw.lines
   unfold FutOk
   rw[s1,Int.toNat_natCast]
   simp only
   rw[hg]
   have hf:=h.fut u s e hs ha he
   unfold FutOk at hf
   rw[s1,Int.toNat_natCast]at hf
   by_cases hai:a=i
   ·subst hai
    rw[if_pos rfl]
    rcases hf with q|⟨q,_⟩
    ·exact Or.inl (by omega)
    ·exact Or.inl (by omega)
   ·rw[if_neg hai]
    rcases hf with q|⟨q1,q2⟩
    ·exact Or.inl q
    ·refine Or.inr ⟨q1,?_⟩
     unfold aj5 at q2 ⊢
     have e3:(3*(a:Int).toNat+e.line.toNat) / 3=a:=by rw[s3];omega
     simp only[List.getElem?_set]
     rw[if_neg (by omega),if_neg (by omega),if_neg (by omega)]
     exact q2
  ·rw[hg]
   split
   ·rename_i e
    subst e
    rw[r2]at hj
    cases hj
    exact r6
   ·exact h.lv j c' hj
 ·exact h
end Go.Proofs.YtblomippkddgiaaGreatDoor.R
