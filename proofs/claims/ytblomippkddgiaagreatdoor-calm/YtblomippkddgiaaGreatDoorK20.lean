import Derived.Test.YtblomippkddgiaaGreatDoorK19
namespace Go.Proofs.YtblomippkddgiaaGreatDoor.R
def I7(G:Wd)(A:List Li)(ph:Li->Ph):Int:=(A.map fun y=>Jg (AQ G y) (AZ G y) (ph y)).sum
def Fu(A:List Li)(ph:Li->Ph):Int:=(A.map fun y=>(ph y).late).sum
theorem TG{A:List Li}{f g:Li->Int}{x:Li}(hn:A.Nodup)(hx:x∈A)(h:∀y∈A,y≠x->g y=f y):(A.map g).sum=(A.map f).sum-f x+g x:=by
 induction A with
 |nil=>cases hx
 |cons a A ih=>
  rw[List.nodup_cons]at hn;simp only[List.map_cons,List.sum_cons];by_cases e:a=x
  ·subst e;have:A.map g=A.map f:=List.map_congr_left (fun y hy=>h y (List.mem_cons_of_mem _ hy) (fun q=>hn.1 (q ▸ hy)));rw[this];omega
  ·have hx':x∈A:=by
    rcases List.mem_cons.1 hx with q|q
    ·exact absurd q.symm e
    ·exact q
   rw[ih hn.2 hx' (fun y hy=>h y (List.mem_cons_of_mem _ hy)),h a (List.mem_cons_self ..) e];omega
structure Sp(M:Bk)(A:List Li)(ph:Li->Ph)(G G':Wd)(d e:Int):Prop where
 ex:∃fl jl ph',Cm M A fl jl ph' G'/\I7 G' A ph'=I7 G A ph+d/\Fu A ph'=Fu A ph+e/\(∀y,ph' y=.idle↔ph y=.idle)/\∀u,AO G' u=AO G u
theorem abS{M:Bk}{A fl jl:List Li}{ph:Li->Ph}{G K G':Wd}{x:Li}(h:Cm M A fl jl ph G)(hx:x∈A){l':Ln}{r':Sn}{f:List Fl}{j:List Jb}(hev:Ev K G' x.1 x.2 l' r' f j)(hKl:∀i' k':Nat,A7 K i' k'=A7 G i' k')(hKs:∀j,Ap K j=Ap G j):∀y∈A,AQ G' y=(if y=x then l' else AQ G y)/\AZ G' y=if y=x then r' else AZ G y:=fun y hy=>by
 constructor
 ·unfold AQ;rw[hev.line y.1 y.2,hKl];by_cases e:y=x
  ·subst e;simp
  ·rw[if_neg e,if_neg (fun q=>e (Prod.ext q.1 q.2))]
 ·have hs:=h.small hy;have hs':=h.small hx;unfold AZ;rw[hev.seen _ (by omega),hKs];by_cases e:y=x
  ·subst e;simp
  ·rw[if_neg e,if_neg (fun q=>e (Prod.ext (by omega) (by omega)))]
theorem Cm.sums{M:Bk}{A fl jl:List Li}{ph:Li->Ph}{G K G':Wd}{x:Li}(h:Cm M A fl jl ph G)(hx:x∈A){l':Ln}{r':Sn}{f:List Fl}{j:List Jb}(hev:Ev K G' x.1 x.2 l' r' f j)(hKl:∀i' k':Nat,A7 K i' k'=A7 G i' k')(hKs:∀j,Ap K j=Ap G j){p:Ph}{d e:Int}(hd:Jg l' r' p=Jg (AQ G x) (AZ G x) (ph x)+d)(he:p.late=(ph x).late+e):I7 G' A (Es ph x p)=I7 G A ph+d/\Fu A (Es ph x p)=Fu A ph+e:=by
 have hat:=abS h hx hev hKl hKs;constructor
 ·unfold I7;rw[TG (f:=fun y=>Jg (AQ G y) (AZ G y) (ph y)) (x:=x) h.nd hx (fun y hy hne=>by
   rw[(hat y hy).1,(hat y hy).2,Es,if_neg hne,if_neg hne,if_neg hne])]
  rw[(hat x hx).1,(hat x hx).2,Es,if_pos rfl,if_pos rfl,if_pos rfl,hd];omega
 ·unfold Fu;rw[TG (f:=fun y=>(ph y).late) (x:=x) h.nd hx (fun y _ hne=>by
   rw[Es,if_neg hne])]
  rw[Es,if_pos rfl,he];omega
theorem Cm.acT{M:Bk}{A fl jl:List Li}{ph:Li->Ph}{G:Wd}(h:Cm M A fl jl ph G){x:Li}(hx:x∈A)(h0:(AZ G x).seq=0):A5 G<A.length:=by
 have hsl:=h.inv.ws.sl;have hG:G.seen=(List.range 9).map (Ap G):=by
  refine List.ext_getElem? (fun j=>?_);rw[List.getElem?_map];by_cases hj:j<9
  ·rw[List.getElem?_range hj,Option.map_some];exact h.inv.Dl hj
  ·rw[List.getElem?_eq_none (by omega),List.getElem?_eq_none (by simpa using hj)];rfl
 have e:A5 G=((List.range 9).filter fun j=>decide (0<(Ap G j).seq)).length:=by
  unfold A5;rw[hG,List.filter_map,List.length_map];congr 1
 rw[e];have hb:(A.filter fun y=>decide (y≠x)).length<A.length:=by
  refine List.length_filter_lt_length_iff_exists.2 ⟨x,hx,by simp⟩
 refine Nat.lt_of_le_of_lt ?_ hb;rw[<-List.length_map (f:=fun y:Li=>3*y.1+y.2)];refine FW (List.nodup_range.filter _) (fun j hj=>?_);rw[List.mem_filter]at hj;have hj1:=List.mem_range.1 hj.1;have hj2:0<(Ap G j).seq:=by simpa using hj.2
 obtain⟨y,hy,rfl⟩:=h.rem j hj1 (by omega);refine List.mem_map.2 ⟨y,List.mem_filter.2 ⟨hy,?_⟩,rfl⟩;simp only[ne_eq,decide_eq_true_eq];intro q;subst q;unfold AZ at h0;omega
theorem Cm.Uz{M:Bk}{A fl jl:List Li}{ph:Li->Ph}{G:Wd}(h:Cm M A fl jl ph G){x:Li}(hx:x∈A)(hp:ph x≠.Tp):(G.jobs.length:Int)<G.c.table:=by
 have hb:(A.filter fun y=>decide (y≠x)).length<A.length:=by
  refine List.length_filter_lt_length_iff_exists.2 ⟨x,hx,by simp⟩
 have:jl.length<=(A.filter fun y=>decide (y≠x)).length:=FW h.jnd (fun y hy=>by
  obtain⟨h1,h2⟩:=(h.jin y).1 hy;refine List.mem_filter.2 ⟨h1,?_⟩;simp only[ne_eq,decide_eq_true_eq];intro q;subst q;exact hp h2)
 have ht:=h.tb;rw[h.jbs,List.length_map];omega
theorem Cm.live{M:Bk}{A fl jl:List Li}{ph:Li->Ph}{G:Wd}(h:Cm M A fl jl ph G){x:Li}(hx:x∈A)(h0:(AZ G x).seq≠0):G.Ai.getD x.1 0=1:=by
 have hs:=h.small hx;obtain⟨c,hat,hl⟩:=h.VP hx;have h1:=h.inv.lv x.1 c hat.cl;have h2:=h.inv.ws.sn _ _ (h.inv.Dl (i:=3*x.1+x.2) (by omega));rw[(at3 (i:=x.1) hs.2).1]at h2;have:=(h2.some h0).1;omega
theorem Cm.acj{M:Bk}{G:Wd}(hI:Inv M G){x:Li}(hs:x.1<3/\x.2<3)(hlv:G.Ai.getD x.1 0=1)(h3:(AZ G x).state=3):AJ (Ow x.1 x.2 (AZ G x)):=by
 have h1:=hI.ER (i:=3*x.1+x.2) (by omega) (hI.Dl (by omega)) h3;obtain⟨d1,d2⟩:=at3 (i:=x.1) hs.2;rw[d1,d2]at h1;have:(G.Ai[x.1]?).getD 0=1:=by rw[<-hlv,List.getD_eq_getElem?_getD]
 rw[this]at h1;exact h1
theorem Nn{ph:Li->Ph}{x:Li}{p:Ph}(h1:p≠.idle)(h2:ph x≠.idle)(y:Li):Es ph x p y=.idle↔ph y=.idle:=by
 unfold Es;split
 ·rename_i e;subst e;exact⟨fun q=>absurd q h1,fun q=>absurd q h2⟩
 ·exact Iff.rfl
theorem Rb{G:Wd}{f:Fl}{fl:List Fl}(h:G.Ao=f :: fl):(Au G 0).1=0:=by
 unfold Au;rw[if_neg (by unfold off;rw[h];simp)];simp[h]
theorem Cm.head{M:Bk}{A fl jl:List Li}{ph:Li->Ph}{G:Wd}{x:Li}(h:Cm M A (x :: fl) jl ph G):x∈A/\(ph x).IC=true/\¬x∈fl/\fl.Nodup/\(∀y,y≠x->(y∈fl↔y∈x :: fl)):=by
 have h1:=(h.fin x).1 (List.mem_cons_self ..);have h2:=List.nodup_cons.1 h.fnd;refine⟨h1.1,h1.2,h2.1,h2.2,fun y hy=>?_⟩;rw[List.mem_cons];exact⟨Or.inr,fun q=>q.elim (fun e=>absurd e hy) id⟩
theorem Cm.Z9{M:Bk}{A fl jl:List Li}{ph:Li->Ph}{G:Wd}{x:Li}(h:Cm M A fl jl ph G)(hp:ph x≠.Tp):¬x∈jl:=fun q=>hp ((h.jin x).1 q).2
def cut(G:Wd)(fl:List Li)(ph:Li->Ph):Wd:={G with Ao:=fl.map fun x=>tok x.1 x.2 (AQ G x) (AZ G x) (ph x)}
theorem Cm.Te{M:Bk}{A fl jl:List Li}{ph:Li->Ph}{G:Wd}{x:Li}(h:Cm M A (x :: fl) jl ph G){to:Int}{q:Pk}(hq:Mc x.1 x.2 (AQ G x) (AZ G x) (ph x)=(to,q)):(Au G 0).2=(if to=-1 then C3 (cut G fl ph) q else CF (cut G fl ph) to q)/\Inv M (cut G fl ph):=by
 have hf:G.Ao=Fs to q :: (fl.map fun x=>tok x.1 x.2 (AQ G x) (AZ G x) (ph x)):=by
  rw[h.Ih,List.map_cons];congr 1;unfold tok;rw[hq]
 have hr:=h.right x (List.mem_cons_self ..);rw[hq]at hr;refine⟨Q9 hf hr,?_⟩;have:=h.inv.erase 0;rw[hf]at this;exact this
theorem Cm.WL{M:Bk}{A fl jl:List Li}{ph:Li->Ph}{G G':Wd}(h:Cm M A fl jl ph G)(hS:Sm G G'):∀(i:Nat) (c:Cl),G'.Ad[i]?=some c->c.Ag=1:=fun i c hc=>by
 obtain⟨c0,q1,q2,_⟩:=hS.cl.each i c hc;rw[q2];exact h.Ag i c0 q1
theorem Cm.step{M:Bk}{A fl jl:List Li}{ph:Li->Ph}{G:Wd}{x:Li}(h:Cm M A (x :: fl) jl ph G){G':Wd}(hG:G'=(Au G 0).2){l':Ln}{r':Sn}{f:List Fl}{j:List Jb}(hev:Ev (cut G fl ph) G' x.1 x.2 l' r' f j){p:Ph}(hpc:Pc l' r' p)(hu:l'.uid=(AQ G x).uid)(hsq:l'.seq=(AQ G x).seq)(hms:l'.message=(AQ G x).message)(hf:f=if p.IC=true then [tok x.1 x.2 l' r' p] else [])(hr:p.IC=true->AJ (Mc x.1 x.2 l' r' p).2)(hj:j=if p=.Tp then [⟨x.1,x.2,1,l'.seq,l'.uid⟩] else [])(hd:Jg l' r' p=Jg (AQ G x) (AZ G x) (ph x)+1)(he:p.late=(ph x).late)(hnj:ph x≠.Tp)(hpi:p≠.idle)(hxi:ph x≠.idle):Sp M A ph G G' 1 0:=by
 obtain⟨hx,hfl,hxf,hfn,hfi⟩:=h.head;have hI':Inv M G':=hG ▸ h.inv.CR 0;have hS':Sm G G':=hG ▸ Sm.CR G 0;have hT:=h.turn hx hI' hS'.c hS'.cl.len (h.WL hS') hev (fun _ _=>rfl) (fun _=>rfl) (fun _=>rfl) hpc (fun _=>by rw[hu];exact h.al x hx hxi) (fun _ _ _=>rfl) (fun _=>by rw[hsq,hms];exact h.msg x hx hxi) hxf hfn hfi rfl hf hr (h.Z9 hnj) h.jnd (fun _ _=>Iff.rfl) h.jbs hj;have hs:=h.sums hx hev (fun _ _=>rfl) (fun _=>rfl) (p:=p) (d:=1) (e:=0) hd (by omega);exact⟨_,_,_,hT,hs.1,hs.2,Nn hpi hxi,hev.alive⟩
theorem Z5{G:Wd}(h:Wf G){i k:Nat}(hi:i<G.Ad.length)(hk:(k:Int)<G.c.lines):∃c,At G i k c (A7 G i k):=by
 have hg:=List.getElem?_eq_getElem hi;have hl:=(h.cl _ _ hg).lines;have hk':k<(G.Ad[i]).lines.length:=by omega
 refine⟨G.Ad[i],hg,?_⟩;rw[Cu hg (List.getElem?_eq_getElem hk')];exact List.getElem?_eq_getElem hk'
theorem Cm.CR{M:Bk}{A fl jl:List Li}{ph:Li->Ph}{G:Wd}{x:Li}(h:Cm M A (x :: fl) jl ph G):Sp M A ph G (Au G 0).2 1 0:=by
 obtain⟨hx,hfl,hxf,hfn,hfi⟩:=h.head;have hs:=h.small hx;obtain⟨c,hat,hlf⟩:=h.VP hx;have hpc:=h.pc x hx;have hfew:=h.few;have hf40:(cut G fl ph).Ao.length<40:=by
  unfold cut;simp only[List.length_map];have:=hfew.2.1;simp only[List.length_cons]at this;omega
 have hlnok:=(h.inv.wf.cl _ _ hat.cl).line _ _ hat.ln;have hrng:=h.rng x hx;have hIn:=h.inv.CR 0;have hSm:=Sm.CR G 0;have hsnok:=h.inv.ws.sn _ _ (h.inv.Dl (i:=3*x.1+x.2) (by omega));have hright:=h.right x (List.mem_cons_self ..);cases hph:ph x with
 |idle=>rw[hph]at hfl;cases hfl
 |Tp=>rw[hph]at hfl;cases hfl
 |done=>rw[hph]at hfl;cases hfl
 |call=>
  rw[hph]at hpc hright;obtain⟨p1,p2,p3,p4⟩:=hpc;obtain⟨e1,hIc⟩:=h.Te (x:=x) (to:=-1) (q:=Kh x.1 x.2 (AQ G x)) (by rw[hph];rfl);rw[if_pos rfl]at e1;have hseq:=(hlnok.one p1).1;obtain⟨r',a1,a2,a3⟩:=Y0 (G:=cut G fl ph) hIc (i:=x.1) (k:=x.2) (c:=c) (l:=AQ G x) ⟨hat.cl,hat.ln⟩ hlf (h.al x hx (by rw[hph];simp)) hf40 p3 hs.1 hs.2 p4 (h.Uz hx (by rw[hph];simp)) (fun q=>by have:=h.acT hx q;have:=h.tb;show ((A5 G:Nat):Int)<G.c.table;omega);rw[<-e1]at a3;rcases a3 with ⟨b1,b2,b3⟩|⟨b1,b2,b3⟩
  ·refine h.step rfl b3 (p:=.Nv) ⟨p1,p2,⟨p3.1,b1⟩,a1,b2,a2⟩ rfl rfl rfl rfl (fun _=>?_) rfl (by rw[hph];rfl) (by rw[hph];rfl) (by rw[hph];simp) (by simp) (by rw[hph];simp);obtain⟨r1,r2,r3,r4,r5,r6,r7,r8,r9⟩:=hright;exact⟨by simp[Mc,akL],r2,r3,r4,r5,r6,r7,r8,by simp[Mc,akL,C5]⟩
  ·refine h.step rfl b3 (p:=.Tp) ⟨p1,p2,b1,a1,b2⟩ rfl rfl rfl rfl (fun q=>by cases q) rfl (by rw[hph];simp only[Jg];omega) (by rw[hph];rfl) (by rw[hph];simp) (by simp) (by rw[hph];simp)
 |Nv=>
  rw[hph]at hpc hright;obtain⟨p1,p2,p3,p4,p5,p6⟩:=hpc;obtain⟨e1,hIc⟩:=h.Te (x:=x) (to:=x.1) (q:=akL x.1 x.2 (AQ G x)) (by rw[hph];rfl);rw[if_neg (by omega)]at e1;have hseq:=(hlnok.one p1).1;have hev:=aaD (G:=cut G fl ph) (i:=x.1) (k:=x.2) (c:=c) (l:=AQ G x) ⟨hat.cl,hat.ln⟩ p1 hlf hf40 (p:=akL x.1 x.2 (AQ G x)) rfl rfl rfl rfl rfl (by omega);rw[<-e1]at hev;refine h.step rfl hev (p:=.call) ⟨p1,p2,⟨by show 0<=(AQ G x).Ah+1;omega,by show (AQ G x).Ah+1<Ae (AQ G x).message;omega⟩,Or.inr ⟨by show 0<(AQ G x).Ah+1;omega,p4,p5,p6⟩⟩ rfl rfl rfl rfl (fun _=>?_) rfl (by rw[hph];simp only[Jg];omega) (by rw[hph];rfl) (by rw[hph];simp) (by simp) (by rw[hph];simp);obtain⟨c',hat'⟩:=Z5 hIn.wf (i:=x.1) (k:=x.2) (by rw[hSm.cl.len];exact hrng.1) (by rw[hSm.c];exact hrng.2);rw[hev.line,if_pos ⟨rfl,rfl⟩]at hat';have hr:=Gm hIn.wf hat'.cl hat'.ln p1 (by simp only;omega) false;have hl1:Kd (Au G 0).2 x.1=1:=by
   rw[Bt hat'.cl];obtain⟨c0,q1,q2,_⟩:=hSm.cl.each _ _ hat'.cl;rw[q2];exact h.Ag _ _ q1
  unfold Cb at hr;rw[hl1]at hr;exact hr
 |res=>
  rw[hph]at hpc hright;obtain⟨p1,p2,p3,p4,p5⟩:=hpc;obtain⟨e1,hIc⟩:=h.Te (x:=x) (to:=x.1) (q:=Ow x.1 x.2 (AZ G x)) (by rw[hph];rfl);rw[if_neg (by omega)]at e1;have hseq:=(hlnok.one p1).1;have hans:=hsnok.ans p5;by_cases hlast:(AQ G x).pieces+1=Ae (AZ G x).result
  ·obtain⟨l',hev,q1,q2,q3,q4⟩:=Y1 (G:=cut G fl ph) (i:=x.1) (k:=x.2) (c:=c) (l:=AQ G x) ⟨hat.cl,hat.ln⟩ p1 hlf (p:=Ow x.1 x.2 (AZ G x)) rfl rfl rfl p4 p2.symm p3 hlast;rw[<-e1]at hev;refine h.step rfl hev (p:=.done) ⟨q1,p4.trans q2.symm,p5⟩ q4 q2 q3 rfl (fun q=>by cases q) rfl ?_ (by rw[hph];rfl) (by rw[hph];simp) (by simp) (by rw[hph];simp);rw[hph];show 2*Ae l'.message+2*Ae (AZ G x).result-2=2*Ae (AQ G x).message-1+2*(AZ G x).at'+1;rw[q3];omega
  ·obtain⟨l',hev,q1,q2,q3,q4,q5,q6⟩:=Y2 (G:=cut G fl ph) (i:=x.1) (k:=x.2) (c:=c) (l:=AQ G x) ⟨hat.cl,hat.ln⟩ p1 hlf hf40 (p:=Ow x.1 x.2 (AZ G x)) rfl rfl rfl p4 p2.symm p3 hlast;rw[<-e1]at hev;have hlt:(AZ G x).at'<Ae (AZ G x).result-1:=by
    have h4:(AZ G x).at'<Ae (AZ G x).result:=hans.2.2.2;omega
   refine h.step rfl hev (p:=.got) ⟨q1,by rw[q6,p2];rfl,by rw[q4,q5];omega,by rw[q2];exact p4,p5,hlt⟩ q3 q2 q4 ?_ (fun _=>?_) rfl ?_ (by rw[hph];rfl) (by rw[hph];simp) (by simp) (by rw[hph];simp)
   ·show _=[tok x.1 x.2 l' (Ap (cut G fl ph) (3*x.1+x.2)) .got];unfold tok Mc goL;simp only[q2,q3];rfl
   ·obtain⟨r1,r2,r3,r4,r5,r6,r7,r8,r9⟩:=hright;have hu:=(hlnok.one p1).2.1;refine⟨by simp[Mc,goL],r2,r3,r4,?_,?_,r7,r8,by simp[Mc,goL,C5]⟩
    ·show 1<=l'.seq/\l'.seq<=999;rw[q2];have:=hlnok.seq;omega
    ·show 1<=l'.uid/\l'.uid<=255;rw[q3];exact hu
   ·rw[hph];show 2*Ae l'.message+2*(AZ G x).at'=2*Ae (AQ G x).message-1+2*(AZ G x).at'+1;rw[q4];omega
 |got=>
  rw[hph]at hpc hright;obtain⟨p1,p2,p3,p4,p5,p6⟩:=hpc;obtain⟨e1,hIc⟩:=h.Te (x:=x) (to:=-1) (q:=goL x.1 x.2 (AQ G x) (AZ G x)) (by rw[hph];rfl);rw[if_pos rfl]at e1;have hseq:=(hlnok.one p1).1;have hne:(AZ G x).seq≠0:=by omega
  have hsl:=h.inv.ws.sl;obtain⟨r',hev,q1,q2,q3,q4⟩:=aaE (G:=cut G fl ph) (i:=x.1) (k:=x.2) (r:=AZ G x) rfl (by show _<G.seen.length;omega) hs.2 (h.live hx hne) hf40 (p:=goL x.1 x.2 (AQ G x) (AZ G x)) rfl rfl rfl rfl p4.symm p5 rfl rfl p6;rw[<-e1]at hev;refine h.step rfl hev (p:=.res) ⟨p1,by rw[q4];exact p2,p3,by rw[q1];exact p4,q2⟩ rfl rfl rfl rfl (fun _=>?_) rfl ?_ (by rw[hph];rfl) (by rw[hph];simp) (by simp) (by rw[hph];simp)
  ·have hsn:AZ (Au G 0).2 x=r':=by
    unfold AZ;rw[hev.seen _ (by omega),if_pos rfl]
   have hlv:(Au G 0).2.Ai.getD x.1 0=1:=by
    have h2:=hIn.ws.sn _ _ (hIn.Dl (i:=3*x.1+x.2) (by omega));rw[(at3 (i:=x.1) hs.2).1]at h2;have h3:=(h2.some (by show (AZ (Au G 0).2 x).seq≠0;rw[hsn,q1];exact hne)).1;have hlen:x.1<(Au G 0).2.Ad.length:=by rw[hSm.cl.len];exact hrng.1
    have h4:=hIn.lv x.1 _ (List.getElem?_eq_getElem hlen);obtain⟨c0,g1,g2,_⟩:=hSm.cl.each _ _ (List.getElem?_eq_getElem hlen);rw[g2,h.Ag _ _ g1]at h4;omega
   have:=Cm.acj hIn (x:=x) hs hlv (by rw[hsn];exact q2);rw[hsn]at this;exact this
  ·rw[hph];show 2*Ae (AQ G x).message-1+2*r'.at'=2*Ae (AQ G x).message+2*(AZ G x).at'+1;rw[q4];omega
theorem Cm.serve{M:Bk}{A fl jl:List Li}{ph:Li->Ph}{G:Wd}{x:Li}(h:Cm M A fl (x :: jl) ph G):(AP G).1=0/\Sp M A ph G (AP G).2 0 1:=by
 have h1:=(h.jin x).1 (List.mem_cons_self ..);have hx:=h1.1;have hph:=h1.2;have h2:=List.nodup_cons.1 h.jnd;have hs:=h.small hx;have hpc:=h.pc x hx;rw[hph]at hpc;obtain⟨p1,p2,p3,p4,p5⟩:=hpc;have hfew:=h.few;obtain⟨c,hat,hlf⟩:=h.VP hx;have hlnok:=(h.inv.wf.cl _ _ hat.cl).line _ _ hat.ln;have hseq:=(hlnok.one p1).1;have hne:(AZ G x).seq≠0:=by omega
 have hf40:G.Ao.length<40:=by rw[h.Ih,List.length_map];omega
 obtain⟨hz,r',hev,q1,q2,q3⟩:=Wn h.inv (i:=x.1) (k:=x.2) hs.1 hs.2 (js:=jl.map (RA G)) (seq:=(AQ G x).seq) (uid:=(AQ G x).uid) (by rw[h.jbs];rfl) p5 p4 (h.live hx hne) hf40;have hIn:=h.inv.AP;have hSm:=Sm.serve h.inv;have hrng:=h.rng x hx;refine⟨hz,?_⟩;have hnf:¬x∈fl:=fun q=>by have:=((h.fin x).1 q).2;rw[hph]at this;cases this
 have hpc':Pc (AQ G x) r' .res:=⟨p1,by rw[q3];exact p2,by omega,q1,q2⟩;have hT:=h.turn hx hIn hSm.c hSm.cl.len (h.WL hSm) (K:={G with jobs:=jl.map (RA G)}) (l':=AQ G x) (p:=.res) hev (fun _ _=>rfl) (fun _=>rfl) (fun _=>rfl) hpc' (fun _=>h.al x hx (by rw[hph];simp)) (fun _ _ _=>rfl) (fun _=>h.msg x hx (by rw[hph];simp)) hnf h.fnd (fun _ _=>Iff.rfl) h.Ih rfl (fun _=>?_) h2.1 h2.2 (fun y hy=>⟨fun q=>List.mem_cons_of_mem _ q,fun q=>(List.mem_cons.1 q).elim (fun e=>absurd e hy) id⟩) rfl rfl
 ·have hsum:=h.sums hx (K:={G with jobs:=jl.map (RA G)}) (l':=AQ G x) hev (fun _ _=>rfl) (fun _=>rfl) (p:=.res) (d:=0) (e:=1) (by rw[hph];show 2*Ae (AQ G x).message-1+2*r'.at'=2*Ae (AQ G x).message-1+0;rw[q3];omega) (by rw[hph];rfl);exact⟨_,_,_,hT,hsum.1,hsum.2,Nn (by simp) (by rw[hph];simp),hev.alive⟩
 ·have hsn:AZ (AP G).2 x=r':=by
   unfold AZ;rw[hev.seen _ (by omega),if_pos rfl]
  have hlv:(AP G).2.Ai.getD x.1 0=1:=by
   have g2:=hIn.ws.sn _ _ (hIn.Dl (i:=3*x.1+x.2) (by omega));rw[(at3 (i:=x.1) hs.2).1]at g2;have g3:=(g2.some (by show (AZ (AP G).2 x).seq≠0;rw[hsn,q1];omega)).1;have hlen:x.1<(AP G).2.Ad.length:=by rw[hSm.cl.len];exact hrng.1
   have g4:=hIn.lv x.1 _ (List.getElem?_eq_getElem hlen);obtain⟨c0,k1,k2,_⟩:=hSm.cl.each _ _ (List.getElem?_eq_getElem hlen);rw[k2,h.Ag _ _ k1]at g4;omega
  have:=Cm.acj hIn (x:=x) hs hlv (by rw[hsn];exact q2);rw[hsn]at this;exact this
theorem Yj{A:List Li}{f:Li->Int}{b:Int}(h:∀x∈A,f x<=b):(A.map f).sum<=b*A.length:=by
 induction A with
 |nil=>simp
 |cons a A ih=>
  have h1:=ih (fun x hx=>h x (List.mem_cons_of_mem _ hx));have h2:=h a (List.mem_cons_self ..);simp only[List.map_cons,List.sum_cons,List.length_cons];rw[Int.natCast_add,Int.mul_add];omega
theorem Cm.Y7{M:Bk}{A fl jl:List Li}{ph:Li->Ph}{G:Wd}(h:Cm M A fl jl ph G){x:Li}(hx:x∈A)(hi:ph x≠.idle):1<=Ae (AQ G x).message/\Ae (AQ G x).message<=9:=by
 obtain⟨d,h1,h2⟩:=h.msg x hx hi;have h3:=(h.inv.bk _ d h1).1.bs;have h4:=V.Gv (Bv h3);have h5:d.bs=(V.Cn d.from' d.arg).2:=by
  unfold AV at h3;rw[if_pos (Bv h3)]at h3;exact(Option.some.inj h3).symm
 have h6:d.msg.length=2+d.bs.length:=by unfold Cd.msg;simp[AX];omega
 rw[h2];unfold Ae;rw[h5]at h6;omega
theorem Cm.bound{M:Bk}{A fl jl:List Li}{ph:Li->Ph}{G:Wd}(h:Cm M A fl jl ph G):I7 G A ph+Fu A ph<=400:=by
 have h9:=h.few.1;have h1:I7 G A ph<=36*A.length:=Yj (fun x hx=>by
  have hpc:=h.pc x hx;have hs:=h.small hx;have hsnok:=h.inv.ws.sn _ _ (h.inv.Dl (i:=3*x.1+x.2) (by omega));have hr:(AZ G x).state=3->Ae (AZ G x).result<=9/\(AZ G x).at'<Ae (AZ G x).result:=fun q=>by
   have:=hsnok.ans q;refine⟨?_,this.2.2.2⟩;have h2:=this.2.1;show Ae (Ap G (3*x.1+x.2)).result<=9;unfold Ae;omega
  by_cases hi:ph x=.idle
  ·rw[hi];show (0:Int)<=36;omega
  ·have hm:=h.Y7 hx hi;cases hph:ph x with
   |idle=>exact absurd hph hi
   |call=>rw[hph]at hpc;obtain⟨_,_,p3,_⟩:=hpc;simp only[Jg];omega
   |Nv=>rw[hph]at hpc;obtain⟨_,_,p3,_⟩:=hpc;simp only[Jg];omega
   |Tp=>simp only[Jg];omega
   |res=>rw[hph]at hpc;obtain⟨_,_,_,_,p5⟩:=hpc;have:=hr p5;simp only[Jg];omega
   |got=>rw[hph]at hpc;obtain⟨_,_,_,_,p5,_⟩:=hpc;have:=hr p5;simp only[Jg];omega
   |done=>rw[hph]at hpc;obtain⟨_,_,p5⟩:=hpc;have:=hr p5;simp only[Jg];omega)
 have h2:Fu A ph<=1*A.length:=Yj (fun x _=>by cases ph x<;>simp[Ph.late]);omega
theorem Cm.over{M:Bk}{A:List Li}{ph:Li->Ph}{G:Wd}(h:Cm M A [] [] ph G){x:Li}(hx:x∈A)(hi:ph x≠.idle):ph x=.done:=by
 have h1:=h.fin x;have h2:=h.jin x;cases hph:ph x with
 |idle=>exact absurd hph hi
 |done=>rfl
 |Tp=>exact absurd (h2.2 ⟨hx,hph⟩) (by simp)
 |call=>exact absurd (h1.2 ⟨hx,by rw[hph];rfl⟩) (by simp)
 |Nv=>exact absurd (h1.2 ⟨hx,by rw[hph];rfl⟩) (by simp)
 |res=>exact absurd (h1.2 ⟨hx,by rw[hph];rfl⟩) (by simp)
 |got=>exact absurd (h1.2 ⟨hx,by rw[hph];rfl⟩) (by simp)
theorem LM{G:Wd}(h:G.jobs=[]):AP G=(19,G):=by
 unfold AP;rw[h];unfold BV;rw[<-h]
theorem NJ{G:Wd}(h:G.Ao=[]):Au G 0=(9,G):=by
 unfold Au;rw[if_pos (by unfold off;rw[h];simp)]
theorem Cm.acM{M:Bk}{A fl jl:List Li}{ph:Li->Ph}{G:Wd}(h:Cm M A fl jl ph G):
  ((Au G 0).1=9/\(AP (Au G 0).2).1=19/\(AP (Au G 0).2).2=G/\fl=[]/\jl=[]) \/
  ∃e f:Int,((Au G 0).1=0/\e=1\/(Au G 0).1=9/\e=0)/\((AP (Au G 0).2).1=0/\f=1\/(AP (Au G 0).2).1=19/\f=0)/\1<=e+f/\Sp M A ph G (AP (Au G 0).2).2 e f:=by
 cases fl with
 |nil=>
  have hf:G.Ao=[]:=by rw[h.Ih];rfl
  rw[NJ hf];cases jl with
  |nil=>
   have hj:G.jobs=[]:=by rw[h.jbs];rfl
   rw[LM hj];exact Or.inl ⟨rfl,rfl,rfl,rfl,rfl⟩
  |cons x jl=>
   obtain⟨h1,h2⟩:=h.serve;exact Or.inr ⟨0,1,Or.inr ⟨rfl,rfl⟩,Or.inl ⟨h1,rfl⟩,by omega,h2⟩
 |cons x fl=>
  right;have h0:(Au G 0).1=0:=by
   refine Rb (f:=tok x.1 x.2 (AQ G x) (AZ G x) (ph x)) (fl:=fl.map fun x=>tok x.1 x.2 (AQ G x) (AZ G x) (ph x)) ?_;rw[h.Ih];rfl
  obtain⟨fl',jl',ph',hC,t1,t2,t3,t4⟩:=h.CR.ex;cases jl' with
  |nil=>
   have hj:(Au G 0).2.jobs=[]:=by rw[hC.jbs];rfl
   rw[LM hj];exact⟨1,0,Or.inl ⟨h0,rfl⟩,Or.inr ⟨rfl,rfl⟩,by omega,⟨fl',[],ph',hC,t1,t2,t3,t4⟩⟩
  |cons y jl'=>
   obtain⟨h1,fl2,jl2,ph2,hC2,s1,s2,s3,s4⟩:=hC.serve;exact⟨1,1,Or.inl ⟨h0,rfl⟩,Or.inl ⟨h1,rfl⟩,by omega,⟨fl2,jl2,ph2,hC2,by omega,by omega,fun y=>(s3 y).trans (t3 y),fun u=>(s4 u).trans (t4 u)⟩⟩
theorem Cm.anew{M:Bk}{A:List Li}{ph:Li->Ph}{G:Wd}(h:Cm M A [] [] ph G):Cm M A [] [] (fun _=>.idle) G:=by
 refine⟨h.inv,h.Ag,h.nd,h.rng,h.tb,fun x hx=>?_,fun _ _ q=>absurd rfl q,by rw[h.Ih];rfl,h.fnd,fun x=>⟨fun q=>by simp at q,fun q=>by simp[Ph.IC]at q⟩,by rw[h.jbs],h.jnd,fun x=>⟨fun q=>by simp at q,fun q=>by simp at q⟩,h.rem,fun _ _ q=>absurd rfl q,fun x hx=>by simp at hx⟩;have hpc:=h.pc x hx;by_cases hi:ph x=.idle
 ·rw[hi]at hpc;exact hpc
 ·rw[h.over hx hi]at hpc;obtain⟨p1,p2,_⟩:=hpc;exact⟨by rw[p1];omega,by omega⟩
theorem Cm.called{M:Bk}{A fl jl:List Li}{ph:Li->Ph}{G:Wd}(h:Cm M A fl jl ph G){x:Li}(hx:x∈A)(hi:ph x=.idle){d:Cd}{G':Wd}(hG:AA (Al G x.1 x.2 (Ci G (AQ G x) d)) x.1 x.2 false=G')(hI:Inv (upd M ⟨x.1,1,x.2,(AQ G x).seq+1⟩ d) G')(hal:AO G d.uid=true):
  Cm (upd M ⟨x.1,1,x.2,(AQ G x).seq+1⟩ d) A (fl++[x]) jl (Es ph x .call) G'/\I7 G' A (Es ph x .call)=I7 G A ph/\Fu A (Es ph x .call)=Fu A ph:=by
 obtain⟨c,hat,hlf⟩:=h.VP hx;have hA:=hat.set (Ci G (AQ G x) d);have hpk:Cb (Al G x.1 x.2 (Ci G (AQ G x) d)) x.1 x.2 (Ci G (AQ G x) d) false=Kh x.1 x.2 (Ci G (AQ G x) d):=by
  unfold Cb Kh;rw[Bt hA.cl];simp[hlf]
 rw[Ew hA.line,hpk]at hG;have hfew:=h.few;have hkl:=(List.getElem?_eq_some_iff.1 hat.ln).1;have hf40:G.Ao.length<40:=by rw[h.Ih,List.length_map];omega
 have hev:Ev G G' x.1 x.2 (Ci G (AQ G x) d) (AZ G x) [Fs (-1) (Kh x.1 x.2 (Ci G (AQ G x) d))] []:=by
  rw[<-hG];refine Ev.N6 (fun i' k'=>?_) (Cw _ _ _) ?_ (E6 _ _ _) (Dw _ _ _)
  ·rw[Ep,Eo hat.cl hkl]
  ·rw[E7 (by rw[BH];exact hf40),BH];rfl
 have hpc:=h.pc x hx;rw[hi]at hpc;have hms:2<=d.msg.length:=by unfold Cd.msg;simp[AX]
 have hp1:1<=Ae d.msg:=by unfold Ae;omega
 have hcc:G'.c=G.c/\G'.Ad=(Al G x.1 x.2 (Ci G (AQ G x) d)).Ad:=by
  rw[<-hG];exact⟨(Gb _ _ _).trans rfl,Hw _ _ _⟩
 have hcl:G'.Ad.length=G.Ad.length:=by rw[hcc.2];simp[Al]
 have hlife:∀(i:Nat) (c:Cl),G'.Ad[i]?=some c->c.Ag=1:=fun i c' hc=>by
  rw[hcc.2,Bf]at hc;cases h0:G.Ad[i]? with
  |none=>rw[h0]at hc;cases hc
  |some c0=>
   rw[h0]at hc;simp only[Option.map_some,Option.some.injEq]at hc;have:=h.Ag i c0 h0;split at hc<;>(subst hc;exact this)
 have hnf:¬x∈fl:=fun q=>by have:=((h.fin x).1 q).2;rw[hi]at this;cases this
 have hT:=h.turn hx hI hcc.1 hcl hlife (K:=G) (l':=Ci G (AQ G x) d) (r':=AZ G x) (p:=.call) hev (fun _ _=>rfl) (fun _=>rfl) (fun _=>rfl) ⟨rfl,rfl,⟨Int.le_refl _,hp1⟩,Or.inl ⟨rfl,by have:=hpc.2;show (AZ G x).seq<(AQ G x).seq+1;omega⟩⟩ (fun _=>hal) (fun y hy n=>?_) (fun _=>⟨d,?_,rfl⟩) hnf h.fnd (fun _ _=>Iff.rfl) h.Ih rfl (fun _=>?_) (h.Z9 (by rw[hi];simp)) h.jnd (fun _ _=>Iff.rfl) h.jbs rfl
 ·have hsum:=h.sums hx (K:=G) hev (fun _ _=>rfl) (fun _=>rfl) (p:=.call) (d:=0) (e:=0) (by rw[hi];rfl) (by rw[hi];rfl);simp only[Int.add_zero]at hsum;refine⟨?_,hsum⟩;simpa [Ph.IC] using hT
 ·unfold upd;rw[if_neg];intro e;simp only[Key.mk.injEq]at e;exact hy (Prod.ext (by omega) (by omega))
 ·exact if_pos rfl
 ·have hrng:=h.rng x hx;obtain⟨c',hat'⟩:=Z5 hI.wf (i:=x.1) (k:=x.2) (by rw[hcl];exact hrng.1) (by rw[hcc.1];exact hrng.2);rw[hev.line,if_pos ⟨rfl,rfl⟩]at hat';have hr:=Gm hI.wf hat'.cl hat'.ln rfl (by exact hp1) false;have hl1:Kd G' x.1=1:=by rw[Bt hat'.cl];exact hlife _ _ hat'.cl
  unfold Cb at hr;rw[hl1]at hr;exact hr
end Go.Proofs.YtblomippkddgiaaGreatDoor.R
namespace Go.Proofs.YtblomippkddgiaaGreatDoor
open Go.RowKit
def Zh(seen:List R.Sn)(i:Nat):Bool:=decide (((seen[i]?).getD R.De).seq≠0)
def idx(seen:List R.Sn):List Nat:=(List.range 9).filter (Zh seen)
theorem Qc(t:SP)(seen:List R.Sn)(n:Nat):GB (qf t seen) n=((List.range n).filter (Zh seen)).map fun i=>ptr (t.ql i):=by
 induction n with
 |zero=>rfl
 |succ n ih=>
  rw[JY,ih,List.range_succ,List.filter_append,List.map_append];unfold qf;by_cases h:((seen[n]?).getD R.De).seq=0
  ·simp[h,Zh]
  ·simp[h,Zh]
theorem XR(t:SP)(seen:List R.Sn):GB (qf t seen) 9=(idx seen).map fun i=>ptr (t.ql i):=Qc t seen 9
end Go.Proofs.YtblomippkddgiaaGreatDoor
