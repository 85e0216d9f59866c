import Derived.Test.YtblomippkddgiaaGreatDoorJ27
set_option maxRecDepth 100000
set_option maxHeartbeats 1000000
namespace Go.Proofs.YtblomippkddgiaaGreatDoor
open Go.RowKit
theorem am8{s:List UInt8}(h:R.namedP s=true)(i:Nat)(hi:i<(str s).size):97≤(((str s)[i]'hi).toNat:Int)∧(((str s)[i]'hi).toNat:Int)≤122:=by
 unfold R.namedP at h
 simp only[Bool.and_eq_true,decide_eq_true_eq,List.all_eq_true]at h
 have hg:=agL s i hi
 have:=h.2 _ (List.mem_of_getElem? hg)
 omega
theorem ajd(s:List UInt8)(h:R.namedP s=true)(w:World):Calls Tryz.prog 181 #[.string (str s)] w fun e w'=>e=.returned (.bool true)∧w'=w:=by
 have HA:=aab (am8 h)
 have hz:(str s).size=s.length:=str_size s
 have hl:1≤(str s).size∧(str s).size≤8:=by
  unfold R.namedP at h
  simp only[Bool.and_eq_true,decide_eq_true_eq]at h
  omega
 generalize str s=S at *
 clear h hz
 obtain⟨n,hn⟩:∃n,S.size=n:=⟨_,rfl⟩
 rw[hn]at hl
 go_enter Tryz.func181,Tryz.ntmps181
 go_wp2
 go_loopw [14] (fun iv wr=>∃i:Nat,i≤n∧iv=.int .i64 i∧wr=w) (fun iv _=>n-(intOf iv).toNat)
 case atStart=>exact⟨0,Nat.zero_le _,rfl,rfl⟩
 case round=>
  obtain⟨i,hi,rfl,rfl⟩:=hrel
  by_cases hlt:i<n
  ·have hq:=(unhide HA) i (by omega)
   obtain⟨h1,h2⟩:=hq
   go_wp2
   exact⟨⟨i+1,by omega,by go_num,trivial⟩,by simp[intOf];omega⟩
  ·obtain rfl:i=n:=by omega
   go_wp2
   go_returns
   exact⟨rfl,rfl⟩
theorem arm:∀args w,(callFunc 184 args).run Tryz.prog w=.ok (.enter 184 args) w:=fun _ _=>rfl
theorem ahq(w:World)(s nm m c nn:Nat)(a:Option Addr)(name:List UInt8)(kind u:Int)(A C:World→Prop)(hnm:R.namedP name=true)(hk:0≤kind∧kind≤2)(c5:w.cell? ⟨s,5,none⟩=some (.map (some nm)))(c6:w.cell? ⟨s,6,none⟩=some (.slice a m c))(hm:m<255)(hnn:nn<6)
  (hlook:(Instr.lookup 159 (.map (some nm)) (.string (str name)) true).run Tryz.prog w=.ok (.tuple #[.int .i64 0,.bool false]) w)
  (hlen:(Builtin.len_ #[159] 3 #[.map (some nm)]).run Tryz.prog w=.ok (.int .i64 (nn:Int)) w)
  (H70:Hid (Calls Tryz.prog 183 #[ptr s,.int .i64 kind] w fun e w'=>e=.returned (.int .i64 u)∧A w'))
  (HA:Hid (∀w',A w'→w'.cell? ⟨s,5,none⟩=some (.map (some nm))))
  (HPUT:Hid (∀w1 w2,A w1→Below w1.heap.size w1 w2→∃w3,(Instr.mapUpdate 159 (.map (some nm)) (.string (str name)) (.int .i64 u)).run Tryz.prog w2=.ok () w3∧C w3)) :
  Calls Tryz.prog 106 #[ptr s,.string (str name),.int .i64 kind] w fun e w'=>e=.returned (.tuple #[.int .i64 u,.int .i64 0])∧C w':=by
 have H68:=aab (fun w=>ajd name hnm w)
 have hl8:name.length≤1000:=by
  unfold R.namedP at hnm
  simp only[Bool.and_eq_true,decide_eq_true_eq]at hnm
  omega
 have H71:=aab (fun w=>abw name w hl8)
 have H32:Hid (∀w,Calls Tryz.prog 124 #[.int .i64 kind] w fun e w'=>e=.returned (.bool true)∧w'=w):=fun w=>by
  refine(aaQ kind w).mono ?_
  rintro e w' ⟨rfl,rfl⟩
  refine⟨?_,rfl⟩
  have:(kind==0 || kind==1 || kind==2)=true:=by simp;omega
  rw[this]
 have e1:((nn:Int)==6)=false:=by simp;omega
 have e2:((m:Int)==255)=false:=by simp;omega
 generalize str name=SN at *
 clear hnm hm hnn hl8
 go_enter Tryz.func106,Tryz.ntmps106
 go_wp2_with (first|(go_at_call 181;refine((unhide H68) _).mono ?_;rintro e w' ⟨rfl,hw'⟩;rw[hw'];clear hw')|(go_at_call 124;refine((unhide H32) _).mono ?_;rintro e w' ⟨rfl,hw'⟩;rw[hw'];clear hw'))
 refine(unhide H70).mono ?_
 rintro e w1 ⟨rfl,hA⟩
 have d0:=(unhide HA) w1 hA
 have hl1:=lt_of_cell d0
 have HA1:=aab hA
 clear hA hlook hlen c5 c6
 go_wp2
 go_region_law (refine aak rfl 184 #[.tmp 53] #[9] rfl arm #[.string SN] rfl _ ((unhide H71) _) ?_;rintro e w2 ⟨rfl,hb⟩;have f0:w2.cell? ⟨s,5,none⟩=some (.map (some nm)):=(hb.cell (p:=⟨s,5,none⟩) hl1).trans d0;have hput:=(unhide HPUT) w1 w2 (unhide HA1) (undrew hb);obtain⟨w3,hrun,hC⟩:=hput;have HC:=aab hC;clear hC hb;refine⟨_,rfl,?_⟩)
 all_goals
  go_wp2
  go_returns
  exact⟨rfl,unhide HC⟩
def aax(G:R.Wd)(name:List UInt8)(kind:Int):R.Wd:={G with names:=G.names++[name],stands:=G.stands++[(G.services.length:Int)+1],services:=G.services++[⟨kind,true,[]⟩]}
theorem ahp{G:R.Wd}(h:R.Wf G){name:List UInt8}{kind:Int}(hn:¬name∈G.names)(h6:G.names.length<6)(h255:G.services.length<255)(hk:0≤kind∧kind≤2):R.Wf (aax G name kind):=by
 refine⟨h.cf,h.ncl,fun i c hc=>?_,h.fly,h.flys,by simp[aax];omega,fun s hs=>?_,by simp[aax];omega,by simp[aax,h.st],?_,fun u hu=>?_⟩
 ·have h0:=h.cl i c hc
  refine⟨h0.lines,h0.life,fun u hu=>?_,h0.line⟩
  have:=h0.bound u hu
  simp[aax]
  omega
 ·rcases List.mem_append.1 hs with hs|hs
  ·exact h.svk s hs
  ·simp only[List.mem_singleton]at hs
   subst hs
   exact hk
 ·show (G.names++[name]).Nodup
  rw[List.nodup_append]
  refine⟨h.nd,by simp,fun a ha b hb e=>?_⟩
  simp only[List.mem_singleton]at hb
  subst hb
  exact hn (e ▸ ha)
 ·rcases List.mem_append.1 hu with hu|hu
  ·have:=h.sts u hu
   simp[aax]
   omega
  ·simp only[List.mem_singleton]at hu
   subst hu
   simp[aax]
   omega
theorem aiH{G:R.Wd}{name:List UInt8}(hn:¬name∈G.names):aar G name=none:=by
 unfold aar R.entryP
 rw[List.findIdx?_eq_none_iff.2 (fun x hx=>by simp;exact fun e=>hn (e ▸ hx))]
 rfl
theorem aev{G:R.Wd}(hst:G.stands.length=G.names.length){name:List UInt8}{kind:Int}(hn:¬name∈G.names)(x:List UInt8):(x=name→aar (aax G name kind) x=some ((G.services.length:Int)+1))∧(¬x=name→aar (aax G name kind) x=aar G x):=by
 unfold aar R.entryP aax
 simp only[List.findIdx?_append]
 constructor
 ·rintro rfl
  rw[List.findIdx?_eq_none_iff.2 (fun y hy=>by simp;exact fun e=>hn (e ▸ hy))]
  simp[List.findIdx?_cons,hst]
 ·intro hx
  cases hf:G.names.findIdx? (·==x) with
  |some k=>
   have hk:=(List.findIdx?_eq_some_iff_getElem.1 hf).1
   simp[List.getElem?_append_left (show k<G.stands.length by omega)]
  |none=>
   have:(name==x)=false:=by simpa using fun e=>hx e.symm
   simp[List.findIdx?_cons,this]
theorem Works.foot{w:World}{F:aai}{l:List R.En}{b:Nat}{K:Value}{k:Int}{W:Value}(h:Works w F l b K k W):F b:=by
 cases h <;> assumption
theorem Works.wide{w:World}{F F':aai}{l:List R.En}{b:Nat}{K:Value}{k:Int}{W:Value}(h:Works w F l b K k W)(hF:∀k,F k→F' k):Works w F' l b K k W:=h.keep (Keeps.refl (fun _=>False) w) (fun _ _ _ _ _ _ _ q=>q) hF
def apV(kind:Int)(b:Nat):R.Sv×MV:=(⟨kind,true,[]⟩,⟨.iface (freshT kind) (ptr b),.slice none 0 0,b,.slice none 0 0⟩)
theorem snoc_get{α:Type}{l:List α}{i:Nat}{x y:α}(h:(l++[x])[i]?=some y):l[i]?=some y∨(i=l.length∧y=x):=by
 rcases Nat.lt_trichotomy i l.length with q|q|q
 ·rw[List.getElem?_append_left q]at h
  exact Or.inl h
 ·subst q
  simp at h
  exact Or.inr ⟨rfl,h.symm⟩
 ·rw[List.getElem?_append_right (by omega),List.getElem?_singleton,if_neg (by omega)]at h
  cases h
theorem SrvAt.begun{s n nm:Nat}{t:SP}{F:aai}{c:R.Cf}{sv:List R.Sv}{lives:List Int}{seen:List R.Sn}{jobs:List R.Jb}{w w':World}{kind:Int}{K':Value}(h:SrvAt s n nm t F c sv lives seen jobs w)(hlt:∀k,F k→k<w.heap.size)(hb:Began w s (aaS n nm t c lives seen) t.K t.zs.length (tab adp t.zs) kind K' w'):SrvAt s n nm {t with K:=K',zs:=t.zs++[apV kind w.heap.size]} (fun k=>F k∨k=w.heap.size∨K'.ownBlock=some k) c (sv++[⟨kind,true,[]⟩]) lives seen jobs w':=by
 obtain⟨f1,f2,f3⟩:=h.foot
 obtain⟨b1,b2,b3,b4,hk⟩:=hb
 have hav:AvT w F (fun k=>k=s∨t.K.ownBlock=some k):=fun b cur t' z' _ ht hbl hE=>by
  rcases hE with rfl|e
  ·rw[h.bs]at hbl
   cases hbl
   cases ht
  ·rcases id h.made.2 with ⟨q,_⟩|⟨g,cap,cur',q,_,hg,_⟩
   ·rw[q]at e;cases e
   ·rw[q]at e
    cases e
    rw[hg]at hbl
    cases hbl
    cases ht
 have alive:∀{i:Nat} {z:R.Sv×MV},t.zs[i]?=some z→z.1.alive=true→z.2.sb<w.heap.size:=fun hz ha=>by
  have:=(h.each _ (List.mem_of_getElem? hz)).wk
  rw[if_pos ha]at this
  exact hlt _ this.foot
 refine⟨b1,?_,?_,fun z hz=>?_,fun i j z y hz hy hij k hk1=>?_,fun i j z y hz hy hij ha1 ha2=>?_,fun i r hr hne=>?_,h.inj,?_,Or.inl f1,Or.inl f2,fun j hj=>Or.inr (Or.inr hj)⟩
 ·simp only[List.map_append,h.zs]
  rfl
 ·simp only[List.length_append,List.length_singleton,abQ]
  exact b2
 ·rcases List.mem_append.1 hz with q|q
  ·exact(h.each z q).keep hk hav (fun _ r=>Or.inl r)
  ·rw[List.mem_singleton.1 q]
   refine⟨?_,⟨[],rfl,⟨rfl,Or.inl ⟨rfl,rfl⟩⟩,fun y hy=>by cases hy⟩,fun j hj=>by cases hj⟩
   rw[if_pos (show (apV kind w.heap.size).1.alive=true from rfl)]
   exact b3.wide (fun k r=>Or.inr (Or.inl r))
 ·rcases snoc_get hz with q|⟨q,rfl⟩
  ·rcases snoc_get hy with r|⟨r,rfl⟩
   ·exact h.dns i j z y q r hij k hk1
   ·intro e
    cases e
  ·cases hk1
 ·rcases snoc_get hz with q|⟨q,rfl⟩
  ·rcases snoc_get hy with r|⟨r,rfl⟩
   ·exact h.wks i j z y q r hij ha1 ha2
   ·have:=alive q ha1
    refine⟨fun e=>?_,fun k _ e=>by cases e⟩
    simp only[apV]at e
    omega
  ·rcases snoc_get hy with r|⟨r,rfl⟩
   ·have:=alive r ha2
    refine⟨fun e=>?_,fun k e=>by cases e⟩
    simp only[apV]at e
    omega
   ·omega
 ·obtain⟨y,h1,h2,h3⟩:=h.ln i r hr hne
  refine⟨y,hk.at h1 ?_,h2,Or.inl h3⟩
  rintro (e|e)
  ·exact ne_tag h1 h.bs (by decide) e
  ·exact aao h.made h1 (by decide) e
 ·obtain⟨a,b,hj⟩:=h.jobs
  refine⟨a,b,hk.at hj ?_⟩
  rintro (e|e)
  ·rw[e,h.bs]at hj
   cases hj
  ·rcases id h.made.2 with ⟨q,_⟩|⟨g,cap,cur',q,_,hg,_⟩
   ·rw[q]at e;cases e
   ·rw[q]at e
    cases e
    rw[hg]at hj
    cases hj
theorem LW.begun{p:Pl}{F:aai}{G:R.Wd}{w:World}(h:LW p F G w){kind:Int}(hk:0≤kind∧kind≤2)(h255:G.services.length<255) :
  Calls Tryz.prog 183 #[ptr p.s,.int .i64 kind] w fun e w'=>e=.returned (.int .i64 ((G.services.length:Int)+1))∧∃t F',LW {p with t:=t} F' {G with services:=G.services++[⟨kind,true,[]⟩]} w'∧Went F F' w w':=by
 have hzl:p.t.zs.length=G.services.length:=by rw[←h.srv.zs,List.length_map]
 obtain⟨a,c,hK⟩:=aas h.srv.made
 have hm:=h.srv.made
 rw[hK]at hm
 refine(alH w p.s p.t.zs.length c (aaS p.n p.nm p.t G.c G.lives G.seen) (tab adp p.t.zs) a kind hk h.srv.bs (by rw[←hK];rfl) hm (by omega)).mono ?_
 rintro e w' ⟨rfl,K',hb⟩
 rw[←hK]at hb
 refine⟨by rw[hzl],{p.t with K:=K',zs:=p.t.zs++[apV kind w.heap.size]},fun k=>F k∨k=w.heap.size∨K'.ownBlock=some k,?_,?_⟩
 ·have hs:=h.srv.begun h.lt hb
  have hE:aaK w (fun k=>k=p.s∨p.t.K.ownBlock=some k):=(aaK.one h.srv.bs (by decide)).or (aaK.row h.srv.made (by decide))
  refine h.srvTurn hs hb.keeps hE (fun _ q=>Or.inl q) (fun k hk'=>?_) ?_ h.cold (fun i c hc u=>?_)
  ·have hsz:=hb.keeps.size
   rcases hk' with q|q|q
   ·exact Nat.lt_of_lt_of_le (h.lt k q) hsz
   ·have:=hb.wk
    subst q
    cases this with
    |counter _ h2 _=>exact(Array.getElem?_eq_some_iff.1 h2).1
    |board _ h2 _ _=>exact(Array.getElem?_eq_some_iff.1 h2).1
    |desk _ _ _ _ h2 _ _ _ _=>exact(Array.getElem?_eq_some_iff.1 h2).1
   ·exact(World.ownsRow.lt hb.row k q).2
  ·refine h.wf.serve hk h255 h.wf.nm h.wf.st h.wf.nd (fun u hu=>?_)
   have:=h.wf.sts u hu
   omega
  ·unfold aaJ
   by_cases hu:u∈c.bound
   ·rw[if_pos hu,if_pos hu]
    have:=(h.wf.cl i c hc).bound u hu
    unfold aan
    simp only
    rw[List.getElem?_append_left (by omega)]
   ·rw[if_neg hu,if_neg hu]
 ·refine⟨hb.keeps.mono (fun k _ q=>?_),fun k q=>?_⟩
  ·rcases q with rfl|q
   ·exact h.srv.foot.1
   ·exact h.srv.foot.2.2 k q
  ·rcases q with q|q|q
   ·exact Or.inl q
   ·exact Or.inr (by omega)
   ·rcases hb.at' with e|⟨j,e,hj⟩
    ·exact Or.inl (h.srv.foot.2.2 k (e ▸ q))
    ·rw[e]at q
     cases q
     exact Or.inr (by omega)
theorem LW.nameTurn{p:Pl}{F:aai}{G:R.Wd}{w w':World}(h:LW p F G w){N:List (List UInt8)}{S:List Int}(hk:Keeps (fun k=>k=p.nm) w w')(hm:Mp w' 9 p.nm ann (aar {G with names:=N,stands:=S}) N.length)(hwf:R.Wf {G with names:=N,stands:=S}):LW p F {G with names:=N,stands:=S} w'∧Went F F w w':=by
 obtain⟨hx,hn,hcs,hnm⟩:=h.foot
 obtain⟨es,q,hq⟩:=h.names.block
 have hav:Avoid w F (fun k=>k=p.nm):=Avoid.tags (fun b hb=>Or.inr ⟨es,q,by subst hb;exact hq⟩)
 have hlen:=fun (i:Nat) (c:R.Cl) (hc:G.clients[i]?=some c)=>(List.getElem?_eq_some_iff.1 hc).1
 have at':∀{b:Nat} {ys:Array Value} {t:TypeId} {f:Nat×Nat},w.heap[b]?=some (.cells ys t f)→w'.heap[b]?=some (.cells ys t f):=fun hb=>hk.at hb (ado hb hq)
 refine⟨⟨hwf,h.cold,at' h.bx,?_,?_,h.srv.keep hk hav (fun _ r=>r),hm,fun i c hc=>at' (h.cl i c hc),fun i c hc=>?_,fun i c hc=>(h.bound i c hc).keep hk (h.feet i (hlen i c hc)).2.2.2,h.foot,h.feet,h.inj,fun k hf=>Nat.lt_of_lt_of_le (h.lt k hf) hk.size⟩,hk.mono (fun k _ e=>by rw[e];exact hnm),fun _ r=>Or.inl r⟩
 ·obtain⟨cur,h1,h2⟩:=h.bcs
  exact⟨cur,at' h1,h2⟩
 ·obtain⟨K,h1,h2,h3⟩:=h.bn
  exact⟨K,at' h1,hk.row h2 (fun j hj e=>abR h2 hq (e ▸ hj)),h3⟩
 ·obtain⟨xs,h1,h2,h3⟩:=h.ln i c hc
  exact⟨xs,at' h1,h2,h3.avoid hk hav.sv (fun _ r=>r)⟩
theorem LW.exported{p:Pl}{F:aai}{G:R.Wd}{w:World}(h:LW p F G w){name:List UInt8}{kind:Int}(hnm:R.namedP name=true)(hk:0≤kind∧kind≤2)(hn:¬name∈G.names)(h6:G.names.length<6)(h255:G.services.length<255) :
  Calls Tryz.prog 106 #[ptr p.s,.string (str name),.int .i64 kind] w fun e w'=>e=.returned (.tuple #[.int .i64 ((G.services.length:Int)+1),.int .i64 0])∧∃t F',LW {p with t:=t} F' (aax G name kind) w'∧Went F F' w w':=by
 obtain⟨a,c,hK⟩:=aas h.srv.made
 have hl8:name.length≤8:=by
  unfold R.namedP at hnm
  simp only[Bool.and_eq_true,decide_eq_true_eq]at hnm
  omega
 have hzl:p.t.zs.length=G.services.length:=by rw[←h.srv.zs,List.length_map]
 have hsn:=aiH hn
 have hlook:=ah7 h.names (s:=name) (by unfold maxLen;omega)
 rw[hsn]at hlook
 have hwf:=ahp h.wf (name:=name) (kind:=kind) hn h6 h255 hk
 refine ahq w p.s p.nm p.t.zs.length c G.names.length a name kind _ (fun w'=>∃t F',LW {p with t:=t} F' {G with services:=G.services++[⟨kind,true,[]⟩]} w'∧Went F F' w w') _ hnm hk (aaa h.srv.bs 5 _ rfl) (aaa h.srv.bs 6 _ (by rw[←hK];rfl)) (by omega) h6 hlook (h.names.len Tryz.underlying159 3) (h.begun hk h255) ?_ ?_
 ·rintro w' ⟨t,F',hL,_⟩
  exact aaa hL.srv.bs 5 _ rfl
 ·rintro w1 w2 ⟨t,F',hL,hW⟩ hb
  have hL2:=hL.below hb
  obtain⟨w3,hrun,hm,htn⟩:=aos hL2.names (by simp only;omega) (s:=name) (by unfold maxLen;omega) (v:=(G.services.length:Int)+1) (by omega) (aar (aax G name kind)) (aev h.wf.st hn)
  refine⟨w3,hrun,t,F',?_⟩
  have hst:aar {G with services:=G.services++[⟨kind,true,[]⟩]} name=none:=hsn
  rw[hst]at hm
  have q:=hL2.nameTurn (N:=G.names++[name]) (S:=G.stands++[(G.services.length:Int)+1]) (adk htn) (by simpa [aax] using hm) hwf
  exact⟨q.1,(hW.trans (Went.ofBelow F' hb)).trans q.2⟩
theorem ahv(l:List Int)(u:Int):dd (l++[u])=if u∈dd l then dd l else dd l++[u]:=by
 unfold dd
 rw[List.foldl_append]
 rfl
theorem ahM{P:List Int→Prop}(h0:P [])(hs:∀l a,P l→P (l++[a]))(l:List Int):P l:=by
 have h:∀r:List Int,P r.reverse:=fun r=>by
  induction r with
  |nil=>exact h0
  |cons a r ih=>rw[List.reverse_cons];exact hs _ _ ih
 simpa using h l.reverse
theorem alr(l:List Int):∀u,u∈dd l↔u∈l:=by
 refine ahM (P:=fun l=>∀u,u∈dd l↔u∈l) ?_ ?_ l
 ·simp[dd]
 ·intro l a ih u
  rw[ahv]
  split
  ·rename_i h
   rw[ih u]
   simp only[List.mem_append,List.mem_singleton]
   constructor
   ·exact Or.inl
   ·rintro (q|rfl)
    ·exact q
    ·exact(ih u).1 h
  ·simp[ih u]
theorem anD(l:List Int):(dd l).Nodup:=by
 refine ahM (P:=fun l=>(dd l).Nodup) ?_ ?_ l
 ·simp[dd]
 ·intro l a ih
  rw[ahv]
  split
  ·exact ih
  ·rename_i h
   rw[List.nodup_append]
   exact⟨ih,by simp,fun x hx y hy e=>by simp only[List.mem_singleton]at hy;subst hy;exact h (e ▸ hx)⟩
theorem aq6:∀(N:Nat) (l:List Int),l.Nodup→(∀u∈l,1≤u∧u≤(N:Int))→l.length≤N
 |0,[],_,_=>Nat.le_refl _
 |0,u :: l,_,h=>by have:=h u (by simp);omega
 |N+1,l,hd,h=>by
  have h1:=aq6 N (l.erase ((N:Int)+1)) (hd.erase _) (fun u hu=>by
   have hm:=List.mem_of_mem_erase hu
   have hne:u≠(N:Int)+1:=fun e=>by subst e;exact hd.not_mem_erase hu
   have:=h u hm
   omega)
  have:=List.length_erase_le (a:=(N:Int)+1) (l:=l)
  by_cases hm:((N:Int)+1)∈l
  ·rw[List.length_erase_of_mem hm]at h1
   omega
  ·rw[List.erase_of_not_mem hm]at h1
   omega
theorem aqa{l:List Int}{N:Nat}(h:∀u∈l,1≤u∧u≤(N:Int)):(dd l).length≤N:=aq6 N (dd l) (anD l) (fun u hu=>h u ((alr l u).1 hu))
theorem ale(w:World)(s nm g m c k:Nat)(S:ByteArray)(kind:Int)(c5:w.cell? ⟨s,5,none⟩=some (.map (some nm)))(c6:w.cell? ⟨s,6,none⟩=some (.slice (some ⟨g,0,none⟩) m c))(hk:k<m)(hm:m≤255)(hkd:w.cell? ⟨g,k*3,none⟩=some (.int .i64 kind))
  (hlook:(Instr.lookup 159 (.map (some nm)) (.string S) true).run Tryz.prog w=.ok (.tuple #[.int .i64 ((k:Int)+1),.bool true]) w) :
  Calls Tryz.prog 107 #[ptr s,.string S] w fun e w'=>e=.returned (.tuple #[.int .i64 ((k:Int)+1),.int .i64 kind,.int .i64 0])∧Below w.heap.size w w':=by
 have H72:=aab (abz w.drew s g k m c c6 hk hm)
 clear c6
 go_enter Tryz.func107,Tryz.ntmps107
 go_wp2
 go_region_held3 (fun w'=>w'.cell? ⟨g,k*3,none⟩=some (.int .i64 kind)) (go_keep) ((go_at_call 132;refine(unhide H72).mono ?_;rintro e w1 ⟨rfl,hw1⟩;rw[hw1];clear hw1))
 go_wp2
 go_returns
 exact⟨rfl,(Below.refl _ _).drew⟩
theorem ahh(w:World)(x n s cs cn cap cb bm i:Nat)(S:ByteArray)(uid kind:Int)(C:World→Prop)(hx:w.heap[x]?=some (.cells #[ptr n,ptr s,.slice (some ⟨cs,0,none⟩) cn cap] 84 (0,0)))(hi:i<cn)(hcs:w.cell? ⟨cs,i,none⟩=some (ptr cb))(hcb:w.cell? ⟨cb,2,none⟩=some (.map (some bm)))
  (H52:Hid (Calls Tryz.prog 107 #[ptr s,.string S] w fun e w'=>e=.returned (.tuple #[.int .i64 uid,.int .i64 kind,.int .i64 0])∧Below w.heap.size w w'))
  (HPUT:Hid (∀w1,Below w.heap.size w w1→∃w2,(Instr.mapUpdate 131 (.map (some bm)) (.int .i64 uid) (.int .i64 kind)).run Tryz.prog w1=.ok () w2∧C w2)) :
  Calls Tryz.prog 62 #[ptr x,.int .i64 (i:Int),.string S] w fun e w'=>e=.returned (.tuple #[.int .i64 uid,.int .i64 kind,.int .i64 0])∧C w':=by
 have q1:(0:Int)≤(i:Int):=by omega
 have q2:(i:Int)<(cn:Int):=by omega
 have c1:w.cell? ⟨x,1,none⟩=some (ptr s):=aaa hx 1 _ rfl
 have c2:w.cell? ⟨x,2,none⟩=some (.slice (some ⟨cs,0,none⟩) cn cap):=aaa hx 2 _ rfl
 have l1:=lt_of_cell c1
 have l2:=lt_of_cell hcs
 have l3:=lt_of_cell hcb
 clear hx
 go_enter Tryz.func62,Tryz.ntmps62
 go_wp2_with (first|(go_at_call 38;go_in))
 refine(unhide H52).mono ?_
 rintro e w1 ⟨rfl,hb⟩
 have d2:w1.cell? ⟨x,2,none⟩=some (.slice (some ⟨cs,0,none⟩) cn cap):=(hb.cell (p:=⟨x,2,none⟩) l1).trans c2
 have d3:w1.cell? ⟨cs,i,none⟩=some (ptr cb):=(hb.cell (p:=⟨cs,i,none⟩) l2).trans hcs
 have d4:w1.cell? ⟨cb,2,none⟩=some (.map (some bm)):=(hb.cell (p:=⟨cb,2,none⟩) l3).trans hcb
 obtain⟨w2,hrun,hC⟩:=(unhide HPUT) w1 hb
 have HC:=aab hC
 clear hb hC c1 c2 hcs hcb
 go_wp2_with (first|(go_at_call 108;go_in))
 go_returns
 exact⟨rfl,unhide HC⟩
theorem ahr(w:World)(x n s cs cn cap:Nat)(S:ByteArray)(kind uid er:Int)(C:World→Prop)(hx:w.heap[x]?=some (.cells #[ptr n,ptr s,.slice (some ⟨cs,0,none⟩) cn cap] 84 (0,0)))(H51:Hid (Calls Tryz.prog 106 #[ptr s,.string S,.int .i64 kind] w fun e w'=>e=.returned (.tuple #[.int .i64 uid,.int .i64 er])∧C w')) :
  Calls Tryz.prog 60 #[ptr x,.string S,.int .i64 kind] w fun e w'=>e=.returned (.tuple #[.int .i64 uid,.int .i64 er])∧C w':=by
 have c1:w.cell? ⟨x,1,none⟩=some (ptr s):=aaa hx 1 _ rfl
 clear hx
 go_enter Tryz.func60,Tryz.ntmps60
 go_wp2_with fail
 refine(unhide H51).mono ?_
 rintro e w1 ⟨rfl,hC⟩
 go_wp2
 go_returns
 exact⟨rfl,hC⟩
def aap(G:R.Wd)(i:Nat)(uid:Int):R.Wd:={G with clients:=G.clients.modify i fun c=>{c with bound:=c.bound++[uid]}}
theorem aaT{G:R.Wd}{i:Nat}{uid:Int}{j:Nat}:(aap G i uid).clients[j]?=(G.clients[j]?).map fun c=>if i=j then {c with bound:=c.bound++[uid]} else c:=by
 simp only[aap,List.getElem?_modify]
 by_cases h:i=j <;> simp[h]
theorem abj{G:R.Wd}{i:Nat}{uid:Int}{j:Nat}{c':R.Cl}(h:(aap G i uid).clients[j]?=some c'):∃c0,G.clients[j]?=some c0∧c'=(if i=j then {c0 with bound:=c0.bound++[uid]} else c0):=by
 rw[aaT]at h
 cases h0:G.clients[j]? with
 |none=>rw[h0]at h;cases h
 |some c0=>rw[h0]at h;exact⟨c0,rfl,(Option.some.inj h).symm⟩
theorem ahg{G:R.Wd}(h:R.Wf G){i:Nat}{uid:Int}(hu:1≤uid∧uid≤(G.services.length:Int)):R.Wf (aap G i uid):=by
 refine⟨h.cf,by simpa [aap] using h.ncl,fun j c hc=>?_,h.fly,h.flys,h.sv,h.svk,h.nm,h.st,h.nd,h.sts⟩
 obtain⟨c0,h0,rfl⟩:=abj hc
 have q:=h.cl j c0 h0
 split
 ·refine⟨q.lines,q.life,fun u hu'=>?_,q.line⟩
  rcases List.mem_append.1 hu' with hu'|hu'
  ·exact q.bound u hu'
  ·simp only[List.mem_singleton]at hu'
   subst hu'
   exact hu
 ·exact⟨q.lines,q.life,q.bound,q.line⟩
theorem LW.bind{p:Pl}{F:aai}{G:R.Wd}{w w1 w2:World}(h:LW p F G w){i:Nat}{c:R.Cl}{uid:Int}(hc:G.clients[i]?=some c)(hu:1≤uid∧uid≤(G.services.length:Int))(hb:Below w.heap.size w w1)(ht:Keeps (fun k=>k=p.bm i) w1 w2)(hm:Mp w2 3 (p.bm i) alW (aaJ G {c with bound:=c.bound++[uid]}) (dd (c.bound++[uid])).length) :
  LW p F (aap G i uid) w2∧Went F F w w2:=by
 have hi:=(List.getElem?_eq_some_iff.1 hc).1
 obtain⟨es,q,hq⟩:=(h.bound i c hc).block
 have hkA:Keeps (fun k=>k=p.bm i) w w2:=(Keeps.ofBelow hb _).trans ht
 have hav:Avoid w F (fun k=>k=p.bm i):=Avoid.tags (fun b hb=>Or.inr ⟨es,q,by subst hb;exact hq⟩)
 have hlen:(aap G i uid).clients.length=G.clients.length:=by simp[aap]
 have at':∀{b:Nat} {ys:Array Value} {t:TypeId} {f:Nat×Nat},w.heap[b]?=some (.cells ys t f)→w2.heap[b]?=some (.cells ys t f):=fun hb=>hkA.at hb (ado hb hq)
 have rw':∀{K:Value} {e:TypeId} {size n B:Nat} {xs:List Value},w.ownsRow B e size K n xs→w2.ownsRow B e size K n xs:=fun hr=>hkA.row hr (fun j hj e=>abR hr hq (e ▸ hj))
 refine⟨⟨ahg h.wf hu,h.cold,?_,?_,?_,?_,?_,fun j c' hj=>?_,fun j c' hj=>?_,fun j c' hj=>?_,h.foot,?_,?_,fun k hf=>Nat.lt_of_lt_of_le (h.lt k hf) hkA.size⟩,⟨hkA.mono (fun k _ e=>by rw[e];exact(h.feet i hi).2.2.1),fun _ q=>Or.inl q⟩⟩
 ·rw[hlen];exact at' h.bx
 ·rw[hlen]
  obtain⟨cur,h1,h2⟩:=h.bcs
  exact⟨cur,at' h1,h2⟩
 ·obtain⟨K,h1,h2,h3⟩:=h.bn
  exact⟨K,at' h1,rw' h2,h3⟩
 ·exact h.srv.keep hkA hav (fun _ r=>r)
 ·exact h.names.keep hkA (fun e=>(h.feet i hi).2.2.2 e.symm)
 ·obtain⟨c0,h0,rfl⟩:=abj hj
  have:=at' (h.cl j c0 h0)
  split <;> exact this
 ·obtain⟨c0,h0,rfl⟩:=abj hj
  obtain⟨xs,h1,h2,h3⟩:=h.ln j c0 h0
  refine⟨xs,at' h1,?_⟩
  have h4:=h3.avoid hkA hav.sv (fun _ r=>r)
  split <;> exact⟨h2,h4⟩
 ·obtain⟨c0,h0,rfl⟩:=abj hj
  by_cases hij:i=j
  ·subst hij
   obtain rfl:=Option.some.inj (hc.symm.trans h0)
   simp only[if_true]
   exact hm
  ·simp only[hij,if_false]
   exact(h.bound j c0 h0).keep hkA (fun e=>(h.inj i j hi (List.getElem?_eq_some_iff.1 h0).1 hij).2.1 e.symm)
 ·rw[hlen];exact h.feet
 ·rw[hlen];exact h.inj
theorem ame{G:R.Wd}(h:R.Wf G){name:List UInt8}{uid:Int}(hs:aar G name=some uid):1≤uid∧uid≤(G.services.length:Int):=by
 unfold aar R.entryP at hs
 cases hf:G.names.findIdx? (·==name) with
 |none=>rw[hf]at hs;cases hs
 |some k=>
  rw[hf]at hs
  simp only[Option.map_some,Option.some.injEq]at hs
  have hk:=(List.findIdx?_eq_some_iff_getElem.1 hf).1
  have hst:=h.st
  subst hs
  refine h.sts _ ?_
  rw[List.getD_eq_getElem?_getD,List.getElem?_eq_getElem (by omega)]
  simp
theorem LW.import{p:Pl}{F:aai}{G:R.Wd}{w:World}(h:LW p F G w){i:Nat}{c:R.Cl}{name:List UInt8}{uid:Int}(hc:G.clients[i]?=some c)(hl:name.length≤1000)(hs:aar G name=some uid) :
  Calls Tryz.prog 62 #[ptr p.x,.int .i64 (i:Int),.string (str name)] w fun e w'=>e=.returned (.tuple #[.int .i64 uid,.int .i64 (aan G uid),.int .i64 0])∧LW p F (aap G i uid) w'∧Went F F w w':=by
 have hi:=(List.getElem?_eq_some_iff.1 hc).1
 have hu:=ame h.wf hs
 have hsv:=h.wf.sv
 obtain⟨k,hk⟩:∃k:Nat,uid=(k:Int)+1:=⟨(uid-1).toNat,by omega⟩
 have hkl:k<G.services.length:=by omega
 have hlook:=ah7 h.names (s:=name) (by unfold maxLen;omega)
 rw[hs]at hlook
 simp only[Option.getD_some,Option.isSome_some]at hlook
 have hgk:G.services[k]?=some (G.services[k]'hkl):=List.getElem?_eq_getElem hkl
 have hkd:aan G uid=(G.services[k]'hkl).kind:=by
  unfold aan
  rw[show (uid-1).toNat=k by omega,hgk]
  rfl
 obtain⟨z,hz,hz1⟩:=afE h.srv.zs hgk
 have hzl:p.t.zs.length=G.services.length:=by rw[←h.srv.zs,List.length_map]
 obtain⟨g,cap,cur,hK,_,_,hcell,_⟩:=h.srv.madeAt hz
 have hz2:z.1.kind=aan G uid:=by rw[hz1,hkd]
 rw[hz2]at hcell
 rw[hk]at hlook ⊢
 have hfd:=ale w p.s p.nm g p.t.zs.length cap k (str name) (aan G uid) (aaa h.srv.bs 5 _ rfl) (aaa h.srv.bs 6 _ (by rw[←hK];rfl)) (by omega) (by omega) hcell hlook
 rw[hk]at hfd
 refine ahh w p.x p.n p.s p.cs G.clients.length p.cap (p.cb i) (p.bm i) i (str name) ((k:Int)+1) (aan G ((k:Int)+1)) (fun w'=>LW p F (aap G i ((k:Int)+1)) w'∧Went F F w w') h.bx hi (h.csAt hi) (ail h hc).a2 hfd ?_
 intro w1 hb
 have hfew:=aqa (N:=255) (fun u hu'=>by have:=(h.wf.cl i c hc).bound u hu';omega)
 have hmk:-9223372036854775808≤aan G ((k:Int)+1)∧aan G ((k:Int)+1)≤9223372036854775807:=by
  rw[hk]at hkd
  have:=h.wf.svk _ (List.mem_of_getElem? hgk)
  omega
 obtain⟨w2,hrun,hm,htn⟩:=aot ((h.bound i c hc).keep (Keeps.ofBelow hb (fun _=>False)) (fun e=>e)) (by omega) (u:=(k:Int)+1) (v:=aan G ((k:Int)+1)) (by omega) hmk (aaJ G {c with bound:=c.bound++[(k:Int)+1]}) (fun x=>⟨fun e=>by subst e;simp[aaJ],fun e=>by
  unfold aaJ
  simp[e]⟩)
 refine⟨w2,hrun,h.bind hc (by omega) hb (adk htn) ?_⟩
 rw[ahv]
 have hbo:(aaJ G c ((k:Int)+1)).isSome=decide (((k:Int)+1)∈c.bound):=by
  unfold aaJ
  by_cases hq:((k:Int)+1)∈c.bound <;> simp[hq]
 rw[hbo]at hm
 by_cases hq:((k:Int)+1)∈c.bound
 ·rw[if_pos ((alr _ _).2 hq)]
  simpa [hq] using hm
 ·rw[if_neg (fun q=>hq ((alr _ _).1 q))]
  simpa [hq] using hm
end Go.Proofs.YtblomippkddgiaaGreatDoor
