import Derived.Test.YtblomippkddgiabGreatDoorJ24
import Derived.Conc.SmallLaws
set_option maxRecDepth 100000
set_option maxHeartbeats 1000000
namespace Go.Proofs.YtblomippkddgiabGreatDoor
open Go.RowKit
variable {TL:Array Value}{F:Aq}{k rt tr uid:Int}{l:List R.En}{name:List UInt8}{b i j n nb:Nat}{p:Pl}{c:R.Cl}{G:R.Wd}{K W:Value}{BX w w':World}
theorem YJ{s:List UInt8}(h:R.CZ s=true)(i:Nat)(hi:i<(str s).size):97<=(((str s)[i]'hi).toNat:Int)/\(((str s)[i]'hi).toNat:Int)<=122:=by
 unfold R.CZ at h;simp only[Bool.and_eq_true,decide_eq_true_eq,List.all_eq_true]at h;have hg:=PZ s i hi;have:=h.2 _ (afU hg);omega
theorem Js(s:List UInt8)(h:R.CZ s=true)(w:World):Calls Tryz.prog 142 #[.string (str s)] w fun e w'=>e=.returned (.bool true)/\w'=w:=by
 have HA:=Ac (YJ h);have hz:(str s).size=s.length:=Ax s;have hl:1<=(str s).size/\(str s).size<=8:=by
  unfold R.CZ at h;simp only[Bool.and_eq_true,decide_eq_true_eq]at h;omega
 generalize str s=S at *;clear h hz;obtain⟨n,hn⟩:∃n,S.size=n:=⟨_,rfl⟩;rw[hn]at hl;go_enter Tryz.func142,Tryz.ntmps142;go_wp2;go_loopw [14] (fun iv wr=>∃i:Nat,i<=n/\iv=.int .i64 i/\wr=w) (fun iv _=>n-(intOf iv).toNat)
 case atStart=>exact⟨0,af8 _,rfl,rfl⟩
 case round=>
  obtain⟨i,hi,rfl,rfl⟩:=hrel;by_cases aa:i<n
  ·have hq:=(Aa HA) i (by omega);obtain⟨h1,h2⟩:=hq;go_wp2;exact⟨⟨i+1,by omega,by go_num,trivial⟩,by simp[intOf];omega⟩
  ·obtain rfl:i=n:=by omega
   go_wp2;go_returns;exact⟨rfl,rfl⟩
theorem adt:∀args w,(callFunc 146 args).run Tryz.prog w=.ok (.enter 146 args) w:=fun _ _=>rfl
theorem QD(w:World)(s nm m c nn:Nat)(a:Option Addr)(name:List UInt8)(kind u:Int)(A C:World->Prop)(ac:R.CZ name=true)(hk:0<=kind/\kind<=2)(c5:w.cell? ⟨s,5,none⟩=some (.map (some nm)))(c6:w.cell? ⟨s,6,none⟩=some (.slice a m c))(hm:m<255)(an:nn<6)
  (aa:(Instr.lookup 134 (.map (some nm)) (.string (str name)) true).run Tryz.prog w=.ok (.tuple #[.int .i64 0,.bool false]) w)
  (ae:(Builtin.len_ #[134] 3 #[.map (some nm)]).run Tryz.prog w=.ok (.int .i64 (nn:Int)) w)
  (aj:Hid (Calls Tryz.prog 145 #[ptr s,.int .i64 kind] w fun e w'=>e=.returned (.int .i64 u)/\A w'))
  (HA:Hid (∀w',A w'->w'.cell? ⟨s,5,none⟩=some (.map (some nm))))
  (ad:Hid (∀w1 w2,A w1->Below w1.heap.size w1 w2->∃w3,(Instr.mapUpdate 134 (.map (some nm)) (.string (str name)) (.int .i64 u)).run Tryz.prog w2=.ok () w3/\C w3)):
  Calls Tryz.prog 83 #[ptr s,.string (str name),.int .i64 kind] w fun e w'=>e=.returned (.tuple #[.int .i64 u,.int .i64 0])/\C w':=by
 have ai:=Ac (fun w=>Js name ac w);have ag:name.length<=1000:=by
  unfold R.CZ at ac;simp only[Bool.and_eq_true,decide_eq_true_eq]at ac;omega
 have ak:=Ac (fun w=>Ei name w ag);have ah:Hid (∀w,Calls Tryz.prog 143 #[.int .i64 kind] w fun e w'=>e=.returned (.bool true)/\w'=w):=fun w=>by
  refine(Cm kind w).mono ?_;rintro e w' ⟨rfl,rfl⟩;refine⟨?_,rfl⟩;have:(kind==0 || kind==1 || kind==2)=true:=by simp;omega
  rw[this]
 have e1:((nn:Int)==6)=false:=by simp;omega
 have e2:((m:Int)==255)=false:=by simp;omega
 generalize str name=SN at *;clear ac hm an ag;go_enter Tryz.func83,Tryz.ntmps83;go_wp2_with (first|(go_at_call 142;refine((Aa ai) _).mono ?_;rintro e w' ⟨rfl,ab⟩;rw[ab];clear ab)|(go_at_call 143;refine((Aa ah) _).mono ?_;rintro e w' ⟨rfl,ab⟩;rw[ab];clear ab))
 refine(Aa aj).mono ?_;rintro e w1 ⟨rfl,hA⟩;have d0:=(Aa HA) w1 hA;have am:=lt_of_cell d0;have al:=Ac hA;clear hA aa ae c5 c6;go_wp2;go_region_law (refine Av rfl 146 #[.tmp 53] #[9] rfl adt #[.string SN] rfl _ ((Aa ak) _) ?_;rintro e w2 ⟨rfl,hb⟩;have f0:w2.cell? ⟨s,5,none⟩=some (.map (some nm)):=(hb.cell (p:=⟨s,5,none⟩) am).trans d0;have af:=(Aa ad) w1 w2 (Aa al) (D7 hb);obtain⟨w3,ao,hC⟩:=af;have HC:=Ac hC;clear hC hb;refine⟨_,rfl,?_⟩)
 all_goals
  go_wp2;go_returns;exact⟨rfl,Aa HC⟩
def BJ(G:R.Wd)(name:List UInt8)(kind:Int):R.Wd:={G with names:=G.names++[name],stands:=G.stands++[(G.Ab.length:Int)+1],Ab:=G.Ab++[⟨kind,true,[]⟩]}
theorem QE(h:R.Wf G){kind:Int}(hn:¬name∈G.names)(h6:G.names.length<6)(aa:G.Ab.length<255)(hk:0<=kind/\kind<=2):R.Wf (BJ G name kind):=by
 refine⟨h.cf,h.Gt,fun i c hc=>?_,h.E3,h.Eo,by simp[BJ];omega,fun s hs=>?_,by simp[BJ];omega,by simp[BJ,h.st],?_,fun u hu=>?_⟩
 ·have h0:=h.cl i c hc;refine⟨h0.lines,h0.Ae,fun u hu=>?_,h0.line⟩;have:=h0.bound u hu;simp[BJ];omega
 ·rcases agb.1 hs with hs|hs
  ·exact h.Kh s hs
  ·simp only[af3]at hs;subst hs;exact hk
 ·show (G.names++[name]).Nodup;rw[List.nodup_append];refine⟨h.nd,by simp,fun a ha b hb e=>?_⟩;simp only[af3]at hb;subst hb;exact hn (e ▸ ha)
 ·rcases agb.1 hu with hu|hu
  ·have:=h.I5 u hu;simp[BJ];omega
  ·simp only[af3]at hu;subst hu;simp[BJ];omega
theorem Ui(hn:¬name∈G.names):AF G name=none:=by
 unfold AF R.BI;rw[ag0.2 (fun x hx=>by simp;exact fun e=>hn (e ▸ hx))];rfl
theorem Nz(aa:G.stands.length=G.names.length){kind:Int}(hn:¬name∈G.names)(x:List UInt8):(x=name->AF (BJ G name kind) x=some ((G.Ab.length:Int)+1))/\(¬x=name->AF (BJ G name kind) x=AF G x):=by
 unfold AF R.BI BJ;simp only[List.findIdx?_append];constructor
 ·rintro rfl;rw[ag0.2 (fun y hy=>by simp;exact fun e=>hn (e ▸ hy))];simp[List.findIdx?_cons,aa]
 ·intro hx;cases hf:G.names.findIdx? (·==x) with
  |some k=>
   have hk:=(agZ.1 hf).1;simp[List.getElem?_append_left (show k<G.stands.length by omega)]
  |none=>
   have:(name==x)=false:=by simpa using fun e=>hx e.symm
   simp[List.findIdx?_cons,this]
theorem Works.BP(h:Works w F l b K k W):F b:=by
 cases h<;>assumption
theorem Works.wide{F':Aq}(h:Works w F l b K k W)(hF:∀k,F k->F' k):Works w F' l b K k W:=h.keep (Af.refl (fun _=>False) w) (fun _ _ _ _ _ _ _ q=>q) hF
def YO(kind:Int)(b:Nat):R.Sv×MV:=(⟨kind,true,[]⟩,⟨.iface (EF kind) (ptr b),.slice none 0 0,b,.slice none 0 0⟩)
theorem IA{α:Type}{l:List α}{x y:α}(h:(l++[x])[i]?=some y):l[i]?=some y\/(i=l.length/\y=x):=by
 rcases Nat.lt_trichotomy i l.length with q|q|q
 ·rw[af4 q]at h;exact afJ h
 ·subst q;simp at h;exact afM ⟨rfl,h.symm⟩
 ·rw[agh (by omega),List.getElem?_singleton,if_neg (by omega)]at h;cases h
theorem Cg.begun{s nm:Nat}{t:SP}{c:R.Cf}{sv:List R.Sv}{Aj:List Int}{seen:List R.Sn}{jobs:List R.Jb}{kind:Int}{K':Value}(h:Cg s n nm t F c sv Aj seen jobs w)(ah:∀k,F k->k<w.heap.size)(hb:L8 w s (Ce n nm t c Aj seen) t.K t.zs.length (tab GX t.zs) kind K' w'):Cg s n nm {t with K:=K',zs:=t.zs++[YO kind w.heap.size]} (fun k=>F k\/k=w.heap.size\/K'.ownBlock=some k) c (sv++[⟨kind,true,[]⟩]) Aj seen jobs w':=by
 obtain⟨f1,f2,f3⟩:=h.BP;obtain⟨b1,b2,b3,b4,hk⟩:=hb;have ag:JD w F (fun k=>k=s\/t.K.ownBlock=some k):=fun b aj t' z' _ ht aa hE=>by
  rcases hE with rfl|e
  ·rw[h.bs]at aa;cases aa;cases ht
  ·rcases id h.made.2 with ⟨q,_⟩|⟨g,cap,ab,q,_,hg,_⟩
   ·rw[q]at e;cases e
   ·rw[q]at e;cases e;rw[hg]at aa;cases aa;cases ht
 have alive:∀{i:Nat} {z:R.Sv×MV},t.zs[i]?=some z->z.1.alive=true->z.2.sb<w.heap.size:=fun hz ha=>by
  have:=(h.each _ (afU hz)).wk;rw[if_pos ha]at this;exact ah _ this.BP
 refine⟨b1,?_,?_,fun z hz=>?_,fun i j z y hz hy ac k af=>?_,fun i j z y hz hy ac ad ae=>?_,fun i r hr ai=>?_,h.inj,?_,afJ f1,afJ f2,fun j hj=>afM (afM hj)⟩
 ·simp only[agw,h.zs];rfl
 ·simp only[afS,agA,EV];exact b2
 ·rcases agb.1 hz with q|q
  ·exact(h.each z q).keep hk ag (fun _ r=>afJ r)
  ·rw[af3.1 q];refine⟨?_,⟨[],rfl,⟨rfl,afJ ⟨rfl,rfl⟩⟩,fun y hy=>by cases hy⟩,fun j hj=>by cases hj⟩;rw[if_pos (show (YO kind w.heap.size).1.alive=true from rfl)];exact b3.wide (fun k r=>afM (afJ r))
 ·rcases IA hz with q|⟨q,rfl⟩
  ·rcases IA hy with r|⟨r,rfl⟩
   ·exact h.dns i j z y q r ac k af
   ·intro e;cases e
  ·cases af
 ·rcases IA hz with q|⟨q,rfl⟩
  ·rcases IA hy with r|⟨r,rfl⟩
   ·exact h.Z8 i j z y q r ac ad ae
   ·have:=alive q ad;refine⟨fun e=>?_,fun k _ e=>by cases e⟩;simp only[YO]at e;omega
  ·rcases IA hy with r|⟨r,rfl⟩
   ·have:=alive r ae;refine⟨fun e=>?_,fun k e=>by cases e⟩;simp only[YO]at e;omega
   ·omega
 ·obtain⟨y,h1,h2,h3⟩:=h.ln i r hr ai;refine⟨y,hk.at h1 ?_,h2,afJ h3⟩;rintro (e|e)
  ·exact AZ h1 h.bs (by decide) e
  ·exact AV h.made h1 (by decide) e
 ·obtain⟨a,b,hj⟩:=h.jobs;refine⟨a,b,hk.at hj ?_⟩;rintro (e|e)
  ·rw[e,h.bs]at hj;cases hj
  ·rcases id h.made.2 with ⟨q,_⟩|⟨g,cap,ab,q,_,hg,_⟩
   ·rw[q]at e;cases e
   ·rw[q]at e;cases e;rw[hg]at hj;cases hj
theorem LW.begun(h:LW p F G w){kind:Int}(hk:0<=kind/\kind<=2)(aa:G.Ab.length<255):
  Calls Tryz.prog 145 #[ptr p.s,.int .i64 kind] w fun e w'=>e=.returned (.int .i64 ((G.Ab.length:Int)+1))/\∃t F',LW {p with t:=t} F' {G with Ab:=G.Ab++[⟨kind,true,[]⟩]} w'/\Ap F F' w w':=by
 have ad:p.t.zs.length=G.Ab.length:=by rw[<-h.BN.zs,af0]
 obtain⟨a,c,hK⟩:=AX h.BN.made;have hm:=h.BN.made;rw[hK]at hm;refine(Vq w p.s p.t.zs.length c (Ce p.n p.nm p.t G.c G.Aj G.seen) (tab GX p.t.zs) a kind hk h.BN.bs (by rw[<-hK];rfl) hm (by omega)).mono ?_;rintro e w' ⟨rfl,K',hb⟩;rw[<-hK]at hb;refine⟨by rw[ad],{p.t with K:=K',zs:=p.t.zs++[YO kind w.heap.size]},fun k=>F k\/k=w.heap.size\/K'.ownBlock=some k,?_,?_⟩
 ·have hs:=h.BN.begun h.lt hb;have hE:Ca w (fun k=>k=p.s\/p.t.K.ownBlock=some k):=(Ca.one h.BN.bs (by decide)).or (Ca.row h.BN.made (by decide));refine h.Ha hs hb.keeps hE (fun _ q=>afJ q) (fun k ab=>?_) ?_ h.Db (fun i c hc u=>?_)
  ·have ac:=hb.keeps.size;rcases ab with q|q|q
   ·exact afT (h.lt k q) ac
   ·have:=hb.wk;subst q;cases this with
    |counter _ h2 _=>exact(afR.1 h2).1
    |FJ _ h2 _ _=>exact(afR.1 h2).1
    |Jo _ _ _ _ h2 _ _ _ _=>exact(afR.1 h2).1
   ·exact(World.ownsRow.lt hb.row k q).2
  ·refine h.wf.serve hk aa h.wf.nm h.wf.st h.wf.nd (fun u hu=>?_);have:=h.wf.I5 u hu;omega
  ·unfold BL;by_cases hu:u∈c.bound
   ·rw[if_pos hu,if_pos hu];have:=(h.wf.cl i c hc).bound u hu;unfold kindOf;simp only;rw[af4 (by omega)]
   ·rw[if_neg hu,if_neg hu]
 ·refine⟨hb.keeps.mono (fun k _ q=>?_),fun k q=>?_⟩
  ·rcases q with rfl|q
   ·exact h.BN.BP.1
   ·exact h.BN.BP.2.2 k q
  ·rcases q with q|q|q
   ·exact afJ q
   ·exact afM (by omega)
   ·rcases hb.at' with e|⟨j,e,hj⟩
    ·exact afJ (h.BN.BP.2.2 k (e ▸ q))
    ·rw[e]at q;cases q;exact afM (by omega)
theorem LW.Q0(h:LW p F G w){N:List (List UInt8)}{S:List Int}(hk:Af (fun k=>k=p.nm) w w')(hm:Mp w' 9 p.nm NU (AF {G with names:=N,stands:=S}) N.length)(ae:R.Wf {G with names:=N,stands:=S}):LW p F {G with names:=N,stands:=S} w'/\Ap F F w w':=by
 obtain⟨hx,hn,af,ad⟩:=h.BP;obtain⟨es,q,hq⟩:=h.names.block;have ab:Avoid w F (fun k=>k=p.nm):=Avoid.tags (fun b hb=>afM ⟨es,q,by subst hb;exact hq⟩);have aa:=fun (i:Nat) (c:R.Cl) (hc:G.Ad[i]?=some c)=>(afG.1 hc).1
 have at':∀{b:Nat} {ys:Array Value} {t:TypeId} {f:Nat×Nat},w.heap[b]?=some (.cells ys t f)->w'.heap[b]?=some (.cells ys t f):=fun hb=>hk.at hb (Fv hb hq)
 refine⟨⟨ae,h.Db,at' h.bx,?_,?_,h.BN.keep hk ab (fun _ r=>r),hm,fun i c hc=>at' (h.cl i c hc),fun i c hc=>?_,fun i c hc=>(h.bound i c hc).keep hk (h.FG i (aa i c hc)).2.2.2,h.BP,h.FG,h.inj,fun k hf=>afT (h.lt k hf) hk.size⟩,hk.mono (fun k _ e=>by rw[e];exact ad),fun _ r=>afJ r⟩
 ·obtain⟨ac,h1,h2⟩:=h.XH;exact⟨ac,at' h1,h2⟩
 ·obtain⟨K,h1,h2,h3⟩:=h.bn;exact⟨K,at' h1,hk.row h2 (fun j hj e=>FU h2 hq (e ▸ hj)),h3⟩
 ·obtain⟨xs,h1,h2,h3⟩:=h.ln i c hc;exact⟨xs,at' h1,h2,h3.Eg hk ab.sv (fun _ r=>r)⟩
theorem LW.exported(h:LW p F G w){kind:Int}(ac:R.CZ name=true)(hk:0<=kind/\kind<=2)(hn:¬name∈G.names)(h6:G.names.length<6)(ab:G.Ab.length<255):
  Calls Tryz.prog 83 #[ptr p.s,.string (str name),.int .i64 kind] w fun e w'=>e=.returned (.tuple #[.int .i64 ((G.Ab.length:Int)+1),.int .i64 0])/\∃t F',LW {p with t:=t} F' (BJ G name kind) w'/\Ap F F' w w':=by
 obtain⟨a,c,hK⟩:=AX h.BN.made;have aj:name.length<=8:=by
  unfold R.CZ at ac;simp only[Bool.and_eq_true,decide_eq_true_eq]at ac;omega
 have ak:p.t.zs.length=G.Ab.length:=by rw[<-h.BN.zs,af0]
 have af:=Ui hn;have aa:=M4 h.names (s:=name) (by unfold maxLen;omega);rw[af]at aa;have ai:=QE h.wf (name:=name) (kind:=kind) hn h6 ab hk;refine QD w p.s p.nm p.t.zs.length c G.names.length a name kind _ (fun w'=>∃t F',LW {p with t:=t} F' {G with Ab:=G.Ab++[⟨kind,true,[]⟩]} w'/\Ap F F' w w') _ ac hk (cell_of h.BN.bs 5 _ rfl) (cell_of h.BN.bs 6 _ (by rw[<-hK];rfl)) (by omega) h6 aa (h.names.len Tryz.underlying134 3) (h.begun hk ab) ?_ ?_
 ·rintro w' ⟨t,F',hL,_⟩;exact cell_of hL.BN.bs 5 _ rfl
 ·rintro w1 w2 ⟨t,F',hL,hW⟩ hb;have ae:=hL.below hb;obtain⟨w3,ad,hm,ah⟩:=Vb ae.names (by simp only;omega) (s:=name) (by unfold maxLen;omega) (v:=(G.Ab.length:Int)+1) (by omega) (AF (BJ G name kind)) (Nz h.wf.st hn);refine⟨w3,ad,t,F',?_⟩;have ag:AF {G with Ab:=G.Ab++[⟨kind,true,[]⟩]} name=none:=af;rw[ag]at hm;have q:=ae.Q0 (N:=G.names++[name]) (S:=G.stands++[(G.Ab.length:Int)+1]) (Hf ah) (by simpa [BJ] using hm) ai;exact⟨q.1,(hW.trans (Ap.Al F' hb)).trans q.2⟩
theorem Pj(l:List Int)(u:Int):dd (l++[u])=if u∈dd l then dd l else dd l++[u]:=by
 unfold dd;rw[agU];rfl
theorem RJ{P:List Int->Prop}(h0:P [])(hs:∀l a,P l->P (l++[a]))(l:List Int):P l:=by
 have h:∀r:List Int,P r.reverse:=fun r=>by
  induction r with
  |nil=>exact h0
  |cons a r ih=>rw[List.reverse_cons];exact hs _ _ ih
 simpa using h l.reverse
theorem SS(l:List Int):∀u,u∈dd l↔u∈l:=by
 refine RJ (P:=fun l=>∀u,u∈dd l↔u∈l) ?_ ?_ l
 ·simp[dd]
 ·intro l a ih u;rw[Pj];split
  ·rename_i h;rw[ih u];simp only[agb,af3];constructor
   ·exact afJ
   ·rintro (q|rfl)
    ·exact q
    ·exact(ih u).1 h
  ·simp[ih u]
theorem XX(l:List Int):(dd l).Nodup:=by
 refine RJ (P:=fun l=>(dd l).Nodup) ?_ ?_ l
 ·simp[dd]
 ·intro l a ih;rw[Pj];split
  ·exact ih
  ·rename_i h;rw[List.nodup_append];exact⟨ih,by simp,fun x hx y hy e=>by simp only[af3]at hy;subst hy;exact h (e ▸ hx)⟩
theorem adI:∀(N:Nat) (l:List Int),l.Nodup->(∀u∈l,1<=u/\u<=(N:Int))->l.length<=N
 |0,[],_,_=>afI _
 |0,u :: l,_,h=>by have:=h u (by simp);omega
 |N+1,l,hd,h=>by
  have h1:=adI N (l.erase ((N:Int)+1)) (hd.erase _) (fun u hu=>by
   have hm:=List.mem_of_mem_erase hu;have aa:u≠(N:Int)+1:=fun e=>by subst e;exact hd.not_mem_erase hu
   have:=h u hm;omega)
  have:=List.length_erase_le (a:=(N:Int)+1) (l:=l);by_cases hm:((N:Int)+1)∈l
  ·rw[List.length_erase_of_mem hm]at h1;omega
  ·rw[List.erase_of_not_mem hm]at h1;omega
theorem acd{l:List Int}{N:Nat}(h:∀u∈l,1<=u/\u<=(N:Int)):(dd l).length<=N:=adI N (dd l) (XX l) (fun u hu=>h u ((SS l u).1 hu))
theorem VS(w:World)(s nm g m c k:Nat)(S:ByteArray)(kind:Int)(c5:w.cell? ⟨s,5,none⟩=some (.map (some nm)))(c6:w.cell? ⟨s,6,none⟩=some (.slice (some ⟨g,0,none⟩) m c))(hk:k<m)(hm:m<=255)(ad:w.cell? ⟨g,k*3,none⟩=some (.int .i64 kind))
  (aa:(Instr.lookup 134 (.map (some nm)) (.string S) true).run Tryz.prog w=.ok (.tuple #[.int .i64 ((k:Int)+1),.bool true]) w):
  Calls Tryz.prog 84 #[ptr s,.string S] w fun e w'=>e=.returned (.tuple #[.int .i64 ((k:Int)+1),.int .i64 kind,.int .i64 0])/\Below w.heap.size w w':=by
 have ac:=Ac (Ey w.drew s g k m c c6 hk hm);clear c6;go_enter Tryz.func84,Tryz.ntmps84;go_wp2;go_region_held3 (fun w'=>w'.cell? ⟨g,k*3,none⟩=some (.int .i64 kind)) (go_keep) ((go_at_call 38;refine(Aa ac).mono ?_;rintro e w1 ⟨rfl,ab⟩;rw[ab];clear ab))
 go_wp2;go_returns;exact⟨rfl,(Below.refl _ _).drew⟩
theorem QO(w:World)(x n s cs cn cap cb bm i:Nat)(S:ByteArray)(uid kind:Int)(C:World->Prop)(hx:w.heap[x]?=some (.cells #[ptr n,ptr s,.slice (some ⟨cs,0,none⟩) cn cap] 71 (0,0)))(hi:i<cn)(ac:w.cell? ⟨cs,i,none⟩=some (ptr cb))(ab:w.cell? ⟨cb,2,none⟩=some (.map (some bm)))
  (ad:Hid (Calls Tryz.prog 84 #[ptr s,.string S] w fun e w'=>e=.returned (.tuple #[.int .i64 uid,.int .i64 kind,.int .i64 0])/\Below w.heap.size w w'))
  (aa:Hid (∀w1,Below w.heap.size w w1->∃w2,(Instr.mapUpdate 130 (.map (some bm)) (.int .i64 uid) (.int .i64 kind)).run Tryz.prog w1=.ok () w2/\C w2)):
  Calls Tryz.prog 50 #[ptr x,.int .i64 (i:Int),.string S] w fun e w'=>e=.returned (.tuple #[.int .i64 uid,.int .i64 kind,.int .i64 0])/\C w':=by
 have q1:(0:Int)<=(i:Int):=by omega
 have q2:(i:Int)<(cn:Int):=by omega
 have c1:w.cell? ⟨x,1,none⟩=some (ptr s):=cell_of hx 1 _ rfl;have c2:w.cell? ⟨x,2,none⟩=some (.slice (some ⟨cs,0,none⟩) cn cap):=cell_of hx 2 _ rfl;have l1:=lt_of_cell c1;have l2:=lt_of_cell ac;have l3:=lt_of_cell ab;clear hx;go_enter Tryz.func50,Tryz.ntmps50;go_wp2_with (first|(go_at_call 35;go_in))
 refine(Aa ad).mono ?_;rintro e w1 ⟨rfl,hb⟩;have d2:w1.cell? ⟨x,2,none⟩=some (.slice (some ⟨cs,0,none⟩) cn cap):=(hb.cell (p:=⟨x,2,none⟩) l1).trans c2;have d3:w1.cell? ⟨cs,i,none⟩=some (ptr cb):=(hb.cell (p:=⟨cs,i,none⟩) l2).trans ac;have d4:w1.cell? ⟨cb,2,none⟩=some (.map (some bm)):=(hb.cell (p:=⟨cb,2,none⟩) l3).trans ab;obtain⟨w2,ae,hC⟩:=(Aa aa) w1 hb;have HC:=Ac hC;clear hb hC c1 c2 ac ab;go_wp2_with (first|(go_at_call 85;go_in))
 go_returns;exact⟨rfl,Aa HC⟩
theorem Lb(w:World)(x n s cs cn cap:Nat)(S:ByteArray)(kind uid er:Int)(C:World->Prop)(hx:w.heap[x]?=some (.cells #[ptr n,ptr s,.slice (some ⟨cs,0,none⟩) cn cap] 71 (0,0)))(aa:Hid (Calls Tryz.prog 83 #[ptr s,.string S,.int .i64 kind] w fun e w'=>e=.returned (.tuple #[.int .i64 uid,.int .i64 er])/\C w')):
  Calls Tryz.prog 48 #[ptr x,.string S,.int .i64 kind] w fun e w'=>e=.returned (.tuple #[.int .i64 uid,.int .i64 er])/\C w':=by
 have c1:w.cell? ⟨x,1,none⟩=some (ptr s):=cell_of hx 1 _ rfl;clear hx;go_enter Tryz.func48,Tryz.ntmps48;go_wp2_with fail
 refine(Aa aa).mono ?_;rintro e w1 ⟨rfl,hC⟩;go_wp2;go_returns;exact⟨rfl,hC⟩
def A1(G:R.Wd)(i:Nat)(uid:Int):R.Wd:={G with Ad:=G.Ad.modify i fun c=>{c with bound:=c.bound++[uid]}}
theorem CJ:(A1 G i uid).Ad[j]?=(G.Ad[j]?).map fun c=>if i=j then {c with bound:=c.bound++[uid]} else c:=by
 simp only[A1,agm];by_cases h:i=j<;>simp[h]
theorem Dc{c':R.Cl}(h:(A1 G i uid).Ad[j]?=some c'):∃c0,G.Ad[j]?=some c0/\c'=(if i=j then {c0 with bound:=c0.bound++[uid]} else c0):=by
 rw[CJ]at h;cases h0:G.Ad[j]? with
 |none=>rw[h0]at h;cases h
 |some c0=>rw[h0]at h;exact⟨c0,rfl,(Option.some.inj h).symm⟩
theorem QP(h:R.Wf G)(hu:1<=uid/\uid<=(G.Ab.length:Int)):R.Wf (A1 G i uid):=by
 refine⟨h.cf,by simpa [A1] using h.Gt,fun j c hc=>?_,h.E3,h.Eo,h.sv,h.Kh,h.nm,h.st,h.nd,h.I5⟩;obtain⟨c0,h0,rfl⟩:=Dc hc;have q:=h.cl j c0 h0;split
 ·refine⟨q.lines,q.Ae,fun u aa=>?_,q.line⟩;rcases agb.1 aa with aa|aa
  ·exact q.bound u aa
  ·simp only[af3]at aa;subst aa;exact hu
 ·exact⟨q.lines,q.Ae,q.bound,q.line⟩
theorem LW.bind{w1 w2:World}(h:LW p F G w)(hc:G.Ad[i]?=some c)(hu:1<=uid/\uid<=(G.Ab.length:Int))(hb:Below w.heap.size w w1)(ht:Af (fun k=>k=p.bm i) w1 w2)(hm:Mp w2 3 (p.bm i) Kz (BL G {c with bound:=c.bound++[uid]}) (dd (c.bound++[uid])).length):
  LW p F (A1 G i uid) w2/\Ap F F w w2:=by
 have hi:=(afG.1 hc).1;obtain⟨es,q,hq⟩:=(h.bound i c hc).block;have ab:Af (fun k=>k=p.bm i) w w2:=(Af.Al hb _).trans ht;have ad:Avoid w F (fun k=>k=p.bm i):=Avoid.tags (fun b hb=>afM ⟨es,q,by subst hb;exact hq⟩);have aa:(A1 G i uid).Ad.length=G.Ad.length:=by simp[A1]
 have at':∀{b:Nat} {ys:Array Value} {t:TypeId} {f:Nat×Nat},w.heap[b]?=some (.cells ys t f)->w2.heap[b]?=some (.cells ys t f):=fun hb=>ab.at hb (Fv hb hq)
 have af:∀{K:Value} {e:TypeId} {size n B:Nat} {xs:List Value},w.ownsRow B e size K n xs->w2.ownsRow B e size K n xs:=fun hr=>ab.row hr (fun j hj e=>FU hr hq (e ▸ hj))
 refine⟨⟨QP h.wf hu,h.Db,?_,?_,?_,?_,?_,fun j c' hj=>?_,fun j c' hj=>?_,fun j c' hj=>?_,h.BP,?_,?_,fun k hf=>afT (h.lt k hf) ab.size⟩,⟨ab.mono (fun k _ e=>by rw[e];exact(h.FG i hi).2.2.1),fun _ q=>afJ q⟩⟩
 ·rw[aa];exact at' h.bx
 ·rw[aa];obtain⟨ae,h1,h2⟩:=h.XH;exact⟨ae,at' h1,h2⟩
 ·obtain⟨K,h1,h2,h3⟩:=h.bn;exact⟨K,at' h1,af h2,h3⟩
 ·exact h.BN.keep ab ad (fun _ r=>r)
 ·exact h.names.keep ab (fun e=>(h.FG i hi).2.2.2 e.symm)
 ·obtain⟨c0,h0,rfl⟩:=Dc hj;have:=at' (h.cl j c0 h0);split<;>exact this
 ·obtain⟨c0,h0,rfl⟩:=Dc hj;obtain⟨xs,h1,h2,h3⟩:=h.ln j c0 h0;refine⟨xs,at' h1,?_⟩;have h4:=h3.Eg ab ad.sv (fun _ r=>r);split<;>exact⟨h2,h4⟩
 ·obtain⟨c0,h0,rfl⟩:=Dc hj;by_cases ac:i=j
  ·subst ac;obtain rfl:=Option.some.inj (hc.symm.trans h0);simp only[if_true];exact hm
  ·simp only[ac,if_false];exact(h.bound j c0 h0).keep ab (fun e=>(h.inj i j hi (afG.1 h0).1 ac).2.1 e.symm)
 ·rw[aa];exact h.FG
 ·rw[aa];exact h.inj
theorem ZU(h:R.Wf G)(hs:AF G name=some uid):1<=uid/\uid<=(G.Ab.length:Int):=by
 unfold AF R.BI at hs;cases hf:G.names.findIdx? (·==name) with
 |none=>rw[hf]at hs;cases hs
 |some k=>
  rw[hf]at hs;simp only[af9,Option.some.injEq]at hs;have hk:=(agZ.1 hf).1;have aa:=h.st;subst hs;refine h.I5 _ ?_;rw[afX,afH (by omega)];simp
theorem LW.import(h:LW p F G w)(hc:G.Ad[i]?=some c)(hl:name.length<=1000)(hs:AF G name=some uid):
  Calls Tryz.prog 50 #[ptr p.x,.int .i64 (i:Int),.string (str name)] w fun e w'=>e=.returned (.tuple #[.int .i64 uid,.int .i64 (kindOf G uid),.int .i64 0])/\LW p F (A1 G i uid) w'/\Ap F F w w':=by
 have hi:=(afG.1 hc).1;have hu:=ZU h.wf hs;have ap:=h.wf.sv;obtain⟨k,hk⟩:∃k:Nat,uid=(k:Int)+1:=⟨(uid-1).toNat,by omega⟩;have ai:k<G.Ab.length:=by omega
 have aa:=M4 h.names (s:=name) (by unfold maxLen;omega);rw[hs]at aa;simp only[af2,Option.isSome_some]at aa;have ac:G.Ab[k]?=some (G.Ab[k]'ai):=afH ai;have af:kindOf G uid=(G.Ab[k]'ai).kind:=by
  unfold kindOf;rw[show (uid-1).toNat=k by omega,ac];rfl
 obtain⟨z,hz,am⟩:=KV h.BN.zs ac;have aq:p.t.zs.length=G.Ab.length:=by rw[<-h.BN.zs,af0]
 obtain⟨g,cap,ao,hK,_,_,ab,_⟩:=h.BN.Jt hz;have an:z.1.kind=kindOf G uid:=by rw[am,af]
 rw[an]at ab;rw[hk]at aa ⊢;have ae:=VS w p.s p.nm g p.t.zs.length cap k (str name) (kindOf G uid) (cell_of h.BN.bs 5 _ rfl) (cell_of h.BN.bs 6 _ (by rw[<-hK];rfl)) (by omega) (by omega) ab aa;rw[hk]at ae;refine QO w p.x p.n p.s p.cs G.Ad.length p.cap (p.cb i) (p.bm i) i (str name) ((k:Int)+1) (kindOf G ((k:Int)+1)) (fun w'=>LW p F (A1 G i ((k:Int)+1)) w'/\Ap F F w w') h.bx hi (h.SQ hi) (Ic h hc).a2 ae ?_;intro w1 hb;have ah:=acd (N:=255) (fun u al=>by have:=(h.wf.cl i c hc).bound u al;omega);have aj:-9223372036854775808<=kindOf G ((k:Int)+1)/\kindOf G ((k:Int)+1)<=9223372036854775807:=by
  rw[hk]at af;have:=h.wf.Kh _ (afU ac);omega
 obtain⟨w2,ad,hm,ak⟩:=abj ((h.bound i c hc).keep (Af.Al hb (fun _=>False)) (fun e=>e)) (by omega) (u:=(k:Int)+1) (v:=kindOf G ((k:Int)+1)) (by omega) aj (BL G {c with bound:=c.bound++[(k:Int)+1]}) (fun x=>⟨fun e=>by subst e;simp[BL],fun e=>by
  unfold BL;simp[e]⟩)
 refine⟨w2,ad,h.bind hc (by omega) hb (Hf ak) ?_⟩;rw[Pj];have ag:(BL G c ((k:Int)+1)).isSome=decide (((k:Int)+1)∈c.bound):=by
  unfold BL;by_cases hq:((k:Int)+1)∈c.bound<;>simp[hq]
 rw[ag]at hm;by_cases hq:((k:Int)+1)∈c.bound
 ·rw[if_pos ((SS _ _).2 hq)];simpa [hq] using hm
 ·rw[if_neg (fun q=>hq ((SS _ _).1 q))];simpa [hq] using hm
abbrev UK(a b c d e:Int):Value:=.agg #[.int .i64 a,.int .i64 b,.int .i64 c,.int .i64 d,.int .i64 e]
def Qc:CU:=⟨0,0,.slice none 0 0,0,0,[],0,[],0,0⟩
theorem TG(n:Nat)(hn:1<=n/\n<=3)(W:World):(Instr.makeSlice 131 (.int .i64 (n:Int)) (.int .i64 (n:Int))).run Tryz.prog W=.ok (.slice (some ⟨W.heap.size,0,none⟩) n n) (W.alloc (.cells (tab CU.cells (List.replicate n Qc)).toArray 129)):=by
 have h3:n=1\/n=2\/n=3:=by omega
 rcases h3 with rfl|rfl|rfl
 ·show _=_;kernel_rfl
 ·show _=_;kernel_rfl
 ·show _=_;kernel_rfl
structure Sb(w w':World)(k:Nat)(Ae:Int)(n nb:Nat)(rt tr:Int)(cb lb bm:Nat):Prop where
 below:Below w.heap.size w w'
 c0:w.heap.size<=cb
 l0:w.heap.size<=lb
 b0:w.heap.size<=bm
 cell:w'.heap[cb]?=some (.cells #[.int .i64 (k:Int),.int .i64 Ae,.map (some bm),.slice (some ⟨lb,0,none⟩) n n,.int .i64 rt,.int .i64 tr,ptr nb] 133 (0,0))
 lines:w'.heap[lb]?=some (.cells (tab CU.cells (List.replicate n Qc)).toArray 129 (0,0))
 map:Mp w' 3 bm Kz (fun _=>none) 0
theorem CM(w:World)(o:Obj)(h:w.heap.size=n):(w.alloc o).heap[n]?=some o:=by
 subst h;exact heap_alloc_new w o
theorem Mp.above{α:Type}{k:TypeId}{lit:α->Lit}{g:α->Option Int}(h:Mp w k b lit g n)(hb:Below w.heap.size w w'):Mp w' k b lit g n:=h.keep (Af.Al hb (fun _=>False)) (fun e=>e)
theorem adz{k:Nat}(hb:Below w.heap.size w BX)(hT:TL=(tab CU.cells (List.replicate n Qc)).toArray):
  Sb w (((BX.alloc (.map #[] 0)).alloc (.cells TL 129)).alloc (.cells #[.int .i64 (k:Int),.int .i64 1,.map (some BX.heap.size),.slice (some ⟨BX.heap.size+1,0,none⟩) n n,.int .i64 rt,.int .i64 tr,ptr nb] 133)).drew k 1 n nb rt tr (BX.heap.size+1+1) (BX.heap.size+1) BX.heap.size:=by
 have s0:=hb.size;have e1:(BX.alloc (.map #[] 0)).heap.size=BX.heap.size+1:=by simp
 have e2:((BX.alloc (.map #[] 0)).alloc (.cells TL 129)).heap.size=BX.heap.size+1+1:=by simp
 refine⟨?_,by omega,by omega,by omega,?_,?_,?_⟩
 ·exact(((hb.alloc s0 _).alloc (by omega) _).alloc (by omega) _).drew
 ·rw[E0];exact CM _ _ e2
 ·rw[E0,Below.heap_alloc _ _ _ (by omega),<-hT];exact CM _ _ e1
 ·exact(Mp.made BX 3 Kz).above (((((Below.refl _ _).alloc (afI _) _).alloc (by omega) _)).drew)
theorem adA{k:Nat}(hb:Below w.heap.size w BX)(hT:TL=(tab CU.cells (List.replicate n Qc)).toArray):
  Sb w (((BX.alloc (.cells TL 129)).alloc (.map #[] 0)).alloc (.cells #[.int .i64 (k:Int),.int .i64 1,.map (some (BX.heap.size+1)),.slice (some ⟨BX.heap.size,0,none⟩) n n,.int .i64 rt,.int .i64 tr,ptr nb] 133)).drew k 1 n nb rt tr (BX.heap.size+1+1) BX.heap.size (BX.heap.size+1):=by
 have s0:=hb.size;have e1:(BX.alloc (.cells TL 129)).heap.size=BX.heap.size+1:=by simp
 have e2:((BX.alloc (.cells TL 129)).alloc (.map #[] 0)).heap.size=BX.heap.size+1+1:=by simp
 refine⟨?_,by omega,by omega,by omega,?_,?_,?_⟩
 ·exact(((hb.alloc s0 _).alloc (by omega) _).alloc (by omega) _).drew
 ·rw[E0];exact CM _ _ e2
 ·rw[E0,Below.heap_alloc _ _ _ (by omega),Below.heap_alloc _ _ _ (by omega),<-hT];exact CM _ _ rfl
 ·have h0:=Mp.made (BX.alloc (.cells TL 129)) 3 Kz;rw[e1]at h0;exact h0.above (((Below.refl _ _).alloc (by omega) _).drew)
theorem SE(w:World)(k n nb:Nat)(a rt tr tb:Int)(hn:1<=n/\n<=3):
  Calls Tryz.prog 47 #[.int .i64 (k:Int),UK a (n:Int) rt tr tb,ptr nb] w fun e w'=>∃cb lb bm,e=.returned (ptr cb)/\Sb w w' k 1 n nb rt tr cb lb bm:=by
 have ag:=TG n hn;have ah:=@run_makeMap Tryz.prog;obtain⟨TL,ac⟩:∃TL,TL=(tab CU.cells (List.replicate n Qc)).toArray:=⟨_,rfl⟩;rw[<-ac]at ag;have ad:=Ac ac;clear ac;obtain⟨BX,aa⟩:∃BX,w.alloc (.cells #[.int .i64 a,.int .i64 (n:Int),.int .i64 rt,.int .i64 tr,.int .i64 tb] 23)=BX:=⟨_,rfl⟩;have HB:Hid (Below w.heap.size w BX):=by
  rw[<-aa];exact(Below.refl _ _).alloc (afI _) _
 have ab:BX.heap[w.heap.size]?=some (.cells #[.int .i64 a,.int .i64 (n:Int),.int .i64 rt,.int .i64 tr,.int .i64 tb] 23 (0,0)):=by
  rw[<-aa];exact heap_alloc_new w _
 have hs:BX.heap.size=w.heap.size+1:=by rw[<-aa];simp
 have c1:BX.cell? ⟨w.heap.size,1,none⟩=some (.int .i64 (n:Int)):=cell_of ab 1 _ rfl;have c2:BX.cell? ⟨w.heap.size,2,none⟩=some (.int .i64 rt):=cell_of ab 2 _ rfl;have c3:BX.cell? ⟨w.heap.size,3,none⟩=some (.int .i64 tr):=cell_of ab 3 _ rfl;have m0:w.heap.size<BX.heap.size:=by omega
 have ae:=Ac aa;have HS:=Ac hs;have af:Hid (∀o1 o2 o3,(((BX.alloc o1).alloc o2).alloc o3).drew.cell? ⟨w.heap.size,1,none⟩=some (.int .i64 (n:Int))/\(((BX.alloc o1).alloc o2).alloc o3).drew.cell? ⟨w.heap.size,2,none⟩=some (.int .i64 rt)/\(((BX.alloc o1).alloc o2).alloc o3).drew.cell? ⟨w.heap.size,3,none⟩=some (.int .i64 tr)):=fun o1 o2 o3=>by
  have hb:Below BX.heap.size BX (((BX.alloc o1).alloc o2).alloc o3).drew:=((((Below.refl _ _).alloc (afI _) _).alloc (by simp) _).alloc (by simp;omega) _).drew;exact⟨(hb.cell (p:=⟨w.heap.size,1,none⟩) m0).trans c1,(hb.cell (p:=⟨w.heap.size,2,none⟩) m0).trans c2,(hb.cell (p:=⟨w.heap.size,3,none⟩) m0).trans c3⟩
 clear aa ab hs;go_enter Tryz.func47,Tryz.ntmps47;go_wp2_with fail
 rw[Aa ae];go_region_held3 (fun w'=>w'.cell? ⟨w.heap.size,1,none⟩=some (.int .i64 (n:Int))/\w'.cell? ⟨w.heap.size,2,none⟩=some (.int .i64 rt)/\w'.cell? ⟨w.heap.size,3,none⟩=some (.int .i64 tr)) (first|exact(Aa af) _ _ _|go_keep) (fail)
 all_goals
  go_wp2;go_returns
 ·exact⟨_,_,_,rfl,adz (Aa HB) (Aa ad)⟩
 ·exact⟨_,_,_,rfl,adA (Aa HB) (Aa ad)⟩
end Go.Proofs.YtblomippkddgiabGreatDoor
