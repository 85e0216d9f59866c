import Derived.Test.YtblomippkddgiabGreatDoorJ10
set_option maxRecDepth 100000
set_option maxHeartbeats 4000000
namespace Go.Proofs.YtblomippkddgiabGreatDoor
open Go.Proofs.Tryz RowKit
variable {TL:Array Value}{S:ByteArray}{F F':D9}{a kind life rt tr uid:Int}{l:List R.En}{seen:List R.Sn}{name:List UInt8}{B b bm bm' cap cb cb' cn cs_ dn g i j jc k lb' m n nb nm nn s tb u x:Nat}{o:Obj}{p:Pl}{c:R.Cf}{en:R.En}{G:R.Wd}{K K' O W X Zq d0 d1 d2 v y:Value}{BX w w' w1 w2 wr wz:World}
theorem tP{s:Ac}(h:R.Gf s=true)(i:Nat)(hi:i<(str s)):97<=(((str s)[i]'hi).toNat:Int)/\(((str s)[i]'hi).toNat:Int)<=122:=by
 unfold R.Gf at h;simp only[Dk,Db,CL]at h;have a:=K8 s i hi
 grind
theorem LU(s:Ac)(h:R.Gf s=true)(w:Aa):D7 142 #[.string (str s)] w DC λc=>c=w:=by
 have a:=Dx (tP h);have hz:=Er s;have hl:1<=(str s).size/\(str s).size<=8:=by
  unfold R.Gf at h;simp only[Dk,Db]at h;omega
 generalize str s=S at *;clear h hz;obtain⟨n,hn⟩:∃n,S.size=n:=DK;rw[hn]at hl
 delta D7
 go_in
 go_wp2;go_loopw [14] (λiv wr=>∃i:Nat,i<=n/\iv=Z i/\wr=w) (λiv _=>n-(intOf iv).toNat)
 case atStart=>exact⟨0,AV _,I,I⟩
 case round=>
  obtain⟨i,hi,rfl,rfl⟩:=hrel;by_cases b:i<n
  .have⟨d,e⟩:=(a i U);go_wp2;exact⟨⟨i+1,U,Kc,BR⟩,by simp[intOf];omega⟩
  .obtain rfl:i=n:=U;go_wp2;go_returns;exact DN
theorem af8:∀args w,(callFunc 146 args).run prog w=.ok (.enter 146 args) w:=λ_ _=>rfl
theorem YM{c:Nat}{a:Af}{u:Int}(A C:World->Prop)(hnm:R.Gf name=true)(hk:0<=kind/\kind<=2)(c5:EB w s 5 (.map (nm)))(c6:EB w s 6 (.slice a m c))(o:m<255)(l:nn<6)
  (d:(Instr.lookup 134 (.map (nm)) (.string (str name)) true).run prog w=.ok (.tuple #[Z 0,DI]) w)
  (g:(Builtin.len_ #[134] 3 #[.map (nm)]).run prog w=.ok (Z nn) w)
  (j:Hid (D7 145 #[ptr s,Z kind] w (Z u) λb=>A b))
  (n:Hid (∀b,A b->EB b s 5 (.map (nm))))
  (HPUT:Hid (∀w1 w2,A w1->DY w1 w2->∃w3,(Instr.mapUpdate 134 (.map (nm)) (.string (str name)) (Z u)).run prog w2=.ok () w3/\C w3)):
  D7 83 #[ptr s,.string (str name),Z kind] w (.tuple #[Z u,Z 0]) λb=>C b:=by
 have i:=Dx (λw=>LU name hnm w);have f:name.length<=1000:=by
  exact aaL
 have H71:=Dx (λw=>Kr name w f);have h:Hid (∀w,D7 143 #[Z kind] w DC λb=>b=w):=λw=>by
  exact adU
 have e1:((nn:Int)==6)=false:=Fy;have e2:((m:Int)==255)=false:=Fy;generalize str name=SN at *;clear hnm o l f
 delta D7
 go_in
 go_wp2_with (first|(go_at_call 142;refine cs (i _) ?_)|(go_at_call 143;refine cs (h _) ?_))
 refine cm j λw1 k=>?_
 have d0:=n w1 k;have hl1:=Gv d0;have HA1:=Dx k;clear k d g c5 c6;exact afs
def Hz(G:R.Wd)(name:Ac)(kind:Int):R.Wd:={G with e:=G.e++[name],f:=G.f++[(G.a:Int)+1],a:=G.a++[⟨kind,true,[]⟩]}
theorem YN(h:R.Wf G)(hn:¬name∈G.e)(d:G.e.length<6)(b:G.a.length<255)(hk:0<=kind/\kind<=2):R.Wf (Hz G name kind):=by
 refine⟨h.cf,h.a,λi c hc=>?_,h.X,h.b,by simp[Hz];omega,λs e=>?_,by simp[Hz];omega,by simp[Hz,h.st],?_,λu hu=>?_⟩
 .have a:=h.cl i c hc;refine⟨a.a,a.b,λu hu=>?_,a.H⟩;have:=a.d u hu;simp[Hz];omega
 all_goals grind [R.Wf,Hz]
theorem ij(hn:¬name∈G.e):Fu G name=none:=by grind [Fu,R.Gi,List.findIdx?_eq_none_iff]
theorem UT(a:G.f=G.e.length)(hn:¬name∈G.e)(x:Ac):(x=name->Fu (Hz G name kind) x=some ((G.a:Int)+1))/\(¬x=name->Fu (Hz G name kind) x=Fu G x):=by
 unfold Fu R.Gi Hz;simp only[List.findIdx?_append];constructor
 .rintro rfl;rw[Dm.2 (λy b=>by simp;exact λe=>hn (e ▸ b))];simp[List.findIdx?_cons,a]
 .intro c;cases hf:G.e.findIdx? (·==x) with
  |some k=>grind [List.findIdx?_eq_some_iff_getElem]
  |none=>grind
theorem Fp.A{k:Int}(h:Fp w F l b K k W):F b:=by
 cases h<;>assumption
theorem Fp.wide{k:Int}(h:Fp w F l b K k W)(a:∀k,F k->F' k):Fp w F' l b K k W:=h.keep (DF.refl (λ_=>False) w) (λ_ _ _ _ _ _ _ q=>q) a
def tV(kind:Int)(b:Nat):R.Sv×MV:=(⟨kind,true,[]⟩,⟨.iface (KT kind) (ptr b),.slice none 0 0,b,.slice none 0 0⟩)
theorem OB{α:Type}{l:List α}{x y:α}(h:(l++[x])[i]?=y):l[i]?=y\/(i=l/\y=x):=by grind
theorem G9.begun{t:SP}{sv:List R.Sv}{d:List Int}{o:List R.Jb}(h:G9 s n nm t F c sv d seen o w)(W:∀k,F k->k<w)(T:Tg w s (IW n nm t c d seen) t.K t.zs (tab Om t.zs) kind K' w'):G9 s n nm {t with K:=K',zs:=t.zs++[tV kind w]} (λk=>F k\/k=w\/K'.ownBlock=k) c (sv++[⟨kind,true,[]⟩]) d seen o w':=by
 have⟨N,O,f3⟩:=h.A;have⟨J,L,b3,b4,hk⟩:=T;have D:Pp w F (λk=>k=s\/t.K.ownBlock=some k):=λb M t' z' _ H l S=>by
  rcases S with rfl|e
  .rw[h.bs]at l;cases l;cases H
  .rcases id h.Q.2 with ⟨q,_⟩|⟨g,cap,v,q,_,E,_⟩
   .rw[q]at e;cases e
   .rw[q]at e;cases e;rw[E]at l;cases l;cases H
 have f:∀{i:Nat} {z:R.Sv×MV},t.zs[i]?=some z->z.1.T=true->z.2.sb<w.heap.size:=λhz ha=>by
  have:=(h.each _ (Ap hz)).wk
  grind [Fp.A]
 refine⟨J,?_,?_,λz hz=>?_,λi j z y hz u p k B=>?_,λi j z y hz u p x A=>?_,λi r X G=>?_,h.inj,?_,Aj N,Aj O,λj m=>Am (Am m)⟩
 .simp only[C8,h.zs];rfl
 .simp only[AJ,CP,Jn];exact L
 .rcases Bj.1 hz with q|q
  .exact(h.each z q).keep hk D (λ_ r=>Aj r)
  .rw[Bg.1 q];refine⟨?_,⟨[],I,⟨I,Aj ⟨I,I⟩⟩,λy u=>by cases u⟩,λj m=>by cases m⟩
   grind [tV,Fp.wide]
 .rcases OB hz with q|⟨q,rfl⟩
  .rcases OB u with r|⟨r,rfl⟩
   .exact h.dns i j z y q r p k B
   .intro e;cases e
  .cases B
 .rcases OB hz with q|⟨q,rfl⟩
  .rcases OB u with r|⟨r,rfl⟩
   .exact h.e i j z y q r p x A
   .have:=f q x;refine⟨λe=>?_,λk _ e=>by cases e⟩;simp only[tV]at e;omega
  .rcases OB u with r|⟨r,rfl⟩
   .have:=f r A;refine⟨λe=>?_,λk e=>by cases e⟩;simp only[tV]at e;omega
   .omega
 .have⟨y,C,P,Q⟩:=h.ln i r X G;refine⟨y,hk.at C ?_,P,Aj Q⟩;rintro (e|e)
  .exact ES C h.bs Em e
  .exact K5 h.Q C Em e
 .have⟨a,b,m⟩:=h.d;refine⟨a,b,hk.at m ?_⟩;rintro (e|e)
  .rw[e,h.bs]at m;cases m
  .rcases id h.Q.2 with ⟨q,_⟩|⟨g,cap,v,q,_,E,_⟩
   .rw[q]at e;cases e
   .rw[q]at e;cases e;rw[E]at m;cases m
theorem LW.begun(h:LW p F G w)(hk:0<=kind/\kind<=2)(d:G.a.length<255):
  D7 145 #[ptr p.s,Z kind] w (Z (G.a+1)) λl=>∃t m,LW {p with t:=t} m {G with a:=G.a++[⟨kind,true,[]⟩]} l/\D8 F m w l:=by
 have hzl:p.t.zs.length=G.a.length:=by rw[<-h.a.zs,AX]
 have⟨a,c,f⟩:=Fa h.a.Q;have o:=h.a.Q;rw[f]at o;refine(kM hk h.a.bs (by rw[<-f];rfl) o U).mono ?_;rintro e l ⟨rfl,n,b⟩;rw[<-f]at b;refine⟨by rw[hzl],{p.t with K:=n,zs:=p.t.zs++[tV kind w.heap.size]},λk=>F k\/k=w.heap.size\/n.ownBlock=some k,?_,?_⟩
 .refine h.OW (h.a.begun h.lt b) b.H ((GD.one h.a.bs Em).or (GD.row h.a.Q Em)) (λ_ q=>Aj q) (λk g=>?_) ?_ h.g (λi c hc u=>?_)
  .rcases g with q|q|q
   .exact Ai (h.lt k q) b.H.size
   .have:=b.wk;subst q;cases this with
    |counter _ h2 _=>exact(AB.1 h2).1
    |MZ _ h2 _ _=>exact(AB.1 h2).1
    |P9 _ _ _ _ h2 _ _ _ _=>exact(AB.1 h2).1
   .exact(Ba b.row k q).2
  .refine h.wf.serve hk d h.wf.nm h.wf.st h.wf.nd (λu hu=>?_);have:=h.wf.d u hu;omega
  .unfold GY;by_cases hu:u∈c.d
   .rw[Ay hu,Ay hu];have:=(h.wf.cl i c hc).d u hu;unfold GU;simp only;rw[A6 U]
   .rw[Ao hu,Ao hu]
 .refine⟨b.H.mono (λk _ q=>?_),λk q=>?_⟩
  .rcases q with rfl|q
   .exact h.a.A.1
   .exact h.a.A.2.2 k q
  .rcases q with q|q|q
   .exact Aj q
   .exact Am U
   .rcases b.at' with e|⟨j,e,r⟩
    .exact Aj (h.a.A.2.2 k (e ▸ q))
    .rw[e]at q;cases q;exact Am U
theorem LW.Um(h:LW p F G w){N:List (List UInt8)}{S:List Int}(hk:DF (λk=>k=p.nm) w w')(B:Mp w' 9 p.nm Si (Fu {G with e:=N,f:=S}) N)(u:R.Wf {G with e:=N,f:=S}):LW p F {G with e:=N,f:=S} w'/\D8 F F w w':=by
 have⟨D,hn,y,o⟩:=h.A;have⟨x,q,s⟩:=h.e.block;have g:Ip w F (λk=>k=p.nm):=Ip.iw (λb l=>Am ⟨x,q,by subst l;exact s⟩);have at':∀{b:Nat} {v:Array Value} {t:Ag} {f:Nat×Nat},w.heap[b]?=some (.cells v t f)->w'.heap[b]?=some (.cells v t f):=λl=>hk.at l (On l s)
 refine⟨⟨u,h.g,at' h.bx,?_,?_,h.a.keep hk g (λ_ r=>r),B,λi c hc=>at' (h.cl i c hc),λi c hc=>?_,λi c hc=>(h.d i c hc).keep hk (h.b i ((λ(i:Nat) (c:R.Cl) (hc:G.b[i]?=some c)=>(GG hc)) i c hc)).2.2.2,h.A,h.b,h.inj,λk z=>Ai (h.lt k z) hk.size⟩,hk.mono (λk _ e=>by rw[e];exact o),λ_ r=>Aj r⟩
 .have⟨m,d,a⟩:=h.DW;exact⟨m,at' d,a⟩
 .have⟨K,d,a,n⟩:=h.bn;exact⟨K,at' d,hk.row a (λj A e=>MA a s (e ▸ A)),n⟩
 .have⟨C,d,a,n⟩:=h.ln i c hc;exact⟨C,at' d,a,n.h hk g.sv (λ_ r=>r)⟩
theorem LW.rQ(h:LW p F G w){name:Ac}{kind:Int}(hnm:R.Gf name=true)(hk:0<=kind/\kind<=2)(hn:¬name∈G.e)(n:G.e.length<6)(e:G.a.length<255):
  D7 83 #[ptr p.s,.string (str name),Z kind] w (.tuple #[Z (G.a+1),Z 0]) λf=>∃t d,LW {p with t:=t} d (Hz G name kind) f/\D8 F d w f:=by
 have⟨a,c,u⟩:=Fa h.a.Q;have y:name.length<=8:=by
  exact aaL
 have hzl:p.t.zs.length=G.a.length:=by rw[<-h.a.zs,AX]
 have j:=ij hn;have b:=M6 h.e (s:=name) JG;rw[j]at b;refine YM (λf=>∃t d,LW {p with t:=t} d {G with a:=G.a++[⟨kind,true,[]⟩]} f/\D8 F d w f) _ hnm hk (EI h.a.bs 5) (ED h.a.bs 6 _ (by rw[<-u];rfl)) U n b (h.e.len underlying134 3) (h.begun hk e) ?_ ?_
 .rintro f ⟨t,d,k,_⟩;exact EI k.a.bs 5
 .rintro A B ⟨t,d,k,x⟩ o;have g:=k.h o;have⟨z,i,r,m⟩:=j6 g.e (by simp only;omega) (s:=name) JG (v:=(G.a.length:Int)+1) U (Fu (Hz G name kind)) (UT h.wf.st hn);refine⟨z,i,t,d,?_⟩;have l:Fu {G with a:=G.a++[⟨kind,true,[]⟩]} name=none:=j;rw[l]at r;have q:=g.Um (N:=G.e++[name]) (S:=G.f++[(G.a.length:Int)+1]) (LC m) (by simpa [Hz] using r) (YN h.wf (name:=name) (kind:=kind) hn n e hk);exact⟨q.1,(x.trans (D8.J d o)).trans q.2⟩
def Kv(uid:Int)(r:R.Sn):R.Sn:=if r.c=uid/\r.d<3 then {r with d:=4} else r
theorem iM(uid:Int)(r:R.Sn):Kv uid (Kv uid r)=Kv uid r:=by grind [Kv]
def RL(uid:Int)(l:List Nat)(s:List R.Sn):List R.Sn:=l.foldl (λs i=>s.modify i (Kv uid)) s
theorem QT(uid:Int):∀(l:List Nat) (s:List R.Sn) (i:Nat),(RL uid l s)[i]?=if i∈l then (s[i]?).map (Kv uid) else s[i]?
 |[],s,i=>by simp[RL]
 |j :: l,s,i=>by
  show (RL uid l (s.modify j (Kv uid)))[i]?=_;rw[QT uid l _ i,Df];by_cases h:j=i
  .subst h;cases s[j]? with
   |none=>simp
   |some r=>simp[iM]
  .have a:¬i=j:=λe=>h e.symm
   cases s[i]? with
   |none=>simp
   |some r=>simp[h,a]
theorem Ul{α:Type}{l:List α}{r:α}{f:α->α}(h:l[i]?=r):l.modify i f=l.set i (f r):=by
 apply BF;intro j
 grind
theorem vD{α:Type}{l:List α}{r:α}(h:l[i]?=r):l.set i r=l:=by
 apply BF;intro j
 grind
theorem lU(a:uid≠0)(hl:seen.length=9)(hz:∀(i:Nat) (r:R.Sn),seen[i]?=r->r.a=0->r=R.Ic):RL uid (idx seen) seen=seen.map (Kv uid):=by
 apply BF;intro i
 grind [QT,idx,Vk,Kv,R.Ic]
theorem yI(h:R.Wf G){s:R.Sv}(b:G.a[u]?=s)(seen:List R.Sn):R.Wf (Hu G (G.a.set u {s with T:=false}) G.C seen G.d):=by
 refine⟨h.cf,h.a,λi c hc=>⟨(h.cl i c hc).a,(h.cl i c hc).b,λx a=>?_,(h.cl i c hc).H⟩,h.X,h.b,by simpa using h.sv,λy d=>?_,h.nm,h.st,h.nd,λx a=>?_⟩
 .have:=(h.cl i c hc).d x a;simpa using this
 all_goals grind [R.Wf]
theorem lI{S:List R.Sv}{s:R.Sv}(a:S[u]?=s)(k:Nat):((S.set u {s with T:=false})[k]?).map (·.J)=(S[k]?).map (·.J):=by grind
theorem dy{s:R.Sv}(a:G.a[u]?=s)(seen:List R.Sn)(c:R.Cl)x:GY (Hu G (G.a.set u {s with T:=false}) G.C seen G.d) c x=GY G c x:=by
 unfold GY GU;show (if x∈c.d then some ((((G.a.set u {s with T:=false})[(x-1).toNat]?).map (·.J)).getD 0) else none)=_;rw[lI a]
theorem yS{s:R.Sv}(a:G.a[u]?=s):R.GR G (u+1)=Hu G (G.a.set u {s with T:=false}) G.C (G.J.map (Kv (u+1))) G.d:=by
 have e:((u:Int)+1-1).toNat=u:=U;unfold R.GR Hu;rw[e,Ul a];rfl
theorem LW.ends(h:LW p F G w){s:R.Sv}(Q:G.a[u]?=s):
  D7 144 #[ptr p.s,Z (u+1)] w Ep λw'=>∃t,LW {p with t:=t} F (R.GR G (u+1)) w'/\D8 F F w w':=by
 have⟨z,hz,al⟩:=Rv h.a.zs Q;have⟨g,cap,az,hK,X,S,_,k1,_,D,H,ad,ae⟩:=h.a.PG hz;have hd:=h.a.dead hz hK X D H ad ae;try dsimp only[EB,Kk,DY]at *
 rw[al]at hd;have n:DF (λk=>k=g) w (w.setCell (Y g (u*3+1)) .nilIface):=Eg _;have M:=h.OW hd n (GD.one X Em) (λ_ q=>q) (λk hk=>Ai (h.lt k hk) n.size) (yI h.wf Q G.J) h.g (λi c _ x=>dy Q G.J c x);have hW:D8 F F w (w.setCell (Y g (u*3+1)) .nilIface):=⟨n.mono (λk _ e=>by rw[e];exact S),λ_ q=>Aj q⟩;have ah:=GG hz;have hzl:p.t.zs.length=G.a.length:=by rw[<-h.a.zs,AX]
 have aq:=h.wf.sv;have E:=jH G.J;try dsimp only[EB,Kk,DY]at *
 rw[yS Q,<-lU (uid:=(u:Int)+1) U h.g.sl (λi r P h0=>(h.g.sn i r P).zero h0)];generalize hG1:G.a.set u {s with T:=false}=S1 at M;generalize ht1:({p.t with zs:=p.t.zs.set u (VN z)}:SP)=t1 at M;have aV:t1.ql=p.t.ql:=by rw[<-ht1]
 refine(rI w p.s g u p.t.zs.length cap (idx G.J).length (λk=>t1.ql ((idx G.J).getD k 0)) z.2.wk (λO k wr=>LW {p with t:=t1} F (Hu G S1 G.C (RL ((u:Int)+1) ((idx G.J).take k) G.J) G.d) wr/\D8 F F w wr/\wr.ownsRow w.heap.size 137 1 O (idx G.J).length ((idx G.J).map λi=>ptr (t1.ql i))/\∀j,O.ownBlock=some j->¬F j) E U ah (ED h.a.bs 6 _ (by rw[<-hK];rfl)) k1 (Eb X) ?_ ?_ ?_).mono ?_
 .refine M.a.rem.mono ?_;rintro e w1 ⟨O,rfl,a,hb⟩;have e1:=UB t1 G.J;try dsimp only[EB,Kk,DY]at *
  rw[show M9 (qf ({p with t:=t1}:Pl).t (Hu G S1 G.C G.J G.d).J) 9=_ from e1,AX]at a;have K:(w.setCell (Y g (u*3+1)) .nilIface).heap.size=w.heap.size:=Ev;try dsimp only[EB,Kk,DY]at *
  rw[K]at a;refine⟨O,I,M.h hb,hW.trans (D8.J F hb),a,λj hj hF=>?_⟩;have h1:=((Ba a) j hj).1;have h2:=h.lt j hF;omega
 .rintro O k wr ⟨_,_,a,_⟩;exact Fa a
 .rintro O k wr hk ⟨hw,ak,a,C⟩;have f:=Ah hk;have aa:(idx G.J).getD k 0=(idx G.J)[k]:=by rw[Bu,f];rfl
  try dsimp only[EB,Kk,DY]at *
  rw[aa];generalize hi:(idx G.J)[k]=i at f;have m:=Ap f;have aS:=(Dn.1 m).2;have hi9:i<9:=by simpa using (Dn.1 m).1
  have P:G.J[i]?=some (R.EZ G i):=by
   exact acb
  generalize hrr:R.EZ G i=r at P;have d:r.a≠0:=by grind [Vk]
  have J:i ∉ (idx G.J).take k:=λhm=>by
   grind [List.mem_iff_getElem?,List.getElem?_inj,VU]
  have v:(RL ((u:Int)+1) ((idx G.J).take k) G.J)[i]?=some r:=by rw[QT,Ao J];exact P
  have o:RL ((u:Int)+1) ((idx G.J).take (k+1)) G.J=(RL ((u:Int)+1) ((idx G.J).take k) G.J).set i (Kv ((u:Int)+1) r):=by
   try dsimp only[EB,Kk,DY]at *
   rw[<-Ul v];exact PE (λs i=>List.modify s i (Kv ((u:Int)+1))) G.J (idx G.J) k i f
  try dsimp only[EB,Kk,DY]at *
  rw[o];have⟨y,N,_⟩:=hw.q v d;have⟨_,_,_,_,c4,c5,_,_,_,_,_⟩:=X8 N.blk;have l:=hw.g.sn i _ v;have b1:=(l.some d).2.2;have hrel:=N.rel;have e4:=hrel.c;have e5:=hrel.d;rcases id a.2 with ⟨_,h0⟩|⟨g',B,an,rfl,_,aN,_,_,av,aw⟩
  .omega
  .refine⟨g',B,I,?_,y.c,y.d,c4,c5,λhx=>?_,λhx=>?_⟩
   .have:((idx G.J).map λi=>ptr (t1.ql i))[k]?=some (ptr (t1.ql i)):=by rw[BP,f];rfl
    grind [World.cell?]
   .refine cm (xP wr _ y N.blk) ?_;rintro w' ⟨W,ac⟩;have L:(Kv ((u:Int)+1) r).d=4:=by grind [Kv]
    have b:(Kv ((u:Int)+1) r).a=r.a/\(Kv ((u:Int)+1) r).c=r.c/\(Kv ((u:Int)+1) r).g=r.g:=by grind [Kv]
    have A:r.g=false:=by
     cases e:r.g with
     |false=>rfl
     |true=>
      have:=(l.g e).1;omega
    try dsimp only[EB,Kk,DY]at *
    have⟨q1,_,q2⟩:=hw.Oy (r':=Kv ((u:Int)+1) r) (y':=xO y) N (by rw[b.1];exact d) ac W ⟨hrel.f,hrel.b,hrel.H,by rw[b.1];exact hrel.a,by rw[b.2.1];exact hrel.c,by rw[L];rfl,λq=>by omega,λq=>by omega,by rw[b.2.2,A];rfl,λq=>by rw[b.2.2,A]at q;cases q⟩ ⟨λq=>absurd (by rw[<-b.1];exact q) d,by rw[b.1];exact l.a,λ_=>by rw[b.2.1,L];exact⟨(l.some d).1,(l.some d).2.1,U⟩,λq=>by omega,λq=>by omega,λq=>by omega,λq=>by rw[b.2.2,A]at q;cases q⟩;refine⟨I,q1,ak.trans q2,q2.H.row a (λj hj=>C j hj),C⟩
   grind [Kv,vD]
 grind
abbrev fI(c:R.Cf):Value:=.agg #[Z c.b,Z c.a,Z c.c,Z c.e,Z c.d]
def DV(n:Nat):List (R.Ln×Value):=List.replicate n (R.Vm,.slice none 0 0)
theorem Z0(hn:1<=n/\n<=3)(W:Aa):(Instr.makeSlice 187 (Z n) (Z n)).run prog W=.ok (EJ W n n) (W.alloc (.cells (tab Ui (DV n)).toArray 222)):=by
 exact abE
theorem Z1(W:Aa):(Instr.makeSlice 29 (Z 3) (Z 3)).run prog W=.ok (EJ W 3 3) (W.alloc (.cells (GK [0,0,0]).toArray 3)):=by
 show _=_;kernel_rfl
theorem gw(W:Aa):(Instr.makeSlice 183 (Z 9) (Z 9)).run prog W=.ok (EJ W 9 9) (W.alloc (.cells (tab Rk (List.replicate 9 R.Ic)).toArray 227)):=by
 show _=_;kernel_rfl
theorem aM{a b c:Addr}{u:Ad}:(((w.setCell a u).setCell b v).setCell c y)=w.heap.size:=by simp[World.setCell]
theorem Rb(w:Aa)(o:Obj)(h:w=n):(w.alloc o).heap[n]?=o:=by
 subst h;exact AF w o
theorem ZK(w:Aa)life(n:Nat)(hn:1<=n/\n<=3):ET 106 #[Z life,Z n] w λe c=>∃lb,e=.returned (.agg #[Z life,Dz,EJ lb n n])/\w<=lb/\Dy c lb (tab Ui (DV n)).toArray 222/\DY w c:=by
 have d:=Z0 hn;obtain⟨b,a⟩:∃b,(tab Ui (DV n)).toArray=b:=DK;rw[a]at d ⊢;clear a
 delta ET
 go_in
 go_wp2;go_returns;refine⟨w.heap.size+1,I,U,?_,F9.alloc Ev _⟩;exact Rb _ _ Ev
theorem fE(w:Aa)(x:Nat)(j l m n o s t u r q:Ad)(a:w.heap[x]?=some (.cells [j,l,m,n,o,s,t,u,r,q,.slice none 0 0,.slice none 0 0,.slice none 0 0].toArray 186 (0,0))):D7 107 #[Ey x] w Ep λe=>∃L Sn,w.heap.size<=L/\w.heap.size<=Sn/\L≠Sn/\e.heap[L]?=some (.cells (GK [0,0,0]).toArray 3 (0,0))/\e.heap[Sn]?=some (.cells (tab Rk (List.replicate 9 R.Ic)).toArray 227 (0,0))/\e.heap[x]?=some (.cells #[j,l,m,n,o,s,t,u,r,q,EJ L 3 3,EJ Sn 9 9,.slice none 0 0] 186 (0,0))/\DF (λk=>k=x) w e:=by
 have f:=Z1;have g:=gw;obtain⟨h,b⟩:∃h,(GK [0,0,0]).toArray=h:=DK;obtain⟨i,c⟩:∃i,(tab Rk (List.replicate 9 R.Ic)).toArray=i:=DK;rw[b]at f ⊢;rw[c]at g ⊢;clear b c;obtain⟨z,A,B⟩:=TH a 10 11 12;have C:=Hf a 10;have D:=Hf a 11;have E:=Hf a 12;have hl:=Dv a;have v:=Dx a;clear a
 delta D7
 go_in
 go_wp2;go_returns;have d:∀(u1 u2 u3:Ad),(((w.setCell (Y x 10) u1).setCell (Y x 11) u2).setCell (Y x 12) u3).heap.size=w.heap.size:=λu1 u2 u3=>aM
 have y:=Ek (off:=12) (Ek (off:=11) (Ek (off:=10) v (EJ w.heap.size 3 3)) (.slice (some (DG w 0)) 9 9)) (.slice none 0 0);refine⟨I,w.heap.size,w.heap.size+1,Ar _,U,U,?_,?_,?_,?_⟩
 .rw[AL _ _ _ (by simp[d])];exact Rb _ _ (d _ _ _)
 .exact Rb _ _ (by simp[d])
 .rw[AL _ _ _ (by simp[d];omega),AL _ _ _ (by rw[d];exact hl)];exact y
 .exact(((((DF.refl (λk=>k=x) w).setCell (p:=Y x 10) (Aj I) _).setCell (p:=Y x 11) (Aj I) _).setCell (p:=Y x 12) (Aj I) _).alloc _).alloc _
theorem yH(l:List Int)u:dd (l++[u])=if u∈dd l then dd l else dd l++[u]:=by grind [dd]
theorem aF{P:List Int->Prop}(b:P [])(c:∀l a,P l->P (l++[a]))(l:List Int):P l:=by
 have h:∀r:List Int,P r.reverse:=λr=>by
  induction r with
  |nil=>exact b
  |cons a r ih=>rw[List.reverse_cons];exact c _ _ ih
 simpa using h l.reverse
theorem rf(l:List Int):∀u,u∈dd l↔u∈l:=by
 refine aF (P:=λl=>∀u,u∈dd l↔u∈l) ?_ ?_ l;all_goals grind [dd]
theorem rh{l:List Int}:(dd l).Nodup:=by
 refine aF (P:=λl=>(dd l).Nodup) ?_ ?_ l;all_goals grind [dd]
theorem aeG:∀(N:Nat) (l:List Int),l.Nodup->(∀u∈l,1<=u/\u<=(N:Int))->l.length<=N
 |0,[],_,_=>Ar _
 |0,u :: l,_,h=>by have:=h u Ev;omega
 |N+1,l,hd,h=>by
  have c:=aeG N (l.erase ((N:Int)+1)) (hd.erase _) (λu hu=>by
   have b:=List.mem_of_mem_erase hu;have d:u≠(N:Int)+1:=λe=>by subst e;exact hd.not_mem_erase hu
   have:=h u b;omega)
  have:=List.length_erase_le (a:=(N:Int)+1) (l:=l);by_cases b:((N:Int)+1)∈l
  .rw[List.length_erase_of_mem b]at c;omega
  .rw[List.erase_of_not_mem b]at c;omega
theorem acU{l:List Int}{N:Nat}(h:∀u∈l,1<=u/\u<=N):(dd l)<=N:=aeG N (dd l) (rh) (λu hu=>h u ((rf l u).1 hu))
theorem lQ{c:Nat}(c5:w.cell? (Y s 5)=some (.map (nm)))(c6:w.cell? (Y s 6)=EJ g m c)(hk:k<m)(e:m<=255)(d:w.cell? (Y g (k*3))=Z kind)
  (b:(Instr.lookup 134 (.map (nm)) (.string S) true).run prog w=.ok (.tuple #[Z (k+1),DC]) w):
  D7 84 #[ptr s,.string S] w (.tuple #[Z (k+1),Z kind,Z 0]) (DY w):=by
 have a:=Dx (Nc w.drew s g k m c c6 hk e);clear c6
 delta D7
 go_in
 go_wp2;go_region_held3 (λf=>f.cell? (Y g (k*3))=some (Z kind)) (go_keep) ((go_at_call 38;refine cs a ?_))
 go_wp2;go_returns;exact⟨I,(AA _ _).drew⟩
theorem yY(c5:EB w s 5 (.map (nm)))
  (a:(Instr.lookup 134 (.map (nm)) (.string S) true).run prog w=.ok (.tuple #[Z 0,DI]) w):
  D7 84 #[ptr s,.string S] w (.tuple #[Z 0,Z 0,Z 10]) λb=>b=w:=by
 delta D7
 go_in
 go_wp2;go_returns;exact DN
theorem Y2(C:World->Prop)(j:Dy w x #[ptr n,ptr s,EJ cs_ cn cap] 71)(hi:i<cn)(b:EB w cs_ i (ptr cb))(a:EB w cb 2 (.map (bm)))
  (f:Hid (D7 84 #[ptr s,.string S] w (.tuple #[Z uid,Z kind,Z 0]) (DY w)))
  (c:Hid (∀e,DY w e->∃g,(Instr.mapUpdate 130 (.map (bm)) (Z uid) (Z kind)).run prog e=.ok () g/\C g)):
  D7 50 #[ptr x,Z i,.string S] w (.tuple #[Z uid,Z kind,Z 0]) λl=>C l:=by
 have m:0<=(i:Int):=U;have o:(i:Int)<cn:=U;obtain⟨c1,c2⟩:=VL j 1 2;obtain⟨l1,l2,l3⟩:=Va c1 b a;clear j
 delta D7
 go_in
 go_wp2_with (first|(go_at_call 35;go_in))
 refine cm f λe d=>?_
 have d2:=(d.cell (p:=Y x 2) l1).trans c2;have d3:=(d.cell (p:=Y cs_ i) l2).trans b;have d4:=(d.cell (p:=Y cb 2) l3).trans a;obtain⟨g,h,hC⟩:=c e d;have k:=Dx hC;clear d hC c1 c2 b a;go_wp2_with (first|(go_at_call 85;go_in))
 go_returns;exact⟨I,k⟩
theorem YK{er:Int}(C:World->Prop)(c:Dy w x #[ptr n,ptr s,EJ cs_ cn cap] 71)(a:Hid (D7 83 #[ptr s,.string S,Z kind] w (.tuple #[Z uid,Z er]) λb=>C b)):
  D7 48 #[ptr x,.string S,Z kind] w (.tuple #[Z uid,Z er]) λb=>C b:=by
 have c1:=EI c 1;clear c
 delta D7
 go_in
 go_wp2_with fail
 refine cm a λd hC=>?_
 go_wp2;go_returns;exact⟨I,hC⟩
theorem VW{i:Int}{er:Int}(d:Dy w x #[ptr n,ptr s,EJ cs_ cn cap] 71)(h:((i<0\/cn<=i)/\er=13)\/(0<=i/\i<cn/\er=10/\D7 84 #[ptr s,.string S] w (.tuple #[Z 0,Z 0,Z 10]) λb=>b=w)):
  D7 50 #[ptr x,Z i,.string S] w (.tuple #[Z 0,Z 0,Z er]) λb=>b=w:=by
 obtain⟨c1,c2⟩:=VL d 1 2;clear d;rcases h with ⟨e,rfl⟩|⟨e,g,rfl,c⟩
 .by_cases f:i<0
  .have e0:decide (0<=i)=false:=Fy;exact abP
  .have e1:decide (i<(cn:Int))=false:=Fy;have j:(0:Int)<=i:=U;exact abP
 .have H:=Dx c;clear c
  delta D7
  go_in
  go_wp2_with (first|(go_at_call 35;go_in))
  refine cm H λk a=>?_
  rw[a];go_wp2;go_returns;exact DN
def Jq(G:R.Wd)(i:Nat)(uid:Int):R.Wd:={G with b:=G.b.modify i λc=>{c with d:=c.d++[uid]}}
theorem Sg:(Jq G i uid).b[j]?=(G.b[j]?).map λc=>if i=j then {c with d:=c.d++[uid]} else c:=by grind [Jq]
theorem Lw{a:R.Cl}(h:(Jq G i uid).b[j]?=a):∃c0,G.b[j]?=some c0/\a=(if i=j then {c0 with d:=c0.d++[uid]} else c0):=by grind [Sg]
theorem Y3(h:R.Wf G)(hu:1<=uid/\uid<=G.a):R.Wf (Jq G i uid):=by
 refine⟨h.cf,by simpa [Jq] using h.a,λj c hc=>?_,h.X,h.b,h.sv,h.e,h.nm,h.st,h.nd,h.d⟩;obtain⟨c0,b,rfl⟩:=Lw hc;have q:=h.cl j c0 b;split
 .refine⟨q.a,q.b,λu a=>?_,q.H⟩;rcases Bj.1 a with a|a
  .exact q.d u a
  .simp only[Bg]at a;subst a;exact hu
 .exact⟨q.a,q.b,q.d,q.H⟩
theorem LW.bind(h:LW p F G w){c:R.Cl}(hc:G.b[i]?=c)(hu:1<=uid/\uid<=G.a)(s:DY w w1)(O:DF (λk=>k=p.bm i) w1 w2)(N:Mp w2 3 (p.bm i) Vl (GY G {c with d:=c.d++[uid]}) (dd (c.d++[uid]))):
  LW p F (Jq G i uid) w2/\D8 F F w w2:=by
 have hi:=GG hc;have⟨L,q,z⟩:=(h.d i c hc).block;have a:=(DF.J s _).trans O;have y:Ip w F (λk=>k=p.bm i):=Ip.iw (λb s=>Am ⟨L,q,by subst s;exact z⟩);have g:(Jq G i uid).b.length=G.b.length:=by simp[Jq]
 have at':∀{b:Nat} {J:Array Value} {t:Ag} {f:Nat×Nat},w.heap[b]?=some (.cells J t f)->w2.heap[b]?=some (.cells J t f):=λs=>a.at s (On s z)
 have A:∀{K:Ad} {e:Ag} {size n B:Nat} {C:Ae},w.ownsRow B e size K n C->w2.ownsRow B e size K n C:=λH=>a.row H (λj o e=>MA H z (e ▸ o))
 refine⟨⟨Y3 h.wf hu,h.g,?_,?_,?_,?_,?_,λj D o=>?_,λj D o=>?_,λj D o=>?_,h.A,?_,?_,λk M=>Ai (h.lt k M) a.size⟩,⟨a.mono (λk _ e=>by rw[e];exact(h.b i hi).2.2.1),λ_ q=>Aj q⟩⟩
 .rw[g];exact at' h.bx
 .rw[g];have⟨x,u,v⟩:=h.DW;exact⟨x,at' u,v⟩
 .have⟨K,u,v,E⟩:=h.bn;exact⟨K,at' u,A v,E⟩
 .exact h.a.keep a y (λ_ r=>r)
 .exact h.e.keep a (λe=>(h.b i hi).2.2.2 e.symm)
 .obtain⟨c0,l,rfl⟩:=Lw o;have:=at' (h.cl j c0 l);split<;>exact this
 .obtain⟨c0,l,rfl⟩:=Lw o;have⟨C,u,v,E⟩:=h.ln j c0 l
  grind [Iq.h,Ip.sv]
 .obtain⟨c0,l,rfl⟩:=Lw o;by_cases m:i=j
  .subst m;obtain rfl:=Option.some.inj (hc.symm.trans l);simp only[CQ];exact N
  .simp only[m,agv];exact(h.d j c0 l).keep a (λe=>(h.inj i j hi (GG l) m).2.1 e.symm)
 .rw[g];exact h.b
 .rw[g];exact h.inj
theorem LW.import(h:LW p F G w){c:R.Cl}(hc:G.b[i]?=c)(hl:name.length<=1000000000000000)(j:Fu G name=uid):
  D7 50 #[ptr p.x,Z i,.string (str name)] w (.tuple #[Z uid,Z (GU G uid),Z 0]) λn=>LW p F (Jq G i uid) n/\D8 F F w n:=by
 have hi:=GG hc;have hu:1<=uid/\uid<=(G.a.length:Int):=by
  unfold Fu R.Gi at j;cases hf:G.e.findIdx? (·==name) with
  |none=>rw[hf]at j;cases j
  |some k=>
   rw[hf]at j;simp only[Ce,Option.some.injEq]at j;have hk:=(Cp.1 hf).1;have H:=h.wf.st;subst j;refine h.wf.d _ ?_
   grind
 have J:=h.wf.sv;obtain⟨k,hk⟩:∃k:Nat,uid=(k:Int)+1:=⟨(uid-1).toNat,U⟩;have o:k<G.a.length:=U;have a:=M6 h.e (s:=name) JG;rw[j]at a;simp only[Bw,Option.isSome_some]at a;have f:=Ah o;have m:GU G uid=(G.a[k]'o).J:=by
  unfold GU;rw[show (uid-1).toNat=k by omega,f];rfl
 have⟨z,hz,t⟩:=Rv h.a.zs f;have hzl:p.t.zs.length=G.a.length:=by rw[<-h.a.zs,AX]
 have⟨g,cap,C,D,_,_,b,_⟩:=h.a.PG hz;have y:z.1.J=GU G uid:=by rw[t,m]
 rw[y]at b;rw[hk]at a ⊢;have l:=lQ (EI h.a.bs 5) (ED h.a.bs 6 _ (by rw[<-D];rfl)) U U b a;rw[hk]at l;refine Y2 (λn=>LW p F (Jq G i ((k:Int)+1)) n/\D8 F F w n) h.bx hi (h.lG hi) (P4 h hc).a2 l ?_;intro M E;have A:=acU (N:=255) (λu r=>by have:=(h.wf.cl i c hc).d u r;omega);have q:-9223372036854775808<=GU G ((k:Int)+1)/\GU G ((k:Int)+1)<=9223372036854775807:=by
  rw[hk]at m;have:=h.wf.e _ (Ap f);omega
 have⟨O,B,L,K⟩:=zN ((h.d i c hc).keep (DF.J E (λ_=>False)) (λe=>e)) U (u:=(k:Int)+1) (v:=GU G ((k:Int)+1)) U q (GY G {c with d:=c.d++[(k:Int)+1]}) (λx=>⟨λe=>by subst e;simp[GY],λe=>by
  unfold GY;simp[e]⟩)
 grind [LW.bind,LC,yH,GY,rf]
theorem LW.imports(h:LW p F G w)i(name:Ac)(hl:name.length<=1000000000000000):
  D7 50 #[ptr p.x,Z i,.string (str name)] w (.tuple #[Z (R.FV G i name).1.1,Z (R.FV G i name).1.2.1,Z (R.FV G i name).1.2.2]) λb=>LW p F (R.FV G i name).2 b/\D8 F F w b:=by
 unfold R.FV;by_cases hi:i<0\/(G.b.length:Int)<=i
 .rw[Ay hi];refine(VW h.bx (Aj ⟨hi,I⟩)).mono ?_;rintro e b ⟨rfl,rfl⟩;exact⟨I,h,D8.refl F b⟩
 .rw[Ao hi];cases he:R.Gi G name with
  |none=>
   have c:Fu G name=none:=by unfold Fu;rw[he];rfl
   have a:=M6 h.e (s:=name) JG;rw[c]at a;refine(VW h.bx (Am ⟨U,U,I,yY (EI h.a.bs 5) a⟩)).mono ?_;rintro e b ⟨rfl,rfl⟩;exact⟨I,h,D8.refl F b⟩
  |some k=>
   have c:Fu G name=some (G.f.getD k 0):=by unfold Fu;rw[he];rfl
   obtain⟨j,rfl⟩:∃j:Nat,i=(j:Int):=⟨i.toNat,U⟩;have d:j<G.b.length:=U;exact h.import (Ah d) hl c
abbrev Ec(a b c d e:Int):Value:=.agg #[Z a,Z b,Z c,Z d,Z e]
def DU:J7:=⟨0,0,.slice none 0 0,0,0,[],0,[],0,0⟩
theorem eX(hn:1<=n/\n<=3)(W:Aa):(Instr.makeSlice 131 (Z n) (Z n)).run prog W=.ok (EJ W n n) (W.alloc (.cells (tab J7.cells (List.replicate n DU)).toArray 129)):=by
 exact abE
structure bG(w w':Aa)(k:Nat)(life:Int)(n nb:Nat)(rt tr:Int)(cb lb bm:Nat):Prop where
 h:Below w.heap.size w w'
 c0:w.heap.size<=cb
 l0:w.heap.size<=lb
 b0:w.heap.size<=bm
 cell:w'.heap[cb]?=some (.cells #[Z k,Z life,.map (some bm),EJ lb n n,Z rt,Z tr,ptr nb] 133 (0,0))
 a:w'.heap[lb]?=some (.cells (tab J7.cells (List.replicate n DU)).toArray 129 (0,0))
 map:Mp w' 3 bm Vl (λ_=>none) 0
theorem Mp.above{α:Type}{k:Ag}{lit:α->Lit}{g:α->Option Int}(h:Mp w k b lit g n)(a:DY w w'):Mp w' k b lit g n:=h.keep (DF.J a (λ_=>False)) (λe=>e)
theorem aeA(a:DY w BX)(b:TL=(tab J7.cells (List.replicate n DU)).toArray):
  bG w (((BX.alloc (.map #[] 0)).alloc (.cells TL 129)).alloc (.cells #[Z k,Z 1,.map (BX),.slice (DG BX 0) n n,Z rt,Z tr,ptr nb] 133)).drew k 1 n nb rt tr (BX+1+1) (BX+1) BX:=by
 have s0:=a.size;have e1:(BX.alloc (.map #[] 0)).heap.size=BX.heap.size+1:=Ev;have e2:((BX.alloc (.map #[] 0)).alloc (.cells TL 129)).heap.size=BX.heap.size+1+1:=Ev;refine⟨?_,U,U,U,?_,?_,?_⟩
 .exact(((a.alloc s0 _).alloc U _).alloc U _).drew
 .rw[Qa];exact Rb _ _ e2
 .grind [Qa,Below.heap_alloc,Rb]
 .exact(Mp.Q BX 3 Vl).above (((F9.alloc U _)).drew)
theorem aeB(b:DY w BX)(c:TL=(tab J7.cells (List.replicate n DU)).toArray):
  bG w (((BX.alloc (.cells TL 129)).alloc (.map #[] 0)).alloc (.cells #[Z k,Z 1,.map (some (BX+1)),EJ BX n n,Z rt,Z tr,ptr nb] 133)).drew k 1 n nb rt tr (BX+1+1) BX (BX+1):=by
 have s0:=b.size;have e1:(BX.alloc (.cells TL 129)).heap.size=BX.heap.size+1:=Ev;have e2:((BX.alloc (.cells TL 129)).alloc (.map #[] 0)).heap.size=BX.heap.size+1+1:=Ev;refine⟨?_,U,U,U,?_,?_,?_⟩
 .exact(((b.alloc s0 _).alloc U _).alloc U _).drew
 .rw[Qa];exact Rb _ _ e2
 .grind [Qa,Below.heap_alloc,Rb]
 .have a:=Mp.Q (BX.alloc (.cells TL 129)) 3 Vl;rw[e1]at a;exact a.above (((AA _ _).alloc U _).drew)
theorem dv(w:Aa)(k n z:Nat)(a rt f u:Int)(hn:1<=n/\n<=3):
  ET 47 #[Z k,Ec a n rt f u,ptr z] w λe m=>∃cb lb bm,e=.returned (ptr cb)/\bG w m k 1 n z rt f cb lb bm:=by
 have s:=eX hn;have A:=@run_makeMap prog;obtain⟨x,d⟩:∃x,x=(tab J7.cells (List.replicate n DU)).toArray:=DR;rw[<-d]at s;have g:=Dx d;clear d;obtain⟨b,c⟩:∃b,w.alloc (.cells #[Z a,Z n,Z rt,Z f,Z u] 23)=b:=DK;have v:Hid (DY w b):=by
  rw[<-c];exact F9
 have h:Dy b w.heap.size #[Z a,Z n,Z rt,Z f,Z u] 23:=by
  rw[<-c];exact AF w _
 have y:b.heap.size=w.heap.size+1:=by rw[<-c];simp
 obtain⟨c1,c2,c3⟩:=TH h 1 2 3;have t:w.heap.size<b.heap.size:=U;obtain⟨o,B⟩:=FU c y;have q:Hid (∀i j l,(((b.alloc i).alloc j).alloc l).drew.cell? (EN w 1)=some (Z n)/\(((b.alloc i).alloc j).alloc l).drew.cell? (EN w 2)=some (Z rt)/\(((b.alloc i).alloc j).alloc l).drew.cell? (EN w 3)=some (Z f)):=λi j l=>by
  have r:DY b (((b.alloc i).alloc j).alloc l).drew:=((F9.alloc Ev _).alloc Fy _).drew;exact⟨(r.cell (p:=EN w 1) t).trans c1,(r.cell (p:=EN w 2) t).trans c2,(r.cell (p:=EN w 3) t).trans c3⟩
 clear c h y
 delta ET
 go_in
 go_wp2_with fail
 rw[Dw o];go_region_held3 (λm=>m.cell? (EN w 1)=some (Z n)/\m.cell? (EN w 2)=some (Z rt)/\m.cell? (EN w 3)=some (Z f)) (first|exact q _ _ _|go_keep) (fail)
 all_goals
  go_wp2;go_returns
 .exact⟨_,_,_,I,aeA v (Dw g)⟩
 .exact⟨_,_,_,I,aeB v (Dw g)⟩
theorem ac2:(prog.info? 93).map (λi=>(i.zero,i.size,i.bytes))=some (some (.pointer none),1,8):=EL
def Ea(cb:Nat->Nat)(k:Nat):List Value:=(List.range k).map λi=>ptr (cb i)
def upd(f:Nat->Nat)(k v:Nat):Nat->Nat:=λj=>if j=k then v else f j
theorem upd_same(f:Nat->Nat)(k v:Nat):upd f k v k=v:=by simp[upd]
theorem LJ(f:Nat->Nat){v:Nat}(h:j≠k):upd f k v j=f j:=by simp[upd,h]
theorem yB(cb:Nat->Nat)(k v:Nat):Ea (upd cb k v) (k+1)=Ea cb k++[ptr v]:=by
 unfold Ea
 grind [List.range_succ,upd_same,List.map_congr_left,LJ]
def Eu(jc:Nat):SP:=⟨.slice none 0 0,[],λ_=>0,jc⟩
structure NI(w:Aa)(c:R.Cf)(A n s x nm jc:Nat)(k:Nat)(cb lb bm:Nat->Nat)(K:Ad)(wr:Aa):Prop where
 h:Below w.heap.size w wr
 cA:wr.heap[A]?=some (.cells #[Z c.b,Z c.a,Z c.c,Z c.e,Z c.d] 23 (0,0))
 cx:wr.heap[x]?=some (.cells #[ptr n,ptr s,K] 71 (0,0))
 row:wr.ownsRow 0 93 1 K k (Ea cb k)
 cn:wr.heap[n]?=some (.cells #[.slice none 0 0] 110 (0,0))
 cs:wr.heap[s]?=some (.cells (IW n nm (Eu jc) c [0,0,0] (List.replicate 9 R.Ic)).toArray 144 (0,0))
 cj:wr.heap[jc]?=some (.chan c.d.toNat #[] false 0 0 false)
 e:Mp wr 9 nm Si (λ_=>none) 0
 lo:w.heap.size<=A/\w.heap.size<=n/\w.heap.size<=s/\w.heap.size<=x/\w.heap.size<=nm/\w.heap.size<=jc
 kb:∀j,K.ownBlock=some j->w.heap.size<=j
 each:∀i,i<k->(w.heap.size<=cb i/\w.heap.size<=lb i/\w.heap.size<=bm i)/\wr.heap[cb i]?=some (.cells #[Z i,Z 1,.map (some (bm i)),.slice (some ⟨lb i,0,none⟩) c.a.toNat c.a.toNat,Z c.c,Z c.e,ptr n] 133 (0,0)) /\
  wr.heap[lb i]?=some (.cells (tab J7.cells (List.replicate c.a.toNat DU)).toArray 129 (0,0))/\Mp wr 3 (bm i) Vl (λ_=>none) 0/\bm i≠nm
 inj:∀i j,i<k->j<k->i≠j->lb i≠lb j/\bm i≠bm j/\cb i≠cb j
theorem NI.more{A:Nat}{cb lb bm:Nat->Nat}(h:NI w c A n s x nm jc k cb lb bm K wr)(hn:bG wr w1 k 1 c.a.toNat n c.c c.e cb' lb' bm')(S:wz.ownsRow 0 93 1 K' (k+1) (Ea cb k++[ptr cb']))(J:(w1.alloc (.cells #[ptr cb'] 93)).grownBy wz K.ownBlock)(B:K'.ownBlock=K.ownBlock\/K'.ownBlock=some (w1.heap.size+1)):
  NI w c A n s x nm jc (k+1) (upd cb k cb') (upd lb k lb') (upd bm k bm') K' (wz.setCell (Y x 2) K'):=by
 have s0:=h.h.size;have s1:=hn.h.size;have E:DF (λq=>K.ownBlock=some q\/q=x) wr (wz.setCell (Y x 2) K'):=
  DF.setCell (F:=λq=>K.ownBlock=some q\/q=x) (((DF.J hn.h _).alloc _).grown J (λq d=>Aj (Aj d))) (p:=Y x 2) (Aj (Am rfl)) _
 have y:DF (λq=>K.ownBlock=some q\/q=x) w1 (wz.setCell (Y x 2) K'):=
  DF.setCell (F:=λq=>K.ownBlock=some q\/q=x) (((DF.refl _ _).alloc _).grown J (λq d=>Aj (Aj d))) (p:=Y x 2) (Aj (Am rfl)) _
 have z:=K5 h.row h.cx Em;have N:=Dv h.cx;have at':∀{b:Nat} {T:Array Value} {t:Ag} {f:Nat×Nat},wr.heap[b]?=some (.cells T t f)->t≠71->t≠93->(wz.setCell (Y x 2) K').heap[b]?=some (.cells T t f):=λC X h2=>E.at C (by
  rintro (e|e)
  .exact K5 h.row C (λq=>h2 q.symm) e
  .exact ES C h.cx X e)
 have u:∀{α:Type} {t:Ag} {b:Nat} {lit:α->Lit} {g:α->Option Int} {m:Nat},Mp wr t b lit g m->Mp (wz.setCell (Y x 2) K') t b lit g m:=λP=>by
  have⟨W,q,d⟩:=P.block;refine P.keep E ?_;rintro (e|e)
  .exact MA h.row d e
  .exact(On h.cx d) e.symm
 have r:∀q,K.ownBlock=some q->q<wr.heap.size:=λq d=>(Ba h.row q d).2
 have v:∀{b:Nat} {o:Obj},w1.heap[b]?=some o->wr.heap.size<=b->(wz.setCell (Y x 2) K').heap[b]?=some o:=λC hl=>y.at C (by
  rintro (e|e)
  .have:=r _ e;omega
  .omega)
 have Q:K'.ownBlock≠some x:=by
  rcases B with e|e
  .rw[e];exact z
  .rw[e];intro q;simp at q;omega
 have H:¬(K.ownBlock=some jc\/jc=x):=by
  rintro (e|e)
  .rcases id h.row.2 with ⟨q,_⟩|⟨g,cap,O,q,_,L,_⟩
   .rw[q]at e;cases e
   .rw[q]at e;cases e;have:=h.cj;rw[L]at this;cases this
  .have:=h.cj;rw[e,h.cx]at this;cases this
 refine⟨?_,at' h.cA Em Em,?_,?_,at' h.cn Em Em,at' h.cs Em Em,E.at h.cj H,u h.e,h.lo,λj G=>?_,λi hi=>?_,λi j hi G D=>?_⟩
 .exact h.h.trans (E.h s0 (λq d=>by
   rcases d with d|rfl
   .exact h.kb q d
   .exact h.lo.2.2.2.1))
 .have M:=(J.block x Fy (λe=>z e.symm)).trans ((AL _ _ _ U).trans ((hn.h.block x N).trans h.cx));exact Ek (cs:=[ptr n,ptr s,K]) (off:=2) M K'
 .rw[yB]
  grind [Jl,Below.heap_setCell]
 .rcases B with e|e
  .exact h.kb j (e ▸ G)
  .rw[e]at G;simp at G;omega
 .by_cases a:i=k
  .subst a;simp only[upd_same];have⟨W,q,d⟩:=hn.map.block;refine⟨⟨by have:=hn.c0;omega,by have:=hn.l0;omega,by have:=hn.b0;omega⟩,v hn.cell hn.c0,v hn.a hn.l0,hn.map.keep y ?_,?_⟩
   .rintro (e|e)
    .have:=r _ e;have:=hn.b0;omega
    .have:=hn.b0;omega
   .have:=h.e.lt;have:=hn.b0;omega
  .have⟨a1,a2,a3,a4,a5⟩:=h.each i U;simp only[LJ _ a];exact⟨a1,at' a2 Em Em,at' a3 Em Em,u a4,a5⟩
 .by_cases a:i=k
  .subst a;have l:j≠i:=λe=>D e.symm
   have⟨_,a2,a3,a4,_⟩:=h.each j U;have l0:=Dv a2;have l1:=Dv a3;have:=hn.c0;have l2:=a4.lt;simp only[upd_same,LJ _ l];have:=hn.l0;have:=hn.b0;omega
  .by_cases l:j=k
   .subst l;have⟨_,a2,a3,a4,_⟩:=h.each i U;have l0:=Dv a2;have l1:=Dv a3;have:=hn.c0;have l2:=a4.lt;simp only[upd_same,LJ _ a];have:=hn.l0;have:=hn.b0;omega
   .simp only[LJ _ a,LJ _ l];exact h.inj i j U U D
theorem Y4(c:R.Cf)(hc:R.GA c)(w:Aa):D7 45 #[Ec c.b c.a c.c c.e c.d] w DC (DY w):=by
 have⟨a,b,r,t,e⟩:=c;have⟨⟨f,g⟩,⟨h,i⟩,⟨j,k⟩,⟨l,m⟩,n,d⟩:=hc;simp only at f g h i j k l m n d ⊢;exact pA
def adg(jc:Nat):Value:=.agg #[Z 0,Z 0,Z 0,.pointer none,.pointer none,.pointer none,.pointer none,.pointer none,.pointer none,.pointer none,.pointer none,.pointer none,.chan (jc)]
theorem zm:(prog.info? 170).map (λi=>i.bytes)=some 40:=EL
theorem lE(hn:n<=9)(W:Aa):(Instr.makeChan 140 (Z n)).run prog W=.ok (.chan (W)) (W.alloc (.chan n #[] false 0 0 false)):=by
 have h:=zm;cases hi:prog.info? 170 with
 |none=>rw[hi]at h;cases h
 |some i=>
  rw[hi]at h;simp only[Ce,Option.some.injEq]at h;exact Go.Conc.run_makeChan underlying140 hi .i64 n U (by rw[h];omega)
theorem zy(w:Aa)(n:Nat)(hn:n<=9):D7 82 #[Z n] w (adg (w+1)) λa=>DY w a/\a=w.heap.size+1+1/\a.heap[w.heap.size+1]?=some (.chan n #[] false 0 0 false):=by
 have b:=lE hn;unfold adg
 delta D7
 go_in
 go_wp2;go_returns;refine⟨I,F9.alloc Ev _,Ev,?_⟩;exact Rb _ _ Ev
structure qg(w w':Aa)(n:Nat)(c:R.Cf)(s nm jc:Nat):Prop where
 h:Below w.heap.size w w'
 s0:w.heap.size<=s
 n0:w.heap.size<=nm
 j0:w.heap.size<=jc
 cell:w'.heap[s]?=some (.cells (IW n nm (Eu jc) c [0,0,0] (List.replicate 9 R.Ic)).toArray 144 (0,0))
 chan:w'.heap[jc]?=some (.chan c.d.toNat #[] false 0 0 false)
 map:Mp w' 9 nm Si (λ_=>none) 0
abbrev gM(a b rt tr tb:Int)(nm jc nb:Nat):Array Value:=#[Z a,Z b,Z rt,Z tr,Z tb,.map (nm),.slice none 0 0,Z 0,Z 0,Z 0,.pointer none,.pointer none,.pointer none,.pointer none,.pointer none,.pointer none,.pointer none,.pointer none,.pointer none,.chan (jc),ptr nb]
theorem Wb(a b rt e d:Int)(nm jc c:Nat):(IW c nm (Eu jc) ⟨a,b,rt,e,d⟩ [0,0,0] (List.replicate 9 R.Ic)).toArray=gM a b rt e d nm jc c:=rfl
theorem ae9{V:Aa}{b:Int}(d:DY w V)(e:Below (V.alloc (.map #[] 0)) (V.alloc (.map #[] 0)) w1)(h:w1=(V.alloc (.map #[] 0)).heap.size+1+1)(g:w1.heap[(V.alloc (.map #[] 0)).heap.size+1]?=some (.chan tb #[] false 0 0 false))(f:o=.cells (gM a b rt tr tb V (V+1+1) nb) 144):qg w (w1.alloc o) nb ⟨a,b,rt,tr,tb⟩ w1 V (V+1+1):=by
 subst f;have s0:=d.size;have e1:(V.alloc (.map #[] 0)).heap.size=V.heap.size+1:=Ev;have c:=(d.alloc s0 _).trans (e.mono U);refine⟨c.alloc U _,U,U,U,?_,?_,?_⟩
 .grind [Wb,Rb]
 .grind [Below.heap_alloc]
 .exact((Mp.Q V 9 Si).above e).above F9
theorem afa{V:Aa}{b:Int}(d:DY w V)(e:DY V w1)(h:w1=V.heap.size+1+1)(g:w1.heap[V.heap.size+1]?=some (.chan tb #[] false 0 0 false))(f:o=.cells (gM a b rt tr tb w1 (V+1) nb) 144):qg w ((w1.alloc (.map #[] 0)).alloc o) nb ⟨a,b,rt,tr,tb⟩ (w1+1) w1 (V+1):=by
 subst f;have s0:=d.size;have e1:(w1.alloc (.map #[] 0)).heap.size=w1.heap.size+1:=Ev;have c:=d.trans (e.mono U);refine⟨(c.alloc U _).alloc U _,U,U,U,?_,?_,?_⟩
 .grind [Wb,Rb]
 .grind [Below.heap_alloc]
 .exact(Mp.Q w1 9 Si).above F9
theorem aes:∀args w,(callFunc 82 args).run prog w=.ok (.enter 82 args) w:=λ_ _=>rfl
theorem gU(w:Aa)(x h:Nat)(a b rt r:Int)(z:h<=9):ET 46 #[Ec a b rt r h,ptr x] w λe A=>∃s nm jc,e=.returned (ptr s)/\qg w A x ⟨a,b,rt,r,h⟩ s nm jc:=by
 have y:=@run_makeMap prog;obtain⟨d,f⟩:∃d,w.alloc (.cells #[Z a,Z b,Z rt,Z r,Z h] 23)=d:=DK;have u:Hid (DY w d):=by
  rw[<-f];exact F9
 have i:Dy d w.heap.size #[Z a,Z b,Z rt,Z r,Z h] 23:=by
  rw[<-f];exact AF w _
 obtain⟨c0,c1,c2,c3,c4⟩:=bC i 0 1 2 3 4;have k:=Dv i;obtain⟨t,v⟩:=FU f (λw=>zy w h z);simp only[adg]at v;clear f i
 delta ET
 go_in
 go_wp2_with fail
 rw[Dw t];go_region_law (first
  |(refine FG rfl 82 #[.tmp 8] #[3] rfl aes #[Z h] rfl _ (v _) ?_;rintro e j ⟨rfl,g,q,o⟩;have c:DY d j:=(by first|exact Mg g|exact(((AA d.heap.size d).alloc (Ar _) _).drew).trans (g.mono Ev));have g0:Kk j w 0 (Z a):=(c.cell (p:=EN w 0) k).trans c0;have g1:Kk j w 1 (Z b):=(c.cell (p:=EN w 1) k).trans c1;have g2:Kk j w 2 (Z rt):=(c.cell (p:=EN w 2) k).trans c2;have g3:Kk j w 3 (Z r):=(c.cell (p:=EN w 3) k).trans c3;have g4:Kk j w 4 (Z h):=(c.cell (p:=EN w 4) k).trans c4;have l1:w.heap.size<j.heap.size:=Ai k c.size;have n:=Dx q;have l:=Dx g;have m:=Dx o;clear c g q o;refine⟨_,rfl,?_⟩))
 all_goals
  go_wp2;go_returns;first
   |exact⟨_,_,_,rfl,ae9 (V:=d) u (Mg l) n m rfl⟩
   |exact⟨_,_,_,rfl,afa (V:=d) u (Mg l) n m rfl⟩
theorem af7:∀args w,(callFunc 47 args).run prog w=.ok (.enter 47 args) w:=λ_ _=>rfl
theorem zK(w:Aa)(cb:Nat)(j:Nat)(u:Ad)(h:([ptr cb]:Ae)[j]?=u):(w.alloc (.cells #[ptr cb] 93)).cell? (((EN w 0):Addr).add j)=u:=by grind [Addr.add_lit,World.cell?_alloc_new]
theorem bG.Mg{lb:Nat}(h:bG w.drew w' k life n nb rt tr cb lb bm):bG w w' k life n nb rt tr cb lb bm:=⟨YtblomippkddgiabGreatDoor.Mg h.h,h.c0,h.l0,h.b0,h.cell,h.a,h.map⟩
theorem uk{A:Nat}(e:DY w w1)(h:w<=A)(d:Dy w1 A #[Z c.b,Z c.a,Z c.c,Z c.e,Z c.d] 23)(a:qg (w1.alloc (.cells #[Dz] 110)) w2 w1 c s nm jc):
  NI w c A w1 s w2 nm jc 0 id id id Dz (w2.alloc (.cells #[ptr w1,ptr s,Dz] 71)):=by
 have s0:=e.size;have hl:=Dv d;have e1:(w1.alloc (.cells #[Dz] 110)).heap.size=w1.heap.size+1:=Ev;have f:DY w (w1.alloc (.cells #[Dz] 110)):=e.alloc s0 _;have sb:=a.h.size;have g:=f.trans (a.h.mono U);have up:∀{b:Nat} {o:Obj},w2.heap[b]?=some o->(w2.alloc (.cells #[ptr w1.heap.size,ptr s,Dz] 71)).heap[b]?=some o:=λe=>by
  grind [Below.heap_alloc]
 have l:=a.s0;have m:=a.n0;have n:=a.j0;refine⟨g.alloc U _,up ?_,Rb _ _ I,AZ _ _ _ _,up ?_,up a.cell,up a.chan,?_,⟨h,U,U,U,U,U⟩,(λj k=>by cases k),(λi hi=>by omega),(λi j hi=>by omega)⟩
 .rw[a.h.block A U,AL _ _ _ hl];exact d
 .rw[a.h.block _ U];exact Rb _ _ I
 .exact a.map.above F9
theorem uh(hc:R.GA c):
  ET 24 #[Ec c.b c.a c.c c.e c.d] w λe w'=>∃A n s x nm jc cb lb bm K,e=.returned (.tuple #[ptr x,Z 0])/\NI w c A n s x nm jc c.b.toNat cb lb bm K w':=by
 have HR:=Dx (Y4 c hc);obtain⟨a,b,r,t,tb⟩:=c;obtain⟨⟨h1,h2⟩,⟨h3,h4⟩,⟨h5,h6⟩,⟨h7,h8⟩,h9,ah⟩:=hc;simp only at h1 h2 h3 h4 h5 h6 h7 h8 h9 ah HR ⊢;have aV:=@run_makeMap prog;obtain⟨N,hN⟩:∃N:Nat,a=(N:Int):=⟨a.toNat,U⟩;obtain⟨L,hL⟩:∃L:Nat,b=(L:Int):=⟨b.toNat,U⟩;obtain⟨T,hT⟩:∃T:Nat,tb=(T:Int):=⟨tb.toNat,U⟩;subst hN hL hT;obtain⟨Q,o⟩:∃Q,w.alloc (.cells #[Z N,Z L,Z r,Z t,Z T] 23)=Q:=DK;have HB:Hid (DY w Q):=by
  rw[<-o];exact F9
 have q:Dy Q w.heap.size #[Z N,Z L,Z r,Z t,Z T] 23:=by
  rw[<-o];exact AF w _
 obtain⟨c0,c1,c2,c3,c4⟩:=bC q 0 1 2 3 4;have h:=Dv q;obtain⟨X,aa,ab⟩:=Ll o q (λw k nb=>dv w k L nb (N:Int) r t (T:Int) U);obtain⟨i0,hi,an,ao,aq⟩:=A1 ac2;clear o q
 delta ET
 go_in
 go_wp2_with fail
 rw[Dw X];refine cm (HR _) λP d=>?_
 have F:=Dx (λ(j:Aa) (s nm jc:Nat) (S:qg (P.alloc (.cells #[Dz] 110)) j P.heap.size ⟨(N:Int),(L:Int),r,t,(T:Int)⟩ s nm jc)=>uk (w:=w) (A:=w.heap.size) (c:=⟨(N:Int),(L:Int),r,t,(T:Int)⟩) (HB.trans (d.mono HB.size)) (Ar _) ((d.block _ h).trans aa) S);have aN:=Ai h d.size;have d0:=(d.cell (p:=EN w 0) h).trans c0;have d1:=(d.cell (p:=EN w 1) h).trans c1;have d2:=(d.cell (p:=EN w 2) h).trans c2;have d3:=(d.cell (p:=EN w 3) h).trans c3;have d4:=(d.cell (p:=EN w 4) h).trans c4;have ad:=Dx (λw nb=>gU w nb T (N:Int) (L:Int) r t U);clear d c0 c1 c2 c3 c4;go_wp2_with fail
 refine(ad _ _).mono ?_;rintro e j ⟨s,nm,jc,rfl,S⟩;have E:=Dx (F j s nm jc S);have f0:=EI E.cA 0;clear S F d0 d1 d2 d3 d4;go_wp2;go_loopw [20] (λiv wr=>∃(k:Nat) (cb lb bm:Nat->Nat) (K:Ad),k<=N/\iv=Z k/\NI w ⟨(N:Int),(L:Int),r,t,(T:Int)⟩ w.heap.size P.heap.size s j.heap.size nm jc k cb lb bm K wr) (λiv _=>N-(intOf iv).toNat)
 case atStart=>exact⟨0,id,id,id,_,AV _,I,E⟩
 case round=>
  obtain⟨k,cb,lb,bm,K,hk,rfl,f⟩:=hrel;by_cases aS:k<N
  .have u:=f.cx;obtain⟨a2,a0⟩:=VL u 2 0;have f2:wr.frozen? (EN j 2)=false:=Eb u;obtain⟨b0,b1,b2,b3,b4⟩:=bC f.cA 0 1 2 3 4;have z:=Dv u;have v:=Dx f;obtain⟨ka,kc,ak⟩:=Fa f.row;subst ak;have M:=K5 f.row f.cx Em;have ac:=Dx M;clear f u M;go_wp2;go_region_law (first
    |(refine FG rfl 47 #[.tmp 28,.tmp 29,.tmp 30] #[3,23,67] rfl af7 #[Z k,Ec (N:Int) (L:Int) r t (T:Int),ptr P.heap.size] rfl _ (ab _ k P.heap.size) ?_;rintro e B ⟨J,b5,az,rfl,m⟩;have l:=Mg m.h;have s2:=l.size;have e2:Kk B j 2 (.slice ka k kc):=(l.cell (p:=EN j 2) z).trans a2;have ae:B.frozen? (EN j 2)=false:=(l.frozen (p:=EN j 2) z).trans f2;have H:=Dx m;have W:=Dx l;have al:j.heap.size<B.heap.size:=Ai z s2;clear l m;refine⟨_,rfl,?_⟩)
    |(refine FM rfl (.tmp 27) (.tmp 32) 69 rfl 0 93 i0 (.pointer none) 1 8 underlying69 hi an ao aq rfl Em (.slice ka k kc) k (Ea cb k) rfl (by exact(ER v.row W).alloc _) (EN B 0) 1 1 [ptr J] rfl rfl (by exact zK B J) Vd JG U U ?_;intro v' wz i g O;obtain⟨va,vn,vc,am⟩:=Ei i;subst am;have y:wz.heap[j.heap.size]?=B.heap[j.heap.size]?:=(g.block _ Fy (λe=>ac e.symm)).trans (AL _ _ _ al);have gz:wz.frozen? (EN j 2)=false:=(A8 y).trans ae;have gn:Kk wz j 2 (.slice ka k kc):=(AR y).trans e2;have G:=Dx i;have D:=Dx g;have C:=Dx O;clear i g O y))
   all_goals
    have HM:=Dx (v.more H.Mg G D (by have:=Dw C;simpa using this));clear G D C H v;go_wp2;go_roundw
    case rel=>exact⟨k+1,_,_,_,_,U,Kc,HM⟩
    case measure=>exact Kt
  .obtain rfl:k=N:=U;go_wp2;go_returns;exact⟨_,_,_,_,_,_,cb,lb,bm,K,I,f⟩
def J0(c:R.Cf):R.Wd:=⟨c,[],[],[],[],List.replicate c.b.toNat (R.RF 1 c.a),[0,0,0],List.replicate 9 R.Ic,[]⟩
theorem Mw{x:R.Cl}(h:(J0 c).b[i]?=x):i<c.b.toNat/\x=R.RF 1 c.a:=by grind [J0]
theorem zE(hc:R.GA c):R.Wf (J0 c):=by
 have a:=hc;unfold R.GA at a;refine⟨hc,by simp[J0];omega,λi x e=>?_,by simp[J0],λf b=>by simp[J0]at b,by simp[J0],λs d=>by simp[J0]at d,by simp[J0],by simp[J0],by simp[J0],λu hu=>by simp[J0]at hu⟩;obtain⟨_,rfl⟩:=Mw e;refine⟨by simp[R.RF,J0];omega,by simp[R.RF],λu hu=>by simp[R.RF]at hu,λk l hl=>?_⟩;simp only[R.RF,Be]at hl;split at hl
 .cases hl;exact⟨by simp[R.Vm],λq=>by simp[R.Vm]at q⟩
 .cases hl
theorem jS{r:R.Sn}(h:(List.replicate 9 R.Ic)[i]?=r):r.a=0:=by grind [R.Ic]
theorem LW.Q(hc:R.GA c){A:Nat}{cb lb bm:Nat->Nat}(h:NI w c A n s x nm jc c.b.toNat cb lb bm K w'):
  ∃p F,p.x=x/\LW p F (J0 c) w'/\∀k,F k->w<=k:=by
 have o:=hc;unfold R.GA at o;rcases h.row.2 with ⟨_,M⟩|⟨g,cap,f,rfl,_,B,v,_,H,L⟩
 .omega
 .have b:(J0 c).b.length=c.b.toNat:=by simp[J0]
  have lo:=h.lo;refine⟨⟨x,n,s,g,cap,nm,cb,lb,bm,Eu jc⟩,λk=>w.heap.size<=k/\k<w'.heap.size,I,⟨zE hc,(R.Gw hc),?_,?_,?_,?_,?_,λi y m=>?_,λi y m=>?_,λi y m=>?_,?_,λi hi=>?_,λi j hi e t=>?_,λk hk=>hk.2⟩,λk hk=>hk.1⟩
  .rw[b];exact h.cx
  .refine⟨f,B,λi hi=>?_⟩;rw[b]at hi;have e1:f.toList[i]?=(Ea cb c.b.toNat)[i]?:=by grind
   grind [Ea]
  .exact⟨_,h.cn,AZ _ _ _ _,λj e=>by cases e⟩
  .refine⟨h.cs,I,AZ _ _ _ _,λz hz=>by simp[Eu]at hz,λi j z y hz=>by simp[Eu]at hz,λi j z y hz=>by simp[Eu]at hz,λi r u d=>?_,λi j r N u J d=>?_,⟨0,0,h.cj⟩,⟨lo.2.2.1,Dv h.cs⟩,⟨lo.2.2.2.2.2,(AB.1 h.cj).1⟩,λj e=>by cases e⟩
   .exact absurd (jS u) d
   .exact absurd (jS u) d
  .exact h.e.congr (λa=>by simp[Fu,R.Gi,J0])
  .obtain⟨hi,rfl⟩:=Mw m;have:=(h.each i hi).2.1
   grind [R.RF,J0]
  .obtain⟨hi,rfl⟩:=Mw m;refine⟨_,(h.each i hi).2.2.1,⟨by simp[R.RF],λk l z hl hz=>?_⟩,λk l z hl hz=>?_⟩;simp only[R.RF,Be]at hl hz;by_cases hk:k<c.a.toNat
   .rw[Ay hk]at hl hz;cases hl;cases hz;exact⟨I,I,λ_=>rfl,λq=>by simp[R.Vm]at q,λq=>by simp[R.Vm]at q⟩
   .rw[Ao hk]at hl;cases hl
   simp only[R.RF,Be]at hl hz;by_cases hk:k<c.a.toNat
   .rw[Ay hk]at hl hz;cases hl;cases hz;exact Gg.nil _ _
   .rw[Ao hk]at hl;cases hl
  .obtain⟨hi,rfl⟩:=Mw m;have:=(h.each i hi).2.2.2.1;exact this.congr (λa=>by simp[GY,R.RF])
  .exact⟨⟨lo.2.2.2.1,Dv h.cx⟩,⟨lo.2.1,Dv h.cn⟩,⟨h.kb g I,Dv B⟩,⟨lo.2.2.2.2.1,h.e.lt⟩⟩
  .rw[b]at hi;have⟨⟨a1,a2,a3⟩,C,D,E,G⟩:=h.each i hi;exact⟨⟨a1,Dv C⟩,⟨a2,Dv D⟩,⟨a3,E.lt⟩,G⟩
  .rw[b]at hi e;exact h.inj i j hi e t
theorem zG(w:Aa)(c:R.Cf)(hc:R.GA c):
  ET 24 #[Ec c.b c.a c.c c.e c.d] w λe a=>∃p F,e=.returned (.tuple #[ptr p.x,Z 0])/\LW p F (J0 c) a/\(∀k,F k->w<=k)/\DY w a:=by
 refine(uh hc).mono ?_;rintro e a ⟨A,n,s,x,nm,jc,cb,lb,bm,K,rfl,h⟩;obtain⟨p,F,rfl,b,d⟩:=LW.Q hc h;exact⟨p,F,I,b,d,h.h⟩
structure kz(w:Aa)(F:D9)(log:List R.En)(en:R.En)(b:Nat)(K:Ad)(kind:Int)(W:Ad)(O:Ad)(out:List R.It)(w':Aa):Prop where
 row:V.Row w' w.heap.size O out
 keep:DF (λk=>k=b\/K.ownBlock=some k) w w'
 a:∃K',Fp w' (λk=>F k\/(w.heap.size<=k/\k<w'.heap.size)) (log++[en]) b K' kind W/\(K'.ownBlock=K.ownBlock\/∃j,K'.ownBlock=some j/\w.heap.size<=j)
theorem WZ(l:List R.En)(e:R.En):∀n,R.Fh (l++[e]) n=(if e.g=0 then (R.Fh l n+R.IJ e.arg 0+65536) % 65536 else if R.IJ e.arg 0=1 then 0 else R.Fh l n):=by
 induction l with
 |nil=>intro n;rfl
 |cons a l ih=>intro n;exact ih _
theorem qT(w:Aa)(b:Nat)(N n:Int)(h:Dy w b #[.int .u16 N] 323):
  D7 288 #[ptr b,Z n] w (EJ w 1 1) λa=>a=(w.setCell (Y b 0) (.int .u16 ((N+n+65536) % 65536))).alloc (.cells #[Z ((N+n+65536) % 65536),.string ⟨#[]⟩] 73):=by
 have c0:=EI h 0;have c:DJ w b 0:=Eb h;have hl:=Dv h;have e1:IntKind.u16.wrap (N+IntKind.u16.wrap n)=(N+n+65536) % 65536:=by rw[wrap_u16,wrap_u16];omega
 have e2:wrap64 ((N+n+65536) % 65536)=(N+n+65536) % 65536:=NU
 delta D7
 go_in
 go_wp2;go_returns;have e3:(N+n+65536) % 65536=(N+n) % 65536:=U;rw[e3];exact DN
theorem lH(w:Aa)(b:Nat)N(z:Bool)(h:Dy w b #[.int .u16 N] 323)(c:0<=N/\N<=65535):
  D7 289 #[ptr b,.bool z] w (EJ w 1 1) λa=>a=(if z=true then (w.setCell (Y b 0) (.int .u16 0)) else w).alloc (.cells #[Z N,.string ⟨#[]⟩] 73):=by
 have c0:=EI h 0;have d:DJ w b 0:=Eb h;have hl:=Dv h;have e2:wrap64 N=N:=NU;cases z with
 |true=>
  rw[Ay rfl]
  delta D7
  go_in
  go_wp2;go_returns;exact DN
 |false=>
  rw[Ao Ev]
  delta D7
  go_in
  go_wp2;go_returns;exact DN
theorem row_one(w Uq:Aa)(a:Uq=w.heap.size)n(s:Ab):V.Row (Uq.alloc (.cells #[Z n,.string s] 73)) w (EJ w 1 1) [(n,s)]:=by
 refine⟨I,Am ⟨w.heap.size,1,#[Z n,.string s],I,Ar _,?_,Ar _,Em,I,I⟩⟩;have:=AF Uq (.cells #[Z n,.string s] 73);rw[a]at this;exact this
theorem TN(w:Aa)(F:D9)(log:List R.En)(en:R.En)(b:Nat)(K W:Ad)(h:Fp w F log b K 0 W)(C:b<w)(u:V.Ff w X en.arg)(B:∃x,en.arg=[x])(i:en.g=0\/en.g=1)(o:0<=R.Fh log 0/\R.Fh log 0<=65535):
  ET 287 #[ptr b,Z en.g,X] w λe G=>∃O,e=.returned O/\kz w F log en b K 0 W O (R.Hw 0 log en.g en.arg) G:=by
 have⟨x,y⟩:=B;rw[y]at u;obtain⟨a,cap,rfl,v,hc⟩:=u;rcases hc with z|⟨H,off,rfl,D,hc⟩
 .simp at z
 have⟨c0,_⟩:=hc 0 x I;simp only[Dt,Cz]at c0;have J:(0:Int)<((1:Nat):Int):=U;generalize hk0:(0:Int)=kd at h;cases h with
 |MZ=>cases hk0
 |P9=>cases hk0
 |counter hF hb hK=>
  have E:b≠w.heap.size:=U;have fin:∀(g:Aa) (M:Int),(g=w\/g=w.setCell (Y b 0) (.int .u16 M))->Dy g b #[.int .u16 M] 323->M=R.Fh (log++[en]) 0->∀(n:Int),R.Hw 0 log en.g en.arg=[(n,⟨#[]⟩)]->kz w F log en b K 0 (.iface 320 (ptr b)) (EJ w.heap.size 1 1) (R.Hw 0 log en.g en.arg) (g.alloc (.cells #[Z n,.string ⟨#[]⟩] 73)):=λg M t p A n hd=>by
   have r:g.heap.size=w.heap.size:=by
    rcases t with rfl|rfl
    .rfl
    .simp
   have q:DF (λk=>k=b\/K.ownBlock=some k) w g:=by
    rcases t with rfl|rfl
    .exact DF.refl _ _
    .exact(Eg _).mono (λk _ e=>Aj e)
   rw[hd];refine⟨row_one w g r n _,q.alloc _,K,?_,Aj I⟩;have:Dy (g.alloc (.cells #[Z n,.string ⟨#[]⟩] 73)) b #[.int .u16 M] 323:=(AL _ _ _ U).trans p;refine .counter (Aj hF) ?_ hK;rw[<-A];exact this
  have d:=WZ log en 0;have f:R.IJ en.arg 0=x.1:=by rw[y];rfl
  rw[f]at d;rcases i with i|i
  .have e1:(en.g==0)=true:=by simpa using i
   have l:=Dx (λs (c:s=w)=>by
    have:=qT w b (R.Fh log 0) x.1 hb;rw[<-c]at this;exact this)
   have HF:=fin _ _ (Am I) (Ek (cs:=[.int .u16 (R.Fh log 0)]) (off:=0) hb _) (by rw[d,Ay i]) _ (by unfold R.Hw;rw[Ay I,Ay i,f];rfl);clear fin hb d i o
   delta ET
   go_in
   go_wp2_with (first|(go_at_call 288;refine cm (l _ I) λs c=>?_;have m:=Dx c;clear c))
   go_returns;rw[Dw m];exact⟨_,I,HF⟩
  .have e1:(en.g==0)=false:=by simp[i]
   have HF:Hid (kz w F log en b K 0 (.iface 320 (ptr b)) (EJ w.heap.size 1 1) (R.Hw 0 log en.g en.arg) ((if (x.1==1)=true then (w.setCell (Y b 0) (.int .u16 0)) else w).alloc (.cells #[Z (R.Fh log 0),.string ⟨#[]⟩] 73))):=by
    have hd:R.Hw 0 log en.g en.arg=[(R.Fh log 0,⟨#[]⟩)]:=by unfold R.Hw;rw[Ay I,Ao U];rfl
    by_cases j:x.1=1
    .rw[Ay (by simpa using j)];exact fin _ 0 (Am I) (Ek (cs:=[.int .u16 (R.Fh log 0)]) (off:=0) hb _) (by rw[d,Ao U,Ay j]) _ hd
    .rw[Ao (by simpa using j)];exact fin _ _ (Aj I) hb (by rw[d,Ao U,Ao j]) _ hd
   have l:=Dx (lH w b (R.Fh log 0) (x.1==1) hb o);clear fin hb d i o
   delta ET
   go_in
   go_wp2_with (first|(go_at_call 289;refine cm l λs c=>?_;have m:=Dx c;clear c))
   go_returns;rw[Dw m];exact⟨_,I,HF⟩
theorem Vr(w:Aa)(cb lb c k:Nat)st(P:Pk)(a:World->Prop)(hk:k<c)(h:P.H=k)(g:EB w cb 3 (EJ lb c c))(d:(P.Ez=0/\st=4)\/(¬P.Ez=0/\st=5))
  (HQ:Hid (∀f,DY w f->D7 167 #[.pointer (Y lb (k*10)),Z st] f Ep λe=>a e)):
  D7 161 #[ptr cb,pv P] w Ep λe=>a e:=by
 have⟨l,cl,m,ln,j,u,pa,o,n,b⟩:=P;dsimp only[pv]at *;subst h;have i:=Gv g;have p:0<=(k:Int):=U;have q:(k:Int)<c:=U;have HB:Hid (∀o,DY w (w.alloc o)):=λo=>F9
 generalize str b=SB at *;rcases d with ⟨h1,rfl⟩|⟨h1,rfl⟩
 .have e1:(pa==0)=true:=by simpa using h1
  exact abk
 .have e1:(pa==0)=false:=by simpa using h1
  exact abk
theorem fV(w:Aa)(cb lb l k:Nat)(n m c:Int)(P:Pk)(S C:Ab)(a:World->Prop)(hk:k<l)(x:P.H=k)(t:w.cell? (Y cb 3)=EJ lb l l)(a5:w.cell? (Y lb (k*10+5))=some (.string S))(a6:w.cell? (Y lb (k*10+6))=Z c)(a7:w.cell? (Y lb (k*10+7))=some (.string C))(hn:1<=n/\n<=100)
  (H1:Hid (∀w,D7 203 #[.string S] w (Z n) λw'=>w'=w))
  (H2:Hid (∀w,D7 203 #[.string C] w (Z m) λw'=>w'=w))
  (hold:c<n-1\/¬P.Ez=m)
  (HN:Hid (c<n-1\/m<P.Ez->∀i,DY w i->a i))
  (HG:Hid (¬(c<n-1)->P.Ez<m->∀i,DY w i->D7 217 #[ptr cb,pv P] i Ep λw'=>a w')):
  D7 160 #[ptr cb,pv P] w Ep λw'=>a w':=by
 have⟨f,cl,g,ln,b,u,pa,o,h,e⟩:=P;dsimp only[pv]at *;subst x;have⟨y,d⟩:=KM t a6;have A:0<=(k:Int):=U;have B:(k:Int)<l:=U;have z:IntKind.i64.wrap (n-1)=n-1:=Iz;have s:Hid (∀o,DY w (w.alloc o)):=λo=>F9
 generalize str e=SB at *;have HF:Hid (∀m,E3 w w (.cells #[Z f,Z cl,Z g,Z k,Z b,Z u,Z pa,Z o,.bool h,.string SB] 82) ((w.alloc (.cells #[Z f,Z cl,Z g,Z k,Z b,Z u,Z pa,Z o,.bool h,.string SB] 82)).drewN m)):=λm=>⟨Ed (s _) m,AF w _⟩
 have HC:Hid (∀W,E3 w w (.cells #[Z f,Z cl,Z g,Z k,Z b,Z u,Z pa,Z o,.bool h,.string SB] 82) W->W.cell? (Y lb (k*10+5))=some (.string S)/\W.cell? (Y lb (k*10+6))=some (Z c)/\W.cell? (Y lb (k*10+7))=some (.string C)):=λW hW=>⟨(hW.1.cell (p:=(Y lb (k*10+5))) d).trans a5,(hW.1.cell (p:=(Y lb (k*10+6))) d).trans a6,(hW.1.cell (p:=(Y lb (k*10+7))) d).trans a7⟩
 have HD:Hid (∀W,E3 w w (.cells #[Z f,Z cl,Z g,Z k,Z b,Z u,Z pa,Z o,.bool h,.string SB] 82) W->(W.cell? (EN w 0)=some (Z f)/\W.cell? (EN w 1)=some (Z cl)/\W.cell? (EN w 2)=some (Z g)/\W.cell? (EN w 3)=some (Z k)/\W.cell? (EN w 4)=some (Z b))/\W.cell? (EN w 5)=some (Z u)/\W.cell? (EN w 6)=some (Z pa)/\W.cell? (EN w 7)=some (Z o)/\W.cell? (EN w 8)=some (.bool h)/\W.cell? (EN w 9)=some (.string SB)):=λW hW=>⟨⟨EI hW.2 0,EI hW.2 1,EI hW.2 2,EI hW.2 3,EI hW.2 4⟩,EI hW.2 5,EI hW.2 6,EI hW.2 7,EI hW.2 8,EI hW.2 9⟩
 by_cases j:c<n-1
 .have HQ:=Dx (HN (Aj j));have e1:decide (c<n-1)=true:=by simpa using j
  exact afn
 .have e1:decide (c<n-1)=false:=by simpa using j
  by_cases q:m<pa
  .have HQ:=Dx (HN (Am q));have e2:decide (m<pa)=true:=by simpa using q
   exact afn
  .have v:pa<m:=U;have HQ:=Dx (HG j v);have e2:decide (m<pa)=false:=by simpa using q
   clear HN HG hold
   delta D7
   go_in
   go_wp2_with fail
   go_quiet (fail);go_wp2_with fail
   refine EE _ (HF _) ?_;intro W hW;have⟨d5,d6,d7⟩:=HC W hW;have hd:=HD W hW;have⟨⟨f0,f1,f2,f3,f4⟩,f5,f6,f7,f8,f9⟩:=hd;have HB1:=Dx hW.1.drew;clear hW HF HC HD;go_region_held3 (λw'=>w'.cell? (Y lb (k*10+5))=some (.string S)/\w'.cell? (Y lb (k*10+7))=some (.string C)) (go_keep) (first|(go_at_call 203;refine cs (H1 _) ?_)|(go_at_call 203;refine cs (H2 _) ?_))
   go_wp2_with (first|(go_at_call 217;refine cm (HQ _ HB1) λD r=>?_))
   go_returns;exact⟨I,r⟩
abbrev Mq(w:Aa)(lb k:Nat)(R:Ab)(n:Int):World:=(w.setCell (Y lb (k*10+7)) (.string R)).setCell (Y lb (k*10+6)) (Z n)
theorem aex:∀args w,(callFunc 219 args).run prog w=.ok (.enter 219 args) w:=λ_ _=>rfl
theorem aew:∀args w,(callFunc 218 args).run prog w=.ok (.enter 218 args) w:=λ_ _=>rfl
theorem UC(w:Aa)(cb lb bm nl k:Nat)(n m X uid g kind:Int)(P:Pk)(S C:Ab)(A i:World->Prop)(B:Value->World->Prop)(hk:k<nl)(hP:P.H=k)(b2:w.cell? (Y cb 2)=some (.map (bm)))(b3:w.cell? (Y cb 3)=EJ lb nl nl)(a3:w.cell? (Y lb (k*10+3))=Z uid)(a4:w.cell? (Y lb (k*10+4))=Z g)(a5:w.cell? (Y lb (k*10+5))=some (.string S))(a6:w.cell? (Y lb (k*10+6))=Z X)(a7:w.cell? (Y lb (k*10+7))=some (.string C))(z6:DJ w lb (k*10+6))(z7:DJ w lb (k*10+7))(b4:¬cb=lb)(hn:1<=n/\n<=100)(F:¬X<n-1)(hm:P.Ez=m)(ho:1<=P.off/\P.off<=9)(b9:¬9223372036854775807<C+(str P.d).size)
  (H1:Hid (∀w,D7 203 #[.string S] w (Z n) λc=>c=w))
  (H2:Hid (∀w,D7 203 #[.string C] w (Z m) λc=>c=w))
  (HG:Hid (¬P.Ez=P.off-1->∀q,Below w (Mq w lb k (C++str P.d) n) q->D7 217 #[ptr cb,pv P] q Ep λc=>A c))
  (HR:Hid (∀c,A c->D7 149 #[ptr cb,.pointer (Y lb (k*10))] c Ep λG=>i G))
  (D:Hid (P.Ez=P.off-1->∀q,Below w (Mq w lb k (C++str P.d) n) q->(Instr.lookup 130 (.map (bm)) (Z uid) false).run prog q=.ok (Z kind) q))
  (E:Hid (P.Ez=P.off-1->∀q,Below w (Mq w lb k (C++str P.d) n) q->ET 219 #[Z kind,Z g,.string (C++str P.d)] q λe c=>∃x z y,e=.returned (.slice x z y)/\B (.slice x z y) c))
  (HE:Hid (∀x z y c,B (.slice x z y) c->D7 218 #[.pointer (Y lb (k*10)),.slice x z y] c Ep λG=>i G)):
  D7 160 #[ptr cb,pv P] w Ep λc=>i c:=by
 have⟨r,cl,s,ln,f,u,pa,o,t,L⟩:=P;dsimp only[pv]at *;subst hP hm;have⟨ah,d⟩:=KM b3 a6;have q1:0<=(k:Int):=U;have q2:(k:Int)<nl:=U;have ew:IntKind.i64.wrap (n-1)=n-1:=Iz;have aS:IntKind.i64.wrap (o-1)=o-1:=Iz;have HB:Hid (∀o,DY w (w.alloc o)):=λo=>F9
 generalize str L=SB at *;have HF:Hid (∀m,E3 w w (.cells #[Z r,Z cl,Z s,Z k,Z f,Z u,Z pa,Z o,.bool t,.string SB] 82) ((w.alloc (.cells #[Z r,Z cl,Z s,Z k,Z f,Z u,Z pa,Z o,.bool t,.string SB] 82)).drewN m)):=λm=>⟨Ed (HB _) m,AF w _⟩
 have Q:Hid (∀W,E3 w w (.cells #[Z r,Z cl,Z s,Z k,Z f,Z u,Z pa,Z o,.bool t,.string SB] 82) W->W.cell? (Y lb (k*10+5))=some (.string S)/\W.cell? (Y lb (k*10+6))=some (Z X)/\W.cell? (Y lb (k*10+7))=some (.string C)/\DJ W lb (k*10+6)/\DJ W lb (k*10+7)):=λW a=>⟨(a.1.cell (p:=(Y lb (k*10+5))) d).trans a5,(a.1.cell (p:=(Y lb (k*10+6))) d).trans a6,(a.1.cell (p:=(Y lb (k*10+7))) d).trans a7,(a.1.frozen (p:=(Y lb (k*10+6))) d).trans z6,(a.1.frozen (p:=(Y lb (k*10+7))) d).trans z7⟩
 have HD:Hid (∀V W,E3 w V (.cells #[Z r,Z cl,Z s,Z k,Z f,Z u,Z pa,Z o,.bool t,.string SB] 82) W->(W.cell? (EN w 0)=some (Z r)/\W.cell? (EN w 1)=some (Z cl)/\W.cell? (EN w 2)=some (Z s)/\W.cell? (EN w 3)=some (Z k)/\W.cell? (EN w 4)=some (Z f))/\W.cell? (EN w 5)=some (Z u)/\W.cell? (EN w 6)=some (Z pa)/\W.cell? (EN w 7)=some (Z o)/\W.cell? (EN w 8)=some (.bool t)/\W.cell? (EN w 9)=some (.string SB)):=λV W a=>⟨⟨EI a.2 0,EI a.2 1,EI a.2 2,EI a.2 3,EI a.2 4⟩,EI a.2 5,EI a.2 6,EI a.2 7,EI a.2 8,EI a.2 9⟩
 have T:Hid (∀W,E3 w w (.cells #[Z r,Z cl,Z s,Z k,Z f,Z u,Z pa,Z o,.bool t,.string SB] 82) W->∀m,E3 w (Mq w lb k (C++SB) n) (.cells #[Z r,Z cl,Z s,Z k,Z f,Z u,Z pa,Z o,.bool t,.string SB] 82) (Mq (W.drewN m) lb k (C++SB) n)):=λW a m=>by
  refine⟨?_,?_⟩
  .have H:=Ed a.1 m;refine⟨H.os,H.tape,H.output,by simpa using H.size,λj hj=>?_⟩;by_cases e:j=lb
   .subst e;simp only[Mq,World.setCell,Cv,CQ];have h0:=H.block j hj;simp only[World.heap_drewN]at h0 ⊢;rw[h0]
   .rw[AU _ _ _ _ e,AU _ _ _ _ e,AU _ _ _ _ e,AU _ _ _ _ e];exact H.block j hj
  .rw[AU _ _ _ _ Fy,AU _ _ _ _ Fy];exact a.2
 have HU:Hid (∀W,E3 w (Mq w lb k (C++SB) n) (.cells #[Z r,Z cl,Z s,Z k,Z f,Z u,Z pa,Z o,.bool t,.string SB] 82) W->W.cell? (Y cb 2)=some (.map (some bm))/\W.cell? (Y lb (k*10+3))=some (Z uid)/\W.cell? (Y lb (k*10+4))=some (Z g)/\W.cell? (Y lb (k*10+7))=some (.string (C++SB))):=λW a=>by
  have c1:∀(p:Addr) (v:Ad),p.block<w.heap.size->p≠(Y lb (k*10+6))->p≠(Y lb (k*10+7))->w.cell? p=some v->W.cell? p=some v:=λp v hp n6 n7 hv=>((a.1.cell (p:=p) hp).trans ((AP (h:=n6.symm) ..).trans (AP (h:=n7.symm) ..))).trans hv
  refine⟨c1 _ _ ah Ev Ev b2,c1 _ _ d Ev Ev a3,c1 _ _ d Ev Ev a4,?_⟩;have n6:((Y lb (k*10+6)):Addr)≠(Y lb (k*10+7)):=Ev;exact(a.1.cell (p:=(Y lb (k*10+7))) d).trans ((AP (h:=n6) ..).trans (BU (h:=a7) ..))
 have e1:decide (X<n-1)=false:=by simpa using F
 have e2:decide (pa<pa)=false:=Ev;have aN:¬pa<pa:=U;by_cases b:pa=o-1
 .have e3:(pa==o-1)=true:=by simpa using b
  have⟨J,K⟩:=FU (D b) (E b);clear HG HR D E b F
  delta D7
  go_in
  go_wp2_with fail
  go_quiet (fail);go_wp2_with fail
  refine EE _ (HF _) ?_;intro W a;have⟨d5,d6,d7,y6,y7⟩:=Q W a;have hd:=HD _ W a;have⟨⟨f0,f1,f2,f3,f4⟩,f5,f6,f7,f8,f9⟩:=hd;have l:=T W a 2;have⟨ak,al⟩:=KM d5 f5;have ao:¬w.heap.size=lb:=U;have O:¬lb=w.heap.size:=U;clear a HF Q T;go_region_held3 (λc=>c.cell? (Y lb (k*10+5))=some (.string S)/\c.cell? (Y lb (k*10+7))=some (.string C)) (go_keep) (first|(go_at_call 203;refine cs (H1 _) ?_)|(go_at_call 203;refine cs (H2 _) ?_))
  go_wp2_with fail
  go_region
  go_wp2_with fail
  refine EE _ l ?_;intro V hV;have⟨g2,g3,g4,g7⟩:=HU V hV;have b5:=J V.drew hV.1.drew;have ae:=Dx (K V.drew hV.1.drew);clear hV l HU;go_region_law (first
   |(refine FG rfl 219 #[.tmp 79,.tmp 84,.tmp 89] #[3,3,125] rfl aex #[Z kind,Z g,.string (C++SB)] rfl _ ae ?_;rintro e w1 ⟨x,z,y,rfl,M⟩;have ab:=Dx (HE x z y w1 M);clear M;refine⟨_,rfl,?_⟩)
   |(refine FG rfl 218 #[.tmp 69,.tmp 90] #[242,37] rfl aew #[.pointer (some (Y lb (k*10))),.slice x z y] rfl _ ab ?_;rintro e w2 ⟨rfl,am⟩;refine⟨_,rfl,?_⟩))
  all_goals
   go_wp2;go_returns;exact⟨I,am⟩
 .have e3:(pa==o-1)=false:=by simpa using b
  have ad:=Dx (HG b);clear HG D E b F HE
  delta D7
  go_in
  go_wp2_with fail
  go_quiet (fail);go_wp2_with fail
  refine EE _ (HF _) ?_;intro W a;have⟨d5,d6,d7,y6,y7⟩:=Q W a;have hd:=HD _ W a;have⟨⟨f0,f1,f2,f3,f4⟩,f5,f6,f7,f8,f9⟩:=hd;have l:=T W a 2;have⟨ak,al⟩:=KM d5 f5;have ao:¬w.heap.size=lb:=U;have O:¬lb=w.heap.size:=U;clear a HF Q T;go_region_held3 (λc=>c.cell? (Y lb (k*10+5))=some (.string S)/\c.cell? (Y lb (k*10+7))=some (.string C)) (go_keep) (first|(go_at_call 203;refine cs (H1 _) ?_)|(go_at_call 203;refine cs (H2 _) ?_))
  go_wp2_with fail
  go_region
  go_wp2_with (first|(go_at_call 217;refine cm (ad _ l.1) λw3 N=>?_;have aa:=Dx (HR w3 N);clear N)|(go_at_call 149;refine cm aa λw4 an=>?_))
  go_returns;exact⟨I,an⟩
theorem aet:∀args w,(callFunc 149 args).run prog w=.ok (.enter 149 args) w:=λ_ _=>rfl
theorem oY(w:Aa)(cb lb C k:Nat)(b:Bool)(P:Pk)(d:World->Prop)(hk:k<C)(Q:P.H=k)(N:EB w cb 3 (EJ lb C C))
  (z:Hid (∀g,DY w g->D7 158 #[ptr cb,pv P] g (.bool b) (DY g)))
  (r:Hid (b=true->P.J=2->∀g,DY w g->D7 159 #[ptr cb,pv P] g Ep λn=>d n))
  (v:Hid (b=true->P.J=4->∀g,DY w g->D7 149 #[ptr cb,.pointer (Y lb (k*10))] g Ep λn=>d n))
  (x:Hid (b=true->P.J=5->∀g,DY w g->D7 160 #[ptr cb,pv P] g Ep λn=>d n))
  (t:Hid (b=true->P.J=7->∀g,DY w g->D7 161 #[ptr cb,pv P] g Ep λn=>d n))
  (q:Hid (b=false\/¬(P.J=2\/P.J=4\/P.J=5\/P.J=7)->∀g,DY w g->d g)):
  D7 94 #[ptr cb,pv P] w Ep λn=>d n:=by
 obtain⟨i,cl,F,ln,m,u,pa,o,G,D⟩:=P;dsimp only[pv]at *;subst Q;have L:=Gv N;have T:0<=(k:Int):=U;have X:(k:Int)<C:=U;generalize str D=SB at *;have s:Hid (∀o,DY w (w.alloc o)):=λo=>F9
 have A:Hid (∀f,Below (w.alloc (.cells #[Z i,Z cl,Z F,Z k,Z m,Z u,Z pa,Z o,.bool G,.string SB] 82)).heap.size (w.alloc (.cells #[Z i,Z cl,Z F,Z k,Z m,Z u,Z pa,Z o,.bool G,.string SB] 82)) f->E3 w w (.cells #[Z i,Z cl,Z F,Z k,Z m,Z u,Z pa,Z o,.bool G,.string SB] 82) f):=λf O=>⟨(s _).trans (O.mono Ev),by
  rw[O.block _ Ev];exact AF w _⟩
 have y:Hid (∀W,E3 w w (.cells #[Z i,Z cl,Z F,Z k,Z m,Z u,Z pa,Z o,.bool G,.string SB] 82) W->EB W cb 3 (EJ lb C C)/\(Kk W w 0 (Z i)/\Kk W w 1 (Z cl)/\Kk W w 2 (Z F)/\Kk W w 3 (Z k)/\Kk W w 4 (Z m))/\Kk W w 5 (Z u)/\Kk W w 6 (Z pa)/\Kk W w 7 (Z o)/\Kk W w 8 (.bool G)/\Kk W w 9 (.string SB)):=λW c=>⟨(c.1.cell (p:=Y cb 3) L).trans N,⟨EI c.2 0,EI c.2 1,EI c.2 2,EI c.2 3,EI c.2 4⟩,EI c.2 5,EI c.2 6,EI c.2 7,EI c.2 8,EI c.2 9⟩
 cases b with
 |false=>
  have j:=Dx (q (Aj I));clear r v x t q y
  delta D7
  go_in
  go_wp2_with (first|(go_at_call 158;refine cm (z _ (s _)) λf a=>?_;have l:=Dx (A f a).1;clear a))
  go_returns;exact⟨I,j _ (Dw l)⟩
 |true=>
  by_cases k2:i=2
  .have j:=Dx (r I k2);subst k2;clear r v x t q
   delta D7
   go_in
   go_wp2_with (first|(go_at_call 158;refine cm (z _ (s _)) λf a=>?_;have c:=A f a;have l:=Dx c.1;have hd:=y f c;obtain⟨H,⟨g0,g1,g2,g3,g4⟩,g5,g6,g7,g8,g9⟩:=hd;clear a c)|(go_at_call 159;refine cm (j _ l) λM h=>?_))
   go_returns;exact⟨I,h⟩
  .have n2:(i==2)=false:=by simpa using k2
   by_cases B:i=4
   .have j:=Dx (v I B);subst B;clear r v x t q k2
    delta D7
    go_in
    go_wp2_with (first|(go_at_call 158;refine cm (z _ (s _)) λf a=>?_;have c:=A f a;have l:=Dx c.1;have hd:=y f c;obtain⟨H,⟨g0,g1,g2,g3,g4⟩,g5,g6,g7,g8,g9⟩:=hd;clear a c))
    have K:=Dx (j _ l.drew);go_region_law (refine FG I 149 #[.tmp 17,.tmp 24] #[93,242] I aet #[ptr cb,.pointer (some (Y lb (k*10)))] I _ K ?_;rintro e M ⟨rfl,h⟩;refine⟨_,I,?_⟩)
    all_goals
     go_wp2;go_returns;exact⟨I,h⟩
   .have n4:(i==4)=false:=by simpa using B
    by_cases E:i=5
    .have j:=Dx (x I E);subst E;clear r v x t q k2 B
     delta D7
     go_in
     go_wp2_with (first|(go_at_call 158;refine cm (z _ (s _)) λf a=>?_;have c:=A f a;have l:=Dx c.1;have hd:=y f c;obtain⟨H,⟨g0,g1,g2,g3,g4⟩,g5,g6,g7,g8,g9⟩:=hd;clear a c)|(go_at_call 160;refine cm (j _ l) λM h=>?_))
     go_returns;exact⟨I,h⟩
    .have n5:(i==5)=false:=by simpa using E
     by_cases J:i=7
     .have j:=Dx (t I J);subst J;clear r v x t q k2 B E
      delta D7
      go_in
      go_wp2_with (first|(go_at_call 158;refine cm (z _ (s _)) λf a=>?_;have c:=A f a;have l:=Dx c.1;have hd:=y f c;obtain⟨H,⟨g0,g1,g2,g3,g4⟩,g5,g6,g7,g8,g9⟩:=hd;clear a c)|(go_at_call 161;refine cm (j _ l) λM h=>?_))
      go_returns;exact⟨I,h⟩
     .have S:(i==7)=false:=by simpa using J
      have j:=Dx (q (Am U));clear r v x t q k2 B E J
      delta D7
      go_in
      go_wp2_with (first|(go_at_call 158;refine cm (z _ (s _)) λf a=>?_;have c:=A f a;have l:=Dx c.1;have hd:=y f c;obtain⟨H,⟨g0,g1,g2,g3,g4⟩,g5,g6,g7,g8,g9⟩:=hd;clear a c))
      go_returns;exact⟨I,j _ (Dw l)⟩
theorem LW.wide(h:LW p F G w)(a:∀k,F k->F' k)(e:∀k,F' k->k<w):LW p F' G w:=by
 have⟨g,hn,d,f⟩:=h.A;have hk:DF (λ_=>False) w w:=DF.refl _ w;have b:Ip w F (λ_=>False):=Ip.apart (λ_ _ q=>q);refine⟨h.wf,h.g,h.bx,h.DW,?_,h.a.keep hk b a,h.e,h.cl,λi c hc=>?_,h.d,⟨a _ g,a _ hn,a _ d,a _ f⟩,λi hi=>?_,h.inj,e⟩;all_goals grind [LW,Iq.h,Ip.sv]
theorem ND{v:List V.It}(h:V.Row w B O v)(c:v≠[]):Gg w (λk=>O.ownBlock=k) O v/\∀k,O.ownBlock=some k->B<=k/\k<w:=by
 refine⟨?_,λk hk=>Ba h k hk⟩;rcases id h.2 with ⟨_,m⟩|⟨g,cap,a,rfl,_,e,b,_,f,l⟩
 .grind
 .refine Am ⟨g,0,cap,a,c,I,b,I,e,λj x d=>?_⟩;have n:=GG d;have q:∀i u,i<2->(V.flat v)[j*2+i]?=some u->a[0+j*2+i]?=some u:=λi u hi hu=>by
   grind
  exact⟨q 0 _ U (V.flat_get v j x d).1,q 1 _ U (V.flat_get v j x d).2⟩
theorem LW.rest(h:LW p F G w){c:R.Cl}{l:R.Ln}(b:R.At G i k c l)(v:l.d=1):
  D7 149 #[ptr (p.cb i),.pointer (some ⟨p.lb i,k*10,none⟩)] w Ep λu=>LW p F (R.JS G i k) u/\D8 F F w u:=by
 have⟨E,x,g,y,D,a,z,t,r⟩:=h.H b.cl b.ln;have d:=P4 h b.cl;have hi:=GG b.cl;have f:=(h.wf.cl i c b.cl).H k l b.ln;have⟨H,J,s,m,B,A⟩:=f.one v;have n:=h.wf.cf;unfold R.GA at n;have o:=(h.b i hi).2.1;have e:R.JS G i k=R.Eh G i k {l with C:=G.c.c,e:=G.c.e}:=by
  unfold R.JS;rw[b.H]
 rw[e];refine cm (ZR w (p.cb i) (p.lb i) k G.c.c G.c.e E x g D d.a4 d.a5 (ES (h.cl i c b.cl) g Em)) ?_;rintro u ⟨j,hk⟩;refine⟨I,?_,hk.mono (λq _ e=>by rw[e];exact o),λ_ q=>Aj q⟩;exact h.Sr b.cl g y t hk j ⟨f.a,λ_=>⟨H,J,s,m,by simp only;omega,by simp only;omega⟩⟩ ⟨a.d,a.a,a.b,λq=>⟨(a.one q).1,(a.one q).2.1,(a.one q).2.2.1,I,I⟩,a.two⟩ r
theorem LW.got(h:LW p F G w){c:R.Cl}{l:R.Ln}(a:R.At G i k c l)(j:l.d=1){P:Pk}(t:EC P)(r:i<3)(s:k<3)(m:P.H=k):
  D7 217 #[ptr (p.cb i),pv P] w Ep λg=>∃d,LW p d (R.LP G i P) g/\D8 F d w g:=by
 refine rY _ (λz n=>?_);have b:=(h.wf.cl i c a.cl).H k l a.ln;have⟨A,y,_,_,_,_⟩:=b.one j;have f:=(h.wf.cl i c a.cl).b;have u:=b.a;have⟨_,_,_,_,_,_,o,q,_⟩:=t;rw[m];refine((h.h n).vx a.cl a.ln j 6 P.Ez P.off false [] ⟨Ev,by simp only;omega,f,by simp only;omega,by simp only;omega,y,o,q,?_⟩).mono ?_
 .unfold Ju;simp
 .rintro e g ⟨rfl,d,v,x⟩;refine⟨I,d,?_,(D8.J F n).trans x⟩;have e:R.LP G i P=R.E9 G (-1) ⟨6,i,c.b,k,l.a,l.c,P.Ez,P.off,false,[]⟩:=by
   unfold R.LP;rw[m,a.H,R.GH a.cl]
  rw[e];exact v
theorem dw(w:Aa)(b off cap:Nat):
  ET 39 #[.slice (Y b off) 0 cap] w λe c=>(∃a,e=.returned (.slice a 0 0))/\DY w c:=by
 have d:∀w,(binOp .eql 37 (.slice (some (Y b off)) 0 cap) Dz).run prog w=.ok DI w:=λw=>by rfl
 delta ET
 go_in
 go_wp2
 go_ret
 exact⟨⟨_,I⟩,F9⟩
theorem QU(l:List R.En)(e:R.En)d:∀b,R.I6 (l++[e]) d b=if R.IJ e.arg 0=d then e.arg.drop 2 else R.I6 l d b:=by
 induction l with
 |nil=>intro b;rfl
 |cons a l ih=>intro b;exact ih _
theorem dC(w:Aa)(b dn h off n cap dc:Nat)(da:Af)f(k:dn<3)(hn:2<=n)(j:n<=cap)(c0:EB w h off (Z dn))(db:EB w b dn (.slice da 0 dc))(z:DJ w b dn)
  (C:Value->World->World->Prop) (a:Value->World->Prop)
  (H74:Hid (∀d,DY w d->ET 39 #[.slice (Y h (if cap=2 then off else off+4)) (n-2) (cap-2)] d λe g=>(∃ra rn rc,e=.returned (.slice ra rn rc)/\C (.slice ra rn rc) d g)/\DY d g))
  (HP:Hid (∀O d w1,DY w d->DY w w1->C O d w1->a (EJ w1 2 2) ((w1.setCell (Y b dn) O).alloc (.cells #[Z 0,.string ⟨#[]⟩,Z 0,.string ⟨#[]⟩] 73)))):
  ET 294 #[ptr b,Z f,.slice (Y h off) n cap] w λe g=>∃O,e=.returned O/\a O g:=by
 obtain⟨q,r,s⟩:0<=(dn:Int)/\(dn:Int)<3/\0<(n:Int):=U;have hl:=Gv db;have HB:Hid (∀m,DY w (w.drewN m)):=λm=>Ed (AA _ _) m
 by_cases c:cap=2
 .rw[Ay c]at H74;subst c;have i:n=2:=U;subst i;exact afp
 .rw[Ao c]at H74;have l:¬cap-2=0:=U;have o:2<cap:=U;exact afp
theorem lK(w:Aa)(b dn r off n cap lb lo dc:Nat)(l:List V.It)i(G:dn<3)(hn:2<=n)(B:n<=cap)(h:l≠[])(H:l.length<=100)(c0:EB w r off (Z dn))(db:EB w b dn (.slice (Y lb lo) l dc))(z:DJ w b dn)(g:lb<w)(t:¬lb=b)(a:∀j x,l[j]?=some x->EB w lb (lo+j*2) (Z x.1)/\EB w lb (lo+j*2+1) (.string x.2))
  (C:Value->World->World->Prop) (c:Value->World->Prop)
  (H74:Hid (∀f,DY w f->ET 39 #[.slice (Y r (if cap=2 then off else off+4)) (n-2) (cap-2)] f λe o=>(∃ra rn rc,e=.returned (.slice ra rn rc)/\C (.slice ra rn rc) f o)/\DY f o))
  (HP:Hid (∀O f w1 R w2,DY w f->DY w w1->C O f w1->V.Row w2 w1 R ((1,⟨#[]⟩) :: (l,⟨#[]⟩) :: l)->Below w1 (w1.setCell (Y b dn) O) w2->c R w2)):
  ET 294 #[ptr b,Z i,.slice (Y r off) n cap] w λe o=>∃O,e=.returned O/\c O o:=by
 obtain⟨L,M,N⟩:0<=(dn:Int)/\(dn:Int)<3/\0<(n:Int):=U;have hl:=Gv db;have D:=Cg.2 h;have e1:((l.length:Int)==0)=false:=by simp[h]
 have HB:Hid (∀m,DY w (w.drewN m)):=λm=>Ed (AA _ _) m
 have⟨i0,hi,hz0,hz1,hz2⟩:=A1 V.LQ;have hfl:=V.I5 l;have HSRC:Hid (∀(w1:Aa) (O:Ad),DY w w1->∀j u,(V.flat l)[j]?=some u->((w1.setCell (Y b dn) O).alloc (.cells #[Z 1,.string ⟨#[]⟩,Z (l.length:Int),.string ⟨#[]⟩] 73)).cell? (((Y lb lo):Addr).add j)=some u):=λw1 O hb1=>by
  refine YU (w:=(w1.setCell (Y b dn) O).alloc (.cells #[Z 1,.string ⟨#[]⟩,Z (l.length:Int),.string ⟨#[]⟩] 73)) l (λj x E=>?_);have y:lb<w1.heap.size:=Ai g hb1.size;have s:∀q v,EB w lb q v->((w1.setCell (Y b dn) O).alloc (.cells #[Z 1,.string ⟨#[]⟩,Z (l.length:Int),.string ⟨#[]⟩] 73)).cell? (Y lb q)=some v:=λq v J=>by
   have F:Below (w1.setCell (Y b dn) O).heap.size (w1.setCell (Y b dn) O) ((w1.setCell (Y b dn) O).alloc (.cells #[Z 1,.string ⟨#[]⟩,Z (l.length:Int),.string ⟨#[]⟩] 73)):=F9;rw[F.cell (p:=Y lb q) (by simpa using y),World.cell?_setCell_far _ _ _ _ (λe=>t e.symm)];exact(hb1.cell (p:=Y lb q) g).trans J
  exact⟨s _ _ (a j x E).1,s _ _ (a j x E).2⟩
 have HROW:Hid (∀(w1:Aa) (O:Ad),((w1.setCell (Y b dn) O).alloc (.cells #[Z 1,.string ⟨#[]⟩,Z (l.length:Int),.string ⟨#[]⟩] 73)).ownsRow w1.heap.size 73 2 (EJ w1.heap.size 2 2) 2 [Z 1,.string ⟨#[]⟩,Z (l.length:Int),.string ⟨#[]⟩]):=λw1 O=>by
  refine⟨I,Am ⟨w1.heap.size,2,#[Z 1,.string ⟨#[]⟩,Z (l.length:Int),.string ⟨#[]⟩],I,Ar _,?_,Ar _,Em,I,I⟩⟩;have:=AF (w1.setCell (Y b dn) O) (.cells #[Z 1,.string ⟨#[]⟩,Z (l.length:Int),.string ⟨#[]⟩] 73);simpa using this
 clear a;by_cases d:cap=2
 .rw[Ay d]at H74;subst d;have A:n=2:=U;subst A;exact afe
 .rw[Ao d]at H74;have K:¬cap-2=0:=U;have s:2<cap:=U;exact afe
theorem YD{log:List R.En}{out:List R.It}(r:F b)(v:w.heap[b]?=some (.cells #[d0,d1,d2] 329 (0,0)))(t:K=.slice none 0 0)(B:OZ w F d0 (R.I6 log 0 []))(C:OZ w F d1 (R.I6 log 1 []))(D:OZ w F d2 (R.I6 log 2 []))(G:dn<3)(j:R.IJ en.arg 0=dn)(i:DY w w1)
  (hC:(en.arg.drop 2=[]/\∃a,O=.slice a 0 0)\/Gg w1 (λk=>w<=k/\k<w1) O (en.arg.drop 2)) (c:Below w1 (w1.setCell (Y b dn) O) w2) (n:V.Row w2 w Zq out):kz w F log en b K 2 (.iface 327 (ptr b)) Zq out w2:=by
 have y:=Dv v;have H:=i.size;have z:=c.size;simp only[Dr]at z;have x:DF (λk=>k=b) w (w1.setCell (Y b dn) O):=(DF.J i _).trans (Eg _);have m:DF (λk=>k=b) (w1.setCell (Y b dn) O) w2:=⟨c.os,c.tape,c.output,c.size,λk hk _=>c.block k (by simpa using hk)⟩;have hk:=x.trans m;have o:w1.heap[b]?=some (.cells #[d0,d1,d2] 329 (0,0)):=by rw[i.block b y];exact v
 have d:w2.heap[b]?=some (.cells ([d0,d1,d2].set dn O).toArray 329 (0,0)):=by
  rw[c.block b U];exact Ek (cs:=[d0,d1,d2]) (off:=dn) o O
 have f:∀{A:Ad} {l:List R.It},OZ w F A l->OZ w2 (λk=>F k\/(w.heap.size<=k/\k<w2.heap.size)) A l:=λh=>h.keep hk (λk p s g e=>by
  subst e
  delta Dy at g
  rw[v]at g;cases g) (λ_ q=>Aj q)
 have u:OZ w2 (λk=>F k\/(w.heap.size<=k/\k<w2.heap.size)) O (en.arg.drop 2):=by
  rcases hC with hC|hC
  .exact Aj hC
  .refine Am (hC.keep (E:=λk=>k=b) ((Eg _).trans m) (λk p s g e=>?_) (λk q=>Am ⟨q.1,U⟩));subst e;omega
 refine⟨n,hk.mono (λk _ e=>Aj e),K,?_,Aj I⟩;have l0:=QU log en 0 [];have l1:=QU log en 1 [];have l2:=QU log en 2 [];rw[j]at l0 l1 l2;have hd:dn=0\/dn=1\/dn=2:=U;rcases hd with rfl|rfl|rfl
 .rw[Ay Em]at l0;rw[Ao Em]at l1 l2;exact .P9 O d1 d2 (Aj r) d t (by rw[l0];exact u) (by rw[l1];exact f C) (by rw[l2];exact f D)
 .rw[Ao Em]at l0 l2;rw[Ay Em]at l1;exact .P9 d0 O d2 (Aj r) d t (by rw[l0];exact f B) (by rw[l1];exact u) (by rw[l2];exact f D)
 .rw[Ao Em]at l0 l1;rw[Ay Em]at l2;exact .P9 d0 d1 O (Aj r) d t (by rw[l0];exact f B) (by rw[l1];exact f C) (by rw[l2];exact u)
theorem aac(w Uq:Aa)(a:w<=Uq.heap.size)(n m:Int)(s t:Ab):V.Row (Uq.alloc (.cells #[Z n,.string s,Z m,.string t] 73)) w (EJ Uq 2 2) [(n,s),(m,t)]:=by
 refine⟨I,Am ⟨Uq.heap.size,2,#[Z n,.string s,Z m,.string t],I,a,?_,Ar _,Em,I,I⟩⟩;exact AF Uq _
theorem yM(F:D9){log:List R.En}(h:Fp w F log b K 2 W)(ae:∀k,F k->k<w)(hX:V.Ff w X en.arg)(ha:∃d k rest,en.arg=d :: k :: rest/\(0<=d.1/\d.1<=2)/\rest.length<=3)(ad:∀d,(R.I6 log d []).length<=3):
  ET 294 #[ptr b,Z en.g,X] w λe f=>∃O,e=.returned O/\kz w F log en b K 2 W O (R.Hw 2 log en.g en.arg) f:=by
 have⟨d,k,rest,o,hd,hr⟩:=ha;have hn:en.arg.length=rest.length+2:=by rw[o];rfl
 obtain⟨a,cap,rfl,r,hc⟩:=hX;rcases hc with h0|⟨t,off,rfl,u,hc⟩
 .rw[o]at h0;cases h0
 have⟨c0,_⟩:=hc 0 d (by rw[o];rfl);simp only[Dt,Cz]at c0;obtain⟨dn,J⟩:∃dn:Nat,d.1=(dn:Int):=⟨d.1.toNat,U⟩;rw[J]at c0;have i:R.IJ en.arg 0=(dn:Int):=by rw[o,<-J];rfl
 generalize hk0:(2:Int)=kd at h;cases h with
 |counter=>cases hk0
 |MZ=>cases hk0
 |P9 d0 d1 d2 hF hb hK g0 g1 g2=>
  have av:=Dv hb;obtain⟨D,l,hD,E,hl⟩:∃D l,EB w b dn D/\OZ w F D l/\l=R.I6 log (dn:Int) []:=by
   have ac:dn=0\/dn=1\/dn=2:=U;rcases ac with rfl|rfl|rfl
   .exact⟨d0,_,EI hb 0,g0,I⟩
   .exact⟨d1,_,EI hb 1,g1,I⟩
   .exact⟨d2,_,EI hb 2,g2,I⟩
  have L:=ad (dn:Int);rw[<-hl]at L;have z:en.arg.drop 2=rest:=by rw[o];rfl
  have B:Hid (∀s,DY w s->ET 39 #[.slice (some (Y t (if cap=2 then off else off+4))) (en.arg.length-2) (cap-2)] s λe f=>(∃M P N,e=.returned (.slice M P N)/\((en.arg.drop 2=[]/\∃a,Value.slice M P N=.slice a 0 0)\/Gg f (λk=>w.heap.size<=k/\k<f.heap.size) (.slice M P N) (en.arg.drop 2)))/\DY s f):=λs g=>by
   rw[z];have e0:en.arg.length-2=rest.length:=U;rw[e0];cases hre:rest with
   |nil=>
    refine(dw s t _ (cap-2)).mono ?_;rintro e f ⟨⟨a,rfl⟩,G⟩;all_goals grind
   |cons r0 rs=>
    rw[<-hre];have ab:¬cap=2:=by all_goals grind
    rw[Ao ab];refine(TK s t (off+4) (cap-2) rest U (λj x ak=>?_) (Ai u g.size)).mono ?_
    .have⟨p1,p2⟩:=hc (j+2) x (by rw[o];exact ak);have e1:off+(j+2)*2=off+4+j*2:=U;rw[e1]at p1 p2;exact⟨(g.cell (p:=Y t _) u).trans p1,(g.cell (p:=Y t _) u).trans p2⟩
    .rintro e f ⟨⟨O,rfl,c,_⟩,G⟩;have⟨M,P,N,hO⟩:=Ei c;subst hO;have⟨q1,q2⟩:=ND c (by rw[hre];simp);refine⟨⟨M,P,N,I,Am (q1.keep (DF.refl (λ_=>False) f) (λ_ _ _ _ q=>q) (λk hk=>?_))⟩,G⟩;have:=q2 k hk;have:=g.size;omega
  have y:R.Hw 2 log en.g en.arg=if l.length=0 then [R.num 0,R.num 0] else R.num 1 :: R.num l.length :: l:=by all_goals grind [R.Hw]
  rw[y];by_cases n:l=[]
  .subst n;have ah:∃S C,D=.slice S 0 C:=by
    rcases E with ⟨_,a,rfl⟩|A
    .exact⟨_,_,I⟩
    .rcases A with ⟨_,rfl⟩|⟨_,_,_,_,q,_⟩;all_goals grind
   obtain⟨S,C,rfl⟩:=ah;simp only[List.length_nil,CQ];refine dC w b dn t off en.arg.length cap C S en.g U U r c0 hD (Eb hb) (λO _ f=>(en.arg.drop 2=[]/\∃a,O=.slice a 0 0)\/Gg f (λk=>w.heap.size<=k/\k<f.heap.size) O (en.arg.drop 2)) _ B ?_;rintro O s Q g m hC;have e2:(Q.setCell (Y b dn) O).heap.size=Q.heap.size:=Ev;refine YD hF hb hK g0 g1 g2 U i m hC ((AA _ _).alloc (by rw[e2];exact Ar _) _) ?_;have:=aac w (Q.setCell (Y b dn) O) (by rw[e2];exact m.size) 0 0 ⟨#[]⟩ ⟨#[]⟩;rw[e2]at this;exact this
  .rcases E with ⟨q,_⟩|A
   .exact absurd q n
   .rcases A with ⟨q,_⟩|⟨lb,lo,C,aq,_,rfl,_,T,v,H⟩
    .exact absurd q n
    .rw[Ao (λq=>n (B6.1 q))];refine lK w b dn t off en.arg.length cap lb lo C l en.g U U r n U c0 hD (Eb hb) (ae lb T) (ES v hb Em) (λj x o=>⟨by show _=_;simp[World.cell?,v,(H j x o).1],by show _=_;simp[World.cell?,v,(H j x o).2]⟩) (λO _ f=>(en.arg.drop 2=[]/\∃a,O=.slice a 0 0)\/Gg f (λk=>w.heap.size<=k/\k<f.heap.size) O (en.arg.drop 2)) _ B ?_;rintro O s Q R w2 g m hC c aa;exact YD hF hb hK g0 g1 g2 U i m hC aa (V.GL c m.size)
end Go.Proofs.YtblomippkddgiabGreatDoor
