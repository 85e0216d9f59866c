import Derived.Test.YtblomippkddgiabGreatDoorJ23
import Derived.Lib.ConvBytes
set_option maxRecDepth 100000
set_option maxHeartbeats 2000000
namespace Go.Proofs.YtblomippkddgiabGreatDoor
open Go.RowKit
variable {cur:Array Value}{E F:Aq}{jobs:List R.Jb}{l:List UInt8}{G b n nm s u:Nat}{z:Nat×Nat}{c:R.Cf}{t:SP}{W w:World}
def Vn(W:World)(G:Nat)(l:List UInt8):Prop:=G<W.heap.size/\∀j (c:UInt8),l[j]?=some c->W.cell? ⟨G,j,none⟩=some (.int .u8 (c.toNat:Int))/\W.frozen? ⟨G,j,none⟩=false
theorem Vn.set(h:Vn W G l)(i:Nat)(x:UInt8):Vn (W.setCell ⟨G,i,none⟩ (.int .u8 (x.toNat:Int))) G (l.set i x):=by
 refine⟨by simpa using h.1,fun j c hj=>?_⟩;by_cases aa:j=i
 ·subst aa;have hl:j<l.length:=by
   have:=(afG.1 hj).1;simpa using this
  rw[List.getElem?_set_self hl]at hj;obtain rfl:=Option.some.inj hj;obtain⟨h1,h2⟩:=h.2 j _ (afH hl);exact⟨by simp[go_sem,h1],by simpa [go_sem] using h2⟩
 ·rw[List.getElem?_set_ne (by omega)]at hj;obtain⟨h1,h2⟩:=h.2 j c hj;exact⟨by simp[go_sem,h1],by simpa [go_sem] using h2⟩
theorem Vn.conv(h:Vn W G l)(cap:Nat):(convert 281 9 (.slice (some ⟨G,0,none⟩) l.length cap)).run Tryz.prog W=.ok (.string (str l)) W:=by
 refine run_convert_bytes_back (P:=Tryz.prog) W 281 9 5 ⟨G,0,none⟩ cap l Tryz.underlying281 (by kernel_rfl) Tryz.underlying9 fun j hj=>?_
 rw[Addr.add_lit,agn];exact(h.2 j _ (afH hj)).1
theorem aar(W:World)(l:List UInt8):∃(cap:Nat) (W':World),(convert 9 281 (.string (str l))).run Tryz.prog W=.ok (.slice (some ⟨W.heap.size,0,none⟩) l.length cap) W'/\Vn W' W.heap.size l/\Below W.heap.size W W':=by
 have h:=Lib.run_convert_string_bytes (P:=Tryz.prog) W 9 281 5 (str l) Tryz.underlying9 Tryz.underlying281 (by kernel_rfl);rw[Ax]at h;refine⟨_,_,h,⟨by rw[Lib.bytesWorld_size];omega,fun j c hj=>⟨?_,?_⟩⟩,?_⟩
 ·have hl:j<l.length:=(afG.1 hj).1;rw[Lib.bytesWorld_cell W 5 (str l) j (by rw[Ax];exact hl)];simp[List.getD,hj]
 ·have hl:j<l.length:=(afG.1 hj).1;have hs:l.length<=(Lib.bytesCells W 5 (str l)).size:=by
   unfold Lib.bytesCells;simp
  simp only[World.frozen?,Lib.bytesWorld_at_new];simp;omega
 ·refine⟨?_,?_,?_,by rw[Lib.bytesWorld_size];omega,fun k hk=>Lib.bytesWorld_at_old W 5 (str l) k hk⟩
  ·simp[Lib.bytesWorld,World.freeze];rfl
  ·simp[Lib.bytesWorld,World.freeze]
  ·simp[Lib.bytesWorld,World.freeze];rfl
theorem TN(p:Pk)(hr:AR p)(w:World):Calls Tryz.prog 54 #[.string (str (Bm p))] w fun e w'=>e=.returned (.tuple #[pv p,.int .i64 0])/\Below w.heap.size w w':=by
 have hl:=E5 p;have hb:=LO hr;refine(Ri (Bm p) w (by omega)).mono ?_;unfold Nb;rw[Fx hr];rintro e w' ⟨hb,⟨hn,_⟩|⟨p',hp,rfl⟩⟩
 ·cases hn
 ·cases hp;exact⟨rfl,hb⟩
theorem Wm(l:List UInt8)(hn:CO l=none)(hl:l.length<=1000)(w:World):Calls Tryz.prog 54 #[.string (str l)] w fun e w'=>e=.returned (.tuple #[aae,.int .i64 7])/\Below w.heap.size w w':=by
 refine(Ri l w (by omega)).mono ?_;unfold Nb;rw[hn];rintro e w' ⟨hb,⟨_,rfl⟩|⟨p',hp,_⟩⟩
 ·exact⟨rfl,hb⟩
 ·cases hp
theorem ac8(a d:UInt8):bits .xor .u8 (a.toNat:Int) (d.toNat:Int)=((a ^^^ d).toNat:Int):=by
 have ha:=a.toNat_lt;have hd:=d.toNat_lt;have n1:(BitVec.ofInt 8 (a.toNat:Int)).toNat=a.toNat:=by
  rw[BitVec.ofInt_natCast,BitVec.toNat_ofNat];omega
 have n2:(BitVec.ofInt 8 (d.toNat:Int)).toNat=d.toNat:=by
  rw[BitVec.ofInt_natCast,BitVec.toNat_ofNat];omega
 show IntKind.u8.wrap ((BitVec.ofInt 8 (a.toNat:Int) ^^^ BitVec.ofInt 8 (d.toNat:Int)).toNat:Int)=_;rw[BitVec.toNat_xor,n1,n2,UInt8.toNat_xor];have aa:a.toNat ^^^ d.toNat<2 ^ 8:=Nat.xor_lt_two_pow (by omega) (by omega);rw[wrap_u8];omega
def My(t:TypeId):Bool:=t==71 || t==93 || t==110 || t==166 || t==133 || t==129 || t==73
def Ca(w:World)(E:Aq):Prop:=∀b,E b->(∃cur t z,w.heap[b]?=some (.cells cur t z)/\My t=false)\/∃cap buf cl a r tm,w.heap[b]?=some (.chan cap buf cl a r tm)
theorem Ca.cells(h:Ca w E){t:TypeId}(hb:w.heap[b]?=some (.cells cur t z))(ht:My t=true):¬E b:=fun hE=>by
 rcases h b hE with ⟨aa,t',z',h1,h2⟩|⟨cap,buf,cl,a,r,tm,h1⟩
 ·rw[hb]at h1;cases h1;rw[ht]at h2;cases h2
 ·rw[hb]at h1;cases h1
theorem Ca.map(h:Ca w E){es:Array MapEntry}{cl:Nat}(hb:w.heap[b]?=some (.map es cl)):¬E b:=fun hE=>by
 rcases h b hE with ⟨aa,t',z',h1,h2⟩|⟨cap,buf,cl,a,r,tm,h1⟩
 ·rw[hb]at h1;cases h1
 ·rw[hb]at h1;cases h1
theorem Ca.one{t:TypeId}(h:w.heap[b]?=some (.cells cur t z))(ht:My t=false):Ca w (fun k=>k=b):=fun k hk=>afJ ⟨cur,t,z,by subst hk;exact h,ht⟩
theorem Ca.or{E':Aq}(h:Ca w E)(h':Ca w E'):Ca w (fun k=>E k\/E' k):=fun k hk=>by
 rcases hk with hk|hk
 ·exact h k hk
 ·exact h' k hk
theorem Ca.row{B size:Nat}{e:TypeId}{v:Value}{xs:List Value}(hr:w.ownsRow B e size v n xs)(he:My e=false):Ca w (fun k=>v.ownBlock=some k):=fun k hk=>by
 rcases hr.2 with ⟨rfl,_⟩|⟨g,cap,cur,rfl,_,hg,_⟩
 ·cases hk
 ·cases hk;exact afJ ⟨_,_,_,hg,he⟩
abbrev Bs(G:R.Wd)(sv:List R.Sv)(Aj:List Int)(seen:List R.Sn)(jobs:List R.Jb):R.Wd:={G with Ab:=sv,Aj:=Aj,seen:=seen,jobs:=jobs}
theorem LW.Ha{p:Pl}{F':Aq}{G:R.Wd}{w':World}(h:LW p F G w){sv:List R.Sv}{Aj:List Int}{seen:List R.Sn}(hs:Cg p.s p.n p.nm t F' G.c sv Aj seen jobs w')(hk:Af E w w')(hE:Ca w E)(hF:∀k,F k->F' k)(ad:∀k,F' k->k<w'.heap.size)(af:R.Wf (Bs G sv Aj seen jobs))(ag:R.Md G.c Aj seen jobs)(ab:∀(i:Nat) (c:R.Cl),G.Ad[i]?=some c->∀u,BL (Bs G sv Aj seen jobs) c u=BL G c u):LW {p with t:=t} F' (Bs G sv Aj seen jobs) w':=by
 obtain⟨hx,hn,ac,ae⟩:=h.BP;have aa:∀{α:Type} {k:TypeId} {b:Nat} {lit:α->Lit} {g:α->Option Int} {n:Nat},Mp w k b lit g n->Mp w' k b lit g n:=fun hm=>by
  obtain⟨es,q,hq⟩:=hm.block;exact hm.keep hk (hE.map hq)
 refine⟨af,ag,hk.at h.bx (hE.cells h.bx rfl),?_,?_,hs,aa h.names,fun i c hc=>hk.at (h.cl i c hc) (hE.cells (h.cl i c hc) rfl),fun i c hc=>?_,fun i c hc=>(aa (h.bound i c hc)).congr (ab i c hc),⟨hF _ hx,hF _ hn,hF _ ac,hF _ ae⟩,fun i hi=>?_,h.inj,ad⟩
 ·obtain⟨cur,h1,h2⟩:=h.XH;exact⟨cur,hk.at h1 (hE.cells h1 rfl),h2⟩
 ·obtain⟨K,h1,h2,h3⟩:=h.bn;refine⟨K,hk.at h1 (hE.cells h1 rfl),hk.row h2 (fun j hj=>?_),fun j hj=>hF _ (h3 j hj)⟩;rcases h2.2 with ⟨rfl,_⟩|⟨g,cap,cur,rfl,_,hg,_⟩
  ·cases hj
  ·cases hj;exact hE.cells hg rfl
 ·obtain⟨xs,h1,h2,h3⟩:=h.ln i c hc;exact⟨xs,hk.at h1 (hE.cells h1 rfl),h2,fun k l x hl hx=>(h3 k l x hl hx).keep hk (fun b cur _ hb=>hE.cells hb rfl) hF⟩
 ·obtain⟨a1,a2,a3,a4⟩:=h.FG i hi;exact⟨hF _ a1,hF _ a2,hF _ a3,a4⟩
theorem Cg.Jt{sv:List R.Sv}{Aj:List Int}{seen:List R.Sn}(h:Cg s n nm t F c sv Aj seen jobs w){z:R.Sv×MV}(hz:t.zs[u]?=some z):∃g cap cur,t.K=.slice (some ⟨g,0,none⟩) t.zs.length cap/\w.heap[g]?=some (.cells cur 99 (0,0))/\F g/\w.cell? ⟨g,u*3,none⟩=some (.int .i64 z.1.kind)/\w.cell? ⟨g,u*3+1,none⟩=some z.2.wk/\w.cell? ⟨g,u*3+2,none⟩=some z.2.dn/\t.zs.length<=cap/\cap<=maxLen/\cur.size=cap*3/\cur.toList.take (t.zs.length*3)=tab GX t.zs:=by
 have hu:=(afG.1 hz).1;rcases id h.made.2 with ⟨_,h0⟩|⟨g,cap,cur,hK,_,hg,aa,ab,ad,ac⟩
 ·omega
 have q:∀j v,j<3->(GX z)[j]?=some v->w.cell? ⟨g,u*3+j,none⟩=some v:=fun j v hj hv=>by
  have:=E7 Fu t.zs u j z hz hj;rw[hv,<-ac,af7,if_pos (by omega)]at this;simp[World.cell?,hg];simpa using this
 refine⟨g,cap,cur,hK,hg,h.BP.2.2 g (by rw[hK];rfl),?_,q 1 _ (by omega) rfl,q 2 _ (by omega) rfl,aa,ab,ad,ac⟩;exact q 0 _ (by omega) rfl
theorem KV{sv:List R.Sv}(h:t.zs.map (·.1)=sv){s:R.Sv}(hs:sv[u]?=some s):∃z,t.zs[u]?=some z/\z.1=s:=by
 rw[<-h,afW]at hs;cases hz:t.zs[u]? with
 |none=>rw[hz]at hs;cases hs
 |some z=>rw[hz]at hs;exact⟨z,rfl,Option.some.inj hs⟩
theorem map_set{α β:Type}(f:α->β)(l:List α)(i:Nat)(x:α):(l.set i x).map f=(l.map f).set i (f x):=by
 apply agd;intro j;simp only[afW,afV,af0];split
 ·split<;>rfl
 ·rfl
theorem Kf{α:Type}{l:List α}{i:Nat}{x y:α}(h:(l.set u x)[i]?=some y):(i=u/\y=x)\/(i≠u/\l[i]?=some y):=by
 rw[afV]at h;by_cases e:u=i
 ·rw[if_pos e]at h;split at h
  ·exact afJ ⟨e.symm,(Option.some.inj h).symm⟩
  ·cases h
 ·rw[if_neg e]at h;exact afM ⟨fun q=>e q.symm,h⟩
theorem OL(l:List Value)(n i:Nat)(v:Value):(l.set i v).take n=(l.take n).set i v:=by
 apply agd;intro j;simp only[af7,afV,aga];by_cases hj:j<n
 ·by_cases e:i=j
  ·subst e;have:i<min n l.length↔i<l.length:=by omega
   simp[hj,this]
  ·simp[hj,e]
 ·by_cases e:i=j
  ·subst e;simp[hj];omega
  ·simp[hj,e]
def Oh(z:R.Sv×MV):R.Sv×MV:=({z.1 with alive:=false},{z.2 with wk:=.nilIface})
theorem Cg.dead{sv:List R.Sv}{Aj:List Int}{seen:List R.Sn}(h:Cg s n nm t F c sv Aj seen jobs w){g cap:Nat}{z:R.Sv×MV}(hz:t.zs[u]?=some z)(hK:t.K=.slice (some ⟨g,0,none⟩) t.zs.length cap)(hg:w.heap[g]?=some (.cells cur 99 (0,0)))(aa:t.zs.length<=cap)(ac:cap<=maxLen)(ai:cur.size=cap*3)(aj:cur.toList.take (t.zs.length*3)=tab GX t.zs):Cg s n nm {t with zs:=t.zs.set u (Oh z)} F c (sv.set u {z.1 with alive:=false}) Aj seen jobs (w.setCell ⟨g,u*3+1,none⟩ .nilIface):=by
 obtain⟨f1,f2,f3⟩:=h.BP;have hk:Af (fun k=>k=g) w (w.setCell ⟨g,u*3+1,none⟩ .nilIface):=Ah _;have ae:JD w F (fun k=>k=g):=JD.one hg (by decide);refine⟨hk.at h.bs (AZ h.bs hg (by decide)),?_,?_,fun y hy=>?_,fun i j a b ha hb ab k ag=>?_,fun i j a b ha hb ab ad af=>?_,fun i r hr ah=>?_,h.inj,?_,f1,f2,f3⟩
 ·simp only[map_set];rw[h.zs];rfl
 ·simp only;rw[agq];refine⟨by rw[Dh Fu,agq,agF],afM ⟨g,cap,_,hK,af8 _,Ai (cs:=cur.toList) (off:=u*3+1) hg .nilIface,aa,ac,by simpa using ai,?_⟩⟩;rw[OL,aj];exact IU Fu t.zs u 1 z (Oh z) _ hz (by omega) rfl
 ·rcases agc hy with q|q
  ·exact(h.each y q).keep hk ae (fun _ r=>r)
  ·have h0:=(h.each z (afU hz)).keep hk ae (fun _ r=>r);rw[q];exact⟨by simp[Oh],h0.log,h0.own⟩
 ·have get:∀{i:Nat} {a:R.Sv×MV},(t.zs.set u (Oh z))[i]?=some a->∃a0,t.zs[i]?=some a0/\a.2.dn=a0.2.dn:=fun ha=>by
   rcases Kf ha with ⟨rfl,rfl⟩|⟨_,q⟩
   ·exact⟨z,hz,rfl⟩
   ·exact⟨_,q,rfl⟩
  obtain⟨a0,p1,p2⟩:=get ha;obtain⟨b0,p3,p4⟩:=get hb;rw[p2]at ag;rw[p4];exact h.dns i j a0 b0 p1 p3 ab k ag
 ·have get:∀{i:Nat} {a:R.Sv×MV},(t.zs.set u (Oh z))[i]?=some a->a.1.alive=true->t.zs[i]?=some a:=fun ha hl=>by
   rcases Kf ha with ⟨rfl,rfl⟩|⟨_,q⟩
   ·cases hl
   ·exact q
  exact h.Z8 i j a b (get ha ad) (get hb af) ab ad af
 ·obtain⟨y,h1,h2,h3⟩:=h.ln i r hr ah;exact⟨y,hk.at h1 (AZ h1 hg (by decide)),h2,h3⟩
 ·obtain⟨a,b,hj⟩:=h.jobs;refine⟨a,b,hk.at hj (fun e=>?_)⟩;rw[e,hg]at hj;cases hj
theorem Ey(w:World)(s g u m cap:Nat)(h6:w.cell? ⟨s,6,none⟩=some (.slice (some ⟨g,0,none⟩) m cap))(hu:u<m)(hm:m<=255):
  Calls Tryz.prog 38 #[ptr s,.int .i64 ((u:Int)+1)] w fun e w'=>e=.returned (.pointer (some ⟨g,u*3,none⟩))/\w'=w:=by
 have e1:IntKind.i64.wrap ((u:Int)+1-1)=(u:Int):=by rw[IntKind.wrap_i64];omega
 have q1:(0:Int)<=(u:Int):=by omega
 have q2:(u:Int)<(m:Int):=by omega
 go_enter Tryz.func38,Tryz.ntmps38;go_wp2
 go_ret
 exact⟨rfl,rfl⟩
def Z5(y:JH):JH:={y with state:=3,asked:=[],answer:=[],at':=0,wait:=0,tries:=0}
theorem Z6(w:World)(b:Nat)(y:JH)(h:w.heap[b]?=some (.cells y.cells.toArray 179 (0,0))):
  Calls Tryz.prog 198 #[ptr b] w fun e w'=>e=.returned (.tuple #[])/\w'.heap[b]?=some (.cells (Z5 y).cells.toArray 179 (0,0))/\Af (fun k=>k=b) w w':=by
 obtain⟨a0,a1,a2,a3,a4,a5,a6,a7,a8,a9,JB⟩:=Qb h;have z:∀j,w.frozen? ⟨b,j,none⟩=false:=fun j=>open_list h
 have hl:=lt_of_block h;have HE:Hid (∀W,W=((((((((((w.setCell ⟨b,0,none⟩ (.int .i64 y.client)).setCell ⟨b,1,none⟩ (.int .i64 y.Ae)).setCell ⟨b,2,none⟩ (.int .i64 y.line)).setCell ⟨b,3,none⟩ (.int .i64 y.seq)).setCell ⟨b,4,none⟩ (.int .i64 y.uid)).setCell ⟨b,5,none⟩ (.int .i64 3)).setCell ⟨b,6,none⟩ (.string ⟨#[]⟩)).setCell ⟨b,7,none⟩ (.string ⟨#[]⟩)).setCell ⟨b,8,none⟩ (.int .i64 0)).setCell ⟨b,9,none⟩ (.int .i64 0)).setCell ⟨b,10,none⟩ (.int .i64 0)->W.heap[b]?=some (.cells (Z5 y).cells.toArray 179 (0,0))/\Af (fun k=>k=b) w W):=fun W hW=>by
  subst hW;refine⟨?_,((((((((((Ah _).trans (Ah _)).trans (Ah _)).trans (Ah _)).trans (Ah _)).trans (Ah _)).trans (Ah _)).trans (Ah _)).trans (Ah _)).trans (Ah _)).trans (Ah _)⟩;have e0:=Ai (off:=0) h (.int .i64 y.client);have e1:=Ai (off:=1) e0 (.int .i64 y.Ae);have e2:=Ai (off:=2) e1 (.int .i64 y.line);have e3:=Ai (off:=3) e2 (.int .i64 y.seq);have e4:=Ai (off:=4) e3 (.int .i64 y.uid);have e5:=Ai (off:=5) e4 (.int .i64 3);have e6:=Ai (off:=6) e5 (.string ⟨#[]⟩);have e7:=Ai (off:=7) e6 (.string ⟨#[]⟩);have e8:=Ai (off:=8) e7 (.int .i64 0);have e9:=Ai (off:=9) e8 (.int .i64 0);exact Ai (off:=10) e9 (.int .i64 0)
 clear h;go_enter Tryz.func198,Tryz.ntmps198;go_wp2;go_returns;exact⟨rfl,(Aa HE) _ rfl⟩
theorem X9(w:World)(s g u m cap n:Nat)(bs:Nat->Nat)(wk:Value)(J:Value->Nat->World->Prop)(hn:n<=9)(hm:m<=255)(hu:u<m)(h6:w.cell? ⟨s,6,none⟩=some (.slice (some ⟨g,0,none⟩) m cap))(ac:w.cell? ⟨g,u*3+1,none⟩=some wk)(hz:w.frozen? ⟨g,u*3+1,none⟩=false)
  (af:Hid (Calls Tryz.prog 99 #[ptr s] (w.setCell ⟨g,u*3+1,none⟩ .nilIface) fun e w'=>∃O,e=.returned O/\J O 0 w'))
  (HS:Hid (∀O k wr,J O k wr->∃a c,O=.slice a n c))
  (HR:Hid (∀O k wr,k<n->J O k wr->∃g c,O=.slice (some ⟨g,0,none⟩) n c/\wr.cell? ⟨g,k,none⟩=some (ptr (bs k))/\∃x st,wr.cell? ⟨bs k,4,none⟩=some (.int .i64 x)/\wr.cell? ⟨bs k,5,none⟩=some (.int .i64 st)/\(x=(u:Int)+1/\¬st=2->Calls Tryz.prog 198 #[ptr (bs k)] wr fun e w'=>e=.returned (.tuple #[])/\J O (k+1) w')/\(¬(x=(u:Int)+1/\¬st=2)->J O (k+1) wr))):
  Calls Tryz.prog 144 #[ptr s,.int .i64 ((u:Int)+1)] w fun e w'=>e=.returned (.tuple #[])/\∃O,J O n w':=by
 have HV:=Ac (Ey w s g u m cap h6 hu hm);have ai:=lt_of_cell ac;go_enter Tryz.func144,Tryz.ntmps144;go_wp2_with (first|(go_at_call 38;refine(Aa HV).mono ?_;rintro e w1 ⟨rfl,ae⟩;rw[ae];clear ae))
 refine(Aa af).mono ?_;rintro e w1 ⟨O,rfl,hJ⟩;obtain⟨a,c,hO⟩:=(Aa HS) O 0 w1 hJ;subst hO;have H0:=Ac hJ;clear hJ ac hz h6;go_wp2;go_loopw [14] (fun iv wr=>∃k:Nat,k<=n/\iv=.int .i64 k/\J (.slice a n c) k wr) (fun iv _=>n-(intOf iv).toNat)
 case atStart=>exact⟨0,af8 _,rfl,Aa H0⟩
 case round=>
  obtain⟨k,hk,rfl,hJ⟩:=hrel;by_cases ag:k<n
  ·obtain⟨g',c',hO,ab,x,st,hx,aj,aa,ad⟩:=(Aa HR) _ k wr ag hJ;cases hO;have HY:=Ac aa;have HN:=Ac ad;clear aa ad hJ;by_cases h1:x=(u:Int)+1
   ·have e1:(x==(u:Int)+1)=true:=by simpa using h1
    by_cases h2:st=2
    ·have e2:(st != 2)=false:=by simpa using h2
     have HI:=Ac ((Aa HN) (by omega));clear h1 h2;go_wp2;go_roundw
     case rel=>exact⟨k+1,by omega,by go_num,Aa HI⟩
     case measure=>simp[intOf];omega
    ·have e2:(st != 2)=true:=by simpa using h2
     have HC:=Ac ((Aa HY) ⟨h1,h2⟩);clear h1 h2;go_wp2_with (first|(go_at_call 198;refine(Aa HC).mono ?_;rintro e w3 ⟨rfl,ah⟩))
     go_roundw
     case rel=>exact⟨k+1,by omega,by go_num,ah⟩
     case measure=>simp[intOf];omega
   ·have e1:(x==(u:Int)+1)=false:=by simpa using h1
    have HI:=Ac ((Aa HN) (by omega));clear h1;go_wp2;go_roundw
    case rel=>exact⟨k+1,by omega,by go_num,Aa HI⟩
    case measure=>simp[intOf];omega
  ·obtain rfl:k=n:=by omega
   have HI:=Ac hJ;clear hJ;go_wp2;go_returns;exact⟨rfl,_,Aa HI⟩
theorem aaV:(Tryz.prog.info? 99).map (fun i=>(i.zero,i.size,i.bytes))=some (some (.agg #[.int .i64 0,.nilIface,.slice none 0 0]),3,48):=by kernel_rfl
def EF(kind:Int):TypeId:=if kind=0 then 320 else if kind=1 then 324 else 327
theorem VY(w:World)(kind:Int)(hk:0<=kind/\kind<=2):Calls Tryz.prog 199 #[.int .i64 kind] w fun e w'=>e=.returned (.iface (EF kind) (ptr w.heap.size))/\Works w' (fun k=>k=w.heap.size) [] w.heap.size (.slice none 0 0) kind (.iface (EF kind) (ptr w.heap.size))/\Below w.heap.size w w'/\w.heap.size<w'.heap.size:=by
 have hc:kind=0\/kind=1\/kind=2:=by omega
 rcases hc with rfl|rfl|rfl
 ·have H:Hid (∀W,W=w.alloc (.cells #[.int .u16 0] 323)->Works W (fun k=>k=w.heap.size) [] w.heap.size (.slice none 0 0) 0 (.iface (EF 0) (ptr w.heap.size))/\Below w.heap.size w W/\w.heap.size<W.heap.size):=fun W hW=>by
   subst hW;exact⟨.counter rfl (heap_alloc_new w _) rfl,(Below.refl _ _).alloc (afI _) _,by simp⟩
  go_enter Tryz.func199,Tryz.ntmps199;go_wp2;go_returns;exact⟨rfl,(Aa H) _ rfl⟩
 ·have H:Hid (∀W,W=w.alloc (.cells #[.slice none 0 0] 326)->Works W (fun k=>k=w.heap.size) [] w.heap.size (.slice none 0 0) 1 (.iface (EF 1) (ptr w.heap.size))/\Below w.heap.size w W/\w.heap.size<W.heap.size):=fun W hW=>by
   subst hW;refine⟨.FJ rfl (heap_alloc_new w _) ⟨rfl,afJ ⟨rfl,rfl⟩⟩ (fun j hj=>by cases hj),(Below.refl _ _).alloc (afI _) _,by simp⟩
  go_enter Tryz.func199,Tryz.ntmps199;go_wp2;go_returns;exact⟨rfl,(Aa H) _ rfl⟩
 ·have H:Hid (∀W,W=w.alloc (.cells #[.slice none 0 0,.slice none 0 0,.slice none 0 0] 329)->Works W (fun k=>k=w.heap.size) [] w.heap.size (.slice none 0 0) 2 (.iface (EF 2) (ptr w.heap.size))/\Below w.heap.size w W/\w.heap.size<W.heap.size):=fun W hW=>by
   subst hW;exact⟨.Jo _ _ _ rfl (heap_alloc_new w _) rfl (afJ ⟨rfl,none,rfl⟩) (afJ ⟨rfl,none,rfl⟩) (afJ ⟨rfl,none,rfl⟩),(Below.refl _ _).alloc (afI _) _,by simp⟩
  go_enter Tryz.func199,Tryz.ntmps199;go_wp2;go_returns;exact⟨rfl,(Aa H) _ rfl⟩
structure L8(w:World)(s:Nat)(cs:List Value)(K:Value)(m:Nat)(TF:List Value)(kind:Int)(K':Value)(w':World):Prop where
 cell:w'.heap[s]?=some (.cells (cs.set 6 K').toArray 144 (0,0))
 row:w'.ownsRow 0 99 3 K' (m+1) (TF++[.int .i64 kind,.iface (EF kind) (ptr w.heap.size),.slice none 0 0])
 wk:Works w' (fun k=>k=w.heap.size) [] w.heap.size (.slice none 0 0) kind (.iface (EF kind) (ptr w.heap.size))
 at':K'.ownBlock=K.ownBlock\/∃j,K'.ownBlock=some j/\w.heap.size<j
 keeps:Af (fun k=>k=s\/K.ownBlock=some k) w w'
theorem Vr{V wz:World}{m:Nat}{cs TF:List Value}{K K':Value}{kind:Int}{j0:Nat}(h:w.heap[s]?=some (.cells cs.toArray 144 (0,0)))(aa:w.ownsRow 0 99 3 K m TF)(hb:Below w.heap.size w W)(al:Works W (fun k=>k=w.heap.size) [] w.heap.size (.slice none 0 0) kind (.iface (EF kind) (ptr w.heap.size)))(an:w.heap.size<W.heap.size)(hV:Below W.heap.size W V)
  (hg:V.grownBy wz K.ownBlock) (ac:wz.ownsRow 0 99 3 K' (m+1) (TF++[.int .i64 kind,.iface (EF kind) (ptr w.heap.size),.slice none 0 0])) (ad:K'.ownBlock=K.ownBlock\/K'.ownBlock=some j0) (hj:W.heap.size<=j0):wz.heap[s]?=some (.cells cs.toArray 144 (0,0))/\L8 w s cs K m TF kind K' (wz.setCell ⟨s,6,none⟩ K'):=by
 have af:K.ownBlock≠some s:=AV aa h (by decide);have ak:=(afR.1 h).1;have aj:s<V.heap.size:=afT (by omega) hV.size;have ag:wz.heap[s]?=some (.cells cs.toArray 144 (0,0)):=by
  rw[hg.block s aj (fun e=>af e.symm),hV.block s (by omega),hb.block s ak];exact h
 have ab:K'.ownBlock≠some s:=by
  rcases ad with e|e
  ·rw[e];exact af
  ·rw[e];intro q;cases q;omega
 have ai:Af (fun k=>k=s\/K.ownBlock=some k) W V:=Af.Al hV _;have ae:Af (fun k=>k=s\/K.ownBlock=some k) W (wz.setCell ⟨s,6,none⟩ K'):=(ai.grown hg (fun k hk=>afJ (afM hk))).setCell (p:=⟨s,6,none⟩) (afJ (afJ rfl)) _;refine⟨ag,⟨Ai (cs:=cs) (off:=6) ag K',Fy ac (fun g hg=>Below.heap_setCell _ _ _ _ (fun e=>ab (by rw[hg];exact congrArg some e))),?_,?_,(Af.Al hb _).trans ae⟩⟩
 ·refine al.keep ae (fun b cur t z ah ht am hE=>?_) (fun _ q=>q);subst ah;rcases hE with e|e
  ·omega
  ·have:=(World.ownsRow.lt aa _ e).2;omega
 ·rcases ad with e|e
  ·exact afJ e
  ·exact afM ⟨j0,e,by omega⟩
theorem Y8(w:World)(kind:Int)(T:TypeId)(b:Nat)(j:Nat)(u:Value)(h:([.int .i64 kind,.iface T (ptr b),.slice none 0 0]:List Value)[j]?=some u):(w.alloc (.cells #[.int .i64 kind,.iface T (ptr b),.slice none 0 0] 99)).cell? ((⟨w.heap.size,0,none⟩:Addr).add j)=some u:=by
 rw[Addr.add_lit,agn,World.cell?_alloc_new w _ _ j,<-agj]at *;exact h
theorem ads:∀args w,(callFunc 199 args).run Tryz.prog w=.ok (.enter 199 args) w:=fun _ _=>rfl
theorem Vq(w:World)(s m c:Nat)(cs TF:List Value)(a:Option Addr)(kind:Int)(hk:0<=kind/\kind<=2)(h:w.heap[s]?=some (.cells cs.toArray 144 (0,0)))(h6:cs[6]?=some (.slice a m c))(af:w.ownsRow 0 99 3 (.slice a m c) m TF)(hm:m<=300):
  Calls Tryz.prog 145 #[ptr s,.int .i64 kind] w fun e w'=>e=.returned (.int .i64 ((m:Int)+1))/\∃K',L8 w s cs (.slice a m c) m TF kind K' w':=by
 have HF:=Ac (fun w=>VY w kind hk);have HP:Hid (∀{W V wz:World} {K':Value} {j0:Nat},Below w.heap.size w W->Works W (fun k=>k=w.heap.size) [] w.heap.size (.slice none 0 0) kind (.iface (EF kind) (ptr w.heap.size))->w.heap.size<W.heap.size->Below W.heap.size W V->V.grownBy wz (Value.slice a m c).ownBlock->wz.ownsRow 0 99 3 K' (m+1) (TF++[.int .i64 kind,.iface (EF kind) (ptr w.heap.size),.slice none 0 0])->(K'.ownBlock=(Value.slice a m c).ownBlock\/K'.ownBlock=some j0)->W.heap.size<=j0->wz.heap[s]?=some (.cells cs.toArray 144 (0,0))/\L8 w s cs (.slice a m c) m TF kind K' (wz.setCell ⟨s,6,none⟩ K')):=fun a1 a2 a3 a4 a5 a6 a7 a8=>Vr h af a1 a2 a3 a4 a5 a6 a7 a8
 have c6:w.cell? ⟨s,6,none⟩=some (.slice a m c):=cell_of h 6 _ (by simpa using h6);have z6:w.frozen? ⟨s,6,none⟩=false:=open_list h;have hl:=lt_of_block h;have HZ:Hid (∀wz:World,wz.heap[s]?=some (.cells cs.toArray 144 (0,0))->wz.cell? ⟨s,6,none⟩=some (.slice a m c)/\wz.frozen? ⟨s,6,none⟩=false):=fun wz hw=>⟨cell_of hw 6 _ (by simpa using h6),open_list hw⟩
 have am:=Ac af;obtain⟨i0,hi,ar,au,av⟩:=info_parts aaV;obtain⟨ac,aa⟩:∃ac:Value->World->Prop,ac=fun K' w'=>L8 w s cs (.slice a m c) m TF kind K' w':=⟨_,rfl⟩
 have HQ:Hid (∀K' w',L8 w s cs (.slice a m c) m TF kind K' w'->ac K' w'):=fun K' w' q=>by rw[aa];exact q
 have HR:Hid (∀e w',e=Ending.returned (.int .i64 ((m:Int)+1))/\(∃K',ac K' w')->e=Ending.returned (.int .i64 ((m:Int)+1))/\∃K',L8 w s cs (.slice a m c) m TF kind K' w'):=fun e w' ⟨q1,K',q2⟩=>⟨q1,K',by rw[aa]at q2;exact q2⟩
 clear aa;refine Calls.mono ?_ (Aa HR);generalize EF kind=FT at *;clear h af h6 hk;go_enter Tryz.func145,Tryz.ntmps145;go_wp2_with fail
 go_region_law (first
  |(refine Av rfl 199 #[.tmp 11] #[3] rfl ads #[.int .i64 kind] rfl _ ((Aa HF) _) ?_;rintro e w1 ⟨rfl,ak,ag,ap⟩;have ax:s<w1.heap.size:=afT hl ag.size;have ai:=Ac (D7 ag);have an:=Ac ak;have az:w1.frozen? ⟨s,6,none⟩=false:=(ag.frozen (p:=⟨s,6,none⟩) hl).trans z6;have aw:w1.cell? ⟨s,6,none⟩=some (.slice a m c):=(ag.cell (p:=⟨s,6,none⟩) hl).trans c6;clear ag ak;refine⟨_,rfl,?_⟩)
  |(refine Bp rfl (.tmp 9) (.tmp 14) 135 rfl 0 99 i0 (.agg #[.int .i64 0,.nilIface,.slice none 0 0]) 3 48 Tryz.underlying135 hi ar au av rfl (by decide) (.slice a m c) m TF rfl (by exact(Bu (Aa am) (Aa ai)).alloc _) ⟨w1.heap.size,0,none⟩ 1 1 [.int .i64 kind,.iface FT (ptr w.heap.size),.slice none 0 0] rfl rfl (by exact Y8 w1 kind FT w.heap.size) (by simp[Value.oneCell']) (by unfold maxLen;omega) (by omega) (by omega) ?_;intro v' wz ab ad aj;obtain⟨va,vc,aq⟩:=AX ab;subst aq;have ao:=(Aa HP) (Aa ai) (Aa an) ap ((Below.refl _ _).alloc (afI _) _) ad ab aj (by simp);obtain⟨ah,ae⟩:=ao;have al:=Ac ((Aa HQ) _ _ ae);have d1:=((Aa HZ) wz ah).1;have z1:=((Aa HZ) wz ah).2;have ay:=lt_of_block ah;clear ab ad aj ah ae))
 all_goals
  go_wp2;go_returns;exact⟨rfl,_,Aa al⟩
end Go.Proofs.YtblomippkddgiabGreatDoor
