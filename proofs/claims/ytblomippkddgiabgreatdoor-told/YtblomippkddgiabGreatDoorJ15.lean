import Derived.Test.YtblomippkddgiabGreatDoorJ14
set_option maxRecDepth 100000
set_option maxHeartbeats 4000000
namespace Go.Proofs.YtblomippkddgiabGreatDoor
open Go.RowKit
variable {cur:Array Value}{E F F':Aq}{l r:List UInt8}{xs:List Value}{B b n s size:Nat}{z:Nat×Nat}{e t:TypeId}{c f k li ln o s1 s2 u:UInt8}{V v:Value}{W w w' w1:World}
abbrev ptr(b:Nat):Value:=.pointer (some ⟨b,0,none⟩)
structure MV where
 wk:Value
 dn:Value
 sb:Nat
 bk:Value
def GX(z:R.Sv×MV):List Value:=[.int .i64 z.1.kind,z.2.wk,z.2.dn]
theorem Fu(z:R.Sv×MV):(GX z).length=3:=rfl
def EX(z:R.En×Value×Value):List Value:=[.int .i64 z.1.client,.int .i64 z.1.Ae,.int .i64 z.1.line,.int .i64 z.1.seq,.int .i64 z.1.proc,z.2.1,z.2.2]
theorem Ti(z:R.En×Value×Value):(EX z).length=7:=rfl
def strs(l:List ByteArray):List Value:=l.map fun s=>Value.string s
inductive Works (w:World) (F:Aq) (l:List R.En) (b:Nat) (K:Value):Int->Value->Prop
 |counter (hF:F b) (hb:w.heap[b]?=some (.cells #[.int .u16 (R.BA l 0)] 323 (0,0))) (hK:K=.slice none 0 0):Works w F l b K 0 (.iface 320 (ptr b))
 |FJ (hF:F b) (hb:w.heap[b]?=some (.cells #[K] 326 (0,0))) (hK:w.ownsRow 0 9 1 K (R.BG l).length (strs (R.BG l))) (hKF:∀j,K.ownBlock=some j->F j):Works w F l b K 1 (.iface 324 (ptr b))
 |Jo (d0 d1 d2:Value) (hF:F b) (hb:w.heap[b]?=some (.cells #[d0,d1,d2] 329 (0,0))) (hK:K=.slice none 0 0) (h0:IW w F d0 (R.Fq l 0 [])) (h1:IW w F d1 (R.Fq l 1 [])) (h2:IW w F d2 (R.Fq l 2 [])):Works w F l b K 2 (.iface 327 (ptr b))
structure Sg(w:World)(F:Aq)(z:R.Sv×MV):Prop where
 wk:if z.1.alive=true then Works w F z.1.log z.2.sb z.2.bk z.1.kind z.2.wk else z.2.wk=.nilIface
 log:∃es:List (R.En×Value×Value),es.map (·.1)=z.1.log/\w.ownsRow 0 45 7 z.2.dn es.length (tab EX es)/\∀y∈es,BF w F y.2.1 y.1.arg/\BF w F y.2.2 y.1.result
 own:∀j,z.2.dn.ownBlock=some j->F j
structure JH where
 client:Int
 Ae:Int
 line:Int
 seq:Int
 uid:Int
 state:Int
 asked:List UInt8
 answer:List UInt8
 at':Int
 wait:Int
 tries:Int
def JH.cells(y:JH):List Value:=[.int .i64 y.client,.int .i64 y.Ae,.int .i64 y.line,.int .i64 y.seq,.int .i64 y.uid,.int .i64 y.state,.string (str y.asked),.string (str y.answer),.int .i64 y.at',.int .i64 y.wait,.int .i64 y.tries]
structure KZ(i:Nat)(Ae:Int)(r:R.Sn)(y:JH):Prop where
 client:y.client=((i / 3:Nat):Int)
 Ae:y.Ae=Ae
 line:y.line=((i % 3:Nat):Int)
 seq:y.seq=r.seq
 uid:y.uid=r.uid
 state:y.state=r.state-1
 asked:r.state=1\/r.state=2->y.asked=r.message
 ans:r.state=3->y.answer=r.result/\y.at'=r.at'
 wait:y.wait=if r.timed=true then r.wait else 0
 tries:r.timed=true->y.tries=r.tries
def PE(j:R.Jb):Value:=.agg #[.int .i64 j.client,.int .i64 j.Ae,.int .i64 j.line,.int .i64 j.seq,.int .i64 j.uid]
structure SP where
 K:Value
 zs:List (R.Sv×MV)
 ql:Nat->Nat
 jc:Nat
def Bt(t:SP)(seen:List R.Sn)(i:Nat):Value:=if ((seen[i]?).getD R.Cs).seq=0 then .pointer none else ptr (t.ql i)
def Ce(n nm:Nat)(t:SP)(c:R.Cf)(Aj:List Int)(seen:List R.Sn):List Value:=
 [.int .i64 c.Ad,.int .i64 c.lines,.int .i64 c.Ay,.int .i64 c.tries,.int .i64 c.table,.map (some nm),t.K,.int .i64 (Aj.getD 0 0),.int .i64 (Aj.getD 1 0),.int .i64 (Aj.getD 2 0),
  Bt t seen 0,Bt t seen 1,Bt t seen 2,Bt t seen 3,Bt t seen 4,Bt t seen 5,Bt t seen 6,Bt t seen 7,Bt t seen 8,.chan (some t.jc),ptr n]
structure Cg(s n nm:Nat)(t:SP)(F:Aq)(c:R.Cf)(sv:List R.Sv)(Aj:List Int)(seen:List R.Sn)(jobs:List R.Jb)(w:World):Prop where
 bs:w.heap[s]?=some (.cells (Ce n nm t c Aj seen).toArray 144 (0,0))
 zs:t.zs.map (·.1)=sv
 made:w.ownsRow 0 99 3 t.K t.zs.length (tab GX t.zs)
 each:∀z∈t.zs,Sg w F z
 dns:∀(i j:Nat) (z y:R.Sv×MV),t.zs[i]?=some z->t.zs[j]?=some y->i≠j->∀k,z.2.dn.ownBlock=some k->y.2.dn.ownBlock≠some k
 Z8:∀(i j:Nat) (z y:R.Sv×MV),t.zs[i]?=some z->t.zs[j]?=some y->i≠j->z.1.alive=true->y.1.alive=true->z.2.sb≠y.2.sb/\∀k,z.2.bk.ownBlock=some k->y.2.bk.ownBlock≠some k
 ln:∀(i:Nat) (r:R.Sn),seen[i]?=some r->r.seq≠0->∃y:JH,w.heap[t.ql i]?=some (.cells y.cells.toArray 179 (0,0))/\KZ i (Aj.getD (i / 3) 0) r y/\F (t.ql i)
 inj:∀(i j:Nat) (r r':R.Sn),seen[i]?=some r->seen[j]?=some r'->r.seq≠0->r'.seq≠0->i≠j->t.ql i≠t.ql j
 jobs:∃a b:Nat,w.heap[t.jc]?=some (.chan c.table.toNat (jobs.map PE).toArray false a b false)
 BP:F s/\F t.jc/\∀j,t.K.ownBlock=some j->F j
def Ny(t:TypeId):Bool:=t==144 || t==99 || t==45 || t==73 || t==179 || t==323 || t==326 || t==329 || t==9
structure Avoid(w:World)(F E:Aq):Prop where
 cells:∀b cur t z,F b->Ny t=true->w.heap[b]?=some (.cells cur t z)->¬E b
 chan:∀b cap buf cl a r tm,F b->w.heap[b]?=some (.chan cap buf cl a r tm)->¬E b
theorem Avoid.apart(h:∀k,F k->¬E k):Avoid w F E:=⟨fun b _ _ _ hF _ _=>h b hF,fun b _ _ _ _ _ _ hF _=>h b hF⟩
theorem Avoid.tags(h:∀b,E b->(∃cur t z,w.heap[b]?=some (.cells cur t z)/\Ny t=false)\/∃es cl,w.heap[b]?=some (.map es cl)):Avoid w F E:=by
 refine⟨fun b cur t z _ ht hb hE=>?_,fun b cap buf cl a r tm _ hb hE=>?_⟩
 ·rcases h b hE with ⟨aa,t',z',h1,h2⟩|⟨es,cl,h1⟩
  ·rw[hb]at h1;cases h1;rw[ht]at h2;cases h2
  ·rw[hb]at h1;cases h1
 ·rcases h b hE with ⟨aa,t',z',h1,h2⟩|⟨es,cl,h1⟩
  ·rw[hb]at h1;cases h1
  ·rw[hb]at h1;cases h1
theorem Avoid.one(h:w.heap[b]?=some (.cells cur t z))(ht:Ny t=false):Avoid w F (fun k=>k=b):=Avoid.tags (fun k hk=>afJ ⟨cur,t,z,by subst hk;exact h,ht⟩)
def OJ(t:TypeId):Bool:=t==45 || t==73 || t==323 || t==326 || t==329 || t==9
def JD(w:World)(F E:Aq):Prop:=∀b cur t z,F b->OJ t=true->w.heap[b]?=some (.cells cur t z)->¬E b
theorem Xb(h:OJ t=true):Ny t=true:=by
 simp only[OJ,Bool.or_eq_true,beq_iff_eq]at h;rcases h with ((((h|h)|h)|h)|h)|h<;>rw[h]<;>rfl
theorem Avoid.sv(h:Avoid w F E):JD w F E:=fun b cur t z hF ht hb=>h.cells b cur t z hF (Xb ht) hb
theorem JD.tags(h:∀b,E b->(∃cur t z,w.heap[b]?=some (.cells cur t z)/\OJ t=false)\/(∃es cl,w.heap[b]?=some (.map es cl))\/∃cap buf cl a r tm,w.heap[b]?=some (.chan cap buf cl a r tm)):JD w F E:=by
 intro b cur t z _ ht hb hE;rcases h b hE with ⟨aa,t',z',h1,h2⟩|⟨es,cl,h1⟩|⟨cap,buf,cl,a,r,tm,h1⟩
 ·rw[hb]at h1;cases h1;rw[ht]at h2;cases h2
 ·rw[hb]at h1;cases h1
 ·rw[hb]at h1;cases h1
theorem JD.one(h:w.heap[b]?=some (.cells cur t z))(ht:OJ t=false):JD w F (fun k=>k=b):=JD.tags (fun k hk=>afJ ⟨cur,t,z,by subst hk;exact h,ht⟩)
theorem OO(hr:w.ownsRow B e size v n xs)(hk:Af E w w')(ha:JD w F E)(he:OJ e=true)(hF:∀j,v.ownBlock=some j->F j):w'.ownsRow B e size v n xs:=by
 refine hk.row hr (fun j hj=>?_);rcases hr.2 with ⟨rfl,_⟩|⟨g,cap,cur,rfl,_,hg,_⟩
 ·cases hj
 ·cases hj;exact ha g cur e _ (hF g rfl) he hg
theorem WZ(hr:w.ownsRow B e size v n xs)(hk:Af E w w')(ha:Avoid w F E)(he:Ny e=true)(hF:∀j,v.ownBlock=some j->F j):w'.ownsRow B e size v n xs:=by
 refine hk.row hr (fun j hj=>?_);rcases hr.2 with ⟨rfl,_⟩|⟨g,cap,cur,rfl,_,hg,_⟩
 ·cases hj
 ·cases hj;exact ha.cells g cur e _ (hF g rfl) he hg
theorem BF.Eg{l:List R.It}(h:BF w F V l)(hk:Af E w w')(ha:JD w F E)(hF:∀k,F k->F' k):BF w' F' V l:=h.keep hk (fun b cur hb hc=>ha b cur 73 (0,0) hb rfl hc) hF
theorem IW.Eg{l:List R.It}(h:IW w F V l)(hk:Af E w w')(ha:JD w F E)(hF:∀k,F k->F' k):IW w' F' V l:=h.keep hk (fun b cur hb hc=>ha b cur 73 (0,0) hb rfl hc) hF
theorem Works.keep{l:List R.En}{K:Value}{k:Int}{W:Value}(h:Works w F l b K k W)(hk:Af E w w')(ha:JD w F E)(hF:∀k,F k->F' k):Works w' F' l b K k W:=by
 cases h with
 |counter h1 h2 h3=>exact .counter (hF _ h1) (hk.at h2 (ha b _ _ _ h1 rfl h2)) h3
 |FJ h1 h2 h3 h4=>exact .FJ (hF _ h1) (hk.at h2 (ha b _ _ _ h1 rfl h2)) (OO h3 hk ha rfl h4) (fun j hj=>hF _ (h4 j hj))
 |Jo d0 d1 d2 h1 h2 h0 h3 h4 h5=>exact .Jo d0 d1 d2 (hF _ h1) (hk.at h2 (ha b _ _ _ h1 rfl h2)) h0 (h3.Eg hk ha hF) (h4.Eg hk ha hF) (h5.Eg hk ha hF)
theorem Sg.keep{z:R.Sv×MV}(h:Sg w F z)(hk:Af E w w')(ha:JD w F E)(hF:∀k,F k->F' k):Sg w' F' z:=by
 refine⟨?_,?_,fun j hj=>hF _ (h.own j hj)⟩
 ·have hw:=h.wk;split
  ·rename_i e;rw[if_pos e]at hw;exact hw.keep hk ha hF
  ·rename_i e;rw[if_neg e]at hw;exact hw
 ·obtain⟨es,h1,h2,h3⟩:=h.log;exact⟨es,h1,OO h2 hk ha rfl h.own,fun y hy=>⟨(h3 y hy).1.Eg hk ha hF,(h3 y hy).2.Eg hk ha hF⟩⟩
theorem Cg.keep{nm:Nat}{t:SP}{c:R.Cf}{sv:List R.Sv}{Aj:List Int}{seen:List R.Sn}{jobs:List R.Jb}(h:Cg s n nm t F c sv Aj seen jobs w)(hk:Af E w w')(ha:Avoid w F E)(hF:∀k,F k->F' k):Cg s n nm t F' c sv Aj seen jobs w':=by
 obtain⟨f1,f2,f3⟩:=h.BP;refine⟨hk.at h.bs (ha.cells s _ _ _ f1 rfl h.bs),h.zs,WZ h.made hk ha rfl f3,fun z hz=>(h.each z hz).keep hk ha.sv hF,h.dns,h.Z8,fun i r hr aa=>?_,h.inj,?_,hF _ f1,hF _ f2,fun j hj=>hF _ (f3 j hj)⟩
 ·obtain⟨y,h1,h2,h3⟩:=h.ln i r hr aa;exact⟨y,hk.at h1 (ha.cells _ _ _ _ h3 rfl h1),h2,hF _ h3⟩
 ·obtain⟨a,b,hj⟩:=h.jobs;exact⟨a,b,hk.at hj (ha.chan _ _ _ _ _ _ _ f2 hj)⟩
theorem PR(a c:Nat)(ha:a<256)(hc:c<256):bits .or .i64 ((a:Int)*256) (c:Int)=(a:Int)*256+(c:Int):=by
 have e:a*256 ||| c=a*256+c:=by
  have h:=Nat.two_pow_add_eq_or_of_lt (i:=8) (b:=c) (by omega) a;rw[show 2 ^ 8*a=a*256 by omega]at h;exact h.symm
 have e0:(a:Int)*256=((a*256:Nat):Int):=by omega
 rw[e0];have n1:(BitVec.ofInt 64 ((a*256:Nat):Int)).toNat=a*256:=by
  rw[BitVec.ofInt_natCast,BitVec.toNat_ofNat];omega
 have n2:(BitVec.ofInt 64 (c:Int)).toNat=c:=by
  rw[BitVec.ofInt_natCast,BitVec.toNat_ofNat];omega
 show IntKind.i64.wrap ((BitVec.ofInt 64 ((a*256:Nat):Int) ||| BitVec.ofInt 64 (c:Int)).toNat:Int)=_;rw[BitVec.toNat_or,n1,n2,e,IntKind.wrap_i64];omega
def aeF(b:Nat)(l:List UInt8)(w:World)(e:Ending)(w':World):Prop:=D8 b w w'/\((l.length<2/\e=Az 7 0)\/∃a c r,l=a :: c :: r/\e=.returned (.int .i64 (Cc a c))/\Rd w' b r)
theorem Vj(b:Nat)(l:List UInt8)(w:World)(h:Rd w b l)(hl:l.length<=9223372036854775807):Calls Tryz.prog 207 #[.pointer (some ⟨b,0,none⟩)] w (aeF b l w):=by
 have H1:=Ac (H9 b l w h hl);have H2:=Ac (fun (r:List UInt8) (w:World) (h:Rd w b r) (hl:r.length<=9223372036854775807)=>H9 b r w h hl);clear h;go_enter Tryz.func207,Tryz.ntmps207;go_wp2_with fail
 refine(Aa H1).mono ?_;rintro e w1 ⟨aa,⟨rfl,rfl⟩|⟨a,r,rfl,rfl,ac⟩⟩
 ·go_wp2;exact⟨rfl,aa,afJ ⟨by simp,rfl⟩⟩
 ·have H3:=Ac ((Aa H2) r w1 ac (by simp at hl;omega));clear H2 ac;have ha:=a.toNat_lt;have hw:wrap64 ((a.toNat:Int)*256)=(a.toNat:Int)*256:=by unfold wrap64;omega
  go_wp2_with fail
  refine(Aa H3).mono ?_;rintro e w2 ⟨ab,⟨rfl,rfl⟩|⟨c,r,rfl,rfl,ad⟩⟩
  ·go_wp2;exact⟨rfl,aa.trans ab,afJ ⟨by simp,rfl⟩⟩
  ·have hc:=c.toNat_lt;have ho:=PR a.toNat c.toNat (by omega) (by omega);have HR:=Ac ad;clear ad;go_wp2
   go_ret
   exact⟨aa.trans ab,afM ⟨a,c,r,rfl,rfl,Aa HR⟩⟩
theorem aaH(b:Nat)(l:List UInt8)(w:World)(h:Rd w b l)(hl:l.length<=9223372036854775807):Calls Tryz.prog 155 #[.pointer (some ⟨b,0,none⟩)] w fun e w'=>w'=w/\e=if l=[] then .returned (.tuple #[]) else Az 7 0:=by
 have H:=Ac (Cp b l w h);have h1:=h.left;have ab:=Ax l;by_cases h0:l=[]
 ·subst h0;clear h;go_enter Tryz.func155,Tryz.ntmps155;go_wp2
  go_end0
  exact⟨rfl,rfl⟩
 ·have hp:=agN.2 h0;rw[if_neg h0];have aa:(0:Int)<((str l).size:Int):=by omega
  generalize str l=S at *;clear h h0;go_enter Tryz.func155,Tryz.ntmps155;go_wp2_with fail
  refine(Aa H).mono ?_;rintro e w1 ⟨rfl,rfl⟩;go_wp2;exact⟨rfl,rfl,rfl⟩
def adK(b:Nat)(l:List UInt8)(w:World)(e:Ending)(w':World):Prop:=D8 b w w'/\(((∀f r,l=f :: r->¬f.toNat<=1)/\e=Az 7 0)\/∃f r,l=f :: r/\f.toNat<=1/\e=.returned (.bool ((f.toNat:Int)==1))/\Rd w' b r)
theorem Yd(b:Nat)(l:List UInt8)(w:World)(h:Rd w b l)(hl:l.length<=9223372036854775807):Calls Tryz.prog 208 #[.pointer (some ⟨b,0,none⟩)] w (adK b l w):=by
 have H1:=Ac (H9 b l w h hl);have H2:=Ac (fun (r:List UInt8) (w:World) (h:Rd w b r)=>Cp b r w h);clear h;go_enter Tryz.func208,Tryz.ntmps208;go_wp2_with fail
 refine(Aa H1).mono ?_;rintro e w1 ⟨ab,⟨rfl,rfl⟩|⟨a,r,rfl,rfl,aa⟩⟩
 ·go_wp2;exact⟨rfl,ab,afJ ⟨fun f r h=>(by cases h),rfl⟩⟩
 ·by_cases h1:(1:Int)<(a.toNat:Int)
  ·have H3:=Ac ((Aa H2) r w1 aa);clear H2 aa;go_wp2_with fail
   refine(Aa H3).mono ?_;rintro e w2 ⟨rfl,rfl⟩;go_wp2;refine⟨rfl,ab,afJ ⟨fun f r h=>?_,rfl⟩⟩;cases h;omega
  ·have HR:=Ac aa;clear aa H2;go_wp2
   go_ret
   exact⟨ab,afM ⟨a,r,rfl,by omega,rfl,Aa HR⟩⟩
def adi(b:Nat)(l:List UInt8)(w:World)(e:Ending)(w':World):Prop:=D8 b w w'/\(((∀L r,l=L :: r->¬L.toNat<=r.length)/\e=Az 7 0)\/∃L r,l=L :: r/\L.toNat<=r.length/\e=.returned (.string (str (r.take L.toNat)))/\Rd w' b (r.drop L.toNat))
theorem XM(b:Nat)(l:List UInt8)(w:World)(h:Rd w b l)(hl:l.length<=9223372036854775807):Calls Tryz.prog 209 #[.pointer (some ⟨b,0,none⟩)] w (adi b l w):=by
 have H1:=Ac (H9 b l w h hl);clear h;go_enter Tryz.func209,Tryz.ntmps209;go_wp2_with fail
 refine(Aa H1).mono ?_;rintro e w1 ⟨ac,⟨rfl,rfl⟩|⟨L,r,rfl,rfl,ab⟩⟩
 ·go_wp2;exact⟨rfl,ac,afJ ⟨fun f r h=>(by cases h),rfl⟩⟩
 ·have hL:=L.toNat_lt;have ae:r.length<=9223372036854775807:=by simp at hl;omega
  by_cases h1:L.toNat<=r.length
  ·have H2:=Ac (FV b r L.toNat w1 ab h1 ae);have aa:=ab.set (r.drop L.toNat);have H3:=Ac (Ei (r.take L.toNat) (w1.setCell ⟨b,0,none⟩ (.string (str (r.drop L.toNat)))) (by rw[aga];omega));have HO:=Ac (D8.set b 0 w1 (.string (str (r.drop L.toNat))));have HS:=Ac aa;have af:=aa.lt;clear aa ab;generalize hA:str (r.take L.toNat)=A at *;generalize hB:w1.setCell ⟨b,0,none⟩ (.string (str (r.drop L.toNat)))=W at *;go_wp2_with fail
   refine(Aa H2).mono ?_;rintro e w2 ⟨rfl,rfl⟩;go_wp2_with fail
   refine(Aa H3).mono ?_;rintro e w3 ⟨rfl,ad⟩;go_wp2
   go_ret
   refine⟨(ac.trans (Aa HO)).trans (D8.of_below ad (by omega)),afM ⟨L,r,rfl,h1,by rw[hA];rfl,(Aa HS).below ad af⟩⟩
  ·have H2:=Ac (Ki b r L.toNat w1 ab h1);clear ab;go_wp2_with fail
   refine(Aa H2).mono ?_;rintro e w2 ⟨rfl,rfl⟩;go_wp2;refine⟨rfl,ac,afJ ⟨fun f r h=>?_,rfl⟩⟩;cases h;exact h1
abbrev pv(p:Pk):Value:=.agg #[.int .i64 p.kind,.int .i64 p.client,.int .i64 p.Ae,.int .i64 p.line,.int .i64 p.seq,.int .i64 p.uid,.int .i64 p.part,.int .i64 p.off,.bool p.please,.string (str p.body)]
abbrev aae:Value:=.agg #[.int .i64 0,.int .i64 0,.int .i64 0,.int .i64 0,.int .i64 0,.int .i64 0,.int .i64 0,.int .i64 0,.bool false,.string ⟨#[]⟩]
abbrev zeroCells:Array Value:=#[.int .i64 0,.int .i64 0,.int .i64 0,.int .i64 0,.int .i64 0,.int .i64 0,.int .i64 0,.int .i64 0,.bool false,.string ⟨#[]⟩]
structure St(b:Nat)(w W:World)(l:List UInt8):Prop where
 only:D8 b w W
 rd:Rd W b l
 len:l.length<=9223372036854775807
theorem UJ(h:St b w W l):Calls Tryz.prog 206 #[.pointer (some ⟨b,0,none⟩)] W fun e W'=>(l=[]/\e=Az 7 0/\D8 b w W')\/∃c r,l=c :: r/\e=.returned (.int .i64 (c.toNat:Int))/\St b w W' r:=by
 refine(H9 b l W h.rd h.len).mono ?_;rintro e w1 ⟨aa,⟨h1,h2⟩|⟨a,r,h1,h2,ab⟩⟩
 ·exact afJ ⟨h1,h2,h.only.trans aa⟩
 ·refine afM ⟨a,r,h1,h2,h.only.trans aa,ab,?_⟩;have:=h.len;rw[h1,af1]at this;omega
theorem acV(h:St b w W l):Calls Tryz.prog 207 #[.pointer (some ⟨b,0,none⟩)] W fun e W'=>(l.length<2/\e=Az 7 0/\D8 b w W')\/∃a c r,l=a :: c :: r/\e=.returned (.int .i64 (Cc a c))/\St b w W' r:=by
 refine(Vj b l W h.rd h.len).mono ?_;rintro e w1 ⟨aa,⟨h1,h2⟩|⟨a,c,r,h1,h2,ab⟩⟩
 ·exact afJ ⟨h1,h2,h.only.trans aa⟩
 ·refine afM ⟨a,c,r,h1,h2,h.only.trans aa,ab,?_⟩;have:=h.len;rw[h1,af1,af1]at this;omega
theorem aaP(h:St b w W l):Calls Tryz.prog 208 #[.pointer (some ⟨b,0,none⟩)] W fun e W'=>((∀f r,l=f :: r->¬f.toNat<=1)/\e=Az 7 0/\D8 b w W')\/∃f r,l=f :: r/\Hid (f.toNat<=1)/\e=.returned (.bool ((f.toNat:Int)==1))/\St b w W' r:=by
 refine(Yd b l W h.rd h.len).mono ?_;rintro e w1 ⟨aa,⟨h1,h2⟩|⟨a,r,h1,h3,h2,ab⟩⟩
 ·exact afJ ⟨h1,h2,h.only.trans aa⟩
 ·refine afM ⟨a,r,h1,h3,h2,h.only.trans aa,ab,?_⟩;have:=h.len;rw[h1,af1]at this;omega
theorem aak(h:St b w W l):Calls Tryz.prog 209 #[.pointer (some ⟨b,0,none⟩)] W fun e W'=>((∀L r,l=L :: r->¬L.toNat<=r.length)/\e=Az 7 0/\D8 b w W')\/∃L r,l=L :: r/\Hid (L.toNat<=r.length)/\e=.returned (.string (str (r.take L.toNat)))/\St b w W' (r.drop L.toNat):=by
 refine(XM b l W h.rd h.len).mono ?_;rintro e w1 ⟨aa,⟨h1,h2⟩|⟨a,r,h1,h3,h2,ab⟩⟩
 ·exact afJ ⟨h1,h2,h.only.trans aa⟩
 ·refine afM ⟨a,r,h1,h3,h2,h.only.trans aa,ab,?_⟩;have:=h.len;rw[h1,af1]at this;rw[agf];omega
theorem cell_of{xs:Array Value}(h:w.heap[s]?=some (.cells xs t (0,0)))(o:Nat)(v:Value)(hv:xs[o]?=some v):w.cell? ⟨s,o,none⟩=some v:=by
 simp[World.cell?,h,hv]
theorem L6{xs:Array Value}(h:w.heap[s]?=some (.cells xs t (0,0)))(o:Nat):w.frozen? ⟨s,o,none⟩=false:=by
 simp[World.frozen?,h]
theorem D8.put{o:Nat}(h:D8 b w w1)(hs:w.heap.size<=s)(hb:b<s)(x:Value):D8 b w (w1.setCell ⟨s,o,none⟩ x):=
 ⟨h.below.setCell (by simp;omega) _,by simpa using h.size,fun k hk aa=>(Below.heap_setCell _ _ _ _ (by simp;omega)).trans (h.block k hk aa)⟩
theorem Rd.other{o:Nat}(h:Rd w b l)(hb:b<s)(x:Value):Rd (w.setCell ⟨s,o,none⟩ x) b l:=by
 unfold Rd at h ⊢;rw[Below.heap_setCell _ _ _ _ (by simp;omega)];exact h
abbrev Vf(w:World)(s:Nat)(x0 x1 x2 x3 x4 x5 x6 x7 x8 x9:Value):World:=(((((((((w.setCell ⟨s,0,none⟩ x0).setCell ⟨s,1,none⟩ x1).setCell ⟨s,2,none⟩ x2).setCell ⟨s,3,none⟩ x3).setCell ⟨s,4,none⟩ x4).setCell ⟨s,5,none⟩ x5).setCell ⟨s,6,none⟩ x6).setCell ⟨s,7,none⟩ x7).setCell ⟨s,8,none⟩ x8).setCell ⟨s,9,none⟩ x9
theorem acz(h:D8 b w w1)(hs:w.heap.size<=s)(hb:b<s)(x0 x1 x2 x3 x4 x5 x6 x7 x8 x9:Value):D8 b w (Vf w1 s x0 x1 x2 x3 x4 x5 x6 x7 x8 x9):=
 (((((((((h.put hs hb _).put hs hb _).put hs hb _).put hs hb _).put hs hb _).put hs hb _).put hs hb _).put hs hb _).put hs hb _).put hs hb _
theorem aeA(h:Rd w b l)(hb:b<s)(x0 x1 x2 x3 x4 x5 x6 x7 x8 x9:Value):Rd (Vf w s x0 x1 x2 x3 x4 x5 x6 x7 x8 x9) b l:=
 (((((((((h.other hb _).other hb _).other hb _).other hb _).other hb _).other hb _).other hb _).other hb _).other hb _).other hb _
def Tk(b:Nat)(l:List UInt8)(w:World)(e:Ending)(w':World):Prop:=D8 b w w'/\((Cb l=none/\e=Az 7 0)\/∃p r,Cb l=some (p,r)/\e=.returned (pv p)/\Rd w' b r)
theorem few(l:List UInt8)(h:l.length<11):Cb l=none:=by
 unfold Cb;split
 ·simp only[af1]at h;omega
 ·rfl
theorem aey{pa:UInt8}(h:∀f r,l=f :: r->¬f.toNat<=1):Cb (k :: c :: li :: ln :: s1 :: s2 :: u :: pa :: o :: l)=none:=by
 unfold Cb;split
 ·rename_i he;simp only[List.cons.injEq]at he;obtain⟨_,_,_,_,_,_,_,_,_,he⟩:=he;rw[if_neg (fun hh=>h _ _ he hh.1)]
 ·rfl
theorem adH{pa:UInt8}(h:∀L r,l=L :: r->¬L.toNat<=r.length):Cb (k :: c :: li :: ln :: s1 :: s2 :: u :: pa :: o :: f :: l)=none:=by
 unfold Cb;split
 ·rename_i he;simp only[List.cons.injEq]at he;obtain⟨_,_,_,_,_,_,_,_,_,_,he⟩:=he;rw[if_neg (fun hh=>h _ _ he hh.2)]
 ·rfl
theorem adf{pa L:UInt8}(h1:f.toNat<=1)(h2:L.toNat<=r.length):Cb (k :: c :: li :: ln :: s1 :: s2 :: u :: pa :: o :: f :: L :: r)=some (⟨k.toNat,c.toNat,li.toNat,ln.toNat,Cc s1 s2,u.toNat,pa.toNat,o.toNat,(f.toNat:Int)==1,r.take L.toNat⟩,r.drop L.toNat):=by
 show (if f.toNat<=1/\L.toNat<=r.length then _ else _)=_;rw[if_pos ⟨h1,h2⟩]
theorem Tm(b:Nat)(l:List UInt8)(w:World)(h:Rd w b l)(hl:l.length<=9223372036854775807):Calls Tryz.prog 152 #[.pointer (some ⟨b,0,none⟩)] w (Tk b l w):=by
 have ad:=h.lt;have ac:D8 b w ((w.alloc (.cells zeroCells 82)).drew):=⟨((Below.refl _ _).alloc (by omega) _).drew,by simp,fun k hk _=>Below.heap_alloc _ _ _ hk⟩;have h0:Rd ((w.alloc (.cells zeroCells 82)).drew) b l:=by
  unfold Rd at h ⊢;show (w.alloc _).heap[b]?=_;rw[Below.heap_alloc _ _ _ ad];exact h
 obtain⟨W,hW⟩:∃W,W=(w.alloc (.cells zeroCells 82)).drew:=⟨_,rfl⟩;have ae:W.heap[w.heap.size]?=some (.cells zeroCells 82 (0,0)):=by
  rw[hW];show (w.heap.push _)[w.heap.size]?=_;rw[agJ]
 have ab:St b W W l:=⟨D8.refl _ _,hW ▸ h0,hl⟩;rw[<-hW]at ac;have af:w.heap.size<W.heap.size:=lt_of_block ae;clear h h0 hl;go_enter Tryz.func152,Tryz.ntmps152;go_wp2;go_region_with (first
  |(go_at_call 206;refine(UJ (by rw[<-hW];exact ab)).mono ?_;rintro e w1 (⟨rfl,rfl,hbw⟩|⟨c,r,rfl,rfl,ab⟩);(exact⟨rfl,ac.trans hbw,afJ ⟨few _ (by simp),rfl⟩⟩))
  |(go_at_call 206;refine(UJ (by assumption)).mono ?_;rintro e w1 (⟨rfl,rfl,hbw⟩|⟨c,r,rfl,rfl,ab⟩);(exact⟨rfl,ac.trans hbw,afJ ⟨few _ (by simp),rfl⟩⟩))
  |(go_at_call 207;refine(acV (by assumption)).mono ?_;rintro e w1 (⟨hlt,rfl,hbw⟩|⟨c,d,r,rfl,rfl,ab⟩);(exact⟨rfl,ac.trans hbw,afJ ⟨few _ (by simp only[af1];omega),rfl⟩⟩))
  |(go_at_call 208;refine(aaP (by assumption)).mono ?_;rintro e w1 (⟨hlt,rfl,hbw⟩|⟨f,r,rfl,hf1,rfl,ab⟩);(exact⟨rfl,ac.trans hbw,afJ ⟨aey hlt,rfl⟩⟩))
  |(go_at_call 209;refine(aak (by assumption)).mono ?_;rintro e w1 (⟨hlt,rfl,hbw⟩|⟨L,r,rfl,hL1,rfl,ab⟩);(exact⟨rfl,ac.trans hbw,afJ ⟨adH hlt,rfl⟩⟩);have aa:=(ab.only.block _ af (by omega)).trans ae;have c0:=cell_of aa 0 _ rfl;have c1:=cell_of aa 1 _ rfl;have c2:=cell_of aa 2 _ rfl;have c3:=cell_of aa 3 _ rfl;have c4:=cell_of aa 4 _ rfl;have c5:=cell_of aa 5 _ rfl;have c6:=cell_of aa 6 _ rfl;have c7:=cell_of aa 7 _ rfl;have c8:=cell_of aa 8 _ rfl;have c9:=cell_of aa 9 _ rfl;have cz:=L6 aa;clear aa))
 have FO:=Ac (ac.trans ab.only);have FR:=Ac ab.rd;clear ab;go_wp2;refine bodyPost_ret (v:=pv ⟨_,_,_,_,_,_,_,_,_,_⟩) (by simp[results,Tryz.results152,go_sem,c0,c1,c2,c3,c4,c5,c6,c7,c8,c9]) rfl ⟨acz (Aa FO) (afI _) ad _ _ _ _ _ _ _ _ _ _,afM ⟨_,_,adf (Aa hf1) (Aa hL1),rfl,aeA (Aa FR) ad _ _ _ _ _ _ _ _ _ _⟩⟩
def abE(n lo hi:Int)(w:World)(e:Ending)(w':World):Prop:=w'=w/\(((lo<=n/\n<=hi)/\e=.returned (.tuple #[]))\/(¬(lo<=n/\n<=hi)/\e=Az 7 0))
theorem Uz(n lo hi:Int)(w:World):Calls Tryz.prog 210 #[.int .i64 n,.int .i64 lo,.int .i64 hi] w (abE n lo hi w):=by
 by_cases h1:n<lo
 ·go_enter Tryz.func210,Tryz.ntmps210;go_wp2;exact⟨rfl,rfl,afM ⟨by omega,rfl⟩⟩
 ·by_cases h2:hi<n
  ·go_enter Tryz.func210,Tryz.ntmps210;go_wp2;exact⟨rfl,rfl,afM ⟨by omega,rfl⟩⟩
  ·go_enter Tryz.func210,Tryz.ntmps210;go_wp2
   go_end0
   exact⟨rfl,afJ ⟨⟨by omega,by omega⟩,rfl⟩⟩
def CB(kind part off:Int):Int×Int:=if kind=1\/kind=5 then (if part<off-1 then (8,8) else (0,8)) else (0,0)
theorem Oc(p:Pk):((CB p.kind p.part p.off).1<=(p.body.length:Int)/\(p.body.length:Int)<=(CB p.kind p.part p.off).2)↔Dm p:=by
 unfold CB Dm;split
 ·split<;>simp<;>omega
 ·simp
abbrev NL(k c li ln sq u pa o:Int)(pl:Bool)(S:ByteArray):Value:=.agg #[.int .i64 k,.int .i64 c,.int .i64 li,.int .i64 ln,.int .i64 sq,.int .i64 u,.int .i64 pa,.int .i64 o,.bool pl,.string S]
theorem Ss(k c li ln sq u pa o:Int)(pl:Bool)(S:ByteArray)(w:World)(ho:1<=o/\o<=9):
  Calls Tryz.prog 211 #[NL k c li ln sq u pa o pl S] w fun e w'=>e=.returned (.tuple #[.int .i64 (CB k pa o).1,.int .i64 (CB k pa o).2])/\Below w.heap.size w w':=by
 have hw:wrap64 (o-1)=o-1:=by unfold wrap64;omega
 have HB:=Ac ((Below.refl w.heap.size w).alloc (afI _) (.cells #[.int .i64 k,.int .i64 c,.int .i64 li,.int .i64 ln,.int .i64 sq,.int .i64 u,.int .i64 pa,.int .i64 o,.bool pl,.string S] 82));by_cases h1:k=1
 ·subst h1;by_cases h2:pa<o-1
  ·have e:CB 1 pa o=(8,8):=by simp[CB,h2]
   rw[e];go_enter Tryz.func211,Tryz.ntmps211;go_wp2;exact bodyPost_ret (v:=.tuple #[.int .i64 8,.int .i64 8]) (by simp[results,Tryz.results211,go_sem]) rfl ⟨rfl,Aa HB⟩
  ·have e:CB 1 pa o=(0,8):=by simp[CB,h2]
   rw[e];go_enter Tryz.func211,Tryz.ntmps211;go_wp2;exact bodyPost_ret (v:=.tuple #[.int .i64 0,.int .i64 8]) (by simp[results,Tryz.results211,go_sem]) rfl ⟨rfl,Aa HB⟩
 ·have hk:(k != 1)=true:=by simpa using h1
  by_cases h5:k=5
  ·subst h5;by_cases h2:pa<o-1
   ·have e:CB 5 pa o=(8,8):=by simp[CB,h2]
    rw[e];go_enter Tryz.func211,Tryz.ntmps211;go_wp2;exact bodyPost_ret (v:=.tuple #[.int .i64 8,.int .i64 8]) (by simp[results,Tryz.results211,go_sem]) rfl ⟨rfl,Aa HB⟩
   ·have e:CB 5 pa o=(0,8):=by simp[CB,h2]
    rw[e];go_enter Tryz.func211,Tryz.ntmps211;go_wp2;exact bodyPost_ret (v:=.tuple #[.int .i64 0,.int .i64 8]) (by simp[results,Tryz.results211,go_sem]) rfl ⟨rfl,Aa HB⟩
  ·have aa:(k != 5)=true:=by simpa using h5
   have e:CB k pa o=(0,0):=by simp[CB,h1,h5]
   rw[e];clear h1 h5;go_enter Tryz.func211,Tryz.ntmps211;go_wp2;exact bodyPost_ret (v:=.tuple #[.int .i64 0,.int .i64 0]) (by simp[results,Tryz.results211,go_sem]) rfl ⟨rfl,Aa HB⟩
def OB(p:Pk)(w:World)(e:Ending)(w':World):Prop:=Below w.heap.size w w'/\((AR p/\e=.returned (.tuple #[]))\/(¬AR p/\e=Az 7 0))
theorem Wz{k c li ln sq u pa o:Int}{pl:Bool}{body:List UInt8}(h:AR ⟨k,c,li,ln,sq,u,pa,o,pl,body⟩):((1<=k/\k<=7)/\(0<=c/\c<=2)/\(1<=li/\li<=255)/\(0<=ln/\ln<=2)/\(1<=sq/\sq<=999)/\(1<=u/\u<=255)/\(1<=o/\o<=9)/\(0<=pa/\pa<=o-1))/\((CB k pa o).1<=(body.length:Int)/\(body.length:Int)<=(CB k pa o).2):=by
 obtain⟨h1,h2,h3,h4,h5,h6,h7,h8,h9⟩:=h;exact⟨⟨h1,h2,h3,h4,h5,h6,h7,h8⟩,(Oc _).2 h9⟩
theorem OC(p:Pk)(w:World):Calls Tryz.prog 153 #[pv p] w (OB p w):=by
 have HW:=Ac Uz;have ak:=Ac Ss;obtain⟨k,c,li,ln,sq,u,pa,o,pl,body⟩:=p;have aj:=Ax body;obtain⟨S,hS⟩:∃S,S=str body:=⟨_,rfl⟩;have HB:=Ac ((Below.refl w.heap.size w).alloc (afI _) (.cells #[.int .i64 k,.int .i64 c,.int .i64 li,.int .i64 ln,.int .i64 sq,.int .i64 u,.int .i64 pa,.int .i64 o,.bool pl,.string S] 82));have ag:Hid (AR ⟨k,c,li,ln,sq,u,pa,o,pl,body⟩->_):=Wz;have al:=Ac (Oc ⟨k,c,li,ln,sq,u,pa,o,pl,body⟩);obtain⟨ab,aa⟩:∃ab,ab=OB ⟨k,c,li,ln,sq,u,pa,o,pl,body⟩ w:=⟨_,rfl⟩;have af:Hid (∀w',Below w.heap.size w w'->¬AR ⟨k,c,li,ln,sq,u,pa,o,pl,body⟩->ab (Az 7 0) w'):=by
  rw[aa];exact fun w' hb hr=>⟨hb,afM ⟨hr,rfl⟩⟩
 have ad:Hid (∀w',Below w.heap.size w w'->AR ⟨k,c,li,ln,sq,u,pa,o,pl,body⟩->ab (.returned (.tuple #[])) w'):=by
  rw[aa];exact fun w' hb hr=>⟨hb,afJ ⟨hr,rfl⟩⟩
 show Calls Tryz.prog 153 #[NL k c li ln sq u pa o pl (str body)] w _;rw[<-hS,<-aa];have am:(S.size:Int)=(body.length:Int):=by rw[hS,aj]
 clear aj hS aa;go_enter Tryz.func153,Tryz.ntmps153;go_wp2_with (first
  |(go_at_call 210;refine((Aa HW) _ _ _ _).mono ?_;rintro e w1 ⟨rfl,⟨ae,rfl⟩|⟨ac,rfl⟩⟩;rotate_left;(exact⟨rfl,(Aa af) _ (Aa HB) (fun h=>by have hh:=((Aa ag) h).1;omega)⟩);have ⟨hin1,hin2⟩:=ae))
 refine((Aa ak) _ _ _ _ _ _ _ _ _ _ _ (by omega)).mono ?_;rintro e w2 ⟨rfl,ah⟩;have ai:=Ac ((Aa HB).trans (ah.mono (by simp)));have c9:w2.cell? ⟨w.heap.size,9,none⟩=some (.string S):=(ah.cell (p:=⟨w.heap.size,9,none⟩) (by simp)).trans (by simp[go_sem]);generalize CB k pa o=B at *;obtain⟨b1,b2⟩:=B;go_wp2_with fail
 refine((Aa HW) _ _ _ _).mono ?_;rintro e w1 ⟨rfl,⟨ae,rfl⟩|⟨ac,rfl⟩⟩
 ·go_wp2
  go_end0
  refine(Aa ad) _ (Aa ai) ?_;exact⟨by omega,by omega,by omega,by omega,by omega,by omega,by omega,by omega,(Aa al).1 ae⟩
 ·go_wp2;exact⟨rfl,(Aa af) _ (Aa ai) (fun h=>ac ((Aa ag) h).2)⟩
def abu(b:Nat)(l r:List UInt8)(w:World)(e:Ending)(w':World):Prop:=D8 b w w'/\((LH l r=none/\e=Az 7 0)\/∃t,LH l r=some t/\e=.returned (.tuple #[])/\Rd w' b t)
theorem abw(h:r.length<2):LH l r=none:=by
 unfold LH;split
 ·simp at h;omega
 ·rfl
theorem abv(b:Nat)(m r:List UInt8)(w:World)(h:Rd w b r)(hm:m.length<=1000)(hl:(m++r).length<=9223372036854775807):
  Calls Tryz.prog 154 #[.pointer (some ⟨b,0,none⟩),.string (str (m++r))] w (abu b (m++r) r w):=by
 have hr:r.length<=9223372036854775807:=by rw[afS]at hl;omega
 have H2:=Ac (Vj b r w h hr);have H6:=Ac (fun w=>Lu m w (by omega));have ac:=Ac (fun (r:List UInt8) (w:World) (h:Rd w b r)=>Cp b r w h);have h1:=h.left;have s1:=Ax (m++r);have s2:=Ax r;have ex:(str (m++r)).extract 0 m.length=str m:=by rw[CP];simp
 have hw:wrap64 (((str (m++r)).size:Int)-((str r).size:Int))=(m.length:Int):=by
  rw[s1,s2,afS];unfold wrap64;rw[afS]at hl;omega
 have ah:(m.length:Int)<=((str (m++r)).size:Int):=by rw[s1,afS];omega
 have HT:=Ac (KN m r);have ag:=JP m;have ae:((crc m).toNat:Int)=EZ m:=rfl;rw[ae]at H6;generalize hC:EZ m=C at *;generalize hS:str (m++r)=S at *;generalize hR:str r=R at *;generalize hM:str m=M at *;generalize m.length=n at *;clear h s1 s2 hR ae;go_enter Tryz.func154,Tryz.ntmps154;go_wp2_with fail
 refine(Aa H2).mono ?_;rintro e w1 ⟨ad,⟨af,rfl⟩|⟨a,c,t,rfl,rfl,ab⟩⟩
 ·go_wp2;exact⟨rfl,ad,afJ ⟨abw af,rfl⟩⟩
 ·by_cases aa:Cc a c=C
  ·have hb:(Cc a c != C)=false:=by simpa using aa
   have HR:=Ac ab;clear ab ac;have HN:=Ac aa;clear aa;go_wp2_with fail
   refine((Aa H6) _).mono ?_;rintro e w2 ⟨rfl,rfl⟩;go_wp2
   go_end0
   refine⟨ad,afM ⟨t,?_,rfl,Aa HR⟩⟩;show (if Cc a c=EZ ((m++a :: c :: t).take ((m++a :: c :: t).length-(a :: c :: t).length)) then some t else none)=some t;rw[Aa HT,hC,if_pos (Aa HN)]
  ·have hb:(Cc a c != C)=true:=by simpa using aa
   have HX:=Ac ((Aa ac) t w1 ab);clear ab ac;have HN:=Ac aa;clear aa;go_wp2_with fail
   refine((Aa H6) _).mono ?_;rintro e w2 ⟨rfl,rfl⟩;go_wp2_with fail
   refine(Aa HX).mono ?_;rintro e w3 ⟨rfl,rfl⟩;go_wp2;refine⟨rfl,ad,afJ ⟨?_,rfl⟩⟩;show (if Cc a c=EZ ((m++a :: c :: t).take ((m++a :: c :: t).length-(a :: c :: t).length)) then some t else none)=none;rw[Aa HT,hC,if_neg (Aa HN)]
end Go.Proofs.YtblomippkddgiabGreatDoor
