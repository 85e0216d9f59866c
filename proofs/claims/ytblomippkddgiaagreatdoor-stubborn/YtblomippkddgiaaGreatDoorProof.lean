/-
  Proved: errandkeep.Stubborn returns true for every configuration, every kind, every two numbers and every list of losses, and leaves its arguments as they were: if no more packets of a call are lost than it has tries, whichever they are, the call ends Done, and was done once. Condition: the table 'signatures' of package service reads as its initialiser lays it (tied by the card to the program's text).
-/
import Derived.Test.YtblomippkddgiaaGreatDoorRows
import Derived.Test.YtblomippkddgiaaGreatDoorTie
import Derived.Test.YtblomippkddgiaaGreatDoorCards
import Derived.Test.YtblomippkddgiaaGreatDoorJ48
import Derived.Deep.SlicePairs
import Derived.Carry
import Derived.ChangeOld
import Derived.Below
import Derived.ProofKit
import Derived.LaidMore
import Derived.OpenShut
import Derived.Stop.Joined
import Derived.SevenTiedAt
set_option maxRecDepth 100000
namespace Go.Proofs.YtblomippkddgiaaGreatDoor
open Go.ChangeShapes Go.WideShapes Go.ChangeAt Go.WideMaps Go.WideElems Go.RowKit
theorem own:ownKnob Tryz.prog.godebug=Option.none:=by kernel_rfl
theorem aq5 : Tryz.prog.globalNamed "errand/service.signatures" = some 0 := by kernel_rfl
theorem ard:(Tryz.prog.globals[0]?).map (·.type)=some 198:=by kernel_rfl
theorem c31:Tryz.prog.cellsOf 197=4:=by kernel_rfl
theorem c32:Tryz.prog.cellsOf 198=20:=by kernel_rfl
theorem c3:Tryz.prog.cellsOf 3=1:=by kernel_rfl
theorem c9:Tryz.prog.cellsOf 9=1:=by kernel_rfl
theorem anv(os:Os)(args:Array Value):laidMetH Tryz.prog Rows.stubbornRow.laid ((World.doorLaid Tryz.prog 400 os).forCall (fun _ _=>0) ⟨#[],args,[]⟩).memory:=
 laidMetH_of_parts3 (fuel:=8) (laidMet_of_run' 8 (by kernel_rfl) (by kernel_rfl)) (by kernel_rfl) (by kernel_rfl)
theorem aeA{s:ByteArray}{l:List UInt8}(h:s.data.toList=l):s=⟨l.toArray⟩:=by
 subst h
 rfl
theorem afV{H:Type}{enc:TypeId×Value→H}{W:World}{base:Nat}{sp:Nat→Bool}{held:Bool}{fuel:Nat}{cs:List Value}{x:DataW H×List MemPlace}(h:DataW.trod enc Tryz.prog W base sp held fuel 197 cs=some x) :
  ∃(a b:Int) (s t:ByteArray),cs=[.int .i64 a,.int .i64 b,.string s,.string t]∧x.1=.agg [.lit (.int .i64 a),.lit (.int .i64 b),.lit (.string s.data.toList),.lit (.string t.data.toList)]:=by
 obtain⟨xs,n,_,rfl,hl,hlen,hf⟩:=DataW.trod_struct Tryz.underlying197 h
 rw[c31]at hl
 match cs,hl,xs,hlen,hf with
 |[v0,v1,v2,v3],_,[x0,x1,x2,x3],_,hf=>
  have f0:DataW.trod enc Tryz.prog W base sp held n 3 (([v0,v1,v2,v3].drop 0).take (Tryz.prog.cellsOf 3))=some x0:=hf 0 _ rfl
  have f1:DataW.trod enc Tryz.prog W base sp held n 3 (([v0,v1,v2,v3].drop 1).take (Tryz.prog.cellsOf 3))=some x1:=hf 1 _ rfl
  have f2:DataW.trod enc Tryz.prog W base sp held n 9 (([v0,v1,v2,v3].drop 2).take (Tryz.prog.cellsOf 9))=some x2:=hf 2 _ rfl
  have f3:DataW.trod enc Tryz.prog W base sp held n 9 (([v0,v1,v2,v3].drop 3).take (Tryz.prog.cellsOf 9))=some x3:=hf 3 _ rfl
  rw[c3]at f0 f1
  rw[c9]at f2 f3
  obtain⟨a,e0,y0,_⟩:=DataW.trod_int Tryz.underlying3 f0
  obtain⟨b,e1,y1,_⟩:=DataW.trod_int Tryz.underlying3 f1
  obtain⟨s,e2,y2,_⟩:=DataW.trod_string Tryz.underlying9 f2
  obtain⟨t,e3,y3,_⟩:=DataW.trod_string Tryz.underlying9 f3
  simp at e0 e1 e2 e3 y0 y1 y2 y3
  subst e0 e1 e2 e3 y0 y1 y2 y3
  exact⟨a,b,s,t,rfl,rfl⟩
theorem aoy{W:World}(h:laidMetH Tryz.prog Rows.stubbornRow.laid W):∃tt fr,W.heap[0]?=some (.cells aay tt fr):=by
 rw[MakeChecks.laidMetH_plain _ _ _ (by kernel_rfl)]at h
 obtain⟨ps,⟨g0,t0,cs0,f0,p0,q0,hg0,ht0,hv0,hd0,_,_⟩,_,_⟩:=h
 obtain rfl:=Option.some.inj (aq5.symm.trans hg0)
 obtain rfl:=Option.some.inj (ard.symm.trans ht0)
 obtain⟨xs,m,_,hx,hlen,hn,hel⟩:=DataW.trod_array Tryz.underlying198 hd0
 rw[c32]at hlen
 simp only[c31]at hel
 obtain⟨l⟩:=cs0
 have hx1:=congrArg Prod.fst hx
 simp only[Rows.laid_errand_service_signatures]at hx1
 match l,hlen,xs,hn,hel,hx1 with
 |[v0,v1,v2,v3,v4,v5,v6,v7,v8,v9,v10,v11,v12,v13,v14,v15,v16,v17,v18,v19],_,[x0,x1,x2,x3,x4],_,hel,hx1=>
  obtain⟨a0,b0,s0,t0,e0,y0⟩:=afV (show DataW.trod _ Tryz.prog W 0 _ false m 197 [v0,v1,v2,v3]=some x0 from hel 0 (by omega))
  obtain⟨a1,b1,s1,t1,e1,y1⟩:=afV (show DataW.trod _ Tryz.prog W 0 _ false m 197 [v4,v5,v6,v7]=some x1 from hel 1 (by omega))
  obtain⟨a2,b2,s2,t2,e2,y2⟩:=afV (show DataW.trod _ Tryz.prog W 0 _ false m 197 [v8,v9,v10,v11]=some x2 from hel 2 (by omega))
  obtain⟨a3,b3,s3,t3,e3,y3⟩:=afV (show DataW.trod _ Tryz.prog W 0 _ false m 197 [v12,v13,v14,v15]=some x3 from hel 3 (by omega))
  obtain⟨a4,b4,s4,t4,e4,y4⟩:=afV (show DataW.trod _ Tryz.prog W 0 _ false m 197 [v16,v17,v18,v19]=some x4 from hel 4 (by omega))
  simp only[List.map_cons,List.map_nil,y0,y1,y2,y3,y4,DataW.agg.injEq,List.cons.injEq,DataW.lit.injEq,Lit.int.injEq,Lit.string.injEq,and_true,true_and]at hx1
  obtain⟨⟨h1,h2,h3,h4⟩,⟨h5,h6,h7,h8⟩,⟨h9,h10,h11,h12⟩,⟨h13,h14,h15,h16⟩,h17,h18,h19,h20⟩:=hx1
  simp only[List.cons.injEq,and_true]at e0 e1 e2 e3 e4
  obtain⟨rfl,rfl,rfl,rfl⟩:=e0
  obtain⟨rfl,rfl,rfl,rfl⟩:=e1
  obtain⟨rfl,rfl,rfl,rfl⟩:=e2
  obtain⟨rfl,rfl,rfl,rfl⟩:=e3
  obtain⟨rfl,rfl,rfl,rfl⟩:=e4
  have hv : World.var? Tryz.prog W "errand/service.signatures" = some aay := by
   rw[hv0,←h1,←h2,←h5,←h6,←h9,←h10,←h13,←h14,←h17,←h18,aeA h3.symm,aeA h4.symm,aeA h7.symm,aeA h8.symm,aeA h11.symm,aeA h12.symm,aeA h15.symm,aeA h16.symm,aeA h19.symm,aeA h20.symm]
  unfold World.var? at hv
  rw[aq5]at hv
  simp only[Option.bind_some]at hv
  split at hv
  ·rename_i cs tt fr hh
   have:cs=aay:=Option.some.inj hv
   subst this
   exact⟨tt,fr,hh⟩
  ·cases hv
theorem pat_laidOut:laidOutB Tryz.prog=true:=by kernel_rfl
theorem c28:Tryz.prog.cellsOf 26=5:=by kernel_rfl
theorem aft{k:Int}(hwf:(Lit.int .i64 k).wf=true):abW k:=by
 unfold abW
 simp[Lit.wf]at hwf
 have hmin:IntKind.i64.min=-9223372036854775808:=by decide
 rw[hmin]at hwf
 exact hwf
theorem aqU{H:Type}{enc:TypeId×Value→H}{W:World}{base:Nat}{v:Value}{d:DataW H}{p:List MemPlace}(hv:Value.okWide Tryz.prog W .any base 26 v)(h:DataW.Trod enc Tryz.prog W 0 (fun _=>true) true 26 v d p):∃a b r t tb:Int,v=cfv a b r t tb∧abW a∧abW b∧abW r∧abW t∧abW tb:=by
 obtain⟨cs,rfl,hsz⟩:=okWide_struct Tryz.underlying26 hv
 rw[c28]at hsz
 obtain⟨l⟩:=cs
 match l,hsz with
 |[x0,x1,x2,x3,x4],_=>
  obtain⟨fuel,hf⟩:=h
  obtain⟨xs,n,_,_,_,hlen,hg⟩:=DataW.trod_struct Tryz.underlying26 hf
  have int_at:∀(i:Nat) (x:Value),i<5→DataW.trod enc Tryz.prog W 0 (fun _=>true) true n 3 [x]=xs[i]?→∃k,x=.int .i64 k∧abW k:=fun i x hi h=>by
   obtain⟨y,hy⟩:∃y,xs[i]?=some y:=⟨_,List.getElem?_eq_getElem (by rw[hlen];exact hi)⟩
   rw[hy]at h
   obtain⟨k,e,_,hwf⟩:=DataW.trod_int Tryz.underlying3 h
   exact⟨k,by simpa using e,aft hwf⟩
  obtain⟨k0,rfl,w0⟩:=int_at 0 x0 (by omega) (by simpa [Value.cells,c3] using hg 0 _ rfl)
  obtain⟨k1,rfl,w1⟩:=int_at 1 x1 (by omega) (by simpa [Value.cells,c3] using hg 1 _ rfl)
  obtain⟨k2,rfl,w2⟩:=int_at 2 x2 (by omega) (by simpa [Value.cells,c3] using hg 2 _ rfl)
  obtain⟨k3,rfl,w3⟩:=int_at 3 x3 (by omega) (by simpa [Value.cells,c3] using hg 3 _ rfl)
  obtain⟨k4,rfl,w4⟩:=int_at 4 x4 (by omega) (by simpa [Value.cells,c3] using hg 4 _ rfl)
  exact⟨k0,k1,k2,k3,k4,rfl,w0,w1,w2,w3,w4⟩
theorem c4:Tryz.prog.cellsOf 4=1:=by kernel_rfl
theorem anG{H:Type}{enc:TypeId×Value→H}{W:World}{v:Value}{d:DataW H}{p:List MemPlace}{a0:Option Addr}{n0 c0:Nat}(hv:v=.slice a0 n0 c0)(h:DataW.Trod enc Tryz.prog W 0 (fun _=>true) true 59 v d p) :
  n0=0∨∃vb off,a0=some (⟨vb,off,none⟩:Addr)∧∀i,i<n0→∃c,W.cell? ⟨vb,off+i,none⟩=some (.bool c):=by
 subst hv
 obtain⟨fuel,h⟩:=h
 simp only[Value.cells]at h
 rcases Deep.open_slice1 Tryz.underlying59 c4 h with ⟨h1,_⟩|⟨a,len,cap,m,n,V,D,Pl,h1,_,hl,hm,hmm,hx,hc⟩
 ·left
  have:Value.slice a0 n0 c0=.slice none 0 0:=by simpa using h1
  cases this
  rfl
 ·have hV:Value.slice a0 n0 c0=.slice (some a) len cap:=by simpa using h1
  cases hV
  rw[if_pos rfl]at hmm
  by_cases h0:n0=0
  ·exact Or.inl h0
  ·right
   obtain⟨c0',_⟩:=hc 0 (by omega)
   have hsp:a.spot=none:=by
    cases hsp:a.spot with
    |none=>rfl
    |some y=>
     simp only[World.cell?,Addr.add]at c0'
     split at c0'
     ·simp[hsp]at c0'
     ·cases c0'
   obtain⟨b,off,spt⟩:=a
   simp only at hsp
   subst hsp
   have had:∀o,(⟨b,off,none⟩:Addr).add o=⟨b,off+o,none⟩:=fun o=>by simp[Addr.add]
   refine⟨b,off,rfl,fun i hi=>?_⟩
   obtain⟨e0,e1⟩:=hc i (by omega)
   obtain⟨k,hk,_⟩:=DataW.trod_bool Tryz.underlying4 e1
   have hk':V i=.bool k:=by simpa using hk
   rw[had,hk']at e0
   exact⟨k,e0⟩
theorem afK{H:Type}{enc:TypeId×Value→H}{P:Program}{w:World}{base:Nat}{spare:Nat→Bool}{held:Bool}{t0 t1 t2 t3 t4:TypeId}{args:Array Value}{ds:List (DataW H)}{ps:List MemPlace}(h:DataW.TrodAll enc P w base spare held [t0,t1,t2,t3,t4] args.toList ds ps) :
  ∃v0 v1 v2 v3 v4 d0 d1 d2 d3 d4 p0 p1 p2 p3 p4,args=#[v0,v1,v2,v3,v4]∧ds=[d0,d1,d2,d3,d4]∧ps=p0++(p1++(p2++(p3++p4)))∧DataW.Trod enc P w base spare held t0 v0 d0 p0∧DataW.Trod enc P w base spare held t1 v1 d1 p1∧DataW.Trod enc P w base spare held t2 v2 d2 p2∧DataW.Trod enc P w base spare held t3 v3 d3 p3∧DataW.Trod enc P w base spare held t4 v4 d4 p4:=by
 obtain⟨v0,r0,d0,e0,p0,q0,hargs,rfl,rfl,h0,k0⟩:=trodAll_cons h
 obtain⟨v1,r1,d1,e1,p1,q1,rfl,rfl,rfl,h1,k1⟩:=trodAll_cons k0
 obtain⟨v2,r2,d2,e2,p2,q2,rfl,rfl,rfl,h2,k2⟩:=trodAll_cons k1
 obtain⟨v3,r3,d3,e3,p3,q3,rfl,rfl,rfl,h3,k3⟩:=trodAll_cons k2
 obtain⟨v4,r4,d4,e4,p4,q4,rfl,rfl,rfl,h4,k4⟩:=trodAll_cons k3
 obtain⟨rfl,rfl,rfl⟩:=trodAll_nil k4
 exact⟨v0,v1,v2,v3,v4,d0,d1,d2,d3,d4,p0,p1,p2,p3,p4,by cases args;simp_all,rfl,by simp,h0,h1,h2,h3,h4⟩
theorem agK(os:Os)(started:os.Started)(H:Type)(enc:TypeId×Value→H) :
  ReturnsInHanded {} Tryz.checked os 7 .any (fun w args=>(Rows.stubbornSpec.pre enc Tryz.prog Tryz.f7 [] false w args∧laidMetH Tryz.prog Rows.stubbornRow.laid w)∧sizedMet enc Tryz.prog Tryz.f7 (OpenSpec.ofChange Rows.stubbornSpec) false w args)
   (Rows.stubbornSpec.post enc Tryz.prog Tryz.f7 false true false false):=by
 refine returnsInHanded_of_change_and (C:=Tryz.checked) (X:=fun w _=>laidMetH Tryz.prog Rows.stubbornRow.laid w) (fun _ _ _ hh h=>h.of_heap hh) own started (by kernel_rfl) Tryz.func7
  (ChangeSpec.witness_shaped (enc:=enc) (C:=Tryz.checked) (os:=os) (X:=fun w _=>laidMetH Tryz.prog Rows.stubbornRow.laid w) false (World.doorLaid Tryz.prog 400 os) #[cfv 0 0 0 0 0,.int .i64 0,.int .i64 0,.int .i64 0,.slice none 0 0] 8 rfl (World.shaped_of_RefB (by kernel_rfl) (by kernel_rfl)) (by kernel_rfl) (by kernel_rfl) (by kernel_rfl) (anv os _)) ?_
 intro W base args ds gs before hval0 hW _ _ hL _
 have hval:∀(j:Nat) t v,Tryz.f7.params[j]?=some t→args[j]?=some v→Value.okWide Tryz.prog W .any base t v:=hval0
 have hW':=hW
 obtain⟨p,q,hA0,hV,rfl,hfz,hnd⟩:=hW
 have hA:DataW.TrodAll enc Tryz.prog W 0 (fun _=>true) true Tryz.f7.params.toList args.toList ds p:=hA0
 rw[Tryz.params7]at hA hval
 obtain⟨v0,v1,v2,v3,v4,d0,d1,d2,d3,d4,p0,p1,p2,p3,p4,rfl,rfl,rfl,h0,h1,h2,h3,h4⟩:=afK hA
 obtain⟨rfl,rfl⟩:=trodVars_none hV
 obtain⟨x,rfl,rfl,rfl,wx⟩:=open_int Tryz.underlying3 (hval 1 3 v1 rfl rfl) h1
 obtain⟨y,rfl,rfl,rfl,wy⟩:=open_int Tryz.underlying3 (hval 2 3 v2 rfl rfl) h2
 obtain⟨z,rfl,rfl,rfl,wz⟩:=open_int Tryz.underlying3 (hval 3 3 v3 rfl rfl) h3
 obtain⟨a,b,r,t,tb,rfl,i1,i2,i3,i4,i5⟩:=aqU (hval 0 26 v0 rfl rfl) h0
 obtain⟨sa,sn,sc,hv4⟩:=okWide_slice Tryz.underlying59 (hval 4 59 v4 rfl rfl)
 have hbl:=anG hv4 h4
 subst hv4
 obtain⟨tt,fr,hg⟩:=aoy hL
 clear hA0 hval0
 simp only[List.append_nil,List.nil_append]at hW'
 have hlt:∀x∈p0,x.block<W.heap.size:=fun x hx=>by simpa using hW'.lt x (by simp[hx])
 have hlt4:∀x∈p4,x.block<W.heap.size:=fun x hx=>by simpa using hW'.lt x (by simp[hx])
 refine(afP a b r t tb x y z sa sn sc i1 i2 i3 i4 i5 (aft wx) (aft wy) (aft wz) W hbl ⟨tt,fr,hg⟩ (lt_of_block hg)).mono fun e W' ⟨he,bel⟩=>?_
 subst he
 exact⟨_,rfl,[d0,.lit (.int .i64 x),.lit (.int .i64 y),.lit (.int .i64 z),d4],[],_,[],p0++([]++([]++([]++p4))),[],hW',trodAll_mk1 (shut_bool Tryz.underlying4 _),trodAll_cons_mk (Below.trod pat_laidOut (by kernel_rfl) (of_decide_eq_true (by kernel_rfl)) h0 bel hlt) (trodAll_mk4 (shut_int Tryz.underlying3 wx) (shut_int Tryz.underlying3 wy) (shut_int Tryz.underlying3 wz) (Below.trod pat_laidOut (by kernel_rfl) (of_decide_eq_true (by kernel_rfl)) h4 bel hlt4)),rfl,bel.frame _,fun h=>by cases h⟩
theorem afO:Rows.StubbornSaid:=
 OpenClaim.holds_of_wide 7 Tryz.f7 rfl rfl rfl rfl rfl rfl rfl ⟨rfl,rfl,rfl,rfl,rfl⟩ rfl rfl rfl rfl rfl (by kernel_rfl) Tryz.func7 (by kernel_rfl)
  (of_decide_eq_true (by kernel_rfl)) (by unfold Func.isWrapper;first|(rw[if_pos (by decide +kernel)];kernel_rfl)|(rw[if_neg (by decide +kernel)];exact⟨rfl,rfl⟩))
  (fun os started H enc _=>agK os started H enc)
theorem stubborn_holds:Rows.StubbornCardSaid:=
 Claim7.holds_tied_plain_at .later [] [.data] true (true, "9a6d02868193b5666cab5a7656a3f1e1677eef58c447526782d14dddf1ab8fb6") true
  afO (fun _ h=>by cases h) (by kernel_rfl) (fun _ h=>by cases h) stubborn_row_tie rfl ⟨rfl,rfl⟩ (by kernel_rfl) rfl
  (fun f fn hf hfn=>by
   obtain rfl : f = 7 := Option.some.inj ((show Tryz.prog.funcNamed "errand/errandkeep.Stubborn" = some 7 by kernel_rfl).symm.trans hf) |>.symm
   obtain rfl:fn=Tryz.f7:=(Option.some.inj (Tryz.func7.symm.trans hfn)).symm
   exact⟨by kernel_rfl,fun j t ht=>by
    rw[Tryz.params7]at ht
    have hm:t∈[26,3,3,3,59]:=by simpa using Array.mem_of_getElem? ht
    have hall:([26,3,3,3,59].all fun u=>!Tryz.prog.wantsStandIn u)=true:=by kernel_rfl
    exact(show Tryz.prog.wantsStandIn t=false by simpa using List.all_eq_true.1 hall t hm)⟩)
  (by kernel_rfl)
#print axioms stubborn_holds
end Go.Proofs.YtblomippkddgiaaGreatDoor
