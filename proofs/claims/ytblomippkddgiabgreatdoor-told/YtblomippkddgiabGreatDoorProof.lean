/-
  Proved: errandkeep.Told returns true for every configuration and every script of moves, and leaves its arguments as they were: whatever happens, what each service told, call by call in the order of its log, is what its kind tells, beginning anew with each service. Condition: the table 'signatures' of package service reads as its initialiser lays it (tied by the card to the program's text).
-/
import Derived.Test.YtblomippkddgiabGreatDoorTie
import Derived.Test.YtblomippkddgiabGreatDoorCards
import Derived.Test.YtblomippkddgiabGreatDoorJ48
import Derived.Deep.SlicePairs
import Derived.Carry
import Derived.LaidMore
import Derived.Stop.Joined
import Derived.SevenTiedAt
set_option maxRecDepth 100000
namespace Go.Proofs.YtblomippkddgiabGreatDoor
open Go.ChangeShapes Go.WideShapes Go.ChangeAt Go.WideMaps Go.WideElems Go.RowKit
variable {v:Value}{W:World}
theorem own:ownKnob Tryz.prog.godebug=Option.none:=by kernel_rfl
theorem adL : Tryz.prog.globalNamed "errand/service.signatures" = some 0 := by kernel_rfl
theorem aeD:(Tryz.prog.globals[0]?).map (·.type)=some 312:=by kernel_rfl
theorem c31:Tryz.prog.cellsOf 311=4:=by kernel_rfl
theorem c32:Tryz.prog.cellsOf 312=20:=by kernel_rfl
theorem c3:Tryz.prog.cellsOf 3=1:=by kernel_rfl
theorem c9:Tryz.prog.cellsOf 9=1:=by kernel_rfl
theorem X7(os:Os)(args:Array Value):laidMetH Tryz.prog Rows.toldRow.laid ((World.doorLaid Tryz.prog 400 os).forCall (fun _ _=>0) ⟨#[],args,[]⟩).memory:=
 laidMetH_of_parts3 (fuel:=8) (laidMet_of_run' 8 (by kernel_rfl) (by kernel_rfl)) (by kernel_rfl) (by kernel_rfl)
theorem I9{s:ByteArray}{l:List UInt8}(h:s.data.toList=l):s=⟨l.toArray⟩:=by
 subst h;rfl
theorem row_of{H:Type}{enc:TypeId×Value->H}{base:Nat}{sp:Nat->Bool}{held:Bool}{fuel:Nat}{cs:List Value}{x:DataW H×List MemPlace}(h:DataW.trod enc Tryz.prog W base sp held fuel 311 cs=some x):
  ∃(a b:Int) (s t:ByteArray),cs=[.int .i64 a,.int .i64 b,.string s,.string t]/\x.1=.agg [.lit (.int .i64 a),.lit (.int .i64 b),.lit (.string s.data.toList),.lit (.string t.data.toList)]:=by
 obtain⟨xs,n,_,rfl,hl,aa,hf⟩:=DataW.trod_struct Tryz.underlying311 h;rw[c31]at hl;match cs,hl,xs,aa,hf with
 |[v0,v1,v2,v3],_,[x0,x1,x2,x3],_,hf=>
  have f0:DataW.trod enc Tryz.prog W base sp held n 3 (([v0,v1,v2,v3].drop 0).take (Tryz.prog.cellsOf 3))=some x0:=hf 0 _ rfl;have f1:DataW.trod enc Tryz.prog W base sp held n 3 (([v0,v1,v2,v3].drop 1).take (Tryz.prog.cellsOf 3))=some x1:=hf 1 _ rfl;have f2:DataW.trod enc Tryz.prog W base sp held n 9 (([v0,v1,v2,v3].drop 2).take (Tryz.prog.cellsOf 9))=some x2:=hf 2 _ rfl;have f3:DataW.trod enc Tryz.prog W base sp held n 9 (([v0,v1,v2,v3].drop 3).take (Tryz.prog.cellsOf 9))=some x3:=hf 3 _ rfl;rw[c3]at f0 f1;rw[c9]at f2 f3;obtain⟨a,e0,y0,_⟩:=DataW.trod_int Tryz.underlying3 f0;obtain⟨b,e1,y1,_⟩:=DataW.trod_int Tryz.underlying3 f1;obtain⟨s,e2,y2,_⟩:=DataW.trod_string Tryz.underlying9 f2;obtain⟨t,e3,y3,_⟩:=DataW.trod_string Tryz.underlying9 f3;simp at e0 e1 e2 e3 y0 y1 y2 y3;subst e0 e1 e2 e3 y0 y1 y2 y3;exact⟨a,b,s,t,rfl,rfl⟩
theorem abb(h:laidMetH Tryz.prog Rows.toldRow.laid W):∃tt fr,W.heap[0]?=some (.cells BK tt fr):=by
 rw[MakeChecks.laidMetH_plain _ _ _ (by kernel_rfl)]at h;obtain⟨ps,⟨g0,t0,ad,f0,p0,q0,ao,ap,aq,an,_,_⟩,_,_⟩:=h;obtain rfl:=Option.some.inj (adL.symm.trans ao);obtain rfl:=Option.some.inj (aeD.symm.trans ap);obtain⟨xs,m,_,hx,ab,hn,aa⟩:=DataW.trod_array Tryz.underlying312 an;rw[c32]at ab;simp only[c31]at aa;obtain⟨l⟩:=ad;have ac:=congrArg Prod.fst hx;simp only[Rows.laid_errand_service_signatures]at ac;match l,ab,xs,hn,aa,ac with
 |[v0,v1,v2,v3,v4,v5,v6,v7,v8,v9,v10,v11,v12,v13,v14,v15,v16,v17,v18,v19],_,[x0,x1,x2,x3,x4],_,aa,ac=>
  obtain⟨a0,b0,s0,t0,e0,y0⟩:=row_of (show DataW.trod _ Tryz.prog W 0 _ false m 311 [v0,v1,v2,v3]=some x0 from aa 0 (by omega));obtain⟨a1,b1,s1,t1,e1,y1⟩:=row_of (show DataW.trod _ Tryz.prog W 0 _ false m 311 [v4,v5,v6,v7]=some x1 from aa 1 (by omega));obtain⟨a2,b2,s2,t2,e2,y2⟩:=row_of (show DataW.trod _ Tryz.prog W 0 _ false m 311 [v8,v9,v10,v11]=some x2 from aa 2 (by omega));obtain⟨a3,b3,s3,t3,e3,y3⟩:=row_of (show DataW.trod _ Tryz.prog W 0 _ false m 311 [v12,v13,v14,v15]=some x3 from aa 3 (by omega));obtain⟨a4,b4,s4,t4,e4,y4⟩:=row_of (show DataW.trod _ Tryz.prog W 0 _ false m 311 [v16,v17,v18,v19]=some x4 from aa 4 (by omega));simp only[List.map_cons,List.map_nil,y0,y1,y2,y3,y4,DataW.agg.injEq,List.cons.injEq,DataW.lit.injEq,Lit.int.injEq,Lit.string.injEq,and_true,true_and]at ac;obtain⟨⟨h1,h2,h3,h4⟩,⟨h5,h6,h7,h8⟩,⟨h9,h10,h11,ae⟩,⟨af,ag,ah,ai⟩,aj,ak,al,am⟩:=ac;simp only[List.cons.injEq,and_true]at e0 e1 e2 e3 e4;obtain⟨rfl,rfl,rfl,rfl⟩:=e0;obtain⟨rfl,rfl,rfl,rfl⟩:=e1;obtain⟨rfl,rfl,rfl,rfl⟩:=e2;obtain⟨rfl,rfl,rfl,rfl⟩:=e3;obtain⟨rfl,rfl,rfl,rfl⟩:=e4;have hv : World.var? Tryz.prog W "errand/service.signatures" = some BK := by
   rw[aq,←h1,←h2,←h5,←h6,←h9,←h10,←af,←ag,←aj,←ak,I9 h3.symm,I9 h4.symm,I9 h7.symm,I9 h8.symm,I9 h11.symm,I9 ae.symm,I9 ah.symm,I9 ai.symm,I9 al.symm,I9 am.symm]
  unfold World.var? at hv;rw[adL]at hv;simp only[Option.bind_some]at hv;split at hv
  ·rename_i cs tt fr hh;have:cs=BK:=Option.some.inj hv;subst this;exact⟨tt,fr,hh⟩
  ·cases hv
theorem Li:laidOutB Tryz.prog=true:=by kernel_rfl
theorem c28:Tryz.prog.cellsOf 23=5:=by kernel_rfl
theorem J3{k:Int}(ab:(Lit.int .i64 k).wf=true):In64 k:=by
 unfold In64;simp[Lit.wf]at ab;have aa:IntKind.i64.min=-9223372036854775808:=by decide
 rw[aa]at ab;exact ab
theorem adw{H:Type}{enc:TypeId×Value->H}{base:Nat}{d:DataW H}{p:List MemPlace}(hv:Value.okWide Tryz.prog W .any base 23 v)(h:DataW.Trod enc Tryz.prog W 0 (fun _=>true) true 23 v d p):∃a b r t tb:Int,v=UK a b r t tb/\In64 a/\In64 b/\In64 r/\In64 t/\In64 tb:=by
 obtain⟨cs,rfl,ac⟩:=okWide_struct Tryz.underlying23 hv;rw[c28]at ac;obtain⟨l⟩:=cs;match l,ac with
 |[x0,x1,x2,x3,x4],_=>
  obtain⟨fuel,hf⟩:=h;obtain⟨xs,n,_,_,_,ab,hg⟩:=DataW.trod_struct Tryz.underlying23 hf;have aa:∀(i:Nat) (x:Value),i<5->DataW.trod enc Tryz.prog W 0 (fun _=>true) true n 3 [x]=xs[i]?->∃k,x=.int .i64 k/\In64 k:=fun i x hi h=>by
   obtain⟨y,hy⟩:∃y,xs[i]?=some y:=⟨_,afH (by rw[ab];exact hi)⟩;rw[hy]at h;obtain⟨k,e,_,ad⟩:=DataW.trod_int Tryz.underlying3 h;exact⟨k,by simpa using e,J3 ad⟩
  obtain⟨k0,rfl,w0⟩:=aa 0 x0 (by omega) (by simpa [Value.cells,c3] using hg 0 _ rfl);obtain⟨k1,rfl,w1⟩:=aa 1 x1 (by omega) (by simpa [Value.cells,c3] using hg 1 _ rfl);obtain⟨k2,rfl,w2⟩:=aa 2 x2 (by omega) (by simpa [Value.cells,c3] using hg 2 _ rfl);obtain⟨k3,rfl,w3⟩:=aa 3 x3 (by omega) (by simpa [Value.cells,c3] using hg 3 _ rfl);obtain⟨k4,rfl,w4⟩:=aa 4 x4 (by omega) (by simpa [Value.cells,c3] using hg 4 _ rfl);exact⟨k0,k1,k2,k3,k4,rfl,w0,w1,w2,w3,w4⟩
theorem c59:Tryz.prog.cellsOf 59=4:=by kernel_rfl
theorem YF{H:Type}{enc:TypeId×Value->H}{d:DataW H}{p:List MemPlace}{a0:Option Addr}{n0 c0:Nat}(hv:v=.slice a0 n0 c0)(h:DataW.Trod enc Tryz.prog W 0 (fun _=>true) true 24 v d p):KX W a0 n0/\n0<=maxLen:=by
 subst hv;obtain⟨fuel,h⟩:=h;simp only[Value.cells]at h;rcases Deep.open_slice Tryz.underlying24 h with ⟨h1,_⟩|⟨a,len,cap,m,n,D,Pl,h1,_,hl,hm,ag,hx,hc⟩
 ·have:Value.slice a0 n0 c0=.slice none 0 0:=by simpa using h1
  cases this;exact⟨afJ rfl,af8 _⟩
 ·have hV:Value.slice a0 n0 c0=.slice (some a) len cap:=by simpa using h1
  cases hV;rw[if_pos rfl]at ag;refine⟨?_,by omega⟩;by_cases h0:n0=0
  ·exact afJ h0
  ·right;rw[c59]at hc;have each:∀i,i<m->∃k x y z:Int,(In64 k/\In64 x/\In64 y/\In64 z)/\W.cell? (a.add (i*4))=some (.int .i64 k)/\W.cell? (a.add (i*4+1))=some (.int .i64 x)/\W.cell? (a.add (i*4+2))=some (.int .i64 y)/\W.cell? (a.add (i*4+3))=some (.int .i64 z):=fun i hi=>by
    obtain⟨ae,g1,g2⟩:=hc i hi;obtain⟨_,ad,aa⟩:=World.cells?_some g1;obtain⟨xs,q,_,_,_,ah,hf⟩:=DataW.trod_struct Tryz.underlying59 g2;match xs,ah,ae,ad with
    |[y0,y1,y2,y3],_,[v0,v1,v2,v3],_=>
     have f0:DataW.trod enc Tryz.prog W 0 (fun _=>true) true q 3 (([v0,v1,v2,v3].drop 0).take (Tryz.prog.cellsOf 3))=some y0:=hf 0 _ rfl;have f1:DataW.trod enc Tryz.prog W 0 (fun _=>true) true q 3 (([v0,v1,v2,v3].drop 1).take (Tryz.prog.cellsOf 3))=some y1:=hf 1 _ rfl;have f2:DataW.trod enc Tryz.prog W 0 (fun _=>true) true q 3 (([v0,v1,v2,v3].drop 2).take (Tryz.prog.cellsOf 3))=some y2:=hf 2 _ rfl;have f3:DataW.trod enc Tryz.prog W 0 (fun _=>true) true q 3 (([v0,v1,v2,v3].drop 3).take (Tryz.prog.cellsOf 3))=some y3:=hf 3 _ rfl;rw[c3]at f0 f1 f2 f3;obtain⟨k0,e0,_,w0⟩:=DataW.trod_int Tryz.underlying3 f0;obtain⟨k1,e1,_,w1⟩:=DataW.trod_int Tryz.underlying3 f1;obtain⟨k2,e2,_,w2⟩:=DataW.trod_int Tryz.underlying3 f2;obtain⟨k3,e3,_,w3⟩:=DataW.trod_int Tryz.underlying3 f3;simp at e0 e1 e2 e3;subst e0 e1 e2 e3;have z0:=aa 0 (by omega);have z1:=aa 1 (by omega);have z2:=aa 2 (by omega);have z3:=aa 3 (by omega);rw[Deep.add_add]at z0 z1 z2 z3;exact⟨k0,k1,k2,k3,⟨J3 w0,J3 w1,J3 w2,J3 w3⟩,by simpa using z0,by simpa using z1,by simpa using z2,by simpa using z3⟩
   obtain⟨_,_,_,_,_,ab,_⟩:=each 0 (by omega);have ac:a.spot=none:=by
    cases ac:a.spot with
    |none=>rfl
    |some y=>
     simp only[World.cell?,Addr.add]at ab;split at ab
     ·simp[ac]at ab
     ·cases ab
   obtain⟨b,off,ai⟩:=a;simp only at ac;subst ac;have af:∀o,(⟨b,off,none⟩:Addr).add o=⟨b,off+o,none⟩:=fun o=>by simp[Addr.add]
   refine⟨b,off,rfl,fun i hi=>?_⟩;obtain⟨k,x,y,z,e0,e1,e2,e3,e4⟩:=each i (by omega);rw[af]at e1 e2 e3 e4;exact⟨k,x,y,z,e0,e1,e2,e3,e4⟩
theorem afb(os:Os)(aa:os.Started)(H:Type)(enc:TypeId×Value->H):
  ReturnsInHanded {} Tryz.checked os 4 .any (fun w args=>(Rows.toldSpec.pre enc Tryz.prog Tryz.f4 [] false w args/\laidMetH Tryz.prog Rows.toldRow.laid w)/\sizedMet enc Tryz.prog Tryz.f4 (OpenSpec.ofChange Rows.toldSpec) false w args)
   (Rows.toldSpec.post enc Tryz.prog Tryz.f4 false true false false):=by
 refine returnsInHanded_of_change_and (C:=Tryz.checked) (X:=fun w _=>laidMetH Tryz.prog Rows.toldRow.laid w) (fun _ _ _ hh h=>h.of_heap hh) own aa (by kernel_rfl) Tryz.func4
  (ChangeSpec.witness_shaped (enc:=enc) (C:=Tryz.checked) (os:=os) (X:=fun w _=>laidMetH Tryz.prog Rows.toldRow.laid w) false (World.doorLaid Tryz.prog 400 os) #[UK 0 0 0 0 0,.slice none 0 0] 8 rfl (World.shaped_of_RefB (by kernel_rfl) (by kernel_rfl)) (by kernel_rfl) (by kernel_rfl) (by kernel_rfl) (X7 os _)) ?_
 intro W base args ds gs ae ab hW _ _ hL _;have ac:∀(j:Nat) t v,Tryz.f4.params[j]?=some t->args[j]?=some v->Value.okWide Tryz.prog W .any base t v:=ab;have ad:=hW;obtain⟨p,q,ag,hV,rfl,ak,al⟩:=hW;have hA:DataW.TrodAll enc Tryz.prog W 0 (fun _=>true) true Tryz.f4.params.toList args.toList ds p:=ag;rw[Tryz.params4]at hA ac;obtain⟨v0,v1,d0,d1,p0,p1,rfl,rfl,rfl,h0,h1⟩:=trodAll_two hA;obtain⟨rfl,rfl⟩:=trodVars_none hV;obtain⟨a,b,r,t,tb,rfl,i1,i2,i3,i4,i5⟩:=adw (ac 0 23 v0 rfl rfl) h0;obtain⟨sa,sn,sc,ai⟩:=okWide_slice Tryz.underlying24 (ac 1 24 v1 rfl rfl);have ah:=YF ai h1;subst ai;obtain⟨tt,fr,hg⟩:=abb hL;clear ag ab;simp only[agv]at ad;have aj:∀x∈p0,x.block<W.heap.size:=fun x hx=>by simpa using ad.lt x (by simp[hx])
 have af:∀x∈p1,x.block<W.heap.size:=fun x hx=>by simpa using ad.lt x (by simp[hx])
 refine(afx a b r t tb sa sn sc i1 i2 i3 i4 i5 W ah.1 ah.2 ⟨tt,fr,hg⟩ (lt_of_block hg)).mono fun e W' ⟨he,bel⟩=>?_
 subst he;exact⟨_,rfl,[d0,d1],[],_,[],p0++p1,[],ad,trodAll_mk1 (shut_bool Tryz.underlying4 _),trodAll_mk2 (Below.trod Li (by kernel_rfl) (of_decide_eq_true (by kernel_rfl)) h0 bel aj) (Below.trod Li (by kernel_rfl) (of_decide_eq_true (by kernel_rfl)) h1 bel af),rfl,bel.frame _,fun h=>by cases h⟩
theorem afy:Rows.ToldSaid:=
 OpenClaim.holds_of_wide 4 Tryz.f4 rfl rfl rfl rfl rfl rfl rfl ⟨rfl,rfl,rfl,rfl,rfl⟩ rfl rfl rfl rfl rfl (by kernel_rfl) Tryz.func4 (by kernel_rfl)
  (of_decide_eq_true (by kernel_rfl)) (by unfold Func.isWrapper;first|(rw[if_pos (by decide +kernel)];kernel_rfl)|(rw[if_neg (by decide +kernel)];exact⟨rfl,rfl⟩))
  (fun os aa H enc _=>afb os aa H enc)
theorem told_holds:Rows.ToldCardSaid:=
 Claim7.holds_tied_plain_at .later [] [.data] true (true, "8b25b079f928f48cc10a42295de4bb846e16ddbba4468b0a4be41a876ccd36e6") true
  afy (fun _ h=>by cases h) (by kernel_rfl) (fun _ h=>by cases h) told_row_tie rfl ⟨rfl,rfl⟩ (by kernel_rfl) rfl
  (fun f fn hf ab=>by
   obtain rfl : f = 4 := Option.some.inj ((show Tryz.prog.funcNamed "errand/errandkeep.Told" = some 4 by kernel_rfl).symm.trans hf) |>.symm
   obtain rfl:fn=Tryz.f4:=(Option.some.inj (Tryz.func4.symm.trans ab)).symm;exact⟨by kernel_rfl,fun j t ht=>by
    rw[Tryz.params4]at ht;have hm:t∈[23,24]:=by simpa using Array.mem_of_getElem? ht
    have aa:([23,24].all fun u=>!Tryz.prog.wantsStandIn u)=true:=by kernel_rfl
    exact(show Tryz.prog.wantsStandIn t=false by simpa using List.all_eq_true.1 aa t hm)⟩)
  (by kernel_rfl)
#print axioms told_holds
end Go.Proofs.YtblomippkddgiabGreatDoor
