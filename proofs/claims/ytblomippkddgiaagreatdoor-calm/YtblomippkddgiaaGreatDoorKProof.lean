/-
  Proved: errandkeep.Calm returns true for every configuration and every script, and leaves its arguments as they were: if no packet is lost, bent or kept back, every call ends Done, of any client on any line for which the server has room, several at once, and it takes just as many packets as its pieces and those of its result need. Condition: the table 'signatures' of package service reads as its initialiser lays it (tied by the card to the program's text).
-/
import Derived.Test.YtblomippkddgiaaGreatDoorTie
import Derived.Test.YtblomippkddgiaaGreatDoorCards
import Derived.Test.YtblomippkddgiaaGreatDoorK50
import Derived.Deep.SlicePairs
import Derived.Carry
import Derived.LaidMore
import Derived.Stop.Joined
import Derived.SevenTiedAt
set_option maxRecDepth 100000
namespace Go.Proofs.YtblomippkddgiaaGreatDoor
open Go.ChangeShapes Go.WideShapes Go.ChangeAt Go.WideMaps Go.WideElems Go.RowKit
theorem own:ownKnob Tryz.prog.godebug=Option.none:=by kernel_rfl
theorem abW : Tryz.prog.globalNamed "errand/service.signatures" = some 0 := by kernel_rfl
theorem acV:(Tryz.prog.globals[0]?).map (·.type)=some 198:=by kernel_rfl
theorem c31:Tryz.prog.cellsOf 197=4:=by kernel_rfl
theorem c32:Tryz.prog.cellsOf 198=20:=by kernel_rfl
theorem c3:Tryz.prog.cellsOf 3=1:=by kernel_rfl
theorem c9:Tryz.prog.cellsOf 9=1:=by kernel_rfl
theorem Wj(os:Os)(args:Array Value):laidMetH Tryz.prog Rows.calmRow.laid ((World.doorLaid Tryz.prog 400 os).forCall (fun _ _=>0) ⟨#[],args,[]⟩).memory:=
 laidMetH_of_parts3 (fuel:=8) (laidMet_of_run' 8 (by kernel_rfl) (by kernel_rfl)) (by kernel_rfl) (by kernel_rfl)
theorem IB{s:ByteArray}{l:List UInt8}(h:s.data.toList=l):s=⟨l.toArray⟩:=by
 subst h;rfl
theorem row_of{H:Type}{enc:TypeId×Value->H}{W:World}{base:Nat}{sp:Nat->Bool}{held:Bool}{fuel:Nat}{cs:List Value}{x:DataW H×List MemPlace}(h:DataW.trod enc Tryz.prog W base sp held fuel 197 cs=some x):
  ∃(a b:Int) (s t:ByteArray),cs=[.int .i64 a,.int .i64 b,.string s,.string t]/\x.1=.agg [.lit (.int .i64 a),.lit (.int .i64 b),.lit (.string s.data.toList),.lit (.string t.data.toList)]:=by
 obtain⟨xs,n,_,rfl,hl,hlen,hf⟩:=DataW.trod_struct Tryz.underlying197 h;rw[c31]at hl;match cs,hl,xs,hlen,hf with
 |[v0,v1,v2,v3],_,[x0,x1,x2,x3],_,hf=>
  have f0:DataW.trod enc Tryz.prog W base sp held n 3 (([v0,v1,v2,v3].drop 0).take (Tryz.prog.cellsOf 3))=some x0:=hf 0 _ rfl;have f1:DataW.trod enc Tryz.prog W base sp held n 3 (([v0,v1,v2,v3].drop 1).take (Tryz.prog.cellsOf 3))=some x1:=hf 1 _ rfl;have f2:DataW.trod enc Tryz.prog W base sp held n 9 (([v0,v1,v2,v3].drop 2).take (Tryz.prog.cellsOf 9))=some x2:=hf 2 _ rfl;have f3:DataW.trod enc Tryz.prog W base sp held n 9 (([v0,v1,v2,v3].drop 3).take (Tryz.prog.cellsOf 9))=some x3:=hf 3 _ rfl;rw[c3]at f0 f1;rw[c9]at f2 f3;obtain⟨a,e0,y0,_⟩:=DataW.trod_int Tryz.underlying3 f0;obtain⟨b,e1,y1,_⟩:=DataW.trod_int Tryz.underlying3 f1;obtain⟨s,e2,y2,_⟩:=DataW.trod_string Tryz.underlying9 f2;obtain⟨t,e3,y3,_⟩:=DataW.trod_string Tryz.underlying9 f3;simp at e0 e1 e2 e3 y0 y1 y2 y3;subst e0 e1 e2 e3 y0 y1 y2 y3;exact⟨a,b,s,t,rfl,rfl⟩
theorem Zv{W:World}(h:laidMetH Tryz.prog Rows.calmRow.laid W):∃tt fr,W.heap[0]?=some (.cells Bz tt fr):=by
 rw[MakeChecks.laidMetH_plain _ _ _ (by kernel_rfl)]at h;obtain⟨ps,⟨g0,t0,cs0,f0,p0,q0,hg0,ht0,hv0,hd0,_,_⟩,_,_⟩:=h;obtain rfl:=Option.some.inj (abW.symm.trans hg0);obtain rfl:=Option.some.inj (acV.symm.trans ht0);obtain⟨xs,m,_,hx,hlen,hn,hel⟩:=DataW.trod_array Tryz.underlying198 hd0;rw[c32]at hlen;simp only[c31]at hel;obtain⟨l⟩:=cs0;have hx1:=congrArg Prod.fst hx;simp only[Rows.laid_errand_service_signatures]at hx1;match l,hlen,xs,hn,hel,hx1 with
 |[v0,v1,v2,v3,v4,v5,v6,v7,v8,v9,v10,v11,v12,v13,v14,v15,v16,v17,v18,v19],_,[x0,x1,x2,x3,x4],_,hel,hx1=>
  obtain⟨a0,b0,s0,t0,e0,y0⟩:=row_of (show DataW.trod _ Tryz.prog W 0 _ false m 197 [v0,v1,v2,v3]=some x0 from hel 0 (by omega));obtain⟨a1,b1,s1,t1,e1,y1⟩:=row_of (show DataW.trod _ Tryz.prog W 0 _ false m 197 [v4,v5,v6,v7]=some x1 from hel 1 (by omega));obtain⟨a2,b2,s2,t2,e2,y2⟩:=row_of (show DataW.trod _ Tryz.prog W 0 _ false m 197 [v8,v9,v10,v11]=some x2 from hel 2 (by omega));obtain⟨a3,b3,s3,t3,e3,y3⟩:=row_of (show DataW.trod _ Tryz.prog W 0 _ false m 197 [v12,v13,v14,v15]=some x3 from hel 3 (by omega));obtain⟨a4,b4,s4,t4,e4,y4⟩:=row_of (show DataW.trod _ Tryz.prog W 0 _ false m 197 [v16,v17,v18,v19]=some x4 from hel 4 (by omega));simp only[List.map_cons,List.map_nil,y0,y1,y2,y3,y4,DataW.agg.injEq,List.cons.injEq,DataW.lit.injEq,Lit.int.injEq,Lit.string.injEq,and_true,true_and]at hx1;obtain⟨⟨h1,h2,h3,h4⟩,⟨h5,h6,h7,h8⟩,⟨h9,h10,h11,h12⟩,⟨h13,h14,h15,h16⟩,h17,h18,h19,h20⟩:=hx1;simp only[List.cons.injEq,and_true]at e0 e1 e2 e3 e4;obtain⟨rfl,rfl,rfl,rfl⟩:=e0;obtain⟨rfl,rfl,rfl,rfl⟩:=e1;obtain⟨rfl,rfl,rfl,rfl⟩:=e2;obtain⟨rfl,rfl,rfl,rfl⟩:=e3;obtain⟨rfl,rfl,rfl,rfl⟩:=e4;have hv : World.var? Tryz.prog W "errand/service.signatures" = some Bz := by
   rw[hv0,←h1,←h2,←h5,←h6,←h9,←h10,←h13,←h14,←h17,←h18,IB h3.symm,IB h4.symm,IB h7.symm,IB h8.symm,IB h11.symm,IB h12.symm,IB h15.symm,IB h16.symm,IB h19.symm,IB h20.symm]
  unfold World.var? at hv;rw[abW]at hv;simp only[Option.bind_some]at hv;split at hv
  ·rename_i cs tt fr hh;have:cs=Bz:=Option.some.inj hv;subst this;exact⟨tt,fr,hh⟩
  ·cases hv
theorem Kg:laidOutB Tryz.prog=true:=by kernel_rfl
theorem c28:Tryz.prog.cellsOf 26=5:=by kernel_rfl
theorem Jq{k:Int}(hwf:(Lit.int .i64 k).wf=true):In64 k:=by
 unfold In64;simp[Lit.wf]at hwf;have hmin:IntKind.i64.min=-9223372036854775808:=by decide
 rw[hmin]at hwf;exact hwf
theorem abM{H:Type}{enc:TypeId×Value->H}{W:World}{base:Nat}{v:Value}{d:DataW H}{p:List MemPlace}(hv:Value.okWide Tryz.prog W .any base 26 v)(h:DataW.Trod enc Tryz.prog W 0 (fun _=>true) true 26 v d p):∃a b r t tb:Int,v=Uc a b r t tb/\In64 a/\In64 b/\In64 r/\In64 t/\In64 tb:=by
 obtain⟨cs,rfl,hsz⟩:=okWide_struct Tryz.underlying26 hv;rw[c28]at hsz;obtain⟨l⟩:=cs;match l,hsz with
 |[x0,x1,x2,x3,x4],_=>
  obtain⟨fuel,hf⟩:=h;obtain⟨xs,n,_,_,_,hlen,hg⟩:=DataW.trod_struct Tryz.underlying26 hf;have int_at:∀(i:Nat) (x:Value),i<5->DataW.trod enc Tryz.prog W 0 (fun _=>true) true n 3 [x]=xs[i]?->∃k,x=.int .i64 k/\In64 k:=fun i x hi h=>by
   obtain⟨y,hy⟩:∃y,xs[i]?=some y:=⟨_,List.getElem?_eq_getElem (by rw[hlen];exact hi)⟩;rw[hy]at h;obtain⟨k,e,_,hwf⟩:=DataW.trod_int Tryz.underlying3 h;exact⟨k,by simpa using e,Jq hwf⟩
  obtain⟨k0,rfl,w0⟩:=int_at 0 x0 (by omega) (by simpa [Value.cells,c3] using hg 0 _ rfl);obtain⟨k1,rfl,w1⟩:=int_at 1 x1 (by omega) (by simpa [Value.cells,c3] using hg 1 _ rfl);obtain⟨k2,rfl,w2⟩:=int_at 2 x2 (by omega) (by simpa [Value.cells,c3] using hg 2 _ rfl);obtain⟨k3,rfl,w3⟩:=int_at 3 x3 (by omega) (by simpa [Value.cells,c3] using hg 3 _ rfl);obtain⟨k4,rfl,w4⟩:=int_at 4 x4 (by omega) (by simpa [Value.cells,c3] using hg 4 _ rfl);exact⟨k0,k1,k2,k3,k4,rfl,w0,w1,w2,w3,w4⟩
theorem c59:Tryz.prog.cellsOf 53=4:=by kernel_rfl
theorem WW{H:Type}{enc:TypeId×Value->H}{W:World}{v:Value}{d:DataW H}{p:List MemPlace}{a0:Option Addr}{n0 c0:Nat}(hv:v=.slice a0 n0 c0)(h:DataW.Trod enc Tryz.prog W 0 (fun _=>true) true 51 v d p):KN W a0 n0/\n0<=maxLen:=by
 subst hv;obtain⟨fuel,h⟩:=h;simp only[Value.cells]at h;rcases Deep.open_slice Tryz.underlying51 h with ⟨h1,_⟩|⟨a,len,cap,m,n,D,Pl,h1,_,hl,hm,hmm,hx,hc⟩
 ·have:Value.slice a0 n0 c0=.slice none 0 0:=by simpa using h1
  cases this;exact⟨Or.inl rfl,Nat.zero_le _⟩
 ·have hV:Value.slice a0 n0 c0=.slice (some a) len cap:=by simpa using h1
  cases hV;rw[if_pos rfl]at hmm;refine⟨?_,by omega⟩;by_cases h0:n0=0
  ·exact Or.inl h0
  ·right;rw[c59]at hc;have each:∀i,i<m->∃k x y z:Int,(In64 k/\In64 x/\In64 y/\In64 z)/\W.cell? (a.add (i*4))=some (.int .i64 k)/\W.cell? (a.add (i*4+1))=some (.int .i64 x)/\W.cell? (a.add (i*4+2))=some (.int .i64 y)/\W.cell? (a.add (i*4+3))=some (.int .i64 z):=fun i hi=>by
    obtain⟨cs',g1,g2⟩:=hc i hi;obtain⟨_,hlen,hcell⟩:=World.cells?_some g1;obtain⟨xs,q,_,_,_,hxl,hf⟩:=DataW.trod_struct Tryz.underlying53 g2;match xs,hxl,cs',hlen with
    |[y0,y1,y2,y3],_,[v0,v1,v2,v3],_=>
     have f0:DataW.trod enc Tryz.prog W 0 (fun _=>true) true q 3 (([v0,v1,v2,v3].drop 0).take (Tryz.prog.cellsOf 3))=some y0:=hf 0 _ rfl;have f1:DataW.trod enc Tryz.prog W 0 (fun _=>true) true q 3 (([v0,v1,v2,v3].drop 1).take (Tryz.prog.cellsOf 3))=some y1:=hf 1 _ rfl;have f2:DataW.trod enc Tryz.prog W 0 (fun _=>true) true q 3 (([v0,v1,v2,v3].drop 2).take (Tryz.prog.cellsOf 3))=some y2:=hf 2 _ rfl;have f3:DataW.trod enc Tryz.prog W 0 (fun _=>true) true q 3 (([v0,v1,v2,v3].drop 3).take (Tryz.prog.cellsOf 3))=some y3:=hf 3 _ rfl;rw[c3]at f0 f1 f2 f3;obtain⟨k0,e0,_,w0⟩:=DataW.trod_int Tryz.underlying3 f0;obtain⟨k1,e1,_,w1⟩:=DataW.trod_int Tryz.underlying3 f1;obtain⟨k2,e2,_,w2⟩:=DataW.trod_int Tryz.underlying3 f2;obtain⟨k3,e3,_,w3⟩:=DataW.trod_int Tryz.underlying3 f3;simp at e0 e1 e2 e3;subst e0 e1 e2 e3;have z0:=hcell 0 (by omega);have z1:=hcell 1 (by omega);have z2:=hcell 2 (by omega);have z3:=hcell 3 (by omega);rw[Deep.add_add]at z0 z1 z2 z3;exact⟨k0,k1,k2,k3,⟨Jq w0,Jq w1,Jq w2,Jq w3⟩,by simpa using z0,by simpa using z1,by simpa using z2,by simpa using z3⟩
   obtain⟨_,_,_,_,_,c0',_⟩:=each 0 (by omega);have hsp:a.spot=none:=by
    cases hsp:a.spot with
    |none=>rfl
    |some y=>
     simp only[World.cell?,Addr.add]at c0';split at c0'
     ·simp[hsp]at c0'
     ·cases c0'
   obtain⟨b,off,spt⟩:=a;simp only at hsp;subst hsp;have had:∀o,(⟨b,off,none⟩:Addr).add o=⟨b,off+o,none⟩:=fun o=>by simp[Addr.add]
   refine⟨b,off,rfl,fun i hi=>?_⟩;obtain⟨k,x,y,z,e0,e1,e2,e3,e4⟩:=each i (by omega);rw[had]at e1 e2 e3 e4;exact⟨k,x,y,z,e0,e1,e2,e3,e4⟩
theorem OJ(os:Os)(started:os.Started)(H:Type)(enc:TypeId×Value->H):
  ReturnsInHanded {} Tryz.checked os 6 .any (fun w args=>(Rows.calmSpec.pre enc Tryz.prog Tryz.f6 [] false w args/\laidMetH Tryz.prog Rows.calmRow.laid w)/\sizedMet enc Tryz.prog Tryz.f6 (OpenSpec.ofChange Rows.calmSpec) false w args)
   (Rows.calmSpec.post enc Tryz.prog Tryz.f6 false true false false):=by
 refine returnsInHanded_of_change_and (C:=Tryz.checked) (X:=fun w _=>laidMetH Tryz.prog Rows.calmRow.laid w) (fun _ _ _ hh h=>h.of_heap hh) own started (by kernel_rfl) Tryz.func6
  (ChangeSpec.witness_shaped (enc:=enc) (C:=Tryz.checked) (os:=os) (X:=fun w _=>laidMetH Tryz.prog Rows.calmRow.laid w) false (World.doorLaid Tryz.prog 400 os) #[Uc 0 0 0 0 0,.slice none 0 0] 8 rfl (World.shaped_of_RefB (by kernel_rfl) (by kernel_rfl)) (by kernel_rfl) (by kernel_rfl) (by kernel_rfl) (Wj os _)) ?_
 intro W base args ds gs before hval0 hW _ _ hL _;have hval:∀(j:Nat) t v,Tryz.f6.params[j]?=some t->args[j]?=some v->Value.okWide Tryz.prog W .any base t v:=hval0;have hW':=hW;obtain⟨p,q,hA0,hV,rfl,hfz,hnd⟩:=hW;have hA:DataW.TrodAll enc Tryz.prog W 0 (fun _=>true) true Tryz.f6.params.toList args.toList ds p:=hA0;rw[Tryz.params6]at hA hval;obtain⟨v0,v1,d0,d1,p0,p1,rfl,rfl,rfl,h0,h1⟩:=trodAll_two hA;obtain⟨rfl,rfl⟩:=trodVars_none hV;obtain⟨a,b,r,t,tb,rfl,i1,i2,i3,i4,i5⟩:=abM (hval 0 26 v0 rfl rfl) h0;obtain⟨sa,sn,sc,hv1⟩:=okWide_slice Tryz.underlying51 (hval 1 51 v1 rfl rfl);have hmv:=WW hv1 h1;subst hv1;obtain⟨tt,fr,hg⟩:=Zv hL;clear hA0 hval0;simp only[List.append_nil]at hW';have hlt:∀x∈p0,x.block<W.heap.size:=fun x hx=>by simpa using hW'.lt x (by simp[hx])
 have hlt1:∀x∈p1,x.block<W.heap.size:=fun x hx=>by simpa using hW'.lt x (by simp[hx])
 refine(VZ a b r t tb sa sn sc i1 i2 i3 i4 i5 W hmv.1 hmv.2 ⟨tt,fr,hg⟩).mono fun e W' ⟨he,bel⟩=>?_
 subst he;exact⟨_,rfl,[d0,d1],[],_,[],p0++p1,[],hW',trodAll_mk1 (shut_bool Tryz.underlying4 _),trodAll_mk2 (Below.trod Kg (by kernel_rfl) (of_decide_eq_true (by kernel_rfl)) h0 bel hlt) (Below.trod Kg (by kernel_rfl) (of_decide_eq_true (by kernel_rfl)) h1 bel hlt1),rfl,bel.frame _,fun h=>by cases h⟩
theorem V0:Rows.CalmSaid:=
 OpenClaim.holds_of_wide 6 Tryz.f6 rfl rfl rfl rfl rfl rfl rfl ⟨rfl,rfl,rfl,rfl,rfl⟩ rfl rfl rfl rfl rfl (by kernel_rfl) Tryz.func6 (by kernel_rfl)
  (of_decide_eq_true (by kernel_rfl)) (by unfold Func.isWrapper;first|(rw[if_pos (by decide +kernel)];kernel_rfl)|(rw[if_neg (by decide +kernel)];exact⟨rfl,rfl⟩))
  (fun os started H enc _=>OJ os started H enc)
theorem calm_holds:Rows.CalmCardSaid:=
 Claim7.holds_tied_plain_at .later [] [.data] true (true, "9a6d02868193b5666cab5a7656a3f1e1677eef58c447526782d14dddf1ab8fb6") true
  V0 (fun _ h=>by cases h) (by kernel_rfl) (fun _ h=>by cases h) calm_row_tie rfl ⟨rfl,rfl⟩ (by kernel_rfl) rfl
  (fun f fn hf hfn=>by
   obtain rfl : f = 6 := Option.some.inj ((show Tryz.prog.funcNamed "errand/errandkeep.Calm" = some 6 by kernel_rfl).symm.trans hf) |>.symm
   obtain rfl:fn=Tryz.f6:=(Option.some.inj (Tryz.func6.symm.trans hfn)).symm;exact⟨by kernel_rfl,fun j t ht=>by
    rw[Tryz.params6]at ht;have hm:t∈[26,51]:=by simpa using Array.mem_of_getElem? ht
    have hall:([26,51].all fun u=>!Tryz.prog.wantsStandIn u)=true:=by kernel_rfl
    exact(show Tryz.prog.wantsStandIn t=false by simpa using List.all_eq_true.1 hall t hm)⟩)
  (by kernel_rfl)
#print axioms calm_holds
end Go.Proofs.YtblomippkddgiaaGreatDoor
