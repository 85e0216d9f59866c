/-
  Proved: errandlaw.Sends returns true for every script, and leaves it as it was: what the landed program answers, call by call, on any number of worlds, is what the document's answer is, what was handed in stays as it was, and what came out is its owner's. Condition: the table 'signatures' of package service reads as its initialiser lays it (tied by the card to the program's text).
-/
import Derived.Test.YtblomippkddgiaaGreatDoorTie
import Derived.Test.YtblomippkddgiaaGreatDoorCards
import Derived.Test.YtblomippkddgiaaGreatDoorJ50
import Derived.LaidMore
import Derived.Stop.Joined
import Derived.SevenTiedAt
set_option maxRecDepth 100000
namespace Go.Proofs.YtblomippkddgiaaGreatDoor
open Go.ChangeShapes Go.WideShapes Go.ChangeAt Go.WideMaps Go.WideElems Go.RowKit
theorem own:ownKnob Tryz.prog.godebug=Option.none:=by kernel_rfl
theorem Zv : Tryz.prog.globalNamed "errand/service.signatures" = some 0 := by kernel_rfl
theorem aaa:(Tryz.prog.globals[0]?).map (·.type)=some 198:=by kernel_rfl
theorem c31:Tryz.prog.cellsOf 197=4:=by kernel_rfl
theorem c32:Tryz.prog.cellsOf 198=20:=by kernel_rfl
theorem c3:Tryz.prog.cellsOf 3=1:=by kernel_rfl
theorem c9:Tryz.prog.cellsOf 9=1:=by kernel_rfl
theorem TM(os:Os)(args:Array Value):laidMetH Tryz.prog Rows.sendsRow.laid ((World.doorLaid Tryz.prog 400 os).forCall (fun _ _=>0) ⟨#[],args,[]⟩).memory:=
 laidMetH_of_parts3 (fuel:=8) (laidMet_of_run' 8 (by kernel_rfl) (by kernel_rfl)) (by kernel_rfl) (by kernel_rfl)
theorem Gc{s:ByteArray}{l:List UInt8}(h:s.data.toList=l):s=⟨l.toArray⟩:=by
 subst h;rfl
theorem row_of{H:Type}{enc:TypeId×Value->H}{W:World}{base:Nat}{sp:Nat->Bool}{held:Bool}{fuel:Nat}{cs:List Value}{x:DataW H×List MemPlace}(h:DataW.trod enc Tryz.prog W base sp held fuel 197 cs=some x):
  ∃(a b:Int) (s t:ByteArray),cs=[.int .i64 a,.int .i64 b,.string s,.string t]/\x.1=.agg [.lit (.int .i64 a),.lit (.int .i64 b),.lit (.string s.data.toList),.lit (.string t.data.toList)]:=by
 obtain⟨xs,n,_,rfl,hl,hlen,hf⟩:=DataW.trod_struct Tryz.underlying197 h;rw[c31]at hl;match cs,hl,xs,hlen,hf with
 |[v0,v1,v2,v3],_,[x0,x1,x2,x3],_,hf=>
  have f0:DataW.trod enc Tryz.prog W base sp held n 3 (([v0,v1,v2,v3].drop 0).take (Tryz.prog.cellsOf 3))=some x0:=hf 0 _ rfl;have f1:DataW.trod enc Tryz.prog W base sp held n 3 (([v0,v1,v2,v3].drop 1).take (Tryz.prog.cellsOf 3))=some x1:=hf 1 _ rfl;have f2:DataW.trod enc Tryz.prog W base sp held n 9 (([v0,v1,v2,v3].drop 2).take (Tryz.prog.cellsOf 9))=some x2:=hf 2 _ rfl;have f3:DataW.trod enc Tryz.prog W base sp held n 9 (([v0,v1,v2,v3].drop 3).take (Tryz.prog.cellsOf 9))=some x3:=hf 3 _ rfl;rw[c3]at f0 f1;rw[c9]at f2 f3;obtain⟨a,e0,y0,_⟩:=DataW.trod_int Tryz.underlying3 f0;obtain⟨b,e1,y1,_⟩:=DataW.trod_int Tryz.underlying3 f1;obtain⟨s,e2,y2,_⟩:=DataW.trod_string Tryz.underlying9 f2;obtain⟨t,e3,y3,_⟩:=DataW.trod_string Tryz.underlying9 f3;simp at e0 e1 e2 e3 y0 y1 y2 y3;subst e0 e1 e2 e3 y0 y1 y2 y3;exact⟨a,b,s,t,rfl,rfl⟩
theorem WY{W:World}(h:laidMetH Tryz.prog Rows.sendsRow.laid W):∃tt fr,W.heap[0]?=some (.cells Bm tt fr):=by
 rw[MakeChecks.laidMetH_plain _ _ _ (by kernel_rfl)]at h;obtain⟨ps,⟨g0,t0,cs0,f0,p0,q0,hg0,ht0,hv0,hd0,_,_⟩,_,_⟩:=h;obtain rfl:=Option.some.inj (Zv.symm.trans hg0);obtain rfl:=Option.some.inj (aaa.symm.trans ht0);obtain⟨xs,m,_,hx,hlen,hn,hel⟩:=DataW.trod_array Tryz.underlying198 hd0;rw[c32]at hlen;simp only[c31]at hel;obtain⟨l⟩:=cs0;have hx1:=congrArg Prod.fst hx;simp only[Rows.laid_errand_service_signatures]at hx1;match l,hlen,xs,hn,hel,hx1 with
 |[v0,v1,v2,v3,v4,v5,v6,v7,v8,v9,v10,v11,v12,v13,v14,v15,v16,v17,v18,v19],_,[x0,x1,x2,x3,x4],_,hel,hx1=>
  obtain⟨a0,b0,s0,t0,e0,y0⟩:=row_of (show DataW.trod _ Tryz.prog W 0 _ false m 197 [v0,v1,v2,v3]=some x0 from hel 0 (by omega));obtain⟨a1,b1,s1,t1,e1,y1⟩:=row_of (show DataW.trod _ Tryz.prog W 0 _ false m 197 [v4,v5,v6,v7]=some x1 from hel 1 (by omega));obtain⟨a2,b2,s2,t2,e2,y2⟩:=row_of (show DataW.trod _ Tryz.prog W 0 _ false m 197 [v8,v9,v10,v11]=some x2 from hel 2 (by omega));obtain⟨a3,b3,s3,t3,e3,y3⟩:=row_of (show DataW.trod _ Tryz.prog W 0 _ false m 197 [v12,v13,v14,v15]=some x3 from hel 3 (by omega));obtain⟨a4,b4,s4,t4,e4,y4⟩:=row_of (show DataW.trod _ Tryz.prog W 0 _ false m 197 [v16,v17,v18,v19]=some x4 from hel 4 (by omega));simp only[List.map_cons,List.map_nil,y0,y1,y2,y3,y4,DataW.agg.injEq,List.cons.injEq,DataW.lit.injEq,Lit.int.injEq,Lit.string.injEq,and_true,true_and]at hx1;obtain⟨⟨h1,h2,h3,h4⟩,⟨h5,h6,h7,h8⟩,⟨h9,h10,h11,h12⟩,⟨h13,h14,h15,h16⟩,h17,h18,h19,h20⟩:=hx1;simp only[List.cons.injEq,and_true]at e0 e1 e2 e3 e4;obtain⟨rfl,rfl,rfl,rfl⟩:=e0;obtain⟨rfl,rfl,rfl,rfl⟩:=e1;obtain⟨rfl,rfl,rfl,rfl⟩:=e2;obtain⟨rfl,rfl,rfl,rfl⟩:=e3;obtain⟨rfl,rfl,rfl,rfl⟩:=e4;have hv : World.var? Tryz.prog W "errand/service.signatures" = some Bm := by
   rw[hv0,←h1,←h2,←h5,←h6,←h9,←h10,←h13,←h14,←h17,←h18,Gc h3.symm,Gc h4.symm,Gc h7.symm,Gc h8.symm,Gc h11.symm,Gc h12.symm,Gc h15.symm,Gc h16.symm,Gc h19.symm,Gc h20.symm]
  unfold World.var? at hv;rw[Zv]at hv;simp only[Option.bind_some]at hv;split at hv
  ·rename_i cs tt fr hh;have:cs=Bm:=Option.some.inj hv;subst this;exact⟨tt,fr,hh⟩
  ·cases hv
theorem R0:laidOutB Tryz.prog=true:=by kernel_rfl
theorem R9(va:Option Addr)(vn vc:Nat)(w:World)(hV:Script w va vn)(hvn:vn<=800000000000)(ht:Fu w):Calls Tryz.prog 3 #[.slice va vn vc] w fun e w'=>e=.returned (.bool true)/\Below w.heap.size w w':=by
 have HU:=Ab (VC 7 18 (by omega) (by omega) va vn vc w hV hvn ht);clear hV ht;go_enter Tryz.func3,Tryz.ntmps3;go_wp2_with fail
 refine(Aa HU).mono ?_;rintro e w' ⟨rfl,hb⟩;have HB:=Ab hb;clear hb;go_wp2;go_returns;exact⟨rfl,Aa HB⟩
theorem Lm(os:Os)(started:os.Started)(H:Type)(enc:TypeId×Value->H):
  ReturnsInHanded {} Tryz.checked os 3 .any (fun w args=>(Rows.sendsSpec.pre enc Tryz.prog Tryz.f3 [] false w args/\laidMetH Tryz.prog Rows.sendsRow.laid w)/\sizedMet enc Tryz.prog Tryz.f3 (OpenSpec.ofChange Rows.sendsSpec) false w args)
   (Rows.sendsSpec.post enc Tryz.prog Tryz.f3 false true false false):=by
 refine returnsInHanded_of_change_and (C:=Tryz.checked) (X:=fun w _=>laidMetH Tryz.prog Rows.sendsRow.laid w) (fun _ _ _ hh h=>h.of_heap hh) own started (by kernel_rfl) Tryz.func3
  (ChangeSpec.witness_shaped (enc:=enc) (C:=Tryz.checked) (os:=os) (X:=fun w _=>laidMetH Tryz.prog Rows.sendsRow.laid w) false (World.doorLaid Tryz.prog 400 os) #[.slice none 0 0] 8 rfl (World.shaped_of_RefB (by kernel_rfl) (by kernel_rfl)) (by kernel_rfl) (by kernel_rfl) (by kernel_rfl) (TM os _)) ?_
 intro W base args ds gs before hval0 hW _ hsz0 hL _;have hval:∀(j:Nat) t v,Tryz.f3.params[j]?=some t->args[j]?=some v->Value.okWide Tryz.prog W .any base t v:=hval0;have hsz:(DataW.weightsEach Tryz.prog (Tryz.f3.params.toList++Rows.sendsSpec.plain.varTypes Tryz.prog) (ds++gs)).all (·<=reachBytes)=true:=hsz0;have hW':=hW;obtain⟨p,q,hA0,hV,rfl,hfz,hnd⟩:=hW;have hA:DataW.TrodAll enc Tryz.prog W 0 (fun _=>true) true Tryz.f3.params.toList args.toList ds p:=hA0;rw[Tryz.params3]at hA hval hsz;obtain⟨v0,d0,rfl,rfl,h0⟩:=trodAll_one hA;obtain⟨rfl,rfl⟩:=trodVars_none hV;obtain⟨sa,sn,sc,hv0⟩:=okWide_slice Tryz.underlying22 (hval 0 22 v0 rfl rfl);have hw0:(DataW.weights Tryz.prog 22 d0).all (·<=reachBytes)=true:=List.all_eq_true.2 fun z hz=>List.all_eq_true.1 hsz z (DataW.weights_mem_each (j:=0) rfl rfl z hz)
 have hmv:=R6 hv0 h0 hw0;subst hv0;obtain⟨tt,fr,hg⟩:=WY hL;clear hA0 hval0 hsz0;simp only[List.append_nil]at hW';have hlt:∀x∈p,x.block<W.heap.size:=fun x hx=>by simpa using hW'.lt x (by simp[hx])
 refine(R9 sa sn sc W hmv.1 hmv.2 ⟨tt,fr,hg⟩).mono fun e W' ⟨he,Ix⟩=>?_
 subst he;exact⟨_,rfl,[d0],[],_,[],p,[],hW',trodAll_mk1 (shut_bool Tryz.underlying4 _),trodAll_mk1 (Below.trod R0 (by kernel_rfl) (of_decide_eq_true (by kernel_rfl)) h0 Ix hlt),rfl,Ix.frame _,fun h=>by cases h⟩
theorem Sb:Rows.SendsSaid:=
 OpenClaim.holds_of_wide 3 Tryz.f3 rfl rfl rfl rfl rfl rfl rfl ⟨rfl,rfl,rfl,rfl,rfl⟩ rfl rfl rfl rfl rfl (by kernel_rfl) Tryz.func3 (by kernel_rfl)
  (of_decide_eq_true (by kernel_rfl)) (by unfold Func.isWrapper;first|(rw[if_pos (by decide +kernel)];kernel_rfl)|(rw[if_neg (by decide +kernel)];exact⟨rfl,rfl⟩))
  (fun os started H enc _=>Lm os started H enc)
theorem sends_holds:Rows.SendsCardSaid:=
 Claim7.holds_tied_plain_at .later [] [.data] true (true, "9a6d02868193b5666cab5a7656a3f1e1677eef58c447526782d14dddf1ab8fb6") true
  Sb (fun _ h=>by cases h) (by kernel_rfl) (fun _ h=>by cases h) sends_row_tie rfl ⟨rfl,rfl⟩ (by kernel_rfl) rfl
  (fun f fn hf hfn=>by
   obtain rfl : f = 3 := Option.some.inj ((show Tryz.prog.funcNamed "errand/errandlaw.Sends" = some 3 by kernel_rfl).symm.trans hf) |>.symm
   obtain rfl:fn=Tryz.f3:=(Option.some.inj (Tryz.func3.symm.trans hfn)).symm;exact⟨by kernel_rfl,fun j t ht=>by
    rw[Tryz.params3]at ht;have hm:t∈[22]:=by simpa using Array.mem_of_getElem? ht
    have hall:([22].all fun u=>!Tryz.prog.wantsStandIn u)=true:=by kernel_rfl
    exact(show Tryz.prog.wantsStandIn t=false by simpa using List.all_eq_true.1 hall t hm)⟩)
  (by kernel_rfl)
#print axioms sends_holds
end Go.Proofs.YtblomippkddgiaaGreatDoor
