/-
  Proved: errandlaw.Answers returns true for every script, and leaves it as it was, where the script holds at most 1048576 values and letters (the second form): what the landed program answers, call by call (New to Entry: P9 to P18), on any number of worlds, is what the document's answer is, what was handed in stays as it was, and what came out is its owner's. Condition: the table 'signatures' of package service reads as its initialiser lays it (tied by the card to the program's text).
-/
import Derived.Test.YtblomippkddgiaaGreatDoorTie
import Derived.Test.YtblomippkddgiaaGreatDoorCards
import Derived.Test.YtblomippkddgiaaGreatDoorJ48
set_option maxRecDepth 100000
namespace Go.Proofs.YtblomippkddgiaaGreatDoor
open Go.Proofs.Tryz
open Go.ChangeShapes Go.WideShapes Go.ChangeAt Go.WideMaps Go.WideElems Go.RowKit
variable {W:World}
theorem own:ownKnob prog.godebug=Option.none:=EL
theorem aeJ : Tryz.prog.globalNamed "errand/service.signatures" = some 0 := by kernel_rfl
theorem agp:(prog.globals[0]?).map (·.type)=some 198:=EL
theorem c31:prog.cellsOf 197=4:=EL
theorem c32:prog.cellsOf 198=20:=EL
theorem c3:prog.cellsOf 3=1:=EL
theorem c9:prog.cellsOf 9=1:=EL
theorem rE{os:Os}{args:Array Value}:laidMetH prog Rows.answersUptoRow.laid ((World.doorLaid prog 400 os).forCall (λ_ _=>0) ⟨#[],args,[]⟩).memory:=
 laidMetH_of_parts3 (fuel:=8) (laidMet_of_run' 8 EL EL) EL EL
theorem Pd{s:Ab}{l:Ac}(h:s.data.toList=l):s=⟨l.toArray⟩:=by
 subst h;rfl
theorem row_of{H:Type}{enc:TypeId×Value->H}{base:Nat}{j:Nat->Bool}{held:Bool}{fuel:Nat}{e:Ae}{x:DataW H×List MemPlace}(h:DataW.trod enc prog W base j held fuel 197 e=some x):
  ∃(a b:Int) (s t:Ab),e=[.int .i64 a,.int .i64 b,.string s,.string t]/\x.1=.agg [.lit (.int .i64 a),.lit (.int .i64 b),.lit (.string s.data.toList),.lit (.string t.data.toList)]:=by
 obtain⟨Q,n,_,rfl,hl,g,f⟩:=DataW.trod_struct underlying197 h;rw[c31]at hl;match e,hl,Q,g,f with
 |[v0,v1,v2,v3],_,[x0,x1,x2,x3],_,f=>
  have m:DataW.trod enc prog W base j held n 3 (([v0,v1,v2,v3].drop 0).take (prog.cellsOf 3))=some x0:=f 0 _ rfl;have u:DataW.trod enc prog W base j held n 3 (([v0,v1,v2,v3].drop 1).take (prog.cellsOf 3))=some x1:=f 1 _ rfl;have w:DataW.trod enc prog W base j held n 9 (([v0,v1,v2,v3].drop 2).take (prog.cellsOf 9))=some x2:=f 2 _ rfl;have y:DataW.trod enc prog W base j held n 9 (([v0,v1,v2,v3].drop 3).take (prog.cellsOf 9))=some x3:=f 3 _ rfl;rw[c3]at m u;rw[c9]at w y;have⟨a,e0,B,_⟩:=DataW.trod_int underlying3 m;have⟨b,e1,D,_⟩:=DataW.trod_int underlying3 u;have⟨s,e2,M,_⟩:=DataW.trod_string underlying9 w;have⟨t,e3,O,_⟩:=DataW.trod_string underlying9 y;simp at e0 e1 e2 e3 B D M O;subst e0 e1 e2 e3 B D M O;exact⟨a,b,s,t,rfl,rfl⟩
theorem zI(h:laidMetH Tryz.prog Rows.answersUptoRow.laid W):∃tt y,W.heap[0]?=some (.cells Ix tt y):=by
 rw[MakeChecks.laidMetH_plain _ _ _ (by kernel_rfl)]at h;obtain⟨ps,⟨g0,t0,u,f0,p0,q0,ah,ak,al,ae,_,_⟩,_,_⟩:=h;obtain rfl:=Option.some.inj (aeJ.symm.trans ah);obtain rfl:=Option.some.inj (agp.symm.trans ak);obtain⟨xs,m,_,hx,g,hn,e⟩:=DataW.trod_array Tryz.underlying198 ae;rw[c32]at g;simp only[c31]at e;obtain⟨l⟩:=u;have f:=congrArg Prod.fst hx;simp only[Rows.laid_errand_service_signatures]at f;match l,g,xs,hn,e,f with
 |[v0,v1,v2,v3,v4,v5,v6,v7,v8,v9,v10,v11,v12,v13,v14,v15,v16,v17,v18,v19],_,[x0,x1,x2,x3,x4],_,e,f=>
  obtain⟨a0,b0,s0,t0,e0,y0⟩:=row_of (show DataW.trod _ Tryz.prog W 0 _ false m 197 [v0,v1,v2,v3]=some x0 from e 0 (by omega));obtain⟨a1,b1,s1,t1,e1,y1⟩:=row_of (show DataW.trod _ Tryz.prog W 0 _ false m 197 [v4,v5,v6,v7]=some x1 from e 1 (by omega));obtain⟨a2,b2,s2,t2,e2,y2⟩:=row_of (show DataW.trod _ Tryz.prog W 0 _ false m 197 [v8,v9,v10,v11]=some x2 from e 2 (by omega));obtain⟨a3,b3,s3,t3,e3,y3⟩:=row_of (show DataW.trod _ Tryz.prog W 0 _ false m 197 [v12,v13,v14,v15]=some x3 from e 3 (by omega));obtain⟨a4,b4,s4,t4,e4,y4⟩:=row_of (show DataW.trod _ Tryz.prog W 0 _ false m 197 [v16,v17,v18,v19]=some x4 from e 4 (by omega));simp only[List.map_cons,List.map_nil,y0,y1,y2,y3,y4,DataW.agg.injEq,List.cons.injEq,DataW.lit.injEq,Lit.int.injEq,Lit.string.injEq,and_true,true_and]at f;obtain⟨⟨h1,h2,h3,h4⟩,⟨h5,h6,h7,h8⟩,⟨h9,B,D,M⟩,⟨O,Q,T,X⟩,aa,ab,ac,ad⟩:=f;simp only[List.cons.injEq,and_true]at e0 e1 e2 e3 e4;obtain⟨rfl,rfl,rfl,rfl⟩:=e0;obtain⟨rfl,rfl,rfl,rfl⟩:=e1;obtain⟨rfl,rfl,rfl,rfl⟩:=e2;obtain⟨rfl,rfl,rfl,rfl⟩:=e3;obtain⟨rfl,rfl,rfl,rfl⟩:=e4;have j : World.var? Tryz.prog W "errand/service.signatures" = some Ix := by
   rw[al,←h1,←h2,←h5,←h6,←h9,←B,←O,←Q,←aa,←ab,Pd h3.symm,Pd h4.symm,Pd h7.symm,Pd h8.symm,Pd D.symm,Pd M.symm,Pd T.symm,Pd X.symm,Pd ac.symm,Pd ad.symm]
  unfold World.var? at j;rw[aeJ]at j;simp only[Option.bind_some]at j;split at j
  ·rename_i w tt y hh;have:w=Ix:=Option.some.inj j;subst this;exact⟨tt,y,hh⟩
  ·cases j
theorem oB:laidOutB prog=true:=EL
theorem qR{H:Type}(d:DataW H):1<=Rows.uptoBulk d:=by
 cases d with
 |lit l=>cases l<;>simp[Rows.uptoBulk]
 |nil=>simp[Rows.uptoBulk]
 |ptr d=>simp[Rows.uptoBulk]
 |slice elems spare=>simp[Rows.uptoBulk]
 |agg parts=>simp[Rows.uptoBulk]
 |iface t d=>simp[Rows.uptoBulk]
 |map entries=>simp[Rows.uptoBulk]
 |held h=>simp[Rows.uptoBulk]
theorem qQ{H:Type}(l:List (DataW H)):l.length<=Rows.uptoBulkAll l:=by
 induction l with
 |nil=>simp[Rows.uptoBulkAll]
 |cons x r ih=>
  have:=qR x;simp only[Rows.uptoBulkAll,A4];omega
theorem af{H:Type}{enc:TypeId×Value->H}{v:Ad}{d:DataW H}{p:List MemPlace}{a0:Af}{n0 c0:Nat}(u:v=.slice a0 n0 c0)(h:DataW.Trod enc prog W 0 (λ_=>true) true 22 v d p):n0<=Rows.uptoBulk d:=by
 subst u;have⟨fuel,h⟩:=h;simp only[Value.cells]at h;rcases Deep.open_slice underlying22 h with ⟨e,_⟩|⟨a,len,cap,m,n,D,y,e,_,hl,B,f,w,hc⟩
 ·have:Value.slice a0 n0 c0=.slice none 0 0:=by simpa using e
  cases this;exact AV _
 ·have g:Value.slice a0 n0 c0=.slice (some a) len cap:=by simpa using e
  cases g;have hd:d=.slice ((List.range n0).map D) ((List.range (m-n0)).map λj=>D (n0+j)):=by
   rw[Ay rfl]at f;exact(Prod.mk.inj w).1
  have:=qQ ((List.range n0).map D);rw[AX,List.length_range]at this;rw[hd];simp only[Rows.uptoBulk];omega
theorem Yk{g:Af}{e u:Nat}{w:Aa}(h:bK w g e)(f:e<=400000000000)(m:JI w):D7 5 #[.slice g e u] w (.bool true) λy=>DY w y:=by
 have D:=Dx (xM 7 22 U U g e u w h f m);clear h m;go_enter func5,ntmps5;go_wp2_with fail
 refine cm D λy j=>?_
 have B:=Dx j;clear j;go_wp2;go_returns;exact⟨rfl,B⟩
theorem reads{os:Os}{H:Type}(enc:TypeId×Value->H):∃places,DataW.whole enc prog ((World.doorLaid prog 400 os).forCall (λ_ _=>0) ⟨#[],#[.slice none 0 0],[]⟩).memory Tryz.f5.params.toList Rows.answersSpec.vars false #[Value.slice none 0 0].toList 8=some ([.nil],[],places):=⟨[],EL⟩
theorem Tq{os:Os}(f:os.Started)(H:Type)(enc:TypeId×Value->H)(F:Stop.Interp):
  ReturnsInHanded {} Tryz.checked os 5 .any ((Rows.OpenSpec.upto Rows.answersSpec).preRow enc prog Tryz.f5 Rows.answersUptoRow.domain false Rows.answersUptoRow.laid) (((Rows.OpenSpec.upto Rows.answersSpec).at F).post enc prog Tryz.f5 false true false false):=by
 obtain⟨places,hx⟩:=reads enc;refine returnsInHanded_of_row (C:=Tryz.checked) (s:=Rows.OpenSpec.upto Rows.answersSpec) own f EL func5
  (witness_row_atRef (enc:=enc) (C:=Tryz.checked) false (World.doorLaid prog 400 os) #[.slice none 0 0] rfl EL EL EL
   (OpenSpec.preRow_of_cond 8 hx EL (λk hk=>by cases hk;kernel_rfl) EL (rE))) ?_
 intro W base args ds gs M y hW _ u D hL _ _;have g:=y;have B:=D;have m:=hW;obtain⟨p,q,Q,hV,rfl,al,an⟩:=hW;have hA:=Q;rw[Tryz.params5]at hA g B;obtain⟨v0,d0,rfl,rfl,O⟩:=trodAll_one hA;obtain⟨rfl,rfl⟩:=trodVars_none hV;have⟨sa,sn,sc,w⟩:=okWide_slice underlying22 (g 0 22 v0 rfl rfl);have ab:=CL.2 λz hz=>CL.1 B z (DataW.weights_mem_each (j:=0) rfl rfl z hz)
 have X:=oC w O ab;have ak:=af w O;have hk:=Cs (u _ rfl);have aa:sn<=400000000000:=by
  simp only[Cb,Rows.uptoBulkAll]at hk;omega
 subst w;have⟨tt,fr,hg⟩:=zI hL;simp only[Cb]at m;have T:∀x∈p,x.block<W.heap.size:=λx hx=>by simpa using m.lt x (by simp[hx])
 refine(Yk X.1 aa ⟨tt,fr,hg⟩).mono λe W' ⟨he,U9⟩=>?_
 subst he;exact⟨_,rfl,[d0],[],_,[],p,[],m,trodAll_mk1 (shut_bool underlying4 _),trodAll_mk1 (Below.trod oB EL (Cs EL) O U9 T),rfl,U9.frame _,λh=>by cases h⟩
theorem Se:Rows.AnswersUptoSaid:=
 OpenClaim.holds_of_cond 5 Tryz.f5 rfl rfl rfl rfl rfl rfl rfl ⟨rfl,rfl,rfl,rfl,rfl⟩ rfl rfl rfl rfl rfl EL func5 EL
  (Cs EL) (by unfold Func.isWrapper;first|(rw[Ay Kx];kernel_rfl)|(rw[Ao Kx];exact⟨rfl,rfl⟩))
  (λos e H f _ F=>by rw[OpenClaim.pre_eq_preRow];exact Tq e H f F)
theorem answersUpto_holds:Rows.AnswersUptoCardSaid:=
 Claim7.holds_tied_plain_at .later [] _ _ _ _
  Se (fun _ h=>by cases h) (by kernel_rfl) (fun _ h=>by cases h) answersUpto_row_tie rfl ⟨rfl,rfl⟩ (by kernel_rfl) rfl
  (fun f fn w g=>by
   obtain rfl : f = 5 := Option.some.inj ((show Tryz.prog.funcNamed "errand/errandlaw.Answers" = some 5 by kernel_rfl).symm.trans w) |>.symm
   obtain rfl:fn=Tryz.f5:=(Option.some.inj (Tryz.func5.symm.trans g)).symm;exact⟨by kernel_rfl,fun j t m=>by
    rw[Tryz.params5]at m;have y:t∈[22]:=by simpa using Array.mem_of_getElem? m
    have e:([22].all fun u=>!Tryz.prog.wantsStandIn u)=true:=by kernel_rfl
    exact(show Tryz.prog.wantsStandIn t=false by simpa using List.all_eq_true.1 e t y)⟩)
  (by kernel_rfl)
#print axioms answersUpto_holds
end Go.Proofs.YtblomippkddgiaaGreatDoor
