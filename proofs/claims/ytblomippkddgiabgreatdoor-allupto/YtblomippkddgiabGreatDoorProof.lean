/-
  Proved: errandlaw.All returns true for every script, and leaves it as it was, where the script holds at most 1048576 values and letters (the second form): what the landed program answers, call by call (every call: P1 to P19), on any number of worlds, is what the document's answer is, what was handed in stays as it was, and what came out is its owner's. Condition: the table 'signatures' of package service reads as its initialiser lays it (tied by the card to the program's text).
-/
import Derived.Test.YtblomippkddgiabGreatDoorTie
import Derived.Test.YtblomippkddgiabGreatDoorCards
import Derived.Test.YtblomippkddgiabGreatDoorJ18
set_option maxRecDepth 100000
namespace Go.Proofs.YtblomippkddgiabGreatDoor
open Go.Proofs.Tryz ChangeShapes WideShapes ChangeAt WideMaps WideElems RowKit
variable {W:World}
theorem own:ownKnob prog.godebug=Option.none:=EL
theorem aeJ : prog.globalNamed "errand/service.signatures" = some 0 := by kernel_rfl
theorem agp:(prog.globals[0]?).map (·.type)=some 312:=EL
theorem c31:prog.cellsOf 311=4:=EL
theorem c32:prog.cellsOf 312=20:=EL
theorem c3:prog.cellsOf 3=1:=EL
theorem c9:prog.cellsOf 9=1:=EL
theorem Pd{s:Ab}{l:Ac}(h:s.data.toList=l):s=⟨l.toArray⟩:=by
 subst h;rfl
theorem row_of{H:Type}{enc:TypeId×Value->H}{base:Nat}{f:Nat->Bool}{held:Bool}{fuel:Nat}{c:Ae}{x:DataW H×List MemPlace}(h:DataW.trod enc prog W base f held fuel 311 c=some x):
  ∃(a b:Int) (s t:Ab),c=[.int .i64 a,.int .i64 b,.string s,.string t]/\x.1=.agg [.lit (.int .i64 a),.lit (.int .i64 b),.lit (.string s.data.toList),.lit (.string t.data.toList)]:=by
 obtain⟨q,n,_,rfl,hl,e,d⟩:=DataW.trod_struct underlying311 h;rw[c31]at hl;match c,hl,q,e,d with
 |[v0,v1,v2,v3],_,[x0,x1,x2,x3],_,d=>
  have g:DataW.trod enc prog W base f held n 3 (([v0,v1,v2,v3].drop 0).take (prog.cellsOf 3))=some x0:=d 0 _ I;have i:DataW.trod enc prog W base f held n 3 (([v0,v1,v2,v3].drop 1).take (prog.cellsOf 3))=some x1:=d 1 _ I;have j:DataW.trod enc prog W base f held n 9 (([v0,v1,v2,v3].drop 2).take (prog.cellsOf 9))=some x2:=d 2 _ I;have k:DataW.trod enc prog W base f held n 9 (([v0,v1,v2,v3].drop 3).take (prog.cellsOf 9))=some x3:=d 3 _ I;rw[c3]at g i;rw[c9]at j k;have⟨a,e0,l,_⟩:=DataW.trod_int underlying3 g;have⟨b,e1,m,_⟩:=DataW.trod_int underlying3 i;have⟨s,e2,o,_⟩:=DataW.trod_string underlying9 j;have⟨t,e3,p,_⟩:=DataW.trod_string underlying9 k;simp at e0 e1 e2 e3 l m o p;subst e0 e1 e2 e3 l m o p;exact⟨a,b,s,t,I,I⟩
theorem zI(h:laidMetH prog Rows.allUptoRow.laid W):∃z g,W.heap[0]?=some (.cells Ix z g):=by
 rw[MakeChecks.laidMetH_plain _ _ _ (by kernel_rfl)]at h;obtain⟨ps,⟨g0,M,e,f0,p0,q0,w,x,y,v,_,_⟩,_,_⟩:=h;obtain rfl:=Option.some.inj (aeJ.symm.trans w);obtain rfl:=Option.some.inj (agp.symm.trans x);obtain⟨N,m,_,L,c,hn,a⟩:=DataW.trod_array underlying312 v;rw[c32]at c;simp only[c31]at a;obtain⟨l⟩:=e;have b:=congrArg Prod.fst L;simp only[Rows.laid_errand_service_signatures]at b;match l,c,N,hn,a,b with
 |[v0,v1,v2,v3,v4,v5,v6,v7,v8,v9,v10,v11,v12,v13,v14,v15,v16,v17,v18,v19],_,[x0,x1,x2,x3,x4],_,a,b=>
  obtain⟨a0,b0,s0,M,e0,O⟩:=row_of (show DataW.trod _ prog W 0 _ false m 311 [v0,v1,v2,v3]=some x0 from a 0 (by omega));obtain⟨a1,X,s1,t1,e1,P⟩:=row_of (show DataW.trod _ prog W 0 _ false m 311 [v4,v5,v6,v7]=some x1 from a 1 (by omega));obtain⟨a2,b2,s2,t2,e2,Q⟩:=row_of (show DataW.trod _ prog W 0 _ false m 311 [v8,v9,v10,v11]=some x2 from a 2 (by omega));obtain⟨a3,b3,s3,t3,e3,S⟩:=row_of (show DataW.trod _ prog W 0 _ false m 311 [v12,v13,v14,v15]=some x3 from a 3 (by omega));obtain⟨a4,b4,s4,t4,e4,T⟩:=row_of (show DataW.trod _ prog W 0 _ false m 311 [v16,v17,v18,v19]=some x4 from a 4 (by omega));simp only[List.map_cons,List.map_nil,O,P,Q,S,T,DataW.agg.injEq,List.cons.injEq,DataW.lit.injEq,Lit.int.injEq,Lit.string.injEq,and_true,true_and]at b;obtain⟨⟨A,B,C,D⟩,⟨E,F,G,H⟩,⟨J,i,j,k⟩,⟨n,o,p,q⟩,r,s,t,u⟩:=b;simp only[List.cons.injEq,and_true]at e0 e1 e2 e3 e4;obtain⟨rfl,rfl,rfl,rfl⟩:=e0;obtain⟨rfl,rfl,rfl,rfl⟩:=e1;obtain⟨rfl,rfl,rfl,rfl⟩:=e2;obtain⟨rfl,rfl,rfl,rfl⟩:=e3;obtain⟨rfl,rfl,rfl,rfl⟩:=e4;have d : World.var? prog W "errand/service.signatures" = some Ix := by
   rw[y,←A,←B,←E,←F,←J,←i,←n,←o,←r,←s,Pd C.symm,Pd D.symm,Pd G.symm,Pd H.symm,Pd j.symm,Pd k.symm,Pd p.symm,Pd q.symm,Pd t.symm,Pd u.symm]
  unfold World.var? at d;rw[aeJ]at d;simp only[Option.bind_some]at d;split at d
  ·rename_i f z g K;have:f=Ix:=Option.some.inj d;subst this;exact⟨z,g,K⟩
  ·cases d
theorem oB:laidOutB prog=true:=EL
theorem qR{H:Type}(d:DataW H):1<=Rows.uptoBulk d:=by
 cases d with
 |lit l=>cases l<;>simp[Rows.uptoBulk]
 |nil=>simp[Rows.uptoBulk]
 |ptr d=>simp[Rows.uptoBulk]
 |slice elems spare=>simp[Rows.uptoBulk]
 |agg parts=>simp[Rows.uptoBulk]
 |iface t d=>simp[Rows.uptoBulk]
 |map entries=>simp[Rows.uptoBulk]
 |held h=>simp[Rows.uptoBulk]
theorem qQ{H:Type}(l:List (DataW H)):l.length<=Rows.uptoBulkAll l:=by
 induction l with
 |nil=>simp[Rows.uptoBulkAll]
 |cons x r ih=>
  have:=qR x;simp only[Rows.uptoBulkAll,A4];omega
theorem af{H:Type}{enc:TypeId×Value->H}{v:Ad}{d:DataW H}{p:List MemPlace}{a0:Af}{n0 c0:Nat}(f:v=.slice a0 n0 c0)(h:DataW.Trod enc prog W 0 (λ_=>true) true 51 v d p):n0<=Rows.uptoBulk d:=by
 subst f;have⟨fuel,h⟩:=h;simp only[Value.cells]at h;rcases Deep.open_slice underlying51 h with ⟨b,_⟩|⟨a,len,cap,m,n,D,i,b,_,hl,k,c,g,hc⟩
 .have:Value.slice a0 n0 c0=.slice none 0 0:=by simpa using b
  cases this;exact AV _
 .have e:Value.slice a0 n0 c0=.slice (some a) len cap:=by simpa using b
  cases e;have hd:d=.slice ((List.range n0).map D) ((List.range (m-n0)).map λj=>D (n0+j)):=by
   rw[Ay rfl]at c;exact(Prod.mk.inj g).1
  have:=qQ ((List.range n0).map D);rw[AX,List.length_range]at this;rw[hd];simp only[Rows.uptoBulk];omega
theorem ahL(c:Af)(a g:Nat)(w:Aa)(d:bK w c a)(b:a<=400000000000)(f:JI w):D7 5 #[.slice c a g] w (.bool true) λh=>DY w h:=by
 have j:=Dx (xM 1 23 U c a g w d b f);clear d f
 delta D7
 go_in
 go_wp2_with fail
 refine cm j λh e=>?_
 have i:=Dx e;clear e;go_wp2;go_returns;exact⟨I,i⟩
theorem reads{os:Os}{H:Type}(enc:TypeId×Value->H):∃places,DataW.whole enc prog ((World.doorLaid prog 400 os).forCall (λ_ _=>0) ⟨#[],#[.slice none 0 0],[]⟩).memory f5.params.toList Rows.allSpec.vars false #[Value.slice none 0 0].toList 8=some ([.nil],[],places):=⟨[],EL⟩
theorem ahn(os:Os)(a:os.Started)(H:Type)(enc:TypeId×Value->H)(F:Stop.Interp):
  ReturnsInHanded {} checked os 5 .any ((Rows.OpenSpec.upto Rows.allSpec).preRow enc prog f5 Rows.allUptoRow.domain false Rows.allUptoRow.laid) (((Rows.OpenSpec.upto Rows.allSpec).at F).post enc prog f5 false true false false):=by
 obtain⟨places,v⟩:=reads enc;refine returnsInHanded_of_row (C:=checked) (s:=Rows.OpenSpec.upto Rows.allSpec) own a EL func5
  (witness_row_atRef (enc:=enc) (C:=checked) false (World.doorLaid prog 400 os) #[.slice none 0 0] rfl EL EL EL
   (OpenSpec.preRow_of_cond 8 v EL (λk hk=>by cases hk;kernel_rfl) EL ((laidMetH_of_parts3 (fuel:=8) (laidMet_of_run' 8 EL EL) EL EL)))) ?_
 intro W base args ds P m g y _ d l B _ _;have b:=g;have i:=l;have c:=y;obtain⟨p,q,o,D,rfl,G,K⟩:=y;have w:=o;rw[params5]at w b i;obtain⟨O,d0,rfl,rfl,n⟩:=trodAll_one w;obtain⟨rfl,rfl⟩:=trodVars_none D;have⟨L,sn,M,f⟩:=okWide_slice underlying51 (b 0 51 O I I);have t:=oC f n (CL.2 λz hz=>CL.1 i z (DataW.weights_mem_each (j:=0) I I z hz));have E:=af f n;have hk:=Cs (d _ I);have u:sn<=400000000000:=by
  simp only[Cb,Rows.uptoBulkAll]at hk;omega
 subst f;have⟨N,A,J⟩:=zI B;simp only[Cb]at c;have r:∀x∈p,x.block<W.heap.size:=λx v=>by simpa using c.lt x (by simp[v])
 refine(ahL L sn M W t.1 u ⟨N,A,J⟩).mono λe W' ⟨he,bel⟩=>?_
 subst he;exact⟨_,I,[d0],[],_,[],p,[],c,trodAll_mk1 (shut_bool underlying4 _),trodAll_mk1 (Below.trod oB EL (Cs EL) n bel r),I,bel.frame _,λh=>by cases h⟩
theorem ahe:Rows.AllUptoSaid:=
 OpenClaim.holds_of_cond 5 f5 rfl rfl rfl rfl rfl rfl rfl ⟨rfl,rfl,rfl,rfl,rfl⟩ rfl rfl rfl rfl rfl EL func5 EL
  (Cs EL) (by unfold Func.isWrapper;first|(rw[Ay Kx];kernel_rfl)|(rw[Ao Kx];exact⟨rfl,rfl⟩))
  (λos a H b _ F=>by rw[OpenClaim.pre_eq_preRow];exact ahn os a H b F)
theorem allUpto_holds:Rows.AllUptoCardSaid:=
 Claim7.holds_tied_plain_at .later [] _ _ _ _
  ahe (fun _ h=>by cases h) (by kernel_rfl) (fun _ h=>by cases h) allUpto_row_tie rfl ⟨rfl,rfl⟩ (by kernel_rfl) rfl
  (fun f fn d b=>by
   obtain rfl : f = 5 := Option.some.inj ((show prog.funcNamed "errand/errandlaw.All" = some 5 by kernel_rfl).symm.trans d) |>.symm
   obtain rfl:fn=f5:=(Option.some.inj (func5.symm.trans b)).symm;exact⟨by kernel_rfl,fun j t c=>by
    rw[params5]at c;have e:t∈[51]:=by simpa using Array.mem_of_getElem? c
    have a:([51].all fun u=>!prog.wantsStandIn u)=true:=by kernel_rfl
    exact(show prog.wantsStandIn t=false by simpa using List.all_eq_true.1 a t e)⟩)
  (by kernel_rfl)
#print axioms allUpto_holds
end Go.Proofs.YtblomippkddgiabGreatDoor
