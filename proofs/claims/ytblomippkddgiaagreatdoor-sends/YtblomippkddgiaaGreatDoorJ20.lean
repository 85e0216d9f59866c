import Derived.Test.YtblomippkddgiaaGreatDoorJ18
import Derived.Conc.LoneSelect
import Derived.KernelRfl
import Derived.Handy
import Derived.WalkMore
import Derived.ScopeJumps
set_option maxRecDepth 100000
set_option maxHeartbeats 1000000
namespace Go.Proofs.YtblomippkddgiaaGreatDoor.R
theorem YS(Ax:Int):VR Ax Ef:=⟨fun _=>rfl,by simp[Ef],by simp[Ef],by simp[Ef],by simp[Ef],by simp[Ef],by simp[Ef]⟩
theorem ws0(c:Cf)(h:Cj c):Ni c [0,0,0] (List.replicate 9 Ef) []:=by
 refine⟨rfl,by simp,by simp,fun i r hr=>?_,?_,by simp⟩
 ·rw[List.getElem?_replicate]at hr;split at hr
  ·cases hr;exact YS _
  ·cases hr
 ·unfold Cj at h;simp;omega
structure At(G:Wd)(i k:Nat)(c:Cl)(l:Ln):Prop where
 cl:G.Ad[i]?=some c
 ln:c.lines[k]?=some l
theorem Js(G:Wd)(to:Int)(p:Pk):(BM G to p).seen=G.seen:=by unfold BM;split<;>rfl
theorem Ij(G:Wd)(to:Int)(p:Pk):(BM G to p).Ao=G.Ao:=by unfold BM;split<;>rfl
theorem Vh(G:Wd)(to:Int)(p:Pk):(BM G to p).c=G.c:=by unfold BM;split<;>rfl
def ZH(G:Wd)(l:Ln)(d:Cd):Ln:=⟨l.seq+1,1,[],d.uid,d.to,d.msg,0,[],0,G.c.Al,G.c.tries⟩
inductive XV (G:Wd) (client line uid proc:Int) (arg:List It) (r:(Int×Int)×Wd):Prop
 |no (n:Int) (hn:n≠0) (h:r=((0,n),G))
 |yes (i k:Nat) (c:Cl) (l:Ln) (d:Cd) (hi:client=i) (hk:line=k) (hat:At G i k c l) (h1:l.state≠1) (hs:l.seq≠999) (hb:uid∈c.bound) (hu:d.uid=uid) (hp:d.proc=proc) (ha:d.arg=arg) (hd:ZV G.Ac d) (h:r=((l.seq+1,0),A9 (Ar G i k (ZH G l d)) i k false))
theorem V5{G:Wd}(h:Wf G)(client line uid proc:Int)(arg:List It):XV G client line uid proc arg (Bf G client line uid proc arg):=by
 generalize hr:Bf G client line uid proc arg=r;unfold Bf at hr;split at hr
 ·exact .no 13 (by decide) hr.symm
 ·rename_i h1;split at hr
  ·exact .no 14 (by decide) hr.symm
  ·rename_i h2;split at hr
   ·exact .no 15 (by decide) hr.symm
   ·rename_i h3;split at hr
    ·exact .no 16 (by decide) hr.symm
    ·rename_i from' to h4;split at hr
     ·exact .no 4 (by decide) hr.symm
     ·rename_i bs h5;simp only at hr;obtain⟨i,rfl⟩:∃i:Nat,client=(i:Int):=⟨client.toNat,by omega⟩;obtain⟨k,rfl⟩:∃k:Nat,line=(k:Int):=⟨line.toNat,by omega⟩;have hi:i<G.Ad.length:=by omega
      have hc:=List.getElem?_eq_getElem hi;have hcl:=(h.cl i _ hc).lines;have hk:k<G.Ad[i].lines.length:=by omega
      have hl:=List.getElem?_eq_getElem hk;rw[Bc hc hl]at hr;split at hr
      ·exact .no 17 (by decide) hr.symm
      ·rename_i h6;split at hr
       ·exact .no 11 (by decide) hr.symm
       ·rename_i h7;rw[Int.toNat_natCast,hc]at h3;simp only[Option.map_some,Option.getD_some,Decidable.not_not]at h3;have hb:=(h.cl i _ hc).bound uid h3;exact .yes i k G.Ad[i] G.Ad[i].lines[k] ⟨uid,proc,arg,from',to,bs⟩ rfl rfl ⟨hc,hl⟩ h6 h7 h3 rfl rfl rfl ⟨hb,h4,h5⟩ hr.symm
theorem Ex{G:Wd}{i:Nat}{r:Sn}(h:G.seen[i]?=some r):D7 G i=r:=by simp[D7,h]
structure Te(a b:List Ln):Prop where
 len:b.length=a.length
 each:∀(k:Nat) (l':Ln),b[k]?=some l'->∃l,a[k]?=some l/\l'.seq=l.seq
structure VO(a b:List Cl):Prop where
 len:b.length=a.length
 each:∀(i:Nat) (c':Cl),b[i]?=some c'->∃c,a[i]?=some c/\c'.Ax=c.Ax/\c'.bound=c.bound/\Te c.lines c'.lines
structure Tk(a b:List Sv):Prop where
 len:b.length=a.length
 each:∀(u:Nat) (s':Sv),b[u]?=some s'->∃s,a[u]?=some s/\s'.kind=s.kind/\(s.alive=false->s'.alive=false/\s'.log=s.log)/\∃t,s'.log=s.log++t
structure Sm(G G':Wd):Prop where
 c:G'.c=G.c
 names:G'.names=G.names
 stands:G'.stands=G.stands
 sv:Tk G.Ac G'.Ac
 cl:VO G.Ad G'.Ad
theorem Te.refl(a:List Ln):Te a a:=⟨rfl,fun _ l h=>⟨l,h,rfl⟩⟩
theorem VO.refl(a:List Cl):VO a a:=⟨rfl,fun _ c h=>⟨c,h,rfl,rfl,Te.refl _⟩⟩
theorem Tk.refl(a:List Sv):Tk a a:=⟨rfl,fun _ s h=>⟨s,h,rfl,fun q=>⟨q,rfl⟩,[],by simp⟩⟩
theorem Sm.refl(G:Wd):Sm G G:=⟨rfl,rfl,rfl,Tk.refl _,VO.refl _⟩
theorem Te.trans{a b c:List Ln}(h:Te a b)(k:Te b c):Te a c:=⟨k.len.trans h.len,fun i l hl=>by
 obtain⟨l1,h1,h2⟩:=k.each i l hl;obtain⟨l2,h3,h4⟩:=h.each i l1 h1;exact⟨l2,h3,h2.trans h4⟩⟩
theorem VO.trans{a b c:List Cl}(h:VO a b)(k:VO b c):VO a c:=⟨k.len.trans h.len,fun i l hl=>by
 obtain⟨l1,h1,h2,h3,h4⟩:=k.each i l hl;obtain⟨l2,g1,g2,g3,g4⟩:=h.each i l1 h1;exact⟨l2,g1,h2.trans g2,h3.trans g3,g4.trans h4⟩⟩
theorem Tk.trans{a b c:List Sv}(h:Tk a b)(k:Tk b c):Tk a c:=⟨k.len.trans h.len,fun i l hl=>by
 obtain⟨l1,h1,h2,h3,t1,h4⟩:=k.each i l hl;obtain⟨l2,g1,g2,g3,t2,g4⟩:=h.each i l1 h1;refine⟨l2,g1,h2.trans g2,fun q=>?_,t2++t1,by rw[h4,g4,List.append_assoc]⟩;obtain⟨p1,p2⟩:=g3 q;obtain⟨p3,p4⟩:=h3 p1;exact⟨p3,p4.trans p2⟩⟩
theorem Sm.trans{a b c:Wd}(h:Sm a b)(k:Sm b c):Sm a c:=⟨k.c.trans h.c,k.names.trans h.names,k.stands.trans h.stands,h.sv.trans k.sv,h.cl.trans k.cl⟩
theorem Sm.send(G:Wd)(to:Int)(p:Pk):Sm G (BM G to p):=by
 unfold BM;split
 ·exact⟨rfl,rfl,rfl,Tk.refl _,VO.refl _⟩
 ·exact Sm.refl G
theorem Te.set{a:List Ln}{k:Nat}{l':Ln}(h:∀l,a[k]?=some l->l'.seq=l.seq):Te a (a.set k l'):=by
 refine⟨by simp,fun j l hl=>?_⟩;rw[List.getElem?_set]at hl;split at hl
 ·rename_i e;subst e;split at hl
  ·rename_i hk;cases hl;exact⟨_,List.getElem?_eq_getElem hk,h _ (List.getElem?_eq_getElem hk)⟩
  ·cases hl
 ·exact⟨l,hl,rfl⟩
theorem Uk{G:Wd}{i k:Int}{c:Cl}{l:Ln}(hc:G.Ad[i.toNat]?=some c)(hl:c.lines[k.toNat]?=some l):Da G i k=l:=by
 unfold Da;rw[hc];simp[hl]
theorem Sm.line{G:Wd}{i k:Int}{l':Ln}(h:l'.seq=(Da G i k).seq):Sm G (Ar G i k l'):=by
 refine⟨rfl,rfl,rfl,Tk.refl _,⟨by simp[Ar],fun j c' hj=>?_⟩⟩;unfold Ar at hj;simp only[List.getElem?_modify]at hj;cases hc:G.Ad[j]? with
 |none=>rw[hc]at hj;simp at hj
 |some c=>
  rw[hc]at hj;simp at hj;split at hj
  ·rename_i e;subst e;cases hj;exact⟨c,rfl,rfl,rfl,Te.set (fun l hl=>by rw[h,Uk hc hl])⟩
  ·cases hj;exact⟨_,rfl,rfl,rfl,Te.refl _⟩
theorem Sm.seen(G:Wd)(i:Nat)(r:Sn):Sm G (CU G i r):=⟨rfl,rfl,rfl,Tk.refl _,VO.refl _⟩
theorem Sm.piece(G:Wd)(i k:Int)(b:Bool):Sm G (A9 G i k b):=Sm.send _ _ _
theorem Sm.XP(G:Wd)(i k:Int):Sm G (Fg G i k):=Sm.send _ _ _
theorem Sm.AB(G:Wd)(i k:Int):Sm G (AB G i k):=by
 unfold R.AB;simp only;split
 ·exact Sm.refl G
 ·split
  ·exact Sm.line rfl
  ·split
   ·exact Sm.line rfl
   ·split
    ·exact(Sm.line (G:=G) (i:=i) (k:=k) (l':={Da G i k with wait:=G.c.Al,tries:=(Da G i k).tries-1}) rfl).trans (Sm.piece _ _ _ _)
    ·exact(Sm.line (G:=G) (i:=i) (k:=k) (l':={Da G i k with wait:=G.c.Al,tries:=(Da G i k).tries-1}) rfl).trans (Sm.XP _ _ _)
theorem Sm.fold{α:Type}(f:Wd->α->Wd)(hf:∀G a,Sm G (f G a)):∀(l:List α) (G:Wd),Sm G (l.foldl f G)
 |[],G=>Sm.refl G
 |a :: l,G=>(hf G a).trans (Sm.fold f hf l (f G a))
theorem Sm.O7(G:Wd)(i:Nat):Sm G (BJ G i):=Sm.send _ _ _
theorem Sm.Ay(G:Wd)(i:Nat):Sm G (Ay G i):=by
 unfold R.Ay;simp only;split
 ·exact Sm.refl G
 ·split
  ·exact Sm.seen _ _ _
  ·split
   ·exact Sm.seen _ _ _
   ·exact(Sm.seen G i _).trans (Sm.O7 _ _)
theorem Sm.tick(G:Wd):Sm G (FK G):=by
 unfold FK Eo;refine Sm.trans (Sm.fold _ (fun G a=>?_) _ _) (Sm.fold _ (fun G a=>Sm.Ay G a) _ _);exact Sm.fold _ (fun G b=>Sm.AB G _ _) _ _
end Go.Proofs.YtblomippkddgiaaGreatDoor.R
namespace Go.Proofs.YtblomippkddgiaaGreatDoor
open Go.RowKit
abbrev Bm:Array Value:=#[.int .i64 0,.int .i64 0,.string {data:=#[105]},.string {data:=#[99]},.int .i64 0,.int .i64 1,.string {data:=#[98]},.string {data:=#[99]},.int .i64 1,.int .i64 0,.string {data:=#[115]},.string {data:=#[99]},.int .i64 1,.int .i64 1,.string {data:=#[99]},.string {data:=#[113,52,115]},.int .i64 2,.int .i64 0,.string {data:=#[114,40,101,51,113,51,105,41]},.string {data:=#[117,40,98,113,51,105,41]}]
theorem i0(w:World):(Instr.index 198 (.agg Bm) (.int .i64 0)).run Tryz.prog w=.ok (.agg #[.int .i64 0,.int .i64 0,.string {data:=#[105]},.string {data:=#[99]}]) w:=by kernel_rfl
theorem i1(w:World):(Instr.index 198 (.agg Bm) (.int .i64 1)).run Tryz.prog w=.ok (.agg #[.int .i64 0,.int .i64 1,.string {data:=#[98]},.string {data:=#[99]}]) w:=by kernel_rfl
theorem i2(w:World):(Instr.index 198 (.agg Bm) (.int .i64 2)).run Tryz.prog w=.ok (.agg #[.int .i64 1,.int .i64 0,.string {data:=#[115]},.string {data:=#[99]}]) w:=by kernel_rfl
theorem i3(w:World):(Instr.index 198 (.agg Bm) (.int .i64 3)).run Tryz.prog w=.ok (.agg #[.int .i64 1,.int .i64 1,.string {data:=#[99]},.string {data:=#[113,52,115]}]) w:=by kernel_rfl
theorem i4(w:World):(Instr.index 198 (.agg Bm) (.int .i64 4)).run Tryz.prog w=.ok (.agg #[.int .i64 2,.int .i64 0,.string {data:=#[114,40,101,51,113,51,105,41]},.string {data:=#[117,40,98,113,51,105,41]}]) w:=by kernel_rfl
theorem Bz(k:Int)(w:World):
  Calls Tryz.prog 124 #[.int .i64 k] w fun e w'=>e=.returned (.bool (k==0 || k==1 || k==2))/\w'=w:=by
 by_cases h0:k=0
 ·subst h0;go_enter Tryz.func124,Tryz.ntmps124;go_wp2
  go_ret
  exact⟨rfl,rfl⟩
 by_cases h1:k=1
 ·subst h1;go_enter Tryz.func124,Tryz.ntmps124;go_wp2
  go_ret
  exact⟨rfl,rfl⟩
 by_cases h2:k=2
 ·subst h2;go_enter Tryz.func124,Tryz.ntmps124;go_wp2
  go_ret
  exact⟨rfl,rfl⟩
 have e0:(k==0)=false:=by simpa using h0
 have e1:(k==1)=false:=by simpa using h1
 have e2:(k==2)=false:=by simpa using h2
 go_enter Tryz.func124,Tryz.ntmps124;go_wp2
 go_ret
 exact⟨by rw[e0,e1,e2];rfl,rfl⟩
theorem Q7(k:Int)(w:World)(h:k<0\/2<k):
  Calls Tryz.prog 124 #[.int .i64 k] w fun e w'=>e=.returned (.bool false)/\w'=w:=by
 refine(Bz k w).mono ?_;rintro e w' ⟨rfl,rfl⟩;have e0:(k==0)=false:=by simp;omega
 have e1:(k==1)=false:=by simp;omega
 have e2:(k==2)=false:=by simp;omega
 rw[e0,e1,e2];exact⟨rfl,rfl⟩
theorem YJ(w:World)(tt:TypeId)(fr:Nat×Nat)(hg:w.heap[0]?=some (.cells Bm tt fr)):
  Calls Tryz.prog 75 #[.int .i64 0,.int .i64 0] w fun e w'=>e=.returned (.tuple #[.string {data:=#[105]},.string {data:=#[99]},.int .i64 0])/\Below w.heap.size w w':=by
 have j0:=i0;have j1:=i1;have j2:=i2;have j3:=i3;have j4:=i4;go_enter Tryz.func75,Tryz.ntmps75;go_wp2_with (first|(go_at_call 124;refine(Bz _ _).mono ?_;rintro e w' ⟨rfl,rfl⟩)|(refine wpList_load_row rfl 198 _ rfl 0 rfl tt _ fr _ hg Tryz.underlying198 rfl (by kernel_rfl) ?_))
 refine wp_loop_rounds 1 ?_;rw[rounds_succ];go_wp2
 go_region
 go_wp2
 go_ret3
 refine⟨rfl,?_⟩;repeat (first|exact Below.refl _ _|refine Below.drew ?_|refine Below.alloc ?_ (by simp;try omega) _)
theorem YK(w:World)(tt:TypeId)(fr:Nat×Nat)(hg:w.heap[0]?=some (.cells Bm tt fr)):
  Calls Tryz.prog 75 #[.int .i64 0,.int .i64 1] w fun e w'=>e=.returned (.tuple #[.string {data:=#[98]},.string {data:=#[99]},.int .i64 0])/\Below w.heap.size w w':=by
 have j0:=i0;have j1:=i1;have j2:=i2;have j3:=i3;have j4:=i4;go_enter Tryz.func75,Tryz.ntmps75;go_wp2_with (first|(go_at_call 124;refine(Bz _ _).mono ?_;rintro e w' ⟨rfl,rfl⟩)|(refine wpList_load_row rfl 198 _ rfl 0 rfl tt _ fr _ hg Tryz.underlying198 rfl (by kernel_rfl) ?_))
 refine wp_loop_rounds 2 ?_;rw[rounds_succ];go_wp2;rw[rounds_succ];go_wp2
 go_region
 go_wp2
 go_ret3
 refine⟨rfl,?_⟩;repeat (first|exact Below.refl _ _|refine Below.drew ?_|refine Below.alloc ?_ (by simp;try omega) _)
theorem YM(w:World)(tt:TypeId)(fr:Nat×Nat)(hg:w.heap[0]?=some (.cells Bm tt fr)):
  Calls Tryz.prog 75 #[.int .i64 1,.int .i64 0] w fun e w'=>e=.returned (.tuple #[.string {data:=#[115]},.string {data:=#[99]},.int .i64 0])/\Below w.heap.size w w':=by
 have j0:=i0;have j1:=i1;have j2:=i2;have j3:=i3;have j4:=i4;go_enter Tryz.func75,Tryz.ntmps75;go_wp2_with (first|(go_at_call 124;refine(Bz _ _).mono ?_;rintro e w' ⟨rfl,rfl⟩)|(refine wpList_load_row rfl 198 _ rfl 0 rfl tt _ fr _ hg Tryz.underlying198 rfl (by kernel_rfl) ?_))
 refine wp_loop_rounds 3 ?_;rw[rounds_succ];go_wp2;rw[rounds_succ];go_wp2;rw[rounds_succ];go_wp2
 go_region
 go_wp2
 go_ret3
 refine⟨rfl,?_⟩;repeat (first|exact Below.refl _ _|refine Below.drew ?_|refine Below.alloc ?_ (by simp;try omega) _)
theorem YN(w:World)(tt:TypeId)(fr:Nat×Nat)(hg:w.heap[0]?=some (.cells Bm tt fr)):
  Calls Tryz.prog 75 #[.int .i64 1,.int .i64 1] w fun e w'=>e=.returned (.tuple #[.string {data:=#[99]},.string {data:=#[113,52,115]},.int .i64 0])/\Below w.heap.size w w':=by
 have j0:=i0;have j1:=i1;have j2:=i2;have j3:=i3;have j4:=i4;go_enter Tryz.func75,Tryz.ntmps75;go_wp2_with (first|(go_at_call 124;refine(Bz _ _).mono ?_;rintro e w' ⟨rfl,rfl⟩)|(refine wpList_load_row rfl 198 _ rfl 0 rfl tt _ fr _ hg Tryz.underlying198 rfl (by kernel_rfl) ?_))
 refine wp_loop_rounds 4 ?_;rw[rounds_succ];go_wp2;rw[rounds_succ];go_wp2;rw[rounds_succ];go_wp2;rw[rounds_succ];go_wp2
 go_region
 go_wp2
 go_ret3
 refine⟨rfl,?_⟩;repeat (first|exact Below.refl _ _|refine Below.drew ?_|refine Below.alloc ?_ (by simp;try omega) _)
theorem YP(w:World)(tt:TypeId)(fr:Nat×Nat)(hg:w.heap[0]?=some (.cells Bm tt fr)):
  Calls Tryz.prog 75 #[.int .i64 2,.int .i64 0] w fun e w'=>e=.returned (.tuple #[.string {data:=#[114,40,101,51,113,51,105,41]},.string {data:=#[117,40,98,113,51,105,41]},.int .i64 0])/\Below w.heap.size w w':=by
 have j0:=i0;have j1:=i1;have j2:=i2;have j3:=i3;have j4:=i4;go_enter Tryz.func75,Tryz.ntmps75;go_wp2_with (first|(go_at_call 124;refine(Bz _ _).mono ?_;rintro e w' ⟨rfl,rfl⟩)|(refine wpList_load_row rfl 198 _ rfl 0 rfl tt _ fr _ hg Tryz.underlying198 rfl (by kernel_rfl) ?_))
 refine wp_loop_rounds 5 ?_;rw[rounds_succ];go_wp2;rw[rounds_succ];go_wp2;rw[rounds_succ];go_wp2;rw[rounds_succ];go_wp2;rw[rounds_succ];go_wp2
 go_region
 go_wp2
 go_ret3
 refine⟨rfl,?_⟩;repeat (first|exact Below.refl _ _|refine Below.drew ?_|refine Below.alloc ?_ (by simp;try omega) _)
theorem YL(p:Int)(h0:¬p=0)(h1:¬p=1)(w:World)(tt:TypeId)(fr:Nat×Nat)(hg:w.heap[0]?=some (.cells Bm tt fr)):
  Calls Tryz.prog 75 #[.int .i64 0,.int .i64 p] w fun e w'=>e=.returned (.tuple #[.string {data:=#[]},.string {data:=#[]},.int .i64 16])/\Below w.heap.size w w':=by
 have e0:((0:Int)==p)=false:=by simp;omega
 have e1:((1:Int)==p)=false:=by simp;omega
 have j0:=i0;have j1:=i1;have j2:=i2;have j3:=i3;have j4:=i4;go_enter Tryz.func75,Tryz.ntmps75;go_wp2_with (first|(go_at_call 124;refine(Bz _ _).mono ?_;rintro e w' ⟨rfl,rfl⟩)|(refine wpList_load_row rfl 198 _ rfl 0 rfl tt _ fr _ hg Tryz.underlying198 rfl (by kernel_rfl) ?_))
 refine wp_loop_rounds 6 ?_;rw[rounds_succ];go_wp2;rw[rounds_succ];go_wp2;rw[rounds_succ];go_wp2;rw[rounds_succ];go_wp2;rw[rounds_succ];go_wp2;rw[rounds_succ];go_wp2
 go_ret3
 refine⟨rfl,?_⟩;repeat (first|exact Below.refl _ _|refine Below.drew ?_|refine Below.alloc ?_ (by simp;try omega) _)
theorem YO(p:Int)(h0:¬p=0)(h1:¬p=1)(w:World)(tt:TypeId)(fr:Nat×Nat)(hg:w.heap[0]?=some (.cells Bm tt fr)):
  Calls Tryz.prog 75 #[.int .i64 1,.int .i64 p] w fun e w'=>e=.returned (.tuple #[.string {data:=#[]},.string {data:=#[]},.int .i64 16])/\Below w.heap.size w w':=by
 have e0:((0:Int)==p)=false:=by simp;omega
 have e1:((1:Int)==p)=false:=by simp;omega
 have j0:=i0;have j1:=i1;have j2:=i2;have j3:=i3;have j4:=i4;go_enter Tryz.func75,Tryz.ntmps75;go_wp2_with (first|(go_at_call 124;refine(Bz _ _).mono ?_;rintro e w' ⟨rfl,rfl⟩)|(refine wpList_load_row rfl 198 _ rfl 0 rfl tt _ fr _ hg Tryz.underlying198 rfl (by kernel_rfl) ?_))
 refine wp_loop_rounds 6 ?_;rw[rounds_succ];go_wp2;rw[rounds_succ];go_wp2;rw[rounds_succ];go_wp2;rw[rounds_succ];go_wp2;rw[rounds_succ];go_wp2;rw[rounds_succ];go_wp2
 go_ret3
 refine⟨rfl,?_⟩;repeat (first|exact Below.refl _ _|refine Below.drew ?_|refine Below.alloc ?_ (by simp;try omega) _)
theorem YQ(p:Int)(h0:¬p=0)(w:World)(tt:TypeId)(fr:Nat×Nat)(hg:w.heap[0]?=some (.cells Bm tt fr)):
  Calls Tryz.prog 75 #[.int .i64 2,.int .i64 p] w fun e w'=>e=.returned (.tuple #[.string {data:=#[]},.string {data:=#[]},.int .i64 16])/\Below w.heap.size w w':=by
 have e0:((0:Int)==p)=false:=by simp;omega
 have j0:=i0;have j1:=i1;have j2:=i2;have j3:=i3;have j4:=i4;go_enter Tryz.func75,Tryz.ntmps75;go_wp2_with (first|(go_at_call 124;refine(Bz _ _).mono ?_;rintro e w' ⟨rfl,rfl⟩)|(refine wpList_load_row rfl 198 _ rfl 0 rfl tt _ fr _ hg Tryz.underlying198 rfl (by kernel_rfl) ?_))
 refine wp_loop_rounds 6 ?_;rw[rounds_succ];go_wp2;rw[rounds_succ];go_wp2;rw[rounds_succ];go_wp2;rw[rounds_succ];go_wp2;rw[rounds_succ];go_wp2;rw[rounds_succ];go_wp2
 go_ret3
 refine⟨rfl,?_⟩;repeat (first|exact Below.refl _ _|refine Below.drew ?_|refine Below.alloc ?_ (by simp;try omega) _)
theorem YR(k p:Int)(w:World)(h:k<0\/2<k):
  Calls Tryz.prog 75 #[.int .i64 k,.int .i64 p] w fun e w'=>e=.returned (.tuple #[.string {data:=#[]},.string {data:=#[]},.int .i64 9])/\Below w.heap.size w w':=by
 have HH:Hid (k<0\/2<k):=h;clear h;go_enter Tryz.func75,Tryz.ntmps75;go_wp2_with (first|(go_at_call 124;refine(Q7 _ _ HH.out).mono ?_;rintro e w' ⟨rfl,rfl⟩))
 go_ret3
 exact⟨rfl,Below.refl _ _⟩
def Ho(k p:Int):ByteArray:=if k=0/\p=0 then {data:=#[105]} else if k=0/\p=1 then {data:=#[98]} else if k=1/\p=0 then {data:=#[115]} else if k=1/\p=1 then {data:=#[99]} else if k=2/\p=0 then {data:=#[114,40,101,51,113,51,105,41]} else {data:=#[]}
def Hq(k p:Int):ByteArray:=if k=0/\p=0 then {data:=#[99]} else if k=0/\p=1 then {data:=#[99]} else if k=1/\p=0 then {data:=#[99]} else if k=1/\p=1 then {data:=#[113,52,115]} else if k=2/\p=0 then {data:=#[117,40,98,113,51,105,41]} else {data:=#[]}
def MQ(k p:Int):Int:=if k<0\/2<k then 9 else if k=0/\p=0 then 0 else if k=0/\p=1 then 0 else if k=1/\p=0 then 0 else if k=1/\p=1 then 0 else if k=2/\p=0 then 0 else 16
theorem MP{Q:Int->Int->Prop}(k p:Int)(hno:∀k p,k<0\/2<k->Q k p)(h00:Q 0 0)(h01:Q 0 1)(h10:Q 1 0)(h11:Q 1 1)(h20:Q 2 0)(h0:∀p,¬p=0->¬p=1->Q 0 p)(h1:∀p,¬p=0->¬p=1->Q 1 p)(h2:∀p,¬p=0->Q 2 p):Q k p:=by
 by_cases a:k<0\/2<k
 ·exact hno k p a
 have hk:k=0\/k=1\/k=2:=by omega
 rcases hk with rfl|rfl|rfl
 ·by_cases b:p=0
  ·subst b;exact h00
  ·by_cases c:p=1
   ·subst c;exact h01
   ·exact h0 p b c
 ·by_cases b:p=0
  ·subst b;exact h10
  ·by_cases c:p=1
   ·subst c;exact h11
   ·exact h1 p b c
 ·by_cases b:p=0
  ·subst b;exact h20
  ·exact h2 p b
abbrev Cb(k p:Int):Value:=.tuple #[.string (Ho k p),.string (Hq k p),.int .i64 (MQ k p)]
theorem Vy(k p:Int)(h:k<0\/2<k):Cb k p=.tuple #[.string {data:=#[]},.string {data:=#[]},.int .i64 9]:=by
 have a0:¬k=0:=by omega
 have a1:¬k=1:=by omega
 have a2:¬k=2:=by omega
 simp[Cb,Ho,Hq,MQ,a0,a1,a2,h]
theorem Vv(p:Int)(h0:¬p=0)(h1:¬p=1):Cb 0 p=.tuple #[.string {data:=#[]},.string {data:=#[]},.int .i64 16]:=by
 simp[Cb,Ho,Hq,MQ,h0,h1]
theorem Vw(p:Int)(h0:¬p=0)(h1:¬p=1):Cb 1 p=.tuple #[.string {data:=#[]},.string {data:=#[]},.int .i64 16]:=by
 simp[Cb,Ho,Hq,MQ,h0,h1]
theorem Vx(p:Int)(h0:¬p=0):Cb 2 p=.tuple #[.string {data:=#[]},.string {data:=#[]},.int .i64 16]:=by
 simp[Cb,Ho,Hq,MQ,h0]
theorem Ql(k p:Int)(w:World)(tt:TypeId)(fr:Nat×Nat)(hg:w.heap[0]?=some (.cells Bm tt fr)):
  Calls Tryz.prog 75 #[.int .i64 k,.int .i64 p] w fun e w'=>e=.returned (Cb k p)/\Below w.heap.size w w':=by
 refine MP (Q:=fun k p=>Calls Tryz.prog 75 #[.int .i64 k,.int .i64 p] w fun e w'=>e=.returned (Cb k p)/\Below w.heap.size w w') k p ?_ ?_ ?_ ?_ ?_ ?_ ?_ ?_ ?_
 ·intro k p h;rw[Vy k p h];exact YR k p w h
 ·exact YJ w tt fr hg
 ·exact YK w tt fr hg
 ·exact YM w tt fr hg
 ·exact YN w tt fr hg
 ·exact YP w tt fr hg
 ·intro p h0 h1;rw[Vv p h0 h1];exact YL p h0 h1 w tt fr hg
 ·intro p h0 h1;rw[Vw p h0 h1];exact YO p h0 h1 w tt fr hg
 ·intro p h0;rw[Vx p h0];exact YQ p h0 w tt fr hg
theorem Yw(w:World):
  Calls Tryz.prog 155 #[.int .i64 0,.int .i64 0] w fun e w'=>e=.returned (.tuple #[.string {data:=#[105]},.string {data:=#[99]},.int .i64 0])/\w'=w:=by
 go_enter Tryz.func155,Tryz.ntmps155;go_wp2
 go_ret3
 exact⟨rfl,rfl⟩
theorem Yx(w:World):
  Calls Tryz.prog 155 #[.int .i64 0,.int .i64 1] w fun e w'=>e=.returned (.tuple #[.string {data:=#[98]},.string {data:=#[99]},.int .i64 0])/\w'=w:=by
 go_enter Tryz.func155,Tryz.ntmps155;go_wp2
 go_ret3
 exact⟨rfl,rfl⟩
theorem Yz(w:World):
  Calls Tryz.prog 155 #[.int .i64 1,.int .i64 0] w fun e w'=>e=.returned (.tuple #[.string {data:=#[115]},.string {data:=#[99]},.int .i64 0])/\w'=w:=by
 go_enter Tryz.func155,Tryz.ntmps155;go_wp2
 go_ret3
 exact⟨rfl,rfl⟩
theorem YA(w:World):
  Calls Tryz.prog 155 #[.int .i64 1,.int .i64 1] w fun e w'=>e=.returned (.tuple #[.string {data:=#[99]},.string {data:=#[113,52,115]},.int .i64 0])/\w'=w:=by
 go_enter Tryz.func155,Tryz.ntmps155;go_wp2
 go_ret3
 exact⟨rfl,rfl⟩
theorem YC(w:World):
  Calls Tryz.prog 155 #[.int .i64 2,.int .i64 0] w fun e w'=>e=.returned (.tuple #[.string {data:=#[114,40,101,51,113,51,105,41]},.string {data:=#[117,40,98,113,51,105,41]},.int .i64 0])/\w'=w:=by
 go_enter Tryz.func155,Tryz.ntmps155;go_wp2
 go_ret3
 exact⟨rfl,rfl⟩
theorem Yy(p:Int)(h0:¬p=0)(h1:¬p=1)(w:World):
  Calls Tryz.prog 155 #[.int .i64 0,.int .i64 p] w fun e w'=>e=.returned (.tuple #[.string {data:=#[]},.string {data:=#[]},.int .i64 16])/\w'=w:=by
 have e0:(p==0)=false:=by simp;omega
 have e1:(p==1)=false:=by simp;omega
 go_enter Tryz.func155,Tryz.ntmps155;go_wp2
 go_ret3
 exact⟨rfl,rfl⟩
theorem YB(p:Int)(h0:¬p=0)(h1:¬p=1)(w:World):
  Calls Tryz.prog 155 #[.int .i64 1,.int .i64 p] w fun e w'=>e=.returned (.tuple #[.string {data:=#[]},.string {data:=#[]},.int .i64 16])/\w'=w:=by
 have e0:(p==0)=false:=by simp;omega
 have e1:(p==1)=false:=by simp;omega
 go_enter Tryz.func155,Tryz.ntmps155;go_wp2
 go_ret3
 exact⟨rfl,rfl⟩
theorem YD(p:Int)(h0:¬p=0)(w:World):
  Calls Tryz.prog 155 #[.int .i64 2,.int .i64 p] w fun e w'=>e=.returned (.tuple #[.string {data:=#[]},.string {data:=#[]},.int .i64 16])/\w'=w:=by
 have e0:(p==0)=false:=by simp;omega
 go_enter Tryz.func155,Tryz.ntmps155;go_wp2
 go_ret3
 exact⟨rfl,rfl⟩
theorem YF(k p:Int)(h:k<0)(w:World):
  Calls Tryz.prog 155 #[.int .i64 k,.int .i64 p] w fun e w'=>e=.returned (.tuple #[.string {data:=#[]},.string {data:=#[]},.int .i64 9])/\w'=w:=by
 go_enter Tryz.func155,Tryz.ntmps155;go_wp2
 go_ret3
 exact⟨rfl,rfl⟩
theorem YE(k p:Int)(h:2<k)(w:World):
  Calls Tryz.prog 155 #[.int .i64 k,.int .i64 p] w fun e w'=>e=.returned (.tuple #[.string {data:=#[]},.string {data:=#[]},.int .i64 9])/\w'=w:=by
 have h':¬k<0:=by omega
 go_enter Tryz.func155,Tryz.ntmps155;go_wp2
 go_ret3
 exact⟨rfl,rfl⟩
theorem Xb(k p:Int)(w:World):
  Calls Tryz.prog 155 #[.int .i64 k,.int .i64 p] w fun e w'=>e=.returned (Cb k p)/\w'=w:=by
 refine MP (Q:=fun k p=>Calls Tryz.prog 155 #[.int .i64 k,.int .i64 p] w fun e w'=>e=.returned (Cb k p)/\w'=w) k p ?_ ?_ ?_ ?_ ?_ ?_ ?_ ?_ ?_
 ·intro k p h;rw[Vy k p h];rcases h with h|h
  ·exact YF k p h w
  ·exact YE k p h w
 ·exact Yw w
 ·exact Yx w
 ·exact Yz w
 ·exact YA w
 ·exact YC w
 ·intro p h0 h1;rw[Vv p h0 h1];exact Yy p h0 h1 w
 ·intro p h0 h1;rw[Vw p h0 h1];exact YB p h0 h1 w
 ·intro p h0;rw[Vx p h0];exact YD p h0 w
theorem Zw{w w1:World}{tt:TypeId}{fr:Nat×Nat}(hg:w.heap[0]?=some (.cells Bm tt fr))(hb:Below w.heap.size w w1):w1.heap[0]?=some (.cells Bm tt fr):=by
 have h0:0<w.heap.size:=by
  rcases Nat.lt_or_ge 0 w.heap.size with h|h
  ·exact h
  ·rw[Array.getElem?_eq_none h]at hg;cases hg
 rw[hb.block 0 h0];exact hg
theorem aab:Cb 2 0=.tuple #[.string {data:=#[114,40,101,51,113,51,105,41]},.string {data:=#[117,40,98,113,51,105,41]},.int .i64 0]:=rfl
end Go.Proofs.YtblomippkddgiaaGreatDoor
