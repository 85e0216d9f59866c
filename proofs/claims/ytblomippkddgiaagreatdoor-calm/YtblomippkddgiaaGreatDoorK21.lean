import Derived.Test.YtblomippkddgiaaGreatDoorK20
set_option maxRecDepth 100000
set_option maxHeartbeats 2000000
namespace Go.Proofs.YtblomippkddgiaaGreatDoor
open Go.RowKit
abbrev Bz:Array Value:=#[.int .i64 0,.int .i64 0,.string {data:=#[105]},.string {data:=#[99]},.int .i64 0,.int .i64 1,.string {data:=#[98]},.string {data:=#[99]},.int .i64 1,.int .i64 0,.string {data:=#[115]},.string {data:=#[99]},.int .i64 1,.int .i64 1,.string {data:=#[99]},.string {data:=#[113,52,115]},.int .i64 2,.int .i64 0,.string {data:=#[114,40,101,51,113,51,105,41]},.string {data:=#[117,40,98,113,51,105,41]}]
theorem i0(w:World):(Instr.index 198 (.agg Bz) (.int .i64 0)).run Tryz.prog w=.ok (.agg #[.int .i64 0,.int .i64 0,.string {data:=#[105]},.string {data:=#[99]}]) w:=by kernel_rfl
theorem i1(w:World):(Instr.index 198 (.agg Bz) (.int .i64 1)).run Tryz.prog w=.ok (.agg #[.int .i64 0,.int .i64 1,.string {data:=#[98]},.string {data:=#[99]}]) w:=by kernel_rfl
theorem i2(w:World):(Instr.index 198 (.agg Bz) (.int .i64 2)).run Tryz.prog w=.ok (.agg #[.int .i64 1,.int .i64 0,.string {data:=#[115]},.string {data:=#[99]}]) w:=by kernel_rfl
theorem i3(w:World):(Instr.index 198 (.agg Bz) (.int .i64 3)).run Tryz.prog w=.ok (.agg #[.int .i64 1,.int .i64 1,.string {data:=#[99]},.string {data:=#[113,52,115]}]) w:=by kernel_rfl
theorem i4(w:World):(Instr.index 198 (.agg Bz) (.int .i64 4)).run Tryz.prog w=.ok (.agg #[.int .i64 2,.int .i64 0,.string {data:=#[114,40,101,51,113,51,105,41]},.string {data:=#[117,40,98,113,51,105,41]}]) w:=by kernel_rfl
theorem CK(k:Int)(w:World):
  Calls Tryz.prog 124 #[.int .i64 k] w fun e w'=>e=.returned (.bool (k==0 || k==1 || k==2))/\w'=w:=by
 by_cases h0:k=0
 ·subst h0;go_enter Tryz.func124,Tryz.ntmps124;go_wp2
  go_ret
  exact⟨rfl,rfl⟩
 by_cases h1:k=1
 ·subst h1;go_enter Tryz.func124,Tryz.ntmps124;go_wp2
  go_ret
  exact⟨rfl,rfl⟩
 by_cases h2:k=2
 ·subst h2;go_enter Tryz.func124,Tryz.ntmps124;go_wp2
  go_ret
  exact⟨rfl,rfl⟩
 have e0:(k==0)=false:=by simpa using h0
 have e1:(k==1)=false:=by simpa using h1
 have e2:(k==2)=false:=by simpa using h2
 go_enter Tryz.func124,Tryz.ntmps124;go_wp2
 go_ret
 exact⟨by rw[e0,e1,e2];rfl,rfl⟩
theorem Uw(k:Int)(w:World)(h:k<0\/2<k):
  Calls Tryz.prog 124 #[.int .i64 k] w fun e w'=>e=.returned (.bool false)/\w'=w:=by
 refine(CK k w).mono ?_;rintro e w' ⟨rfl,rfl⟩;have e0:(k==0)=false:=by simp;omega
 have e1:(k==1)=false:=by simp;omega
 have e2:(k==2)=false:=by simp;omega
 rw[e0,e1,e2];exact⟨rfl,rfl⟩
theorem aa4(w:World)(tt:TypeId)(fr:Nat×Nat)(hg:w.heap[0]?=some (.cells Bz tt fr)):
  Calls Tryz.prog 75 #[.int .i64 0,.int .i64 0] w fun e w'=>e=.returned (.tuple #[.string {data:=#[105]},.string {data:=#[99]},.int .i64 0])/\Below w.heap.size w w':=by
 have j0:=i0;have j1:=i1;have j2:=i2;have j3:=i3;have j4:=i4;go_enter Tryz.func75,Tryz.ntmps75;go_wp2_with (first|(go_at_call 124;refine(CK _ _).mono ?_;rintro e w' ⟨rfl,rfl⟩)|(refine wpList_load_row rfl 198 _ rfl 0 rfl tt _ fr _ hg Tryz.underlying198 rfl (by kernel_rfl) ?_))
 refine wp_loop_rounds 1 ?_;rw[rounds_succ];go_wp2
 go_region
 go_wp2
 go_ret3
 refine⟨rfl,?_⟩;repeat (first|exact Below.refl _ _|refine Below.drew ?_|refine Below.alloc ?_ (by simp;try omega) _)
theorem aa5(w:World)(tt:TypeId)(fr:Nat×Nat)(hg:w.heap[0]?=some (.cells Bz tt fr)):
  Calls Tryz.prog 75 #[.int .i64 0,.int .i64 1] w fun e w'=>e=.returned (.tuple #[.string {data:=#[98]},.string {data:=#[99]},.int .i64 0])/\Below w.heap.size w w':=by
 have j0:=i0;have j1:=i1;have j2:=i2;have j3:=i3;have j4:=i4;go_enter Tryz.func75,Tryz.ntmps75;go_wp2_with (first|(go_at_call 124;refine(CK _ _).mono ?_;rintro e w' ⟨rfl,rfl⟩)|(refine wpList_load_row rfl 198 _ rfl 0 rfl tt _ fr _ hg Tryz.underlying198 rfl (by kernel_rfl) ?_))
 refine wp_loop_rounds 2 ?_;rw[rounds_succ];go_wp2;rw[rounds_succ];go_wp2
 go_region
 go_wp2
 go_ret3
 refine⟨rfl,?_⟩;repeat (first|exact Below.refl _ _|refine Below.drew ?_|refine Below.alloc ?_ (by simp;try omega) _)
theorem aa7(w:World)(tt:TypeId)(fr:Nat×Nat)(hg:w.heap[0]?=some (.cells Bz tt fr)):
  Calls Tryz.prog 75 #[.int .i64 1,.int .i64 0] w fun e w'=>e=.returned (.tuple #[.string {data:=#[115]},.string {data:=#[99]},.int .i64 0])/\Below w.heap.size w w':=by
 have j0:=i0;have j1:=i1;have j2:=i2;have j3:=i3;have j4:=i4;go_enter Tryz.func75,Tryz.ntmps75;go_wp2_with (first|(go_at_call 124;refine(CK _ _).mono ?_;rintro e w' ⟨rfl,rfl⟩)|(refine wpList_load_row rfl 198 _ rfl 0 rfl tt _ fr _ hg Tryz.underlying198 rfl (by kernel_rfl) ?_))
 refine wp_loop_rounds 3 ?_;rw[rounds_succ];go_wp2;rw[rounds_succ];go_wp2;rw[rounds_succ];go_wp2
 go_region
 go_wp2
 go_ret3
 refine⟨rfl,?_⟩;repeat (first|exact Below.refl _ _|refine Below.drew ?_|refine Below.alloc ?_ (by simp;try omega) _)
theorem aa8(w:World)(tt:TypeId)(fr:Nat×Nat)(hg:w.heap[0]?=some (.cells Bz tt fr)):
  Calls Tryz.prog 75 #[.int .i64 1,.int .i64 1] w fun e w'=>e=.returned (.tuple #[.string {data:=#[99]},.string {data:=#[113,52,115]},.int .i64 0])/\Below w.heap.size w w':=by
 have j0:=i0;have j1:=i1;have j2:=i2;have j3:=i3;have j4:=i4;go_enter Tryz.func75,Tryz.ntmps75;go_wp2_with (first|(go_at_call 124;refine(CK _ _).mono ?_;rintro e w' ⟨rfl,rfl⟩)|(refine wpList_load_row rfl 198 _ rfl 0 rfl tt _ fr _ hg Tryz.underlying198 rfl (by kernel_rfl) ?_))
 refine wp_loop_rounds 4 ?_;rw[rounds_succ];go_wp2;rw[rounds_succ];go_wp2;rw[rounds_succ];go_wp2;rw[rounds_succ];go_wp2
 go_region
 go_wp2
 go_ret3
 refine⟨rfl,?_⟩;repeat (first|exact Below.refl _ _|refine Below.drew ?_|refine Below.alloc ?_ (by simp;try omega) _)
theorem aba(w:World)(tt:TypeId)(fr:Nat×Nat)(hg:w.heap[0]?=some (.cells Bz tt fr)):
  Calls Tryz.prog 75 #[.int .i64 2,.int .i64 0] w fun e w'=>e=.returned (.tuple #[.string {data:=#[114,40,101,51,113,51,105,41]},.string {data:=#[117,40,98,113,51,105,41]},.int .i64 0])/\Below w.heap.size w w':=by
 have j0:=i0;have j1:=i1;have j2:=i2;have j3:=i3;have j4:=i4;go_enter Tryz.func75,Tryz.ntmps75;go_wp2_with (first|(go_at_call 124;refine(CK _ _).mono ?_;rintro e w' ⟨rfl,rfl⟩)|(refine wpList_load_row rfl 198 _ rfl 0 rfl tt _ fr _ hg Tryz.underlying198 rfl (by kernel_rfl) ?_))
 refine wp_loop_rounds 5 ?_;rw[rounds_succ];go_wp2;rw[rounds_succ];go_wp2;rw[rounds_succ];go_wp2;rw[rounds_succ];go_wp2;rw[rounds_succ];go_wp2
 go_region
 go_wp2
 go_ret3
 refine⟨rfl,?_⟩;repeat (first|exact Below.refl _ _|refine Below.drew ?_|refine Below.alloc ?_ (by simp;try omega) _)
theorem aa6(p:Int)(h0:¬p=0)(h1:¬p=1)(w:World)(tt:TypeId)(fr:Nat×Nat)(hg:w.heap[0]?=some (.cells Bz tt fr)):
  Calls Tryz.prog 75 #[.int .i64 0,.int .i64 p] w fun e w'=>e=.returned (.tuple #[.string {data:=#[]},.string {data:=#[]},.int .i64 16])/\Below w.heap.size w w':=by
 have e0:((0:Int)==p)=false:=by simp;omega
 have e1:((1:Int)==p)=false:=by simp;omega
 have j0:=i0;have j1:=i1;have j2:=i2;have j3:=i3;have j4:=i4;go_enter Tryz.func75,Tryz.ntmps75;go_wp2_with (first|(go_at_call 124;refine(CK _ _).mono ?_;rintro e w' ⟨rfl,rfl⟩)|(refine wpList_load_row rfl 198 _ rfl 0 rfl tt _ fr _ hg Tryz.underlying198 rfl (by kernel_rfl) ?_))
 refine wp_loop_rounds 6 ?_;rw[rounds_succ];go_wp2;rw[rounds_succ];go_wp2;rw[rounds_succ];go_wp2;rw[rounds_succ];go_wp2;rw[rounds_succ];go_wp2;rw[rounds_succ];go_wp2
 go_ret3
 refine⟨rfl,?_⟩;repeat (first|exact Below.refl _ _|refine Below.drew ?_|refine Below.alloc ?_ (by simp;try omega) _)
theorem aa9(p:Int)(h0:¬p=0)(h1:¬p=1)(w:World)(tt:TypeId)(fr:Nat×Nat)(hg:w.heap[0]?=some (.cells Bz tt fr)):
  Calls Tryz.prog 75 #[.int .i64 1,.int .i64 p] w fun e w'=>e=.returned (.tuple #[.string {data:=#[]},.string {data:=#[]},.int .i64 16])/\Below w.heap.size w w':=by
 have e0:((0:Int)==p)=false:=by simp;omega
 have e1:((1:Int)==p)=false:=by simp;omega
 have j0:=i0;have j1:=i1;have j2:=i2;have j3:=i3;have j4:=i4;go_enter Tryz.func75,Tryz.ntmps75;go_wp2_with (first|(go_at_call 124;refine(CK _ _).mono ?_;rintro e w' ⟨rfl,rfl⟩)|(refine wpList_load_row rfl 198 _ rfl 0 rfl tt _ fr _ hg Tryz.underlying198 rfl (by kernel_rfl) ?_))
 refine wp_loop_rounds 6 ?_;rw[rounds_succ];go_wp2;rw[rounds_succ];go_wp2;rw[rounds_succ];go_wp2;rw[rounds_succ];go_wp2;rw[rounds_succ];go_wp2;rw[rounds_succ];go_wp2
 go_ret3
 refine⟨rfl,?_⟩;repeat (first|exact Below.refl _ _|refine Below.drew ?_|refine Below.alloc ?_ (by simp;try omega) _)
theorem abb(p:Int)(h0:¬p=0)(w:World)(tt:TypeId)(fr:Nat×Nat)(hg:w.heap[0]?=some (.cells Bz tt fr)):
  Calls Tryz.prog 75 #[.int .i64 2,.int .i64 p] w fun e w'=>e=.returned (.tuple #[.string {data:=#[]},.string {data:=#[]},.int .i64 16])/\Below w.heap.size w w':=by
 have e0:((0:Int)==p)=false:=by simp;omega
 have j0:=i0;have j1:=i1;have j2:=i2;have j3:=i3;have j4:=i4;go_enter Tryz.func75,Tryz.ntmps75;go_wp2_with (first|(go_at_call 124;refine(CK _ _).mono ?_;rintro e w' ⟨rfl,rfl⟩)|(refine wpList_load_row rfl 198 _ rfl 0 rfl tt _ fr _ hg Tryz.underlying198 rfl (by kernel_rfl) ?_))
 refine wp_loop_rounds 6 ?_;rw[rounds_succ];go_wp2;rw[rounds_succ];go_wp2;rw[rounds_succ];go_wp2;rw[rounds_succ];go_wp2;rw[rounds_succ];go_wp2;rw[rounds_succ];go_wp2
 go_ret3
 refine⟨rfl,?_⟩;repeat (first|exact Below.refl _ _|refine Below.drew ?_|refine Below.alloc ?_ (by simp;try omega) _)
theorem abd(k p:Int)(w:World)(h:k<0\/2<k):
  Calls Tryz.prog 75 #[.int .i64 k,.int .i64 p] w fun e w'=>e=.returned (.tuple #[.string {data:=#[]},.string {data:=#[]},.int .i64 9])/\Below w.heap.size w w':=by
 have HH:Hid (k<0\/2<k):=h;clear h;go_enter Tryz.func75,Tryz.ntmps75;go_wp2_with (first|(go_at_call 124;refine(Uw _ _ HH.out).mono ?_;rintro e w' ⟨rfl,rfl⟩))
 go_ret3
 exact⟨rfl,Below.refl _ _⟩
def I4(k p:Int):ByteArray:=if k=0/\p=0 then {data:=#[105]} else if k=0/\p=1 then {data:=#[98]} else if k=1/\p=0 then {data:=#[115]} else if k=1/\p=1 then {data:=#[99]} else if k=2/\p=0 then {data:=#[114,40,101,51,113,51,105,41]} else {data:=#[]}
def Sj(k p:Int):ByteArray:=if k=0/\p=0 then {data:=#[99]} else if k=0/\p=1 then {data:=#[99]} else if k=1/\p=0 then {data:=#[99]} else if k=1/\p=1 then {data:=#[113,52,115]} else if k=2/\p=0 then {data:=#[117,40,98,113,51,105,41]} else {data:=#[]}
def Kx(k p:Int):Int:=if k<0\/2<k then 9 else if k=0/\p=0 then 0 else if k=0/\p=1 then 0 else if k=1/\p=0 then 0 else if k=1/\p=1 then 0 else if k=2/\p=0 then 0 else 16
theorem X6{Q:Int->Int->Prop}(k p:Int)(hno:∀k p,k<0\/2<k->Q k p)(h00:Q 0 0)(h01:Q 0 1)(h10:Q 1 0)(h11:Q 1 1)(h20:Q 2 0)(h0:∀p,¬p=0->¬p=1->Q 0 p)(h1:∀p,¬p=0->¬p=1->Q 1 p)(h2:∀p,¬p=0->Q 2 p):Q k p:=by
 by_cases a:k<0\/2<k
 ·exact hno k p a
 have hk:k=0\/k=1\/k=2:=by omega
 rcases hk with rfl|rfl|rfl
 ·by_cases b:p=0
  ·subst b;exact h00
  ·by_cases c:p=1
   ·subst c;exact h01
   ·exact h0 p b c
 ·by_cases b:p=0
  ·subst b;exact h10
  ·by_cases c:p=1
   ·subst c;exact h11
   ·exact h1 p b c
 ·by_cases b:p=0
  ·subst b;exact h20
  ·exact h2 p b
abbrev DJ(k p:Int):Value:=.tuple #[.string (I4 k p),.string (Sj k p),.int .i64 (Kx k p)]
theorem abf(k p:Int)(h:k<0\/2<k):DJ k p=.tuple #[.string {data:=#[]},.string {data:=#[]},.int .i64 9]:=by
 have a0:¬k=0:=by omega
 have a1:¬k=1:=by omega
 have a2:¬k=2:=by omega
 simp[DJ,I4,Sj,Kx,a0,a1,a2,h]
theorem aaf(p:Int)(h0:¬p=0)(h1:¬p=1):DJ 0 p=.tuple #[.string {data:=#[]},.string {data:=#[]},.int .i64 16]:=by
 simp[DJ,I4,Sj,Kx,h0,h1]
theorem aag(p:Int)(h0:¬p=0)(h1:¬p=1):DJ 1 p=.tuple #[.string {data:=#[]},.string {data:=#[]},.int .i64 16]:=by
 simp[DJ,I4,Sj,Kx,h0,h1]
theorem aah(p:Int)(h0:¬p=0):DJ 2 p=.tuple #[.string {data:=#[]},.string {data:=#[]},.int .i64 16]:=by
 simp[DJ,I4,Sj,Kx,h0]
theorem Oi(k p:Int)(w:World)(tt:TypeId)(fr:Nat×Nat)(hg:w.heap[0]?=some (.cells Bz tt fr)):
  Calls Tryz.prog 75 #[.int .i64 k,.int .i64 p] w fun e w'=>e=.returned (DJ k p)/\Below w.heap.size w w':=by
 refine X6 (Q:=fun k p=>Calls Tryz.prog 75 #[.int .i64 k,.int .i64 p] w fun e w'=>e=.returned (DJ k p)/\Below w.heap.size w w') k p ?_ ?_ ?_ ?_ ?_ ?_ ?_ ?_ ?_
 ·intro k p h;rw[abf k p h];exact abd k p w h
 ·exact aa4 w tt fr hg
 ·exact aa5 w tt fr hg
 ·exact aa7 w tt fr hg
 ·exact aa8 w tt fr hg
 ·exact aba w tt fr hg
 ·intro p h0 h1;rw[aaf p h0 h1];exact aa6 p h0 h1 w tt fr hg
 ·intro p h0 h1;rw[aag p h0 h1];exact aa9 p h0 h1 w tt fr hg
 ·intro p h0;rw[aah p h0];exact abb p h0 w tt fr hg
theorem abY{w w1:World}{tt:TypeId}{fr:Nat×Nat}(hg:w.heap[0]?=some (.cells Bz tt fr))(hb:Below w.heap.size w w1):w1.heap[0]?=some (.cells Bz tt fr):=by
 have h0:0<w.heap.size:=by
  rcases Nat.lt_or_ge 0 w.heap.size with h|h
  ·exact h
  ·rw[Array.getElem?_eq_none h]at hg;cases hg
 rw[hb.block 0 h0];exact hg
theorem acW:DJ 2 0=.tuple #[.string {data:=#[114,40,101,51,113,51,105,41]},.string {data:=#[117,40,98,113,51,105,41]},.int .i64 0]:=rfl
def DU(w:World):Prop:=∃tt fr,w.heap[0]?=some (.cells Bz tt fr)
theorem DU.below{w w':World}(h:DU w)(hb:Below w.heap.size w w'):DU w':=by
 obtain⟨tt,fr,hg⟩:=h;exact⟨tt,fr,abY hg hb⟩
theorem DU.keeps{F:Aq}{w w':World}(h:DU w)(hk:Af F w w')(h0:¬F 0):DU w':=by
 obtain⟨tt,fr,hg⟩:=h;exact⟨tt,fr,hk.at hg h0⟩
theorem E9{k p:Int}{f t:ByteArray}(h:R.CO k p=some (f,t)):DJ k p=.tuple #[.string f,.string t,.int .i64 0]/\(V.Pt.G8 (V.nx f) f.size).1=0/\(V.Pt.G8 (V.nx t) t.size).1=0/\(p=0\/p=1)/\(0<=k/\k<=2):=by
 unfold R.CO at h;split at h
 ·rename_i q;obtain⟨rfl,rfl⟩:=q;cases h;exact⟨rfl,by decide +kernel,by decide +kernel,by omega,by omega⟩
 ·split at h
  ·rename_i q;obtain⟨rfl,rfl⟩:=q;cases h;exact⟨rfl,by decide +kernel,by decide +kernel,by omega,by omega⟩
  ·split at h
   ·rename_i q;obtain⟨rfl,rfl⟩:=q;cases h;exact⟨rfl,by decide +kernel,by decide +kernel,by omega,by omega⟩
   ·split at h
    ·rename_i q;obtain⟨rfl,rfl⟩:=q;cases h;exact⟨rfl,by decide +kernel,by decide +kernel,by omega,by omega⟩
    ·split at h
     ·rename_i q;obtain⟨rfl,rfl⟩:=q;cases h;exact⟨rfl,by decide +kernel,by decide +kernel,by omega,by omega⟩
     ·cases h
theorem Yc{k p:Int}(hk:0<=k/\k<=2)(h:R.CO k p=none):DJ k p=.tuple #[.string ⟨#[]⟩,.string ⟨#[]⟩,.int .i64 16]:=by
 obtain rfl|rfl|rfl:k=0\/k=1\/k=2:=by omega
 ·have h0:¬p=0:=fun e=>by subst e;simp[R.CO]at h
  have h1:¬p=1:=fun e=>by subst e;simp[R.CO]at h
  exact aaf p h0 h1
 ·have h0:¬p=0:=fun e=>by subst e;simp[R.CO]at h
  have h1:¬p=1:=fun e=>by subst e;simp[R.CO]at h
  exact aag p h0 h1
 ·have h0:¬p=0:=fun e=>by subst e;simp[R.CO]at h
  exact aah p h0
theorem SE(k p:Int)(hk:0<=k/\k<=2)(h:R.CO k p=none)(w:World)(ht:DU w):Calls Tryz.prog 185 #[.int .i64 k,.int .i64 p] w fun e w'=>e=Ax 16 0/\Below w.heap.size w w':=by
 have HS:Hid (∀w',Below w.heap.size w w'->Calls Tryz.prog 75 #[.int .i64 k,.int .i64 p] w' fun e w''=>e=.returned (.tuple #[.string ⟨#[]⟩,.string ⟨#[]⟩,.int .i64 16])/\Below w'.heap.size w' w''):=fun w' hb=>by
  obtain⟨tt,fr,hg⟩:=ht.below hb;refine(Oi k p w' tt fr hg).mono ?_;rintro e w'' ⟨rfl,q⟩;exact⟨by rw[Yc hk h],q⟩
 have HB:Hid (Below w.heap.size w ((w.alloc (.cells #[.int .u8 0,.int .i64 0,.slice none 0 0] 153)).alloc (.cells #[.int .u8 0,.int .i64 0,.slice none 0 0] 153))):=((Below.refl _ _).alloc (Nat.le_refl _) _).alloc (by simp) _;go_enter Tryz.func185,Tryz.ntmps185;go_wp2_with fail
 refine((Aa HS) _ (Aa HB)).mono ?_;rintro e w1 ⟨rfl,hb1⟩;have HB1:=Ab ((Aa HB).trans (hb1.mono (Aa HB).size));clear hb1;go_wp2;exact⟨rfl,rfl,Aa HB1⟩
theorem GI(k p:Int)(f t:ByteArray)(h:R.CO k p=some (f,t))(w:World)(ht:DU w):Calls Tryz.prog 185 #[.int .i64 k,.int .i64 p] w fun e w'=>(∃a0 a1 a2 b0 b1 b2,e=.returned (.tuple #[.agg #[a0,a1,a2],.agg #[b0,b1,b2]])/\(∃S,V.EN w' S (V.nx f) (f.size+1) 0 a0 a1 a2)/\(∃S,V.EN w' S (V.nx t) (t.size+1) 0 b0 b1 b2))/\Below w.heap.size w w':=by
 obtain⟨hs,hf,htt,_,_⟩:=E9 h;have HS:Hid (∀w',Below w.heap.size w w'->Calls Tryz.prog 75 #[.int .i64 k,.int .i64 p] w' fun e w''=>e=.returned (.tuple #[.string f,.string t,.int .i64 0])/\Below w'.heap.size w' w''):=fun w' hb=>by
  obtain⟨tt,fr,hg⟩:=ht.below hb;refine(Oi k p w' tt fr hg).mono ?_;rintro e w'' ⟨rfl,q⟩;exact⟨by rw[hs],q⟩
 have HR:Hid (∀T w',(V.Pt.G8 (V.nx T) T.size).1=0->Calls Tryz.prog 78 #[.string T] w' fun e w''=>∃c0 c1 c2,e=.returned (.agg #[c0,c1,c2])/\V.EN w'' (fun k=>w'.heap.size<=k) (V.nx T) (T.size+1) 0 c0 c1 c2/\Below w'.heap.size w' w''):=fun T w' hT=>by
  refine(V.Nc T w').mono ?_;rintro e w'' ⟨h1,h2⟩;rw[if_pos hT]at h1;obtain⟨c0,c1,c2,rfl,h3⟩:=h1;exact⟨c0,c1,c2,rfl,h3,h2⟩
 have HB:Hid (Below w.heap.size w ((w.alloc (.cells #[.int .u8 0,.int .i64 0,.slice none 0 0] 153)).alloc (.cells #[.int .u8 0,.int .i64 0,.slice none 0 0] 153))):=((Below.refl _ _).alloc (Nat.le_refl _) _).alloc (by simp) _;have hz0:Hid (((w.alloc (.cells #[.int .u8 0,.int .i64 0,.slice none 0 0] 153)).alloc (.cells #[.int .u8 0,.int .i64 0,.slice none 0 0] 153)).heap[w.heap.size]?=some (.cells #[.int .u8 0,.int .i64 0,.slice none 0 0] 153 (0,0))):=(Below.heap_alloc _ _ _ (by simp)).trans (heap_alloc_new w _);have hz1:Hid (((w.alloc (.cells #[.int .u8 0,.int .i64 0,.slice none 0 0] 153)).alloc (.cells #[.int .u8 0,.int .i64 0,.slice none 0 0] 153)).heap[w.heap.size+1]?=some (.cells #[.int .u8 0,.int .i64 0,.slice none 0 0] 153 (0,0))):=by
  show _=_;have:=heap_alloc_new (w.alloc (.cells #[.int .u8 0,.int .i64 0,.slice none 0 0] 153)) (.cells #[.int .u8 0,.int .i64 0,.slice none 0 0] 153);simpa using this
 have hz2:Hid (((w.alloc (.cells #[.int .u8 0,.int .i64 0,.slice none 0 0] 153)).alloc (.cells #[.int .u8 0,.int .i64 0,.slice none 0 0] 153)).heap.size=w.heap.size+2):=by show _=_;simp
 go_enter Tryz.func185,Tryz.ntmps185;go_wp2_with fail
 refine((Aa HS) _ (Aa HB)).mono ?_;rintro e w1 ⟨rfl,hb1⟩;have HC1:=Ab ((Aa HR) f w1 hf);have HB1:=Ab hb1;clear hb1;go_wp2_with fail
 refine(Aa HC1).mono ?_;rintro e w2 ⟨a0,a1,a2,rfl,hR1,hb2⟩;have HC2:=Ab ((Aa HR) t w2 htt);have HR1:=Ab hR1;have HB2:=Ab hb2;clear hb2 hR1;go_wp2_with fail
 refine(Aa HC2).mono ?_;rintro e w3 ⟨b0,b1,b2,rfl,hR2,hb3⟩;obtain⟨⟨x0,rfl⟩,⟨x1,rfl⟩,⟨ea,en,ec,rfl⟩⟩:=V.Bp (Aa HR1);obtain⟨⟨y0,rfl⟩,⟨y1,rfl⟩,⟨fa,fn,fc,rfl⟩⟩:=V.Bp hR2;have hs1:=(Aa HB1).size;have hs2:=(Aa HB2).size;rw[Aa hz2]at hs1;have hB13:Below w1.heap.size w1 w3:=(Aa HB2).trans (hb3.mono (Aa HB2).size);have hB03:=(Aa HB1).trans (hB13.mono (Aa HB1).size);rw[Aa hz2]at hB03;have k0:=(hB03.block w.heap.size (by omega)).trans (Aa hz0);have k1:=(hB03.block (w.heap.size+1) (by omega)).trans (Aa hz1);have p0:w3.cell? ⟨w.heap.size,0,none⟩=some (.int .u8 0):=cell_of k0 0 _ rfl;have p1:w3.cell? ⟨w.heap.size,1,none⟩=some (.int .i64 0):=cell_of k0 1 _ rfl;have p2:w3.cell? ⟨w.heap.size,2,none⟩=some (.slice none 0 0):=cell_of k0 2 _ rfl;have q0:w3.cell? ⟨w.heap.size+1,0,none⟩=some (.int .u8 0):=cell_of k1 0 _ rfl;have q1:w3.cell? ⟨w.heap.size+1,1,none⟩=some (.int .i64 0):=cell_of k1 1 _ rfl;have q2:w3.cell? ⟨w.heap.size+1,2,none⟩=some (.slice none 0 0):=cell_of k1 2 _ rfl;have u0:∀j,w3.frozen? ⟨w.heap.size,j,none⟩=false:=fun j=>open_list k0
 have u1:∀j,w3.frozen? ⟨w.heap.size+1,j,none⟩=false:=fun j=>open_list k1
 have hs3:=hb3.size;have HEND:Hid (∀W:World,Af (fun k=>k=w.heap.size\/k=w.heap.size+1) w3 W->(∃S,V.EN W S (V.nx f) (f.size+1) 0 (.int .u8 x0) (.int .i64 x1) (.slice ea en ec))/\(∃S,V.EN W S (V.nx t) (t.size+1) 0 (.int .u8 y0) (.int .i64 y1) (.slice fa fn fc))/\Below w.heap.size w W):=fun W hk=>by
  refine⟨⟨_,V.Bo ⟨Nat.le_trans hs3 hk.size,fun k hS hl=>?_⟩ (Aa HR1)⟩,⟨_,V.Bo ⟨hk.size,fun k hS hl=>?_⟩ hR2⟩,?_⟩
  ·have hS:w1.heap.size<=k:=hS;rw[hk.block k (by omega) (by omega)];exact hb3.block k hl
  ·have hS:w2.heap.size<=k:=hS;exact hk.block k hl (by omega)
  ·exact((Aa HB).trans (hB03.mono (by omega))).trans (hk.below (by omega) (fun k e=>by omega))
 have l0:w.heap.size<w3.heap.size:=by omega
 have l1:w.heap.size+1<w3.heap.size:=by omega
 clear hR2 hb3 hB13 hB03 k0 k1 HR1 HB1 HB2 HC1 HC2 HR HS HB hz0 hz1 hz2 hs1 hs2 hs3;go_wp2;have hK:Af (fun k=>k=w.heap.size\/k=w.heap.size+1) w3 ((((((w3.setCell ⟨w.heap.size,0,none⟩ (.int .u8 x0)).setCell ⟨w.heap.size,1,none⟩ (.int .i64 x1)).setCell ⟨w.heap.size,2,none⟩ (.slice ea en ec)).setCell ⟨w.heap.size+1,0,none⟩ (.int .u8 y0)).setCell ⟨w.heap.size+1,1,none⟩ (.int .i64 y1)).setCell ⟨w.heap.size+1,2,none⟩ (.slice fa fn fc)):=
  ((((((Af.refl _ w3).setCell (p:=⟨w.heap.size,0,none⟩) (Or.inl (Or.inl rfl)) _).setCell (p:=⟨w.heap.size,1,none⟩) (Or.inl (Or.inl rfl)) _).setCell (p:=⟨w.heap.size,2,none⟩) (Or.inl (Or.inl rfl)) _).setCell (p:=⟨w.heap.size+1,0,none⟩) (Or.inl (Or.inr rfl)) _).setCell (p:=⟨w.heap.size+1,1,none⟩) (Or.inl (Or.inr rfl)) _).setCell (p:=⟨w.heap.size+1,2,none⟩) (Or.inl (Or.inr rfl)) _
 obtain⟨r1,r2,r3⟩:=(Aa HEND) _ hK;refine⟨rfl,.tuple #[.agg #[.int .u8 x0,.int .i64 x1,.slice ea en ec],.agg #[.int .u8 y0,.int .i64 y1,.slice fa fn fc]],?_,⟨_,_,_,_,_,_,rfl,r1,r2⟩,r3⟩;clear r1 r2 r3 hK HEND;simp[results,Tryz.results185,go_sem,p0,p1,p2,q0,q1,q2]
theorem F7{S:Nat->Prop}{g:Nat->Nat}{w w':World}{f p:Nat}{c0 c1 c2:Value}(h:V.EN w S g f p c0 c1 c2)(hb:Below w.heap.size w w'):V.EN w' S g f p c0 c1 c2:=V.Bo ⟨hb.size,fun k _ hl=>hb.block k hl⟩ h
def J4(T:ByteArray)(v:List V.It)(w:World)(e:Ending)(w':World):Prop:=
 (((V.Cn T v).1=0/\e=.returned (.string (str (V.Cn T v).2)))\/(¬(V.Cn T v).1=0/\e=Ax (V.Cn T v).1 0))/\Below w.heap.size w w'
theorem Md(T:ByteArray)(hT:(V.Pt.G8 (V.nx T) T.size).1=0)(S:Nat->Prop)(c0 c1 c2 X:Value)(v:List V.It)(w:World)(hR:V.EN w S (V.nx T) (T.size+1) 0 c0 c1 c2)(hI:V.Items w X v)(hn:v.length<=9000000000000):Calls Tryz.prog 77 #[.agg #[c0,c1,c2],X] w (J4 T v w):=by
 have hG:=V.KD hT;refine(V.Iq T S c0 c1 c2 X v w hR hG.ok hG.Eh hI hn).mono ?_;rintro e w'' ⟨h1,h2⟩;have e1:V.H9 (V.Ct (V.nx T) (T.size+1) 0 v) v=V.Cn T v:=by unfold V.Cn;rw[if_pos hT]
 rw[e1]at h1;unfold V.KP at h1;refine⟨?_,h2⟩;by_cases h0:(V.Cn T v).1=0
 ·rw[if_pos h0]at h1;exact Or.inl ⟨h0,h1⟩
 ·rw[if_neg h0]at h1;exact Or.inr ⟨h0,h1⟩
theorem WT(T:ByteArray)(v:List V.It):(V.Cn T v).2.length<=70:=by
 unfold V.Cn V.H9;split
 ·split
  ·simp
  ·split
   ·split
    ·simp
    ·rename_i h;simp only;omega
   ·simp
 ·simp
def Tw(proc:Int)(T:ByteArray)(v:List V.It)(w:World)(e:Ending)(w':World):Prop:=
 (((V.Cn T v).1=0/\e=.returned (.string (str (AX proc++(V.Cn T v).2))))\/(¬(V.Cn T v).1=0/\e=Ax (V.Cn T v).1 0))/\Below w.heap.size w w'
theorem Mf(k p:Int)(hk:0<=k/\k<=2)(h:R.CO k p=none)(X:Value)(w:World)(ht:DU w):Calls Tryz.prog 109 #[.int .i64 k,.int .i64 p,X] w fun e w'=>e=Ax 16 0/\Below w.heap.size w w':=by
 have HS:=Ab (SE k p hk h w ht);go_enter Tryz.func109,Tryz.ntmps109;go_wp2_with fail
 refine(Aa HS).mono ?_;rintro e w1 ⟨rfl,hb1⟩;go_wp2;exact⟨rfl,rfl,hb1⟩
theorem ZR(proc:Int)(l:List UInt8)(hl:l.length<=1000)(w:World):(Op.stringOp .add (str (AX proc)) (str l)).run Tryz.prog w=.ok (.string (str (AX proc++l))) w:=by
 have e1:str (AX proc)++str l=str (AX proc++l):=by
  apply ByteArray.ext;simp
 rw[<-e1];exact run_string_add_sum w _ _ (by rw[Az,Az];simp[AX];omega)
abbrev GN(x0 x1:Int)(a:Option Addr)(n c:Nat):Obj:=.cells #[.int .u8 x0,.int .i64 x1,.slice a n c] 153
theorem Ia(k p:Int)(f t:ByteArray)(h:R.CO k p=some (f,t))(X:Value)(v:List V.It)(w:World)(ht:DU w)(hI:V.Items w X v)(hn:v.length<=9000000000000):Calls Tryz.prog 109 #[.int .i64 k,.int .i64 p,X] w (Tw p f v w):=by
 obtain⟨_,hf,_,hp,_⟩:=E9 h;have HS:=Ab (GI k p f t h w ht);have HA:Hid (∀w',Calls Tryz.prog 186 #[.slice none 0 0,.int .i64 p] w' fun e w''=>∃O,e=.returned O/\Own w'' w'.heap.size O (AX p)/\Below w'.heap.size w' w''):=fun w'=>by
  refine(Fz w'.heap.size (.slice none 0 0) [] p w' (World.ownsRow_nil _ _ _ _) (Nat.le_refl _) (by simp) (by omega)).mono ?_;rintro e w'' ⟨O,rfl,hown,hb⟩;exact⟨O,rfl,by simpa using hown,hb⟩
 have HW:Hid (∀w' c0 c1 c2 S,V.EN w' S (V.nx f) (f.size+1) 0 c0 c1 c2->Below w.heap.size w w'->Calls Tryz.prog 77 #[.agg #[c0,c1,c2],X] w' (J4 f v w')):=fun w' c0 c1 c2 S hR hb=>Md f hf S c0 c1 c2 X v w' hR (hI.below hb) hn
 have hbl:=WT f v;have HSUM:=Ab (ZR p (V.Cn f v).2 (by omega));unfold Tw;unfold J4 at HW;generalize V.Cn f v=r at *;clear hI hn ht;go_enter Tryz.func109,Tryz.ntmps109;go_wp2_with fail
 refine(Aa HS).mono ?_;rintro e w1 ⟨⟨a0,a1,a2,b0,b1,b2,rfl,⟨S1,hR1⟩,⟨S2,hR2⟩⟩,hb1⟩;obtain⟨⟨x0,rfl⟩,⟨x1,rfl⟩,⟨ea,en,ec,rfl⟩⟩:=V.Bp hR1;obtain⟨⟨y0,rfl⟩,⟨y1,rfl⟩,⟨fa,fn,fc,rfl⟩⟩:=V.Bp hR2;have HB1:Hid (Below w.heap.size w ((w1.alloc (GN x0 x1 ea en ec)).alloc (GN y0 y1 fa fn fc))):=(hb1.alloc hb1.size _).alloc (by have:=hb1.size;simp;omega) _;have HBB:Hid (Below w1.heap.size w1 ((w1.alloc (GN x0 x1 ea en ec)).alloc (GN y0 y1 fa fn fc))):=((Below.refl _ _).alloc (Nat.le_refl _) _).alloc (by simp) _;have HR1:=Ab (F7 hR1 (Aa HBB));have HE:Hid (((w1.alloc (GN x0 x1 ea en ec)).alloc (GN y0 y1 fa fn fc)).heap[w1.heap.size]?=some (.cells #[.int .u8 x0,.int .i64 x1,.slice ea en ec] 153 (0,0))):=(Below.heap_alloc _ _ _ (by simp)).trans (heap_alloc_new w1 _);clear hR1 hR2 hb1 HS;go_wp2_with fail
 refine((Aa HA) _).mono ?_;rintro e w2 ⟨O,rfl,hown,hb2⟩;obtain⟨oa,on,oc,hO⟩:=Ar hown;subst hO;have hcv:=hown.conv;have HB2:=Ab ((Aa HB1).trans (hb2.mono (Aa HB1).size));have HR2:=Ab (F7 (Aa HR1) hb2);have hk:=(hb2.block w1.heap.size (by simp;omega)).trans (Aa HE);have p0:w2.cell? ⟨w1.heap.size,0,none⟩=some (.int .u8 x0):=cell_of hk 0 _ rfl;have p1:w2.cell? ⟨w1.heap.size,1,none⟩=some (.int .i64 x1):=cell_of hk 1 _ rfl;have p2:w2.cell? ⟨w1.heap.size,2,none⟩=some (.slice ea en ec):=cell_of hk 2 _ rfl;have hl2:=lt_of_block hk;have HC:=Ab ((Aa HW) w2 _ _ _ _ (Aa HR2) (Aa HB2));clear hown hb2 hk HE HR1 HB1 HBB;generalize str (AX p)=S2' at *;go_wp2_with fail
 refine(Aa HC).mono ?_;rintro e w3 ⟨⟨h0,rfl⟩|⟨h0,rfl⟩,hb3⟩
 ·have HB3:=Ab ((Aa HB2).trans (hb3.mono (Aa HB2).size));have hsum:=(Aa HSUM) w3;clear hb3;have H0:=Ab h0;clear h0;go_wp2;go_returns;exact⟨Or.inl ⟨Aa H0,rfl⟩,Aa HB3⟩
 ·have HB3:=Ab ((Aa HB2).trans (hb3.mono (Aa HB2).size));have H0:=Ab h0;clear h0 hb3;go_wp2;exact⟨rfl,Or.inr ⟨Aa H0,rfl⟩,Aa HB3⟩
end Go.Proofs.YtblomippkddgiaaGreatDoor
