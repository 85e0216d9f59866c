import Derived.Test.YtblomippkddgiaaGreatDoorK07
import Derived.Laws.CopyOwn
set_option maxRecDepth 100000
set_option maxHeartbeats 2000000
namespace Go.Proofs.YtblomippkddgiaaGreatDoor
open Go.RowKit
def BD(w:World)(F:Aq)(V:Value)(l:List R.It):Prop:=(l=[]/\V=.slice none 0 0)\/∃b off cap cur,l≠[]/\V=.slice (some ⟨b,off,none⟩) l.length cap/\l.length<=cap/\F b/\w.heap[b]?=some (.cells cur 106 (0,0))/\∀j x,l[j]?=some x->cur[off+j*2]?=some (.int .i64 x.1)/\cur[off+j*2+1]?=some (.string x.2)
theorem BD.items{w:World}{F:Aq}{V:Value}{l:List R.It}(h:BD w F V l):Go.Proofs.YtblomippkddgiaaGreatDoor.V.Items w V l:=by
 rcases h with ⟨rfl,rfl⟩|⟨b,off,cap,cur,_,h1,h2,h3,h4,h5⟩
 ·exact⟨none,0,rfl,Nat.le_refl _,Or.inl rfl⟩
 ·refine⟨_,cap,h1,h2,Or.inr ⟨b,off,rfl,(Array.getElem?_eq_some_iff.1 h4).1,fun j x hx=>?_⟩⟩;obtain⟨r1,r2⟩:=h5 j x hx;exact⟨by simp[World.cell?,h4,r1],by simp[World.cell?,h4,r2]⟩
theorem BD.nil(w:World)(F:Aq):BD w F (.slice none 0 0) []:=Or.inl ⟨rfl,rfl⟩
theorem BD.keep{w w':World}{F E F':Aq}{V:Value}{l:List R.It}(h:BD w F V l)(hk:Af E w w')(hE:∀b cur,F b->w.heap[b]?=some (.cells cur 106 (0,0))->¬E b)(hF:∀k,F k->F' k):BD w' F' V l:=by
 rcases h with h|⟨b,off,cap,cur,h0,h1,h2,h3,h4,h5⟩
 ·exact Or.inl h
 ·exact Or.inr ⟨b,off,cap,cur,h0,h1,h2,hF _ h3,hk.at h4 (hE b cur h3 h4),h5⟩
def Ir(w:World)(F:Aq)(V:Value)(l:List R.It):Prop:=(l=[]/\∃a,V=.slice a 0 0)\/BD w F V l
theorem Ir.keep{w w':World}{F E F':Aq}{V:Value}{l:List R.It}(h:Ir w F V l)(hk:Af E w w')(hE:∀b cur,F b->w.heap[b]?=some (.cells cur 106 (0,0))->¬E b)(hF:∀k,F k->F' k):Ir w' F' V l:=by
 rcases h with h|h
 ·exact Or.inl h
 ·exact Or.inr (h.keep hk hE hF)
end Go.Proofs.YtblomippkddgiaaGreatDoor
namespace Go.Proofs.YtblomippkddgiaaGreatDoor.R
structure KM(l:Ln):Prop where
 seq:0<=l.seq/\l.seq<=999
 one:l.state=1->1<=l.seq/\(1<=l.uid/\l.uid<=255)/\(1<=l.message.length/\l.message.length<=72)/\(0<=l.Ah/\l.Ah<=Ae l.message)/\(1<=l.wait/\l.wait<=8)/\(0<=l.tries/\l.tries<=6)
structure acA(G:Wd)(c:Cl):Prop where
 lines:(c.lines.length:Int)=G.c.lines
 Ag:1<=c.Ag/\c.Ag<=255
 bound:∀u∈c.bound,1<=u/\u<=(G.Ac.length:Int)
 line:∀(k:Nat) (l:Ln),c.lines[k]?=some l->KM l
structure Wf(G:Wd):Prop where
 cf:BL G.c
 KF:(G.Ad.length:Int)=G.c.Ad
 cl:∀(i:Nat) (c:Cl),G.Ad[i]?=some c->acA G c
 Ih:G.Ao.length<=40
 Hf:∀f∈G.Ao,f.s.length<=21
 sv:G.Ac.length<=255
 MA:∀s∈G.Ac,0<=s.kind/\s.kind<=2
 nm:G.names.length<=6
 st:G.stands.length=G.names.length
 nd:G.names.Nodup
 Ma:∀u∈G.stands,1<=u/\u<=(G.Ac.length:Int)
theorem Cu{G:Wd}{i k:Nat}{c:Cl}{l:Ln}(hc:G.Ad[i]?=some c)(hl:c.lines[k]?=some l):A7 G i k=l:=by
 simp[A7,hc,hl]
theorem Bt{G:Wd}{i:Nat}{c:Cl}(hc:G.Ad[i]?=some c):Kd G i=c.Ag:=by
 simp[Kd,hc]
theorem abv(G:Wd)(i k:Int)(l:Ln):(Al G i k l).c=G.c:=rfl
theorem BH(G:Wd)(i k:Int)(l:Ln):(Al G i k l).Ao=G.Ao:=rfl
theorem Ve(G:Wd)(i k:Int)(l:Ln):(Al G i k l).Ac=G.Ac:=rfl
theorem Bf{G:Wd}{i k:Nat}{l:Ln}{j:Nat}:(Al G i k l).Ad[j]?=(G.Ad[j]?).map fun c=>if i=j then {c with lines:=c.lines.set k l} else c:=by
 simp only[Al,Int.toNat_natCast,List.getElem?_modify];by_cases h:i=j
 ·simp[h]
 ·simp[h]
theorem Wf.Al{G:Wd}(h:Wf G){i k:Nat}{l':Ln}(hl:KM l'):Wf (Al G i k l'):=by
 refine⟨h.cf,by simpa [R.Al] using h.KF,fun j c hc=>?_,h.Ih,h.Hf,h.sv,h.MA,h.nm,h.st,h.nd,h.Ma⟩;rw[Bf]at hc;cases hj:G.Ad[j]? with
 |none=>rw[hj]at hc;cases hc
 |some c0=>
  rw[hj]at hc;have h0:=h.cl j c0 hj;simp only[Option.map_some,Option.some.injEq]at hc;subst hc;split
  ·refine⟨by simpa [R.Al] using h0.lines,h0.Ag,h0.bound,fun m x hx=>?_⟩;simp only[List.getElem?_set]at hx;split at hx
   ·split at hx
    ·cases hx;exact hl
    ·cases hx
   ·exact h0.line m x hx
  ·exact⟨h0.lines,h0.Ag,h0.bound,h0.line⟩
theorem ZI{p:Pk}(h:AJ p):(CB p).length<=21:=by
 have:=KC h;simp[CB,Da,nums,AX];omega
theorem Wf.AU{G:Wd}(h:Wf G){to:Int}{p:Pk}(hr:AJ p):Wf (AU G to p):=by
 unfold R.AU;split
 ·rename_i hl;refine⟨h.cf,h.KF,fun j c hc=>?_,by simp;omega,fun f hf=>?_,h.sv,h.MA,h.nm,h.st,h.nd,h.Ma⟩
  ·have h0:=h.cl j c hc;exact⟨h0.lines,h0.Ag,h0.bound,h0.line⟩
  ·rcases List.mem_append.1 hf with hf|hf
   ·exact h.Hf f hf
   ·simp only[List.mem_singleton]at hf;subst hf;exact ZI hr
 ·exact h
theorem Du{s:List UInt8}(h:1<=s.length):1<=Ae s:=by unfold Ae;omega
theorem Er{s:List UInt8}(h:s.length<=72):Ae s<=9:=by unfold Ae;omega
theorem Gy{s:List UInt8}{k:Int}:(Bb s k).length=min 8 (s.length-8*k.toNat):=by simp[Bb]
theorem Gx{s:List UInt8}{k:Int}(h0:0<=k):if k<Ae s-1 then (Bb s k).length=8 else (Bb s k).length<=8:=by
 rw[Gy];unfold Ae at *;split<;>omega
theorem MG{s:List UInt8}{a:Int}:8*a<(s.length:Int)↔a<Ae s:=by unfold Ae;omega
def Cb(G:Wd)(i k:Nat)(l:Ln)(again:Bool):Pk:=⟨1,i,Kd G i,k,l.seq,l.uid,l.Ah,Ae l.message,again || decide (l.Ah<Ae l.message-1),Bb l.message l.Ah⟩
theorem Gm{G:Wd}(h:Wf G){i k:Nat}{c:Cl}{l:Ln}(hc:G.Ad[i]?=some c)(hl:c.lines[k]?=some l)(h1:l.state=1)(ha:l.Ah<Ae l.message)(again:Bool):AJ (Cb G i k l again):=by
 have hi:=(List.getElem?_eq_some_iff.1 hc).1;have hk:=(List.getElem?_eq_some_iff.1 hl).1;have h0:=h.cl i c hc;obtain⟨q1,q2,q3,q4,q5,q6⟩:=(h0.line k l hl).one h1;have hs:=(h0.line k l hl).seq;have hn:=h.KF;have hcf:=h.cf;have hln:=h0.lines;have hlf:=h0.Ag;have hp:=Er q3.2;have hb:=Gx (s:=l.message) q4.1;have e:=Bt hc;unfold BL at hcf;refine⟨by simp[Cb],by simp[Cb];omega,by simp only[Cb,e];omega,by simp[Cb];omega,by simp[Cb];omega,by simp[Cb];omega,by simp[Cb];omega,by simp[Cb];omega,?_⟩;show C5 (Cb G i k l again);unfold C5;rw[if_pos (show (Cb G i k l again).kind=1\/(Cb G i k l again).kind=5 from Or.inl rfl)];exact hb
theorem Ew{G:Wd}{i k:Nat}{l:Ln}(hl:A7 G i k=l)(again:Bool):AA G i k again=AU G (-1) (Cb G i k l again):=by
 unfold AA;rw[hl];rfl
end Go.Proofs.YtblomippkddgiaaGreatDoor.R
namespace Go.Proofs.YtblomippkddgiaaGreatDoor.V
open Go.RowKit
abbrev str(l:List UInt8):ByteArray:=⟨l.toArray⟩
theorem Az(l:List UInt8):(str l).size=l.length:=by simp[ByteArray.size]
theorem CJ(l:List UInt8)(a b:Nat):(str l).extract a b=str ((l.drop a).take (b-a)):=by
 apply ByteArray.ext;simp[ByteArray.data_extract,List.extract_eq_take_drop]
theorem IY(w:World)(l:List UInt8)(M:Array Value)(hM:M.size=l.length):
  (Builtin.copy_ #[199,9] 3 #[.slice (some ⟨w.heap.size,0,none⟩) l.length l.length,.string (str l)]).run Tryz.prog (w.alloc (.cells M 5))=.ok (goInt l.length) ((w.alloc (.cells M 5)).setRow w.heap.size (Dx l).toArray):=by
 have h:=Lib.run_copy_row_string (P:=Tryz.prog) (w.alloc (.cells M 5)) 199 9 3 5 w.heap.size 0 l.length l.length (str l) M 5 Tryz.underlying199 (by kernel_rfl) (heap_alloc_new w _) (by rw[Az];exact Nat.le_refl _) (by rw[Az];omega);rw[Az]at h;have e:M.toList.drop (0+l.length)=[]:=List.drop_of_length_le (by rw[Array.length_toList];omega);have e2:M.toList.take 0++Lib.byteCells (str l).data.toList++M.toList.drop (0+l.length)=Dx l:=by
  rw[e,List.take_zero,List.nil_append,List.append_nil];rfl
 rw[e2]at h;exact h
theorem IG(w:World)(M:Array Value)(Y:Array Value)(n:Nat):Below w.heap.size w (((w.alloc (.cells M 5)).setRow w.heap.size Y).freeze ⟨w.heap.size,0,none⟩ n):=by
 refine Lib.below_freeze (p:=⟨w.heap.size,0,none⟩) ?_ (Nat.le_refl _) _;exact((Below.refl w.heap.size w).alloc (Nat.le_refl _) _).trans ⟨rfl,rfl,rfl,by simp[World.setRow],fun k hk=>setRow_other _ _ _ _ (by omega)⟩
theorem IZ(w:World)(l:List UInt8)(M:Array Value)(h0:l≠[])(hl:l.length<=1000):
  (Builtin.unsafeString_ #[338,3] 9 #[.pointer (some ⟨w.heap.size,0,none⟩),.int .i64 l.length]).run Tryz.prog ((w.alloc (.cells M 5)).setRow w.heap.size (Dx l).toArray)=.ok (.string (str l)) (((w.alloc (.cells M 5)).setRow w.heap.size (Dx l).toArray).freeze ⟨w.heap.size,0,none⟩ l.length):=by
 have hg:=setRow_heap (w.alloc (.cells M 5)) w.heap.size M (Dx l).toArray 5 (0,0) (heap_alloc_new w _);have hsz:(Dx l).toArray.size=l.length:=by simp[Dx]
 refine Lib.run_unsafeString_row (P:=Tryz.prog) _ 338 3 9 5 Tryz.underlying338 (by kernel_rfl) w.heap.size l.length ?_ l h0 (Nat.le_refl _) (by omega) fun j x hx=>?_
 ·unfold World.shape?;rw[hg];simp[Dx]
 ·refine Lib.cells_of_row hg l.length j _ ?_;rw[List.toList_toArray,List.take_of_length_le (by simp[Dx])];unfold Dx;rw[List.getElem?_map,hx];rfl
theorem JL(l:List UInt8)(w:World)(hl:l.length<=1000):Calls Tryz.prog 229 #[.string (str l)] w fun e w'=>e=.returned (.string (str l))/\Below w.heap.size w w':=by
 have hsz:=Az l;by_cases h0:l=[]
 ·subst h0;go_enter Tryz.func229,Tryz.ntmps229;go_wp2
  go_ret
  exact⟨rfl,Below.refl _ _⟩
 ·obtain⟨i0,hi,hz0,hz1,hz2⟩:=info_parts info5;have hpos:0<l.length:=List.length_pos_iff.2 h0;obtain⟨M,hM⟩:∃M,M=madeCells (Value.int .u8 0).cells (l.length*1):=⟨_,rfl⟩;have hMs:M.size=l.length:=by rw[hM,size_madeCells];omega
  have hmk:∀W:World,(Instr.makeSlice 199 (.int .i64 (l.length:Int)) (.int .i64 (l.length:Int))).run Tryz.prog W=.ok (.slice (some ⟨W.heap.size,0,none⟩) l.length l.length) (W.alloc (.cells M 5)):=fun W=>by
   have h:=run_make (P:=Tryz.prog) W 199 5 i0 (.int .u8 0) Tryz.underlying199 hi hz0 .i64 .i64 (l.length:Int) (l.length:Int) (by omega) (Int.le_refl _) (by rw[hz2];omega) (by omega);rw[hz1,Int.toNat_natCast,<-hM]at h;exact h
  have hcp:=IY w l M hMs;have hus:=IZ w l M h0 hl;have HB:=Ab (IG w M (Dx l).toArray l.length);have hne:((l.length:Int)==0)=false:=by simp;omega
  generalize hY:(Dx l).toArray=Y at *;generalize hS:str l=S at *;clear hM hY h0 hS;generalize l.length=n at *;subst hsz;go_enter Tryz.func229,Tryz.ntmps229;go_wp2
  go_ret
  exact⟨rfl,Aa HB⟩
theorem Ek(l:List UInt8)(w:World)(hl:l.length<=1000):Calls Tryz.prog 184 #[.string (str l)] w fun e w'=>e=.returned (.string (str l))/\Below w.heap.size w w':=by
 have H:=Ab (JL l w hl);generalize hS:str l=S at *;clear hS;go_enter Tryz.func184,Tryz.ntmps184;go_wp2_with fail
 refine(Aa H).mono ?_;rintro e w1 ⟨rfl,hb⟩;go_wp2
 go_ret
 exact⟨rfl,hb⟩
def Rd(w:World)(b:Nat)(l:List UInt8)(O:Value):Prop:=w.heap[b]?=some (.cells #[.string (str l),.int .i64 6,O] 310 (0,0))
theorem Rd.left{w:World}{b:Nat}{l:List UInt8}{O:Value}(h:Rd w b l O):w.cell? ⟨b,0,none⟩=some (.string (str l)):=by
 unfold Rd at h;simp[World.cell?,h]
theorem Rd.wrong{w:World}{b:Nat}{l:List UInt8}{O:Value}(h:Rd w b l O):w.cell? ⟨b,1,none⟩=some (.int .i64 6):=by
 unfold Rd at h;simp[World.cell?,h]
theorem Rd.items{w:World}{b:Nat}{l:List UInt8}{O:Value}(h:Rd w b l O):w.cell? ⟨b,2,none⟩=some O:=by
 unfold Rd at h;simp[World.cell?,h]
theorem Rd.thaw{w:World}{b:Nat}{l:List UInt8}{O:Value}(h:Rd w b l O)(o:Nat):w.frozen? ⟨b,o,none⟩=false:=by
 unfold Rd at h;simp[World.frozen?,h]
theorem Rd.lt{w:World}{b:Nat}{l:List UInt8}{O:Value}(h:Rd w b l O):b<w.heap.size:=lt_of_block h
theorem Rd.set0{w:World}{b:Nat}{l:List UInt8}{O:Value}(h:Rd w b l O)(l':List UInt8):Rd (w.setCell ⟨b,0,none⟩ (.string (str l'))) b l' O:=by
 unfold Rd at h ⊢;simp only[World.setCell,Array.getElem?_modify,h];simp
theorem Rd.set1{w:World}{b:Nat}{l:List UInt8}{O:Value}(h:Rd w b l O)(x:Value):Rd (w.setCell ⟨b,2,none⟩ x) b l x:=by
 unfold Rd at h ⊢;simp only[World.setCell,Array.getElem?_modify,h];simp
theorem Rd.below{w w':World}{b:Nat}{l:List UInt8}{O:Value}(h:Rd w b l O)(hb:Below w.heap.size w w'):Rd w' b l O:=by
 have hl:=h.lt;unfold Rd at h ⊢;rw[hb.block b hl];exact h
theorem Kl(b:Nat)(w:World)(h1:w.cell? ⟨b,1,none⟩=some (.int .i64 6)):Calls Tryz.prog 120 #[.pointer (some ⟨b,0,none⟩)] w fun e w'=>e=Ax 6 0/\w'=w:=by
 go_enter Tryz.func120,Tryz.ntmps120;go_wp2;exact⟨rfl,rfl,rfl⟩
theorem B6(b:Nat)(l:List UInt8)(O:Value)(w:World)(h:Rd w b l O):Calls Tryz.prog 120 #[.pointer (some ⟨b,0,none⟩)] w fun e w'=>e=Ax 6 0/\w'=w:=Kl b w h.wrong
theorem Fx(b:Nat)(l:List UInt8)(O:Value)(n:Nat)(w:World)(h:Rd w b l O)(hn:n<=l.length)(hl:l.length<=1000):
  Calls Tryz.prog 190 #[.pointer (some ⟨b,0,none⟩),.int .i64 n] w fun e w'=>e=.returned (.string (str (l.take n)))/\w'=w.setCell ⟨b,0,none⟩ (.string (str (l.drop n))):=by
 have h1:=h.left;have h2:=h.thaw 0;have hsz:=Az l;have e1:(str l).extract 0 n=str (l.take n):=by rw[CJ];simp
 have e2:(str l).extract n (str l).size=str (l.drop n):=by
  rw[CJ,Az,List.take_of_length_le (by rw[List.length_drop];omega)]
 generalize hS:str l=S at *;generalize hA:str (l.take n)=A at *;generalize hB:str (l.drop n)=B at *;clear hS hA hB h;generalize l.length=m at *;subst hsz;have hlt:¬((S.size:Int)<(n:Int)):=by omega
 go_enter Tryz.func190,Tryz.ntmps190;go_wp2
 go_ret
 exact⟨rfl,rfl⟩
def flat:List It->List Value
 |[]=>[]
 |x :: v=>.int .i64 x.1 :: .string x.2 :: flat v
theorem Fq:∀v:List It,(flat v).length=v.length*2
 |[]=>rfl
 |x :: v=>by simp only[flat,List.length_cons,Fq v];omega
theorem flat_get:∀(v:List It) (j:Nat) (x:It),v[j]?=some x->(flat v)[j*2]?=some (.int .i64 x.1)/\(flat v)[j*2+1]?=some (.string x.2)
 |[],j,x,h=>by simp at h
 |y :: v,0,x,h=>by
  simp at h;subst h;exact⟨rfl,rfl⟩
 |y :: v,j+1,x,h=>by
  have:=flat_get v j x (by simpa using h);rw[show (j+1)*2=j*2+1+1 by omega];simpa [flat] using this
theorem Jl:∀v:List It,∀u∈flat v,u.oneCell'=true
 |[],u,h=>by cases h
 |x :: v,u,h=>by
  simp only[flat,List.mem_cons]at h;rcases h with rfl|rfl|h
  ·rfl
  ·rfl
  ·exact Jl v u h
theorem Lf:(Tryz.prog.info? 106).map (fun i=>(i.zero,i.size,i.bytes))=some (some (.agg #[.int .i64 0,.string ⟨#[]⟩]),2,24):=by kernel_rfl
theorem JD(b:Nat)(l:List UInt8)(O:Value)(n:Nat)(w:World)(h:Rd w b l O)(hn:¬n<=l.length):
  Calls Tryz.prog 190 #[.pointer (some ⟨b,0,none⟩),.int .i64 n] w fun e w'=>e=Ax 6 0/\Below w.heap.size w w':=by
 have h1:=h.left;have hsz:=Az l;have HN:=Ab (B6 b l O w h);generalize hS:str l=S at *;clear hS h;have hlt:((S.size:Int)<(n:Int)):=by omega
 clear hn hsz;go_enter Tryz.func190,Tryz.ntmps190;go_wp2_with fail
 refine(Aa HN).mono ?_;rintro e w1 ⟨rfl,rfl⟩;go_wp2;exact⟨rfl,rfl,Below.refl _ _⟩
theorem Ny(b:Nat)(O:Value)(w:World)(h:Rd w b [] O):Calls Tryz.prog 113 #[.pointer (some ⟨b,0,none⟩)] w fun e w'=>e=Ax 6 0/\Below w.heap.size w w':=by
 have H:=Ab (JD b [] O 1 w h (by simp));clear h;go_enter Tryz.func113,Tryz.ntmps113;go_wp2_with fail
 refine(Aa H).mono ?_;rintro e w1 ⟨rfl,hb⟩;go_wp2;exact⟨rfl,rfl,hb⟩
theorem Jd(b:Nat)(c:UInt8)(r:List UInt8)(O:Value)(w:World)(h:Rd w b (c :: r) O)(hl:r.length<=900):Calls Tryz.prog 113 #[.pointer (some ⟨b,0,none⟩)] w fun e w'=>e=.returned (.int .i64 (c.toNat:Int))/\w'=w.setCell ⟨b,0,none⟩ (.string (str r)):=by
 have H:=Ab (Fx b (c :: r) O 1 w h (by simp) (by simp;omega));rw[show (c :: r).take 1=[c] from rfl,show (c :: r).drop 1=r from rfl]at H;have i0:(str [c])[0]'(by rw[Az];simp)=c:=rfl;have hc:=c.toNat_lt;have hw:wrap64 (c.toNat:Int)=(c.toNat:Int):=by unfold wrap64;omega
 clear h;go_enter Tryz.func113,Tryz.ntmps113;go_wp2_with fail
 refine(Aa H).mono ?_;rintro e w1 ⟨rfl,rfl⟩;go_wp2
 go_ret
 exact⟨rfl,rfl⟩
theorem Qw(b:Nat)(l:List UInt8)(O:Value)(w:World)(h:Rd w b l O)(hn:¬2<=l.length):
  Calls Tryz.prog 114 #[.pointer (some ⟨b,0,none⟩)] w fun e w'=>e=Ax 6 0/\Below b w w':=by
 match l,h,hn with
 |[],h,_=>
  have hlt:=h.lt;have H:=Ab (Ny b O w h);clear h;go_enter Tryz.func114,Tryz.ntmps114;go_wp2_with fail
  refine(Aa H).mono ?_;rintro e w1 ⟨rfl,hb1⟩;go_wp2;exact⟨rfl,rfl,hb1.mono (by omega)⟩
 |[a],h,_=>
  have hlt:=h.lt;have H:=Ab (Jd b a [] O w h (by simp));have H2:=Ab (Ny b O _ (h.set0 []));have ha:=a.toNat_lt;have hw:wrap64 ((a.toNat:Int)*256)=(a.toNat:Int)*256:=by unfold wrap64;omega
  clear h;go_enter Tryz.func114,Tryz.ntmps114;go_wp2_with fail
  refine(Aa H).mono ?_;rintro e w1 ⟨rfl,rfl⟩;go_wp2_with fail
  refine(Aa H2).mono ?_;rintro e w2 ⟨rfl,hb2⟩;go_wp2;exact⟨rfl,rfl,((Below.refl b w).setCell (by simp) _).trans (hb2.mono (by simp;omega))⟩
 |a :: c :: r,_,hn=>exact absurd (by simp) hn
theorem N7(a c:Nat)(ha:a<256)(hc:c<256):bits .or .i64 ((a*256:Nat):Int) (c:Int)=((a*256+c:Nat):Int):=by
 have e:a*256 ||| c=a*256+c:=by
  have h:=Nat.two_pow_add_eq_or_of_lt (i:=8) (b:=c) (by omega) a;rw[show 2 ^ 8*a=a*256 by omega]at h;exact h.symm
 have n1:(BitVec.ofInt 64 ((a*256:Nat):Int)).toNat=a*256:=by
  rw[BitVec.ofInt_natCast,BitVec.toNat_ofNat];omega
 have n2:(BitVec.ofInt 64 (c:Int)).toNat=c:=by
  rw[BitVec.ofInt_natCast,BitVec.toNat_ofNat];omega
 show IntKind.i64.wrap ((BitVec.ofInt 64 ((a*256:Nat):Int) ||| BitVec.ofInt 64 (c:Int)).toNat:Int)=_;rw[BitVec.toNat_or,n1,n2,e,IntKind.wrap_i64];omega
def BK(a c:UInt8):Nat:=a.toNat*256+c.toNat
theorem Qx(b:Nat)(a c:UInt8)(r:List UInt8)(O:Value)(w:World)(h:Rd w b (a :: c :: r) O)(hl:r.length<=500):
  Calls Tryz.prog 114 #[.pointer (some ⟨b,0,none⟩)] w fun e w'=>e=.returned (.int .i64 (BK a c))/\w'=(w.setCell ⟨b,0,none⟩ (.string (str (c :: r)))).setCell ⟨b,0,none⟩ (.string (str r)):=by
 have H:=Ab (Jd b a (c :: r) O w h (by simp;omega));have H2:=Ab (Jd b c r O _ (h.set0 (c :: r)) (by omega));have ha:=a.toNat_lt;have hc:=c.toNat_lt;have hw:wrap64 ((a.toNat:Int)*256)=(a.toNat:Int)*256:=by unfold wrap64;omega
 have ho:bits .or .i64 ((a.toNat:Int)*256) (c.toNat:Int)=((BK a c:Nat):Int):=by
  have:=N7 a.toNat c.toNat (by omega) (by omega);rw[show ((a.toNat*256:Nat):Int)=(a.toNat:Int)*256 by omega]at this;exact this
 clear h;generalize str (c :: r)=S1 at *;generalize str r=S2 at *;go_enter Tryz.func114,Tryz.ntmps114;go_wp2_with fail
 refine(Aa H).mono ?_;rintro e w1 ⟨rfl,rfl⟩;go_wp2_with fail
 refine(Aa H2).mono ?_;rintro e w2 ⟨rfl,rfl⟩;go_wp2
 go_ret
 exact⟨rfl,rfl⟩
structure RS(w0 w:World)(l:List UInt8)(O:Value)(v:List It):Prop where
 rd:Rd w w0.heap.size l O
 below:Below w0.heap.size w0 w
 own:w.ownsRow (w0.heap.size+1) 106 2 O v.length (flat v)
theorem RS.row{w0 w:World}{l:List UInt8}{O:Value}{v:List It}(h:RS w0 w l O v){k:Nat}(hk:O.ownBlock=some k):w0.heap.size<k/\k<w.heap.size:=by
 have:=h.own.lt k hk;omega
theorem RS.go{w0 w w':World}{l:List UInt8}{O:Value}{v:List It}(h:RS w0 w l O v)(hb:Below w.heap.size w w'):RS w0 w' l O v:=
 ⟨h.rd.below hb,h.below.trans (hb.mono h.below.size),Bu h.own hb⟩
theorem RS.took{w0 w:World}{l:List UInt8}{O:Value}{v:List It}(h:RS w0 w l O v)(l':List UInt8):RS w0 (w.setCell ⟨w0.heap.size,0,none⟩ (.string (str l'))) l' O v/\Wk w0.heap.size O O w (w.setCell ⟨w0.heap.size,0,none⟩ (.string (str l'))):=
 ⟨⟨h.rd.set0 l',h.below.setCell (by simp) _,Jz h.own (by omega)⟩,⟨by simp,fun k _ hkb _=>Below.heap_setCell _ _ _ _ (by simpa using hkb),Or.inl rfl⟩⟩
theorem MX:∀(v:List It) (x:It),flat (v++[x])=flat v++[.int .i64 x.1,.string x.2]
 |[],x=>rfl
 |y :: v,x=>by simp only[List.cons_append,flat,MX v x]
theorem JA{w0 w w1:World}{l:List UInt8}{O O1:Value}{v:List It}{x:It}{o:Obj}(h:RS w0 w l O v)(hown:w1.ownsRow (w0.heap.size+1) 106 2 O1 (v.length+1) (flat v++[.int .i64 x.1,.string x.2]))(hg:(w.alloc o).grownBy w1 O.ownBlock)(hat:O1.ownBlock=O.ownBlock\/O1.ownBlock=some (w.alloc o).heap.size):
  Rd w1 w0.heap.size l O/\RS w0 (w1.setCell ⟨w0.heap.size,2,none⟩ O1) l O1 (v++[x])/\Wk w0.heap.size O O1 w (w1.setCell ⟨w0.heap.size,2,none⟩ O1):=by
 have hlt:=h.rd.lt;have hgs:(w.alloc o).heap.size=w.heap.size+1:=by simp
 have hs1:=hg.size;have keep:∀k,k<w.heap.size->O.ownBlock≠some k->w1.heap[k]?=w.heap[k]?:=by
  intro k hk hr;rw[hg.block k (by omega) (fun e=>hr e.symm)];exact Below.heap_alloc _ _ _ hk
 have hrow:∀k,O.ownBlock=some k->w0.heap.size<k:=fun k hk=>(h.row hk).1
 have hrd:Rd w1 w0.heap.size l O:=by
  have:=h.rd;unfold Rd at this ⊢;rw[keep _ hlt (fun e=>by have:=hrow _ e;omega)];exact this
 refine⟨hrd,⟨hrd.set1 O1,?_,?_⟩,⟨by simp;omega,fun k hk hkb hr=>?_,?_⟩⟩
 ·exact((h.below.alloc (by omega) o).grown hg (by omega) (fun k hk=>by have:=hrow k hk;omega)).setCell (by simp) _
 ·have:=Jz (k:=w0.heap.size) (o:=2) (x:=O1) hown (by omega);rw[List.length_append,MX];exact this
 ·rw[Below.heap_setCell _ _ _ _ (by simpa using hkb)];exact keep k hk hr
 ·rcases hat with h1|h1
  ·exact Or.inl h1
  ·exact Or.inr ⟨_,h1,by omega⟩
theorem EZ(w:World)(x:It):∀(j:Nat) (u:Value),([Value.int .i64 x.1,.string x.2]:List Value)[j]?=some u->(w.alloc (.cells #[.int .i64 x.1,.string x.2] 106)).cell? ((⟨w.heap.size,0,none⟩:Addr).add j)=some u:=by
 intro j u hj;match j,hj with
 |0,hj=>simp at hj;subst hj;simp[Addr.add,go_sem]
 |1,hj=>simp at hj;subst hj;simp[Addr.add,go_sem]
 |j+2,hj=>simp at hj
theorem Ht(x:It):∀u∈([Value.int .i64 x.1,.string x.2]:List Value),u.oneCell'=true:=by
 intro u hu;simp at hu;rcases hu with rfl|rfl
 ·rfl
 ·rfl
theorem Qy(w0 w:World)(a c:UInt8)(r:List UInt8)(O:Value)(v:List It)(h:RS w0 w (a :: c :: r) O v)(hl:r.length<=500):
  Calls Tryz.prog 114 #[.pointer (some ⟨w0.heap.size,0,none⟩)] w fun e w'=>e=.returned (.int .i64 (BK a c))/\RS w0 w' r O v/\Wk w0.heap.size O O w w':=by
 refine(Qx w0.heap.size a c r O w h.rd hl).mono ?_;rintro e w' ⟨rfl,rfl⟩;obtain⟨h1,k1⟩:=h.took (c :: r);obtain⟨h2,k2⟩:=h1.took r;exact⟨rfl,h2,k1.trans k2⟩
theorem Tz(a c:UInt8):BK a c<65536:=by
 have ha:=a.toNat_lt;have hc:=c.toNat_lt;unfold BK;omega
def turned(lo hi n:Int):Int:=if lo<0/\hi<n then n-65536 else n
theorem Qf(w0 w:World)(l:List UInt8)(O:Value)(v:List It)(lo hi:Int)(n:Nat)(hn:n<65536)(hbad:turned lo hi n<lo\/hi<turned lo hi n)
  (H:Calls Tryz.prog 114 #[.pointer (some ⟨w0.heap.size,0,none⟩)] w fun e w'=>e=.returned (.int .i64 n)/\RS w0 w' l O v/\Wk w0.heap.size O O w w'):
  Calls Tryz.prog 285 #[.pointer (some ⟨w0.heap.size,0,none⟩),.int .i64 lo,.int .i64 hi] w fun e w'=>e=Ax 6 0/\Below w0.heap.size w0 w':=by
 have HH:=Ab H;clear H;unfold turned at hbad;by_cases h1:lo<0
 ·by_cases h2:hi<(n:Int)
  ·rw[if_pos ⟨h1,h2⟩]at hbad;by_cases h3:(n:Int)-65536<lo
   ·go_enter Tryz.func285,Tryz.ntmps285;go_wp2_with fail
    refine(Aa HH).mono ?_;rintro e w1 ⟨rfl,hrs,_⟩;have hb:=hrs.below;have HR:=Ab (B6 w0.heap.size l O w1 hrs.rd);clear hrs;go_wp2_with fail
    refine(Aa HR).mono ?_;rintro e w2 ⟨rfl,rfl⟩;go_wp2;exact⟨rfl,rfl,hb⟩
   ·have h4:hi<(n:Int)-65536:=by omega
    go_enter Tryz.func285,Tryz.ntmps285;go_wp2_with fail
    refine(Aa HH).mono ?_;rintro e w1 ⟨rfl,hrs,_⟩;have hb:=hrs.below;have HR:=Ab (B6 w0.heap.size l O w1 hrs.rd);clear hrs;go_wp2_with fail
    refine(Aa HR).mono ?_;rintro e w2 ⟨rfl,rfl⟩;go_wp2;exact⟨rfl,rfl,hb⟩
  ·rw[if_neg (fun h=>h2 h.2)]at hbad;have h3:(n:Int)<lo:=by omega
   omega
 ·rw[if_neg (fun h=>h1 h.1)]at hbad;by_cases h3:(n:Int)<lo
  ·go_enter Tryz.func285,Tryz.ntmps285;go_wp2_with fail
   refine(Aa HH).mono ?_;rintro e w1 ⟨rfl,hrs,_⟩;have hb:=hrs.below;have HR:=Ab (B6 w0.heap.size l O w1 hrs.rd);clear hrs;go_wp2_with fail
   refine(Aa HR).mono ?_;rintro e w2 ⟨rfl,rfl⟩;go_wp2;exact⟨rfl,rfl,hb⟩
  ·have h4:hi<(n:Int):=by omega
   go_enter Tryz.func285,Tryz.ntmps285;go_wp2_with fail
   refine(Aa HH).mono ?_;rintro e w1 ⟨rfl,hrs,_⟩;have hb:=hrs.below;have HR:=Ab (B6 w0.heap.size l O w1 hrs.rd);clear hrs;go_wp2_with fail
   refine(Aa HR).mono ?_;rintro e w2 ⟨rfl,rfl⟩;go_wp2;exact⟨rfl,rfl,hb⟩
theorem Jy(w0 w:World)(lo hi:Int)(H:Calls Tryz.prog 114 #[.pointer (some ⟨w0.heap.size,0,none⟩)] w fun e w'=>e=Ax 6 0/\Below w0.heap.size w0 w'):
  Calls Tryz.prog 285 #[.pointer (some ⟨w0.heap.size,0,none⟩),.int .i64 lo,.int .i64 hi] w fun e w'=>e=Ax 6 0/\Below w0.heap.size w0 w':=by
 have HH:=Ab H;clear H;go_enter Tryz.func285,Tryz.ntmps285;go_wp2_with fail
 refine(Aa HH).mono ?_;rintro e w1 ⟨rfl,hb⟩;go_wp2;exact⟨rfl,rfl,hb⟩
theorem R7(w0 w:World)(l:List UInt8)(O:Value)(v:List It)(lo hi n':Int)(n:Nat)(hn:n<65536)(hn':n'=turned lo hi n)(hok:¬n'<lo/\¬hi<n')(hv:v.length<=100000)
  (H:Calls Tryz.prog 114 #[.pointer (some ⟨w0.heap.size,0,none⟩)] w fun e w'=>e=.returned (.int .i64 n)/\RS w0 w' l O v/\Wk w0.heap.size O O w w'):
  Calls Tryz.prog 285 #[.pointer (some ⟨w0.heap.size,0,none⟩),.int .i64 lo,.int .i64 hi] w fun e w'=>e=.returned (.int .i64 n')/\∃O',RS w0 w' l O' (v++[(n',⟨#[]⟩)])/\Wk w0.heap.size O O' w w':=by
 have HH:=Ab H;clear H;obtain⟨h3,h4⟩:=hok;obtain⟨i0,hi0,hz0,hz1,hz2⟩:=info_parts Lf;have hcase:(lo<0/\hi<(n:Int)/\n'=(n:Int)-65536)\/(lo<0/\¬hi<(n:Int)/\n'=(n:Int))\/(¬lo<0/\n'=(n:Int)):=by
  unfold turned at hn';split at hn'<;>omega
 clear hn';rcases hcase with ⟨h1,h2,rfl⟩|⟨h1,h2,rfl⟩|⟨h1,rfl⟩;all_goals
  go_enter Tryz.func285,Tryz.ntmps285;go_wp2_with fail
  refine(Aa HH).mono ?_;rintro e w1 ⟨rfl,hrs,hwk⟩;obtain⟨oa,on,oc,hsh⟩:=Ar hrs.own;subst hsh;have hO:=hrs.rd.items;have how:=hrs.own;have hlt:=hrs.rd.lt;have HRS:=Ab hrs;have HWK:=Ab hwk;clear hrs hwk
 ·go_wp2_with (at_builtin;refine wpList_append_own_at _ rfl (.tmp 37) (.tmp 40) 44 rfl (w0.heap.size+1) 106 i0 _ 2 24 Tryz.underlying44 hi0 hz0 hz1 hz2 rfl (by decide) _ v.length (flat v) rfl (by exact how.alloc _) ⟨w1.heap.size,0,none⟩ 1 1 [.int .i64 ((n:Int)-65536),.string ⟨#[]⟩] rfl rfl (by exact EZ w1 ((n:Int)-65536,⟨#[]⟩)) (by exact Ht ((n:Int)-65536,⟨#[]⟩)) (by unfold maxLen;omega) (by omega) (by simp;omega) ?_)
  intro O1 w2 hown hgrow _ hat;obtain⟨ta,tn,tc,hts⟩:=Ar hown;subst hts;obtain⟨hrd,hrs2,hwk2⟩:=JA (x:=((n:Int)-65536,⟨#[]⟩)) (Aa HRS) hown hgrow (by simpa using hat);have k1:=hrd.items;have k2:=hrd.thaw 2;have HR2:=Ab hrs2;have HK2:=Ab ((Aa HWK).trans hwk2);clear hown hgrow hat hrd hrs2 hwk2 how hO;go_wp2
  go_ret
  exact⟨rfl,_,Aa HR2,Aa HK2⟩
 ·go_wp2_with (at_builtin;refine wpList_append_own_at _ rfl (.tmp 37) (.tmp 40) 44 rfl (w0.heap.size+1) 106 i0 _ 2 24 Tryz.underlying44 hi0 hz0 hz1 hz2 rfl (by decide) _ v.length (flat v) rfl (by exact how.alloc _) ⟨w1.heap.size,0,none⟩ 1 1 [.int .i64 (n:Int),.string ⟨#[]⟩] rfl rfl (by exact EZ w1 ((n:Int),⟨#[]⟩)) (by exact Ht ((n:Int),⟨#[]⟩)) (by unfold maxLen;omega) (by omega) (by simp;omega) ?_)
  intro O1 w2 hown hgrow _ hat;obtain⟨ta,tn,tc,hts⟩:=Ar hown;subst hts;obtain⟨hrd,hrs2,hwk2⟩:=JA (x:=((n:Int),⟨#[]⟩)) (Aa HRS) hown hgrow (by simpa using hat);have k1:=hrd.items;have k2:=hrd.thaw 2;have HR2:=Ab hrs2;have HK2:=Ab ((Aa HWK).trans hwk2);clear hown hgrow hat hrd hrs2 hwk2 how hO;go_wp2
  go_ret
  exact⟨rfl,_,Aa HR2,Aa HK2⟩
 ·go_wp2_with (at_builtin;refine wpList_append_own_at _ rfl (.tmp 37) (.tmp 40) 44 rfl (w0.heap.size+1) 106 i0 _ 2 24 Tryz.underlying44 hi0 hz0 hz1 hz2 rfl (by decide) _ v.length (flat v) rfl (by exact how.alloc _) ⟨w1.heap.size,0,none⟩ 1 1 [.int .i64 (n:Int),.string ⟨#[]⟩] rfl rfl (by exact EZ w1 ((n:Int),⟨#[]⟩)) (by exact Ht ((n:Int),⟨#[]⟩)) (by unfold maxLen;omega) (by omega) (by simp;omega) ?_)
  intro O1 w2 hown hgrow _ hat;obtain⟨ta,tn,tc,hts⟩:=Ar hown;subst hts;obtain⟨hrd,hrs2,hwk2⟩:=JA (x:=((n:Int),⟨#[]⟩)) (Aa HRS) hown hgrow (by simpa using hat);have k1:=hrd.items;have k2:=hrd.thaw 2;have HR2:=Ab hrs2;have HK2:=Ab ((Aa HWK).trans hwk2);clear hown hgrow hat hrd hrs2 hwk2 how hO;go_wp2
  go_ret
  exact⟨rfl,_,Aa HR2,Aa HK2⟩
theorem LK(w0 w:World)(H:Calls Tryz.prog 114 #[.pointer (some ⟨w0.heap.size,0,none⟩)] w fun e w'=>e=Ax 6 0/\Below w0.heap.size w0 w'):
  Calls Tryz.prog 286 #[.pointer (some ⟨w0.heap.size,0,none⟩)] w fun e w'=>e=Ax 6 0/\Below w0.heap.size w0 w':=by
 have HH:=Ab H;clear H;go_enter Tryz.func286,Tryz.ntmps286;go_wp2_with fail
 refine(Aa HH).mono ?_;rintro e w1 ⟨rfl,hb⟩;go_wp2;exact⟨rfl,rfl,hb⟩
theorem R9(w0 w:World)(l:List UInt8)(O:Value)(v:List It)(n:Nat)(hn:¬n<=14)
  (H:Calls Tryz.prog 114 #[.pointer (some ⟨w0.heap.size,0,none⟩)] w fun e w'=>e=.returned (.int .i64 n)/\RS w0 w' l O v/\Wk w0.heap.size O O w w'):
  Calls Tryz.prog 286 #[.pointer (some ⟨w0.heap.size,0,none⟩)] w fun e w'=>e=Ax 6 0/\Below w0.heap.size w0 w':=by
 have HH:=Ab H;have h14:(14:Int)<(n:Int):=by omega
 clear H hn;go_enter Tryz.func286,Tryz.ntmps286;go_wp2_with fail
 refine(Aa HH).mono ?_;rintro e w1 ⟨rfl,hrs,_⟩;have hb:=hrs.below;have HR:=Ab (B6 w0.heap.size l O w1 hrs.rd);clear hrs;go_wp2_with fail
 refine(Aa HR).mono ?_;rintro e w2 ⟨rfl,rfl⟩;go_wp2;exact⟨rfl,rfl,hb⟩
theorem Qg(w0 w:World)(l:List UInt8)(O:Value)(v:List It)(n:Nat)(hn:n<=14)(hs:¬n<=l.length)
  (H:Calls Tryz.prog 114 #[.pointer (some ⟨w0.heap.size,0,none⟩)] w fun e w'=>e=.returned (.int .i64 n)/\RS w0 w' l O v/\Wk w0.heap.size O O w w'):
  Calls Tryz.prog 286 #[.pointer (some ⟨w0.heap.size,0,none⟩)] w fun e w'=>e=Ax 6 0/\Below w0.heap.size w0 w':=by
 have HH:=Ab H;have h14:¬(14:Int)<(n:Int):=by omega
 clear H;go_enter Tryz.func286,Tryz.ntmps286;go_wp2_with fail
 refine(Aa HH).mono ?_;rintro e w1 ⟨rfl,hrs,_⟩;have hb:=hrs.below;have HT:=Ab (JD w0.heap.size l O n w1 hrs.rd hs);clear hrs;go_wp2_with fail
 refine(Aa HT).mono ?_;rintro e w2 ⟨rfl,hb2⟩;go_wp2;exact⟨rfl,rfl,hb.trans (hb2.mono hb.size)⟩
end Go.Proofs.YtblomippkddgiaaGreatDoor.V
