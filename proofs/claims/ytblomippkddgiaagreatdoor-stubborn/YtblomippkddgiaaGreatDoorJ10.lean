import Derived.Test.YtblomippkddgiaaGreatDoorJ08
import Derived.Lib.BufferWrite
import Derived.Lib.UnsafeStr
import Derived.Laws.MakeOwn
import Derived.Test.YtblomippkddgiaaGreatDoorJ09
import Derived.Laws.CopyOwn
set_option maxRecDepth 100000
set_option maxHeartbeats 2000000
namespace Go.Proofs.YtblomippkddgiaaGreatDoor.V
open Go.RowKit
abbrev str(l:List UInt8):ByteArray:=⟨l.toArray⟩
theorem str_size(l:List UInt8):(str l).size=l.length:=by simp[ByteArray.size]
theorem aaM(l:List UInt8)(a b:Nat):(str l).extract a b=str ((l.drop a).take (b-a)):=by
 apply ByteArray.ext
 simp[ByteArray.data_extract,List.extract_eq_take_drop]
theorem ac5(w:World)(l:List UInt8)(M:Array Value)(hM:M.size=l.length) :
  (Builtin.copy_ #[199,9] 3 #[.slice (some ⟨w.heap.size,0,none⟩) l.length l.length,.string (str l)]).run Tryz.prog (w.alloc (.cells M 5))=.ok (goInt l.length) ((w.alloc (.cells M 5)).setRow w.heap.size (u8s l).toArray):=by
 have h:=Lib.run_copy_row_string (P:=Tryz.prog) (w.alloc (.cells M 5)) 199 9 3 5 w.heap.size 0 l.length l.length (str l) M 5 Tryz.underlying199 (by kernel_rfl) (heap_alloc_new w _) (by rw[str_size];exact Nat.le_refl _) (by rw[str_size];omega)
 rw[str_size]at h
 have e:M.toList.drop (0+l.length)=[]:=List.drop_of_length_le (by rw[Array.length_toList];omega)
 have e2:M.toList.take 0++Lib.byteCells (str l).data.toList++M.toList.drop (0+l.length)=u8s l:=by
  rw[e,List.take_zero,List.nil_append,List.append_nil]
  rfl
 rw[e2]at h
 exact h
theorem adg(w:World)(M:Array Value)(Y:Array Value)(n:Nat):Below w.heap.size w (((w.alloc (.cells M 5)).setRow w.heap.size Y).freeze ⟨w.heap.size,0,none⟩ n):=by
 refine Lib.below_freeze (p:=⟨w.heap.size,0,none⟩) ?_ (Nat.le_refl _) _
 exact((Below.refl w.heap.size w).alloc (Nat.le_refl _) _).trans ⟨rfl,rfl,rfl,by simp[World.setRow],fun k hk=>setRow_other _ _ _ _ (by omega)⟩
theorem ac3(w:World)(l:List UInt8)(M:Array Value)(h0:l≠[])(hl:l.length≤1000) :
  (Builtin.unsafeString_ #[338,3] 9 #[.pointer (some ⟨w.heap.size,0,none⟩),.int .i64 l.length]).run Tryz.prog ((w.alloc (.cells M 5)).setRow w.heap.size (u8s l).toArray)=.ok (.string (str l)) (((w.alloc (.cells M 5)).setRow w.heap.size (u8s l).toArray).freeze ⟨w.heap.size,0,none⟩ l.length):=by
 have hg:=setRow_heap (w.alloc (.cells M 5)) w.heap.size M (u8s l).toArray 5 (0,0) (heap_alloc_new w _)
 have hsz:(u8s l).toArray.size=l.length:=by simp[u8s]
 refine Lib.run_unsafeString_row (P:=Tryz.prog) _ 338 3 9 5 Tryz.underlying338 (by kernel_rfl) w.heap.size l.length ?_ l h0 (Nat.le_refl _) (by omega) fun j x hx=>?_
 ·unfold World.shape?
  rw[hg]
  simp[u8s]
 ·refine Lib.cells_of_row hg l.length j _ ?_
  rw[List.toList_toArray,List.take_of_length_le (by simp[u8s])]
  unfold u8s
  rw[List.getElem?_map,hx]
  rfl
theorem aeg(l:List UInt8)(w:World)(hl:l.length≤1000):Calls Tryz.prog 229 #[.string (str l)] w fun e w'=>e=.returned (.string (str l))∧Below w.heap.size w w':=by
 have hsz:=str_size l
 by_cases h0:l=[]
 ·subst h0
  go_enter Tryz.func229,Tryz.ntmps229
  go_wp2
  go_ret
  exact⟨rfl,Below.refl _ _⟩
 ·obtain⟨i0,hi,hz0,hz1,hz2⟩:=info_parts ahf
  have hpos:0<l.length:=List.length_pos_iff.2 h0
  obtain⟨M,hM⟩:∃M,M=madeCells (Value.int .u8 0).cells (l.length*1):=⟨_,rfl⟩
  have hMs:M.size=l.length:=by rw[hM,size_madeCells];omega
  have hmk:∀W:World,(Instr.makeSlice 199 (.int .i64 (l.length:Int)) (.int .i64 (l.length:Int))).run Tryz.prog W=.ok (.slice (some ⟨W.heap.size,0,none⟩) l.length l.length) (W.alloc (.cells M 5)):=fun W=>by
   have h:=run_make (P:=Tryz.prog) W 199 5 i0 (.int .u8 0) Tryz.underlying199 hi hz0 .i64 .i64 (l.length:Int) (l.length:Int) (by omega) (Int.le_refl _) (by rw[hz2];omega) (by omega)
   rw[hz1,Int.toNat_natCast,←hM]at h
   exact h
  have hcp:=ac5 w l M hMs
  have hus:=ac3 w l M h0 hl
  have HB:=aab (adg w M (u8s l).toArray l.length)
  have hne:((l.length:Int)==0)=false:=by simp;omega
  generalize hY:(u8s l).toArray=Y at *
  generalize hS:str l=S at *
  clear hM hY h0 hS
  generalize l.length=n at *
  subst hsz
  go_enter Tryz.func229,Tryz.ntmps229
  go_wp2
  go_ret
  exact⟨rfl,unhide HB⟩
theorem abw(l:List UInt8)(w:World)(hl:l.length≤1000):Calls Tryz.prog 184 #[.string (str l)] w fun e w'=>e=.returned (.string (str l))∧Below w.heap.size w w':=by
 have H:=aab (aeg l w hl)
 generalize hS:str l=S at *
 clear hS
 go_enter Tryz.func184,Tryz.ntmps184
 go_wp2_with fail
 refine(unhide H).mono ?_
 rintro e w1 ⟨rfl,hb⟩
 go_wp2
 go_ret
 exact⟨rfl,hb⟩
def Rd(w:World)(b:Nat)(l:List UInt8)(O:Value):Prop:=w.heap[b]?=some (.cells #[.string (str l),.int .i64 6,O] 310 (0,0))
theorem Rd.left{w:World}{b:Nat}{l:List UInt8}{O:Value}(h:Rd w b l O):w.cell? ⟨b,0,none⟩=some (.string (str l)):=by
 unfold Rd at h
 simp[World.cell?,h]
theorem Rd.wrong{w:World}{b:Nat}{l:List UInt8}{O:Value}(h:Rd w b l O):w.cell? ⟨b,1,none⟩=some (.int .i64 6):=by
 unfold Rd at h
 simp[World.cell?,h]
theorem Rd.items{w:World}{b:Nat}{l:List UInt8}{O:Value}(h:Rd w b l O):w.cell? ⟨b,2,none⟩=some O:=by
 unfold Rd at h
 simp[World.cell?,h]
theorem Rd.thaw{w:World}{b:Nat}{l:List UInt8}{O:Value}(h:Rd w b l O)(o:Nat):w.frozen? ⟨b,o,none⟩=false:=by
 unfold Rd at h
 simp[World.frozen?,h]
theorem Rd.lt{w:World}{b:Nat}{l:List UInt8}{O:Value}(h:Rd w b l O):b<w.heap.size:=lt_of_block h
theorem Rd.set0{w:World}{b:Nat}{l:List UInt8}{O:Value}(h:Rd w b l O)(l':List UInt8):Rd (w.setCell ⟨b,0,none⟩ (.string (str l'))) b l' O:=by
 unfold Rd at h ⊢
 simp only[World.setCell,Array.getElem?_modify,h]
 simp
theorem Rd.set1{w:World}{b:Nat}{l:List UInt8}{O:Value}(h:Rd w b l O)(x:Value):Rd (w.setCell ⟨b,2,none⟩ x) b l x:=by
 unfold Rd at h ⊢
 simp only[World.setCell,Array.getElem?_modify,h]
 simp
theorem Rd.below{w w':World}{b:Nat}{l:List UInt8}{O:Value}(h:Rd w b l O)(hb:Below w.heap.size w w'):Rd w' b l O:=by
 have hl:=h.lt
 unfold Rd at h ⊢
 rw[hb.block b hl]
 exact h
theorem ad2(b:Nat)(w:World)(h1:w.cell? ⟨b,1,none⟩=some (.int .i64 6)):Calls Tryz.prog 120 #[.pointer (some ⟨b,0,none⟩)] w fun e w'=>e=aaf 6 0∧w'=w:=by
 go_enter Tryz.func120,Tryz.ntmps120
 go_wp2
 exact⟨rfl,rfl,rfl⟩
theorem aaG(b:Nat)(l:List UInt8)(O:Value)(w:World)(h:Rd w b l O):Calls Tryz.prog 120 #[.pointer (some ⟨b,0,none⟩)] w fun e w'=>e=aaf 6 0∧w'=w:=ad2 b w h.wrong
theorem ab0(b:Nat)(l:List UInt8)(O:Value)(n:Nat)(w:World)(h:Rd w b l O)(hn:n≤l.length)(hl:l.length≤1000) :
  Calls Tryz.prog 190 #[.pointer (some ⟨b,0,none⟩),.int .i64 n] w fun e w'=>e=.returned (.string (str (l.take n)))∧w'=w.setCell ⟨b,0,none⟩ (.string (str (l.drop n))):=by
 have h1:=h.left
 have h2:=h.thaw 0
 have hsz:=str_size l
 have e1:(str l).extract 0 n=str (l.take n):=by rw[aaM];simp
 have e2:(str l).extract n (str l).size=str (l.drop n):=by
  rw[aaM,str_size,List.take_of_length_le (by rw[List.length_drop];omega)]
 generalize hS:str l=S at *
 generalize hA:str (l.take n)=A at *
 generalize hB:str (l.drop n)=B at *
 clear hS hA hB h
 generalize l.length=m at *
 subst hsz
 have hlt:¬((S.size:Int)<(n:Int)):=by omega
 go_enter Tryz.func190,Tryz.ntmps190
 go_wp2
 go_ret
 exact⟨rfl,rfl⟩
def flat:List It→List Value
 |[]=>[]
 |x :: v=>.int .i64 x.1 :: .string x.2 :: flat v
theorem flat_length:∀v:List It,(flat v).length=v.length*2
 |[]=>rfl
 |x :: v=>by simp only[flat,List.length_cons,flat_length v];omega
theorem flat_get:∀(v:List It) (j:Nat) (x:It),v[j]?=some x→(flat v)[j*2]?=some (.int .i64 x.1)∧(flat v)[j*2+1]?=some (.string x.2)
 |[],j,x,h=>by simp at h
 |y :: v,0,x,h=>by
  simp at h
  subst h
  exact⟨rfl,rfl⟩
 |y :: v,j+1,x,h=>by
  have:=flat_get v j x (by simpa using h)
  rw[show (j+1)*2=j*2+1+1 by omega]
  simpa [flat] using this
theorem flat_one:∀v:List It,∀u∈flat v,u.oneCell'=true
 |[],u,h=>by cases h
 |x :: v,u,h=>by
  simp only[flat,List.mem_cons]at h
  rcases h with rfl|rfl|h
  ·rfl
  ·rfl
  ·exact flat_one v u h
theorem info31:(Tryz.prog.info? 106).map (fun i=>(i.zero,i.size,i.bytes))=some (some (.agg #[.int .i64 0,.string ⟨#[]⟩]),2,24):=by kernel_rfl
theorem adP(b:Nat)(l:List UInt8)(O:Value)(n:Nat)(w:World)(h:Rd w b l O)(hn:¬n≤l.length) :
  Calls Tryz.prog 190 #[.pointer (some ⟨b,0,none⟩),.int .i64 n] w fun e w'=>e=aaf 6 0∧Below w.heap.size w w':=by
 have h1:=h.left
 have hsz:=str_size l
 have HN:=aab (aaG b l O w h)
 generalize hS:str l=S at *
 clear hS h
 have hlt:((S.size:Int)<(n:Int)):=by omega
 clear hn hsz
 go_enter Tryz.func190,Tryz.ntmps190
 go_wp2_with fail
 refine(unhide HN).mono ?_
 rintro e w1 ⟨rfl,rfl⟩
 go_wp2
 exact⟨rfl,rfl,Below.refl _ _⟩
theorem ahz(b:Nat)(O:Value)(w:World)(h:Rd w b [] O):Calls Tryz.prog 113 #[.pointer (some ⟨b,0,none⟩)] w fun e w'=>e=aaf 6 0∧Below w.heap.size w w':=by
 have H:=aab (adP b [] O 1 w h (by simp))
 clear h
 go_enter Tryz.func113,Tryz.ntmps113
 go_wp2_with fail
 refine(unhide H).mono ?_
 rintro e w1 ⟨rfl,hb⟩
 go_wp2
 exact⟨rfl,rfl,hb⟩
theorem aek(b:Nat)(c:UInt8)(r:List UInt8)(O:Value)(w:World)(h:Rd w b (c :: r) O)(hl:r.length≤900):Calls Tryz.prog 113 #[.pointer (some ⟨b,0,none⟩)] w fun e w'=>e=.returned (.int .i64 (c.toNat:Int))∧w'=w.setCell ⟨b,0,none⟩ (.string (str r)):=by
 have H:=aab (ab0 b (c :: r) O 1 w h (by simp) (by simp;omega))
 rw[show (c :: r).take 1=[c] from rfl,show (c :: r).drop 1=r from rfl]at H
 have i0:(str [c])[0]'(by rw[str_size];simp)=c:=rfl
 have hc:=c.toNat_lt
 have hw:wrap64 (c.toNat:Int)=(c.toNat:Int):=by unfold wrap64;omega
 clear h
 go_enter Tryz.func113,Tryz.ntmps113
 go_wp2_with fail
 refine(unhide H).mono ?_
 rintro e w1 ⟨rfl,rfl⟩
 go_wp2
 go_ret
 exact⟨rfl,rfl⟩
theorem agG(b:Nat)(l:List UInt8)(O:Value)(w:World)(h:Rd w b l O)(hn:¬2≤l.length) :
  Calls Tryz.prog 114 #[.pointer (some ⟨b,0,none⟩)] w fun e w'=>e=aaf 6 0∧Below b w w':=by
 match l,h,hn with
 |[],h,_=>
  have hlt:=h.lt
  have H:=aab (ahz b O w h)
  clear h
  go_enter Tryz.func114,Tryz.ntmps114
  go_wp2_with fail
  refine(unhide H).mono ?_
  rintro e w1 ⟨rfl,hb1⟩
  go_wp2
  exact⟨rfl,rfl,hb1.mono (by omega)⟩
 |[a],h,_=>
  have hlt:=h.lt
  have H:=aab (aek b a [] O w h (by simp))
  have H2:=aab (ahz b O _ (h.set0 []))
  have ha:=a.toNat_lt
  have hw:wrap64 ((a.toNat:Int)*256)=(a.toNat:Int)*256:=by unfold wrap64;omega
  clear h
  go_enter Tryz.func114,Tryz.ntmps114
  go_wp2_with fail
  refine(unhide H).mono ?_
  rintro e w1 ⟨rfl,rfl⟩
  go_wp2_with fail
  refine(unhide H2).mono ?_
  rintro e w2 ⟨rfl,hb2⟩
  go_wp2
  exact⟨rfl,rfl,((Below.refl b w).setCell (by simp) _).trans (hb2.mono (by simp;omega))⟩
 |a :: c :: r,_,hn=>exact absurd (by simp) hn
theorem or_two(a c:Nat)(ha:a<256)(hc:c<256):bits .or .i64 ((a*256:Nat):Int) (c:Int)=((a*256+c:Nat):Int):=by
 have e:a*256 ||| c=a*256+c:=by
  have h:=Nat.two_pow_add_eq_or_of_lt (i:=8) (b:=c) (by omega) a
  rw[show 2 ^ 8*a=a*256 by omega]at h
  exact h.symm
 have n1:(BitVec.ofInt 64 ((a*256:Nat):Int)).toNat=a*256:=by
  rw[BitVec.ofInt_natCast,BitVec.toNat_ofNat]
  omega
 have n2:(BitVec.ofInt 64 (c:Int)).toNat=c:=by
  rw[BitVec.ofInt_natCast,BitVec.toNat_ofNat]
  omega
 show IntKind.i64.wrap ((BitVec.ofInt 64 ((a*256:Nat):Int) ||| BitVec.ofInt 64 (c:Int)).toNat:Int)=_
 rw[BitVec.toNat_or,n1,n2,e,IntKind.wrap_i64]
 omega
def num2(a c:UInt8):Nat:=a.toNat*256+c.toNat
theorem agF(b:Nat)(a c:UInt8)(r:List UInt8)(O:Value)(w:World)(h:Rd w b (a :: c :: r) O)(hl:r.length≤500) :
  Calls Tryz.prog 114 #[.pointer (some ⟨b,0,none⟩)] w fun e w'=>e=.returned (.int .i64 (num2 a c))∧w'=(w.setCell ⟨b,0,none⟩ (.string (str (c :: r)))).setCell ⟨b,0,none⟩ (.string (str r)):=by
 have H:=aab (aek b a (c :: r) O w h (by simp;omega))
 have H2:=aab (aek b c r O _ (h.set0 (c :: r)) (by omega))
 have ha:=a.toNat_lt
 have hc:=c.toNat_lt
 have hw:wrap64 ((a.toNat:Int)*256)=(a.toNat:Int)*256:=by unfold wrap64;omega
 have ho:bits .or .i64 ((a.toNat:Int)*256) (c.toNat:Int)=((num2 a c:Nat):Int):=by
  have:=or_two a.toNat c.toNat (by omega) (by omega)
  rw[show ((a.toNat*256:Nat):Int)=(a.toNat:Int)*256 by omega]at this
  exact this
 clear h
 generalize str (c :: r)=S1 at *
 generalize str r=S2 at *
 go_enter Tryz.func114,Tryz.ntmps114
 go_wp2_with fail
 refine(unhide H).mono ?_
 rintro e w1 ⟨rfl,rfl⟩
 go_wp2_with fail
 refine(unhide H2).mono ?_
 rintro e w2 ⟨rfl,rfl⟩
 go_wp2
 go_ret
 exact⟨rfl,rfl⟩
structure RS(w0 w:World)(l:List UInt8)(O:Value)(v:List It):Prop where
 rd:Rd w w0.heap.size l O
 below:Below w0.heap.size w0 w
 own:w.ownsRow (w0.heap.size+1) 106 2 O v.length (flat v)
theorem RS.row{w0 w:World}{l:List UInt8}{O:Value}{v:List It}(h:RS w0 w l O v){k:Nat}(hk:O.ownBlock=some k):w0.heap.size<k∧k<w.heap.size:=by
 have:=h.own.lt k hk
 omega
theorem RS.go{w0 w w':World}{l:List UInt8}{O:Value}{v:List It}(h:RS w0 w l O v)(hb:Below w.heap.size w w'):RS w0 w' l O v:=
 ⟨h.rd.below hb,h.below.trans (hb.mono h.below.size),aav h.own hb⟩
theorem RS.took{w0 w:World}{l:List UInt8}{O:Value}{v:List It}(h:RS w0 w l O v)(l':List UInt8):RS w0 (w.setCell ⟨w0.heap.size,0,none⟩ (.string (str l'))) l' O v∧Wk w0.heap.size O O w (w.setCell ⟨w0.heap.size,0,none⟩ (.string (str l'))):=
 ⟨⟨h.rd.set0 l',h.below.setCell (by simp) _,adZ h.own (by omega)⟩,⟨by simp,fun k _ hkb _=>Below.heap_setCell _ _ _ _ (by simpa using hkb),Or.inl rfl⟩⟩
theorem aga:∀(v:List It) (x:It),flat (v++[x])=flat v++[.int .i64 x.1,.string x.2]
 |[],x=>rfl
 |y :: v,x=>by simp only[List.cons_append,flat,aga v x]
theorem adY{w0 w w1:World}{l:List UInt8}{O O1:Value}{v:List It}{x:It}{o:Obj}(h:RS w0 w l O v)(hown:w1.ownsRow (w0.heap.size+1) 106 2 O1 (v.length+1) (flat v++[.int .i64 x.1,.string x.2]))(hg:(w.alloc o).grownBy w1 O.ownBlock)(hat:O1.ownBlock=O.ownBlock∨O1.ownBlock=some (w.alloc o).heap.size) :
  Rd w1 w0.heap.size l O∧RS w0 (w1.setCell ⟨w0.heap.size,2,none⟩ O1) l O1 (v++[x])∧Wk w0.heap.size O O1 w (w1.setCell ⟨w0.heap.size,2,none⟩ O1):=by
 have hlt:=h.rd.lt
 have hgs:(w.alloc o).heap.size=w.heap.size+1:=by simp
 have hs1:=hg.size
 have keep:∀k,k<w.heap.size→O.ownBlock≠some k→w1.heap[k]?=w.heap[k]?:=by
  intro k hk hr
  rw[hg.block k (by omega) (fun e=>hr e.symm)]
  exact Below.heap_alloc _ _ _ hk
 have hrow:∀k,O.ownBlock=some k→w0.heap.size<k:=fun k hk=>(h.row hk).1
 have hrd:Rd w1 w0.heap.size l O:=by
  have:=h.rd
  unfold Rd at this ⊢
  rw[keep _ hlt (fun e=>by have:=hrow _ e;omega)]
  exact this
 refine⟨hrd,⟨hrd.set1 O1,?_,?_⟩,⟨by simp;omega,fun k hk hkb hr=>?_,?_⟩⟩
 ·exact((h.below.alloc (by omega) o).grown hg (by omega) (fun k hk=>by have:=hrow k hk;omega)).setCell (by simp) _
 ·have:=adZ (k:=w0.heap.size) (o:=2) (x:=O1) hown (by omega)
  rw[List.length_append,aga]
  exact this
 ·rw[Below.heap_setCell _ _ _ _ (by simpa using hkb)]
  exact keep k hk hr
 ·rcases hat with h1|h1
  ·exact Or.inl h1
  ·exact Or.inr ⟨_,h1,by omega⟩
theorem abM(w:World)(x:It):∀(j:Nat) (u:Value),([Value.int .i64 x.1,.string x.2]:List Value)[j]?=some u→(w.alloc (.cells #[.int .i64 x.1,.string x.2] 106)).cell? ((⟨w.heap.size,0,none⟩:Addr).add j)=some u:=by
 intro j u hj
 match j,hj with
 |0,hj=>simp at hj;subst hj;simp[Addr.add,go_sem]
 |1,hj=>simp at hj;subst hj;simp[Addr.add,go_sem]
 |j+2,hj=>simp at hj
theorem acM(x:It):∀u∈([Value.int .i64 x.1,.string x.2]:List Value),u.oneCell'=true:=by
 intro u hu
 simp at hu
 rcases hu with rfl|rfl
 ·rfl
 ·rfl
theorem ahI(w0 w:World)(a c:UInt8)(r:List UInt8)(O:Value)(v:List It)(h:RS w0 w (a :: c :: r) O v)(hl:r.length≤500) :
  Calls Tryz.prog 114 #[.pointer (some ⟨w0.heap.size,0,none⟩)] w fun e w'=>e=.returned (.int .i64 (num2 a c))∧RS w0 w' r O v∧Wk w0.heap.size O O w w':=by
 refine(agF w0.heap.size a c r O w h.rd hl).mono ?_
 rintro e w' ⟨rfl,rfl⟩
 obtain⟨h1,k1⟩:=h.took (c :: r)
 obtain⟨h2,k2⟩:=h1.took r
 exact⟨rfl,h2,k1.trans k2⟩
theorem akL(a c:UInt8):num2 a c<65536:=by
 have ha:=a.toNat_lt
 have hc:=c.toNat_lt
 unfold num2
 omega
def abx(lo hi n:Int):Int:=if lo<0∧hi<n then n-65536 else n
theorem agT(w0 w:World)(l:List UInt8)(O:Value)(v:List It)(lo hi:Int)(n:Nat)(hn:n<65536)(hbad:abx lo hi n<lo∨hi<abx lo hi n)
  (H:Calls Tryz.prog 114 #[.pointer (some ⟨w0.heap.size,0,none⟩)] w fun e w'=>e=.returned (.int .i64 n)∧RS w0 w' l O v∧Wk w0.heap.size O O w w') :
  Calls Tryz.prog 285 #[.pointer (some ⟨w0.heap.size,0,none⟩),.int .i64 lo,.int .i64 hi] w fun e w'=>e=aaf 6 0∧Below w0.heap.size w0 w':=by
 have HH:=aab H
 clear H
 unfold abx at hbad
 by_cases h1:lo<0
 ·by_cases h2:hi<(n:Int)
  ·rw[if_pos ⟨h1,h2⟩]at hbad
   by_cases h3:(n:Int)-65536<lo
   ·go_enter Tryz.func285,Tryz.ntmps285
    go_wp2_with fail
    refine(unhide HH).mono ?_
    rintro e w1 ⟨rfl,hrs,_⟩
    have hb:=hrs.below
    have HR:=aab (aaG w0.heap.size l O w1 hrs.rd)
    clear hrs
    go_wp2_with fail
    refine(unhide HR).mono ?_
    rintro e w2 ⟨rfl,rfl⟩
    go_wp2
    exact⟨rfl,rfl,hb⟩
   ·have h4:hi<(n:Int)-65536:=by omega
    go_enter Tryz.func285,Tryz.ntmps285
    go_wp2_with fail
    refine(unhide HH).mono ?_
    rintro e w1 ⟨rfl,hrs,_⟩
    have hb:=hrs.below
    have HR:=aab (aaG w0.heap.size l O w1 hrs.rd)
    clear hrs
    go_wp2_with fail
    refine(unhide HR).mono ?_
    rintro e w2 ⟨rfl,rfl⟩
    go_wp2
    exact⟨rfl,rfl,hb⟩
  ·rw[if_neg (fun h=>h2 h.2)]at hbad
   have h3:(n:Int)<lo:=by omega
   omega
 ·rw[if_neg (fun h=>h1 h.1)]at hbad
  by_cases h3:(n:Int)<lo
  ·go_enter Tryz.func285,Tryz.ntmps285
   go_wp2_with fail
   refine(unhide HH).mono ?_
   rintro e w1 ⟨rfl,hrs,_⟩
   have hb:=hrs.below
   have HR:=aab (aaG w0.heap.size l O w1 hrs.rd)
   clear hrs
   go_wp2_with fail
   refine(unhide HR).mono ?_
   rintro e w2 ⟨rfl,rfl⟩
   go_wp2
   exact⟨rfl,rfl,hb⟩
  ·have h4:hi<(n:Int):=by omega
   go_enter Tryz.func285,Tryz.ntmps285
   go_wp2_with fail
   refine(unhide HH).mono ?_
   rintro e w1 ⟨rfl,hrs,_⟩
   have hb:=hrs.below
   have HR:=aab (aaG w0.heap.size l O w1 hrs.rd)
   clear hrs
   go_wp2_with fail
   refine(unhide HR).mono ?_
   rintro e w2 ⟨rfl,rfl⟩
   go_wp2
   exact⟨rfl,rfl,hb⟩
theorem adn(w0 w:World)(lo hi:Int)(H:Calls Tryz.prog 114 #[.pointer (some ⟨w0.heap.size,0,none⟩)] w fun e w'=>e=aaf 6 0∧Below w0.heap.size w0 w') :
  Calls Tryz.prog 285 #[.pointer (some ⟨w0.heap.size,0,none⟩),.int .i64 lo,.int .i64 hi] w fun e w'=>e=aaf 6 0∧Below w0.heap.size w0 w':=by
 have HH:=aab H
 clear H
 go_enter Tryz.func285,Tryz.ntmps285
 go_wp2_with fail
 refine(unhide HH).mono ?_
 rintro e w1 ⟨rfl,hb⟩
 go_wp2
 exact⟨rfl,rfl,hb⟩
theorem aiU(w0 w:World)(l:List UInt8)(O:Value)(v:List It)(lo hi n':Int)(n:Nat)(hn:n<65536)(hn':n'=abx lo hi n)(hok:¬n'<lo∧¬hi<n')(hv:v.length≤100000)
  (H:Calls Tryz.prog 114 #[.pointer (some ⟨w0.heap.size,0,none⟩)] w fun e w'=>e=.returned (.int .i64 n)∧RS w0 w' l O v∧Wk w0.heap.size O O w w') :
  Calls Tryz.prog 285 #[.pointer (some ⟨w0.heap.size,0,none⟩),.int .i64 lo,.int .i64 hi] w fun e w'=>e=.returned (.int .i64 n')∧∃O',RS w0 w' l O' (v++[(n',⟨#[]⟩)])∧Wk w0.heap.size O O' w w':=by
 have HH:=aab H
 clear H
 obtain⟨h3,h4⟩:=hok
 obtain⟨i0,hi0,hz0,hz1,hz2⟩:=info_parts info31
 have hcase:(lo<0∧hi<(n:Int)∧n'=(n:Int)-65536)∨(lo<0∧¬hi<(n:Int)∧n'=(n:Int))∨(¬lo<0∧n'=(n:Int)):=by
  unfold abx at hn'
  split at hn' <;> omega
 clear hn'
 rcases hcase with ⟨h1,h2,rfl⟩|⟨h1,h2,rfl⟩|⟨h1,rfl⟩
 all_goals
  go_enter Tryz.func285,Tryz.ntmps285
  go_wp2_with fail
  refine(unhide HH).mono ?_
  rintro e w1 ⟨rfl,hrs,hwk⟩
  obtain⟨oa,on,oc,hsh⟩:=aae hrs.own
  subst hsh
  have hO:=hrs.rd.items
  have how:=hrs.own
  have hlt:=hrs.rd.lt
  have HRS:=aab hrs
  have HWK:=aab hwk
  clear hrs hwk
 ·go_wp2_with (at_builtin;refine wpList_append_own_at _ rfl (.tmp 37) (.tmp 40) 44 rfl (w0.heap.size+1) 106 i0 _ 2 24 Tryz.underlying44 hi0 hz0 hz1 hz2 rfl (by decide) _ v.length (flat v) rfl (by exact how.alloc _) ⟨w1.heap.size,0,none⟩ 1 1 [.int .i64 ((n:Int)-65536),.string ⟨#[]⟩] rfl rfl (by exact abM w1 ((n:Int)-65536,⟨#[]⟩)) (by exact acM ((n:Int)-65536,⟨#[]⟩)) (by unfold maxLen;omega) (by omega) (by simp;omega) ?_)
  intro O1 w2 hown hgrow _ hat
  obtain⟨ta,tn,tc,hts⟩:=aae hown
  subst hts
  obtain⟨hrd,hrs2,hwk2⟩:=adY (x:=((n:Int)-65536,⟨#[]⟩)) (unhide HRS) hown hgrow (by simpa using hat)
  have k1:=hrd.items
  have k2:=hrd.thaw 2
  have HR2:=aab hrs2
  have HK2:=aab ((unhide HWK).trans hwk2)
  clear hown hgrow hat hrd hrs2 hwk2 how hO
  go_wp2
  go_ret
  exact⟨rfl,_,unhide HR2,unhide HK2⟩
 ·go_wp2_with (at_builtin;refine wpList_append_own_at _ rfl (.tmp 37) (.tmp 40) 44 rfl (w0.heap.size+1) 106 i0 _ 2 24 Tryz.underlying44 hi0 hz0 hz1 hz2 rfl (by decide) _ v.length (flat v) rfl (by exact how.alloc _) ⟨w1.heap.size,0,none⟩ 1 1 [.int .i64 (n:Int),.string ⟨#[]⟩] rfl rfl (by exact abM w1 ((n:Int),⟨#[]⟩)) (by exact acM ((n:Int),⟨#[]⟩)) (by unfold maxLen;omega) (by omega) (by simp;omega) ?_)
  intro O1 w2 hown hgrow _ hat
  obtain⟨ta,tn,tc,hts⟩:=aae hown
  subst hts
  obtain⟨hrd,hrs2,hwk2⟩:=adY (x:=((n:Int),⟨#[]⟩)) (unhide HRS) hown hgrow (by simpa using hat)
  have k1:=hrd.items
  have k2:=hrd.thaw 2
  have HR2:=aab hrs2
  have HK2:=aab ((unhide HWK).trans hwk2)
  clear hown hgrow hat hrd hrs2 hwk2 how hO
  go_wp2
  go_ret
  exact⟨rfl,_,unhide HR2,unhide HK2⟩
 ·go_wp2_with (at_builtin;refine wpList_append_own_at _ rfl (.tmp 37) (.tmp 40) 44 rfl (w0.heap.size+1) 106 i0 _ 2 24 Tryz.underlying44 hi0 hz0 hz1 hz2 rfl (by decide) _ v.length (flat v) rfl (by exact how.alloc _) ⟨w1.heap.size,0,none⟩ 1 1 [.int .i64 (n:Int),.string ⟨#[]⟩] rfl rfl (by exact abM w1 ((n:Int),⟨#[]⟩)) (by exact acM ((n:Int),⟨#[]⟩)) (by unfold maxLen;omega) (by omega) (by simp;omega) ?_)
  intro O1 w2 hown hgrow _ hat
  obtain⟨ta,tn,tc,hts⟩:=aae hown
  subst hts
  obtain⟨hrd,hrs2,hwk2⟩:=adY (x:=((n:Int),⟨#[]⟩)) (unhide HRS) hown hgrow (by simpa using hat)
  have k1:=hrd.items
  have k2:=hrd.thaw 2
  have HR2:=aab hrs2
  have HK2:=aab ((unhide HWK).trans hwk2)
  clear hown hgrow hat hrd hrs2 hwk2 how hO
  go_wp2
  go_ret
  exact⟨rfl,_,unhide HR2,unhide HK2⟩
theorem aeM(w0 w:World)(H:Calls Tryz.prog 114 #[.pointer (some ⟨w0.heap.size,0,none⟩)] w fun e w'=>e=aaf 6 0∧Below w0.heap.size w0 w') :
  Calls Tryz.prog 286 #[.pointer (some ⟨w0.heap.size,0,none⟩)] w fun e w'=>e=aaf 6 0∧Below w0.heap.size w0 w':=by
 have HH:=aab H
 clear H
 go_enter Tryz.func286,Tryz.ntmps286
 go_wp2_with fail
 refine(unhide HH).mono ?_
 rintro e w1 ⟨rfl,hb⟩
 go_wp2
 exact⟨rfl,rfl,hb⟩
theorem aiS(w0 w:World)(l:List UInt8)(O:Value)(v:List It)(n:Nat)(hn:¬n≤14)
  (H:Calls Tryz.prog 114 #[.pointer (some ⟨w0.heap.size,0,none⟩)] w fun e w'=>e=.returned (.int .i64 n)∧RS w0 w' l O v∧Wk w0.heap.size O O w w') :
  Calls Tryz.prog 286 #[.pointer (some ⟨w0.heap.size,0,none⟩)] w fun e w'=>e=aaf 6 0∧Below w0.heap.size w0 w':=by
 have HH:=aab H
 have h14:(14:Int)<(n:Int):=by omega
 clear H hn
 go_enter Tryz.func286,Tryz.ntmps286
 go_wp2_with fail
 refine(unhide HH).mono ?_
 rintro e w1 ⟨rfl,hrs,_⟩
 have hb:=hrs.below
 have HR:=aab (aaG w0.heap.size l O w1 hrs.rd)
 clear hrs
 go_wp2_with fail
 refine(unhide HR).mono ?_
 rintro e w2 ⟨rfl,rfl⟩
 go_wp2
 exact⟨rfl,rfl,hb⟩
theorem agS(w0 w:World)(l:List UInt8)(O:Value)(v:List It)(n:Nat)(hn:n≤14)(hs:¬n≤l.length)
  (H:Calls Tryz.prog 114 #[.pointer (some ⟨w0.heap.size,0,none⟩)] w fun e w'=>e=.returned (.int .i64 n)∧RS w0 w' l O v∧Wk w0.heap.size O O w w') :
  Calls Tryz.prog 286 #[.pointer (some ⟨w0.heap.size,0,none⟩)] w fun e w'=>e=aaf 6 0∧Below w0.heap.size w0 w':=by
 have HH:=aab H
 have h14:¬(14:Int)<(n:Int):=by omega
 clear H
 go_enter Tryz.func286,Tryz.ntmps286
 go_wp2_with fail
 refine(unhide HH).mono ?_
 rintro e w1 ⟨rfl,hrs,_⟩
 have hb:=hrs.below
 have HT:=aab (adP w0.heap.size l O n w1 hrs.rd hs)
 clear hrs
 go_wp2_with fail
 refine(unhide HT).mono ?_
 rintro e w2 ⟨rfl,hb2⟩
 go_wp2
 exact⟨rfl,rfl,hb.trans (hb2.mono hb.size)⟩
end Go.Proofs.YtblomippkddgiaaGreatDoor.V
