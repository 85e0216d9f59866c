import Derived.Test.YtblomippkddgiaaGreatDoorRows
import Derived.WalkKit
import Derived.WalkSpells
import Derived.WalkLawsBesides
import Derived.BigQuiet
import Derived.Deep.QuietTactic
namespace Go.Proofs.YtblomippkddgiaaGreatDoor
open Go.RowKit
abbrev Aa:=World
abbrev Ab:=ByteArray
abbrev Ac:=List UInt8
abbrev Ad:=Value
abbrev Ae:=List Value
abbrev Af:=Option Addr
abbrev Ag:=TypeId
abbrev Ah:=@List.getElem?_eq_getElem
abbrev Ai:=@Nat.lt_of_lt_of_le
abbrev Aj:=@Or.inl
abbrev Al:=@List.setIfInBounds_toArray
abbrev Am:=@Or.inr
abbrev Ao:=@if_neg
abbrev Ap:=@List.mem_of_getElem?
abbrev Aq:=@List.getElem_cons_zero
abbrev Ar:=@Nat.le_refl
abbrev Au:=@List.getElem_cons_succ
abbrev Av:=@List.set_cons_zero
abbrev Ax:=@List.set_cons_succ
abbrev Ay:=@if_pos
abbrev Az:=@List.getElem_toArray
abbrev AA:=@Below.refl
abbrev AB:=@Array.getElem?_eq_some_iff
abbrev AF:=@heap_alloc_new
abbrev AJ:=@List.length_append
abbrev AL:=@Below.heap_alloc
abbrev AO:=@List.getElem?_set_self
abbrev AP:=@World.cell?_setCell_other
abbrev AQ:=@wpList_append_own_at
abbrev AR:=@World.cell?_of_block
abbrev AU:=@Below.heap_setCell
abbrev AV:=@Nat.zero_le
abbrev AX:=@List.length_map
abbrev AY:=@Int.toNat_natCast
abbrev AZ:=@World.ownsRow_nil
abbrev A1:=@info_parts
abbrev A4:=@List.length_cons
abbrev A5:=@List.set_set
abbrev A6:=@List.getElem?_append_left
abbrev A7:=@List.take_of_length_le
abbrev A8:=@World.frozen?_of_block
abbrev A9:=@List.length_drop
abbrev Ba:=@World.ownsRow.lt
abbrev Bb:=@World.cell?_alloc_new
abbrev Bc:=@Addr.add_lit
abbrev Be:=@List.getElem?_replicate
abbrev Bf:=@List.getElem?_set
abbrev Bg:=@List.mem_singleton
abbrev Bh:=@List.take_add_one
abbrev Bi:=@List.getElem?_eq_some_iff
abbrev Bj:=@List.mem_append
abbrev Bm:=@bodyPost_ret
abbrev Bp:=@List.mem_iff_getElem?
abbrev Bq:=@List.getElem?_append_right
abbrev Br:=@Nat.le_trans
abbrev Bs:=@List.append_assoc
abbrev Bu:=@List.getD_eq_getElem?_getD
abbrev Bv:=@List.length_take
abbrev Bw:=@Option.getD_some
abbrev Bz:=@Array.getElem?_push_size
abbrev BA:=@List.eq_nil_of_length_eq_zero
abbrev BB:=@List.cons_append
abbrev BF:=@List.ext_getElem?
abbrev BG:=@List.length_set
abbrev BH:=@Bool.eq_iff_iff
abbrev BI:=@List.getElem?_take
abbrev BJ:=@List.mem_or_eq_of_mem_set
abbrev BK:=@Int.le_refl
abbrev BL:=@Nat.mul_le_mul_right
abbrev BM:=@List.getElem?_eq_none
abbrev BN:=@List.length_replicate
abbrev BO:=@Array.length_toList
abbrev BP:=@List.getElem?_map
abbrev BQ:=@List.mem_cons_of_mem
abbrev BR:=@trivial
abbrev BS:=@IntKind.wrap_i64
abbrev BU:=@World.cell?_setCell_same
abbrev BV:=@List.replicate_succ
abbrev BZ:=@Nat.mul_comm
abbrev B6:=@List.length_eq_zero_iff
abbrev Ca:=@Int.tmod_eq_emod_of_nonneg
abbrev Cb:=@List.append_nil
abbrev Cc:=@List.nil_append
abbrev Ce:=@Option.map_some
abbrev Cg:=@List.length_pos_iff
abbrev Ch:=@List.take_append_of_le_length
abbrev Ci:=@List.flatMap_cons
abbrev Cj:=@List.mem_of_mem_eraseIdx
abbrev Ck:=@World.setCell_alloc_past
abbrev Cm:=@Option.toList_some
abbrev Cn:=@List.getElem?_drop
abbrev Co:=@List.mem_cons_self
abbrev Cp:=@List.findIdx?_eq_some_iff_getElem
abbrev Cq:=@List.map_cons
abbrev Cr:=@Nat.zero_add
abbrev Cs:=@of_decide_eq_true
abbrev Ct:=@Nat.min_eq_left
abbrev Cu:=@List.range_succ
abbrev Cv:=@Array.getElem?_modify
abbrev Cw:=@List.take_length
abbrev Cx:=@World.size_alloc
abbrev Cy:=@List.mem_map
abbrev Cz:=@Nat.add_zero
abbrev CB:=@List.mem_of_mem_take
abbrev CF:=@List.drop_drop
abbrev CG:=@congrArg
abbrev CH:=@ByteArray.toList_eq
abbrev CJ:=@ByteArray.ext
abbrev CK:=@List.getElem_mem
abbrev CL:=@List.all_eq_true
abbrev CM:=@Int.tdiv_eq_ediv_of_nonneg
abbrev CO:=@List.getElem?_toArray
abbrev CP:=@List.length_singleton
abbrev CQ:=@if_true
abbrev CR:=@Nat.lt_or_ge
abbrev CS:=@Nat.pow_le_pow_right
abbrev CU:=@List.map_nil
abbrev CV:=@List.foldl_append
abbrev CW:=@World.ownsRow_lit
abbrev CX:=@List.mem_cons
abbrev CY:=@List.drop_append_of_le_length
abbrev CZ:=@Nat.sub_self
abbrev C3:=@List.mem_replicate
abbrev C4:=@List.map_set
abbrev C5:=@run_convert_bytes_back
abbrev C6:=@run_string_add_sum
abbrev C8:=@List.map_append
abbrev C9:=@List.foldl_cons
abbrev Da:=@List.take_append_drop
abbrev Db:=@decide_eq_true_eq
abbrev Dc:=@Go.WideMaps.keyOf_string_mk
abbrev De:=@List.drop_zero
abbrev Df:=@List.getElem?_modify
abbrev Dg:=@size_madeCells
abbrev Dh:=@wp_region_list
abbrev Di:=@Option.bind_some
abbrev Dj:=@Int.le_trans
abbrev Dk:=@Bool.and_eq_true
abbrev Dl:=@List.drop_eq_getElem_cons
abbrev Dm:=@List.findIdx?_eq_none_iff
abbrev Dn:=@List.mem_filter
abbrev Dp:=@List.findIdx?_cons
abbrev Dq:=@BitVec.toNat_ofNat
abbrev Dr:=@World.size_setCell
abbrev Dt:=@Nat.zero_mul
abbrev Du:=@Nat.succ_mul
end Go.Proofs.YtblomippkddgiaaGreatDoor
namespace Go.Proofs.YtblomippkddgiaaGreatDoor
open Go.RowKit
variable {a xs:Array Value}{E:Ending}{k k2 o o2 s:Nat}{P p0 p1 p2 p3 p4:Prop}{t:TypeId}{u v v2 x:Value}{w w2:World}
abbrev Z(n:Int):Value:=.int .i64 n
abbrev Y(b o:Nat):Addr:=⟨b,o,none⟩
abbrev EJ(b n c:Nat):Value:=.slice (some ⟨b,0,none⟩) n c
abbrev EB(w:Aa)(b o:Nat)(v:Ad):Prop:=w.cell? ⟨b,o,none⟩=some v
abbrev ET:=Calls Tryz.prog
abbrev D7(n:Nat)(a:Array Value)(w:Aa)(x:Ad)(P:World->Prop):Prop:=Calls Tryz.prog n a w λe w'=>e=.returned x/\P w'
abbrev DY(w w':Aa):Prop:=Below w.heap.size w w'
abbrev Ep:Value:=.tuple #[]
theorem U(h:P:=by omega):P:=h
theorem Em(h:P:=by decide):P:=h
theorem EL(h:P:=by kernel_rfl):P:=h
theorem Ev(h:P:=by simp):P:=h
theorem Fy(h:P:=by simp;omega):P:=h
theorem sto(h:P:=by simp;try omega):P:=h
theorem JG(h:P:=by unfold maxLen;omega):P:=h
theorem Kx(h:P:=by decide +kernel):P:=h
theorem sow(h:P:=by simp[Value.ownBlock]):P:=h
theorem Vd(h:P:=by simp[Value.oneCell']):P:=h
theorem Vb(h:P:=by simp[go_sem]):P:=h
theorem Iz(h:P:=by rw[BS];omega):P:=h
theorem Kc(h:P:=by go_num):P:=h
theorem Ky(h:P:=by rfl):P:=h
theorem NU(h:P:=by unfold wrap64;omega):P:=h
theorem F9{o:Obj}:Below w.heap.size w (w.alloc o):=(AA _ _).alloc (Ar _) _
theorem NV{P:Program}{g:Region.Mode}{f:Array Oper}{Q:Exit->Act->World->Prop}(i:Nat){j:Oper}{fuel:Nat}{e l':Array Bool}{a m:Act}(hi:f[i]?=some j:=by rfl)
  (O:Region.noSelect f=true:=by kernel_rfl) (D:Region.free g f e i=true:=by kernel_rfl) (M:(Region.ready g f e).contains i=true:=by kernel_rfl)
  (y:∀c a w,Q (.panic c) (a.put j.dst v) w->Q (.panic c) a w:=by exact λ_ _ _ h=>h) (T:Yields P f j v a:=by(refine Aj ⟨by rfl,?_⟩;intro w;go_simp;try with_reducible rfl))
  (hl:e.setIfInBounds i true=l':=by(try simp only[Al,Av,Ax]);try rfl)
  (B:a.put j.dst v=m:=by(try simp only[Act.put,Al,Av,Ax,Az,Aq,Au]);try rfl)
  (h:wpAny P g f Q fuel l' m w):wpAny P g f Q (fuel+1) e a w:=
 wpAny_take hi O D M y T (by rw[hl,B];exact h)
theorem cm{P:Program}{f:FuncId}{A:World->Prop}{Q:Ending->World->Prop}(h:Calls P f a w λe g=>e=E/\A g)(k:∀g,A g->Q E g):Calls P f a w Q:=h.mono (by rintro e g ⟨j,h⟩;rw[j];exact k g h)
theorem cs{P:Program}{f:FuncId}{v:Aa}{Q:Ending->World->Prop}(h:Calls P f a w λe g=>e=E/\g=v)(k:Q E v):Calls P f a w Q:=h.mono (by rintro e g ⟨j,h⟩;rw[j,h];exact k)
theorem EI(h:w.heap[s]?=some (.cells xs t (0,0)))(o:Nat)(e:xs[o]?=some v:=by rfl):w.cell? ⟨s,o,none⟩=some v:=by
 simp[World.cell?,h,e]
theorem VL(h:w.heap[s]?=some (.cells xs t (0,0)))(i j:Nat)(hu:xs[i]?=some u:=by rfl)(e:xs[j]?=some v:=by rfl):w.cell? ⟨s,i,none⟩=some u/\w.cell? ⟨s,j,none⟩=some v:=⟨EI h i hu,EI h j e⟩
theorem TH(h:w.heap[s]?=some (.cells xs t (0,0)))(i j k:Nat)(hu:xs[i]?=some u:=by rfl)(e:xs[j]?=some v:=by rfl)(f:xs[k]?=some x:=by rfl):w.cell? ⟨s,i,none⟩=some u/\w.cell? ⟨s,j,none⟩=some v/\w.cell? ⟨s,k,none⟩=some x:=⟨EI h i hu,VL h j k e f⟩
theorem bC(h:w.heap[s]?=some (.cells xs t (0,0)))(i j k l m:Nat){y z:Ad}(hu:xs[i]?=some u:=by rfl)(e:xs[j]?=some v:=by rfl)(f:xs[k]?=some x:=by rfl)(g:xs[l]?=some y:=by rfl)(hz:xs[m]?=some z:=by rfl):w.cell? ⟨s,i,none⟩=some u/\w.cell? ⟨s,j,none⟩=some v/\w.cell? ⟨s,k,none⟩=some x/\w.cell? ⟨s,l,none⟩=some y/\w.cell? ⟨s,m,none⟩=some z:=⟨EI h i hu,EI h j e,TH h k l m f g hz⟩
theorem Yy(h:w.heap[s]?=some (.cells xs t (0,0))){a b c d e f g i j k:Ad}(m:xs[0]?=some a:=by rfl)(y:xs[1]?=some b:=by rfl)(B:xs[2]?=some c:=by rfl)(D:xs[3]?=some d:=by rfl)(M:xs[4]?=some e:=by rfl)(O:xs[5]?=some f:=by rfl)(Q:xs[6]?=some g:=by rfl)(T:xs[7]?=some i:=by rfl)(X:xs[8]?=some j:=by rfl)(h9:xs[9]?=some k:=by rfl):w.cell? ⟨s,0,none⟩=some a/\w.cell? ⟨s,1,none⟩=some b/\w.cell? ⟨s,2,none⟩=some c/\w.cell? ⟨s,3,none⟩=some d/\w.cell? ⟨s,4,none⟩=some e/\w.cell? ⟨s,5,none⟩=some f/\w.cell? ⟨s,6,none⟩=some g/\w.cell? ⟨s,7,none⟩=some i/\w.cell? ⟨s,8,none⟩=some j/\w.cell? ⟨s,9,none⟩=some k:=⟨EI h 0 m,EI h 1 y,EI h 2 B,EI h 3 D,EI h 4 M,bC h 5 6 7 8 9 O Q T X h9⟩
abbrev EN(w:Aa)(o:Nat):Addr:=⟨w.heap.size,o,none⟩
abbrev Kk(w w0:Aa)(o:Nat)(v:Ad):Prop:=w.cell? ⟨w0.heap.size,o,none⟩=some v
theorem FU(e:p0)(f:p1):Hid p0/\Hid p1:=⟨e,f⟩
theorem Ll(e:p0)(f:p1)(g:p2):Hid p0/\Hid p1/\Hid p2:=⟨e,f,g⟩
theorem bE(e:p0)(f:p1)(g:p2)(h:p3):Hid p0/\Hid p1/\Hid p2/\Hid p3:=⟨e,f,g,h⟩
theorem hd5(e:p0)(f:p1)(g:p2)(h:p3)(j:p4):Hid p0/\Hid p1/\Hid p2/\Hid p3/\Hid p4:=⟨e,f,g,h,j⟩
theorem hd6{e:Prop}(f:p0)(g:p1)(h:p2)(j:p3)(m:p4)(y:e):Hid p0/\Hid p1/\Hid p2/\Hid p3/\Hid p4/\Hid e:=⟨f,g,h,j,m,y⟩
abbrev zz(w:Aa):Nat:=w.heap.size
theorem Gv(h:w.cell? ⟨k,o,none⟩=some v):k<w.heap.size:=by
 rcases CR k w.heap.size with e|e
 ·exact e
 ·simp[World.cell?,Array.getElem?_eq_none e]at h
theorem KM(h:w.cell? ⟨k,o,none⟩=some v)(e:w2.cell? ⟨k2,o2,none⟩=some v2):k<w.heap.size/\k2<w2.heap.size:=⟨Gv h,Gv e⟩
theorem Va{f:Aa}{e m:Nat}{y:Ad}(h:w.cell? ⟨k,o,none⟩=some v)(g:w2.cell? ⟨k2,o2,none⟩=some v2)(j:f.cell? ⟨e,m,none⟩=some y):k<w.heap.size/\k2<w2.heap.size/\e<f.heap.size:=⟨Gv h,Gv g,Gv j⟩
theorem GG{α:Type}{l:List α}{i:Nat}{x:α}(h:l[i]?=some x):i<l.length:=(Bi.1 h).1
theorem Kt(h:P:=by simp[intOf];omega):P:=h
theorem Ed{B:Nat}{u v:Aa}(h:Below B u v)(n:Nat):Below B u (v.drewN n):=⟨h.os,h.tape,h.output,h.size,h.block⟩
end Go.Proofs.YtblomippkddgiaaGreatDoor
