import Derived.Test.YtblomippkddgiabGreatDoorRows
import Derived.WalkKit
import Derived.WalkSpells
import Derived.WalkLawsBesides
import Derived.BigQuiet
import Derived.Deep.QuietTactic
import Derived.Below
import Derived.Carry
import Derived.ChangeOld
import Derived.Conc.LoneSelect
import Derived.Conc.SmallLaws
import Derived.Deep.Cut
import Derived.Deep.DeepHandedRow
import Derived.Deep.DeepWitnessRowRef
import Derived.Deep.MidRow
import Derived.Deep.RegionHeld3
import Derived.Deep.RegionLaw
import Derived.Deep.RegionWith
import Derived.Deep.SlicePairs
import Derived.Defers
import Derived.Handy
import Derived.KernelRfl
import Derived.LaidMore
import Derived.Laws.AppendOwnNone
import Derived.Laws.Closers25
import Derived.Laws.CopyOwn
import Derived.Laws.IdiomStrings
import Derived.Laws.MakeOwn
import Derived.Laws.OwnMore
import Derived.Laws.StructEq
import Derived.Lib.AppendStr
import Derived.Lib.BufferRead
import Derived.Lib.BufferWrite
import Derived.Lib.ConvBytes
import Derived.Lib.UnsafeStr
import Derived.Maps.AppendAt
import Derived.Maps.Ext
import Derived.Maps.OwnSet
import Derived.OpenShut
import Derived.ProofKit
import Derived.Recover
import Derived.ScopeJumps
import Derived.SevenTiedAt
import Derived.ShutString
import Derived.SizedLaws
import Derived.Stop.Joined
import Derived.StringKeys
import Derived.WalkMore
set_option maxRecDepth 100000
set_option maxHeartbeats 1000000
namespace Go.Proofs.YtblomippkddgiabGreatDoor
open RowKit
instance:CoeOut World Nat:=⟨λw=>w.heap.size⟩
instance{α:Type _}:CoeOut (List α) Nat:=⟨List.length⟩
instance{α:Type _}:CoeOut (Array α) Nat:=⟨Array.size⟩
instance:CoeOut ByteArray Nat:=⟨ByteArray.size⟩
abbrev Aa:=World
abbrev Ab:=ByteArray
abbrev Ac:=List UInt8
abbrev Ad:=Value
abbrev Ae:=List Value
abbrev Af:=Option Addr
abbrev Ag:=TypeId
theorem I{α:Sort _}{a:α}:a=a:=rfl
abbrev Ah:=@List.getElem?_eq_getElem
abbrev Ai:=@Nat.lt_of_lt_of_le
abbrev Aj:=@Or.inl
abbrev Am:=@Or.inr
abbrev Ao:=@if_neg
abbrev Ar:=@Nat.le_refl
abbrev Ap:=@List.mem_of_getElem?
abbrev Ay:=@if_pos
abbrev AA:=@Below.refl
abbrev AB:=@Array.getElem?_eq_some_iff
abbrev AF:=@heap_alloc_new
abbrev AJ:=@List.length_append
abbrev AL:=@Below.heap_alloc
abbrev AO:=@List.getElem?_set_self
abbrev AP:=@World.cell?_setCell_other
abbrev AQ:=@wpList_append_own_at
abbrev AU:=@Below.heap_setCell
abbrev AR:=@World.cell?_of_block
abbrev AV:=@Nat.zero_le
abbrev AX:=@List.length_map
abbrev Al:=@List.setIfInBounds_toArray
abbrev AY:=@Int.toNat_natCast
abbrev AZ:=@World.ownsRow_nil
abbrev A5:=@List.set_set
abbrev A7:=@List.take_of_length_le
abbrev A1:=@info_parts
abbrev A4:=@List.length_cons
abbrev Av:=@List.set_cons_zero
abbrev Ax:=@List.set_cons_succ
abbrev A9:=@List.length_drop
abbrev Bf:=@List.getElem?_set
abbrev Be:=@List.getElem?_replicate
abbrev A6:=@List.getElem?_append_left
abbrev A8:=@World.frozen?_of_block
abbrev Ba:=@World.ownsRow.lt
abbrev Bb:=@World.cell?_alloc_new
abbrev Bc:=@Addr.add_lit
abbrev Bg:=@List.mem_singleton
abbrev Bh:=@List.take_add_one
abbrev Bp:=@List.mem_iff_getElem?
abbrev Bm:=@bodyPost_ret
abbrev Bi:=@List.getElem?_eq_some_iff
abbrev Bj:=@List.mem_append
abbrev Bu:=@List.getD_eq_getElem?_getD
abbrev Bq:=@List.getElem?_append_right
abbrev Br:=@Nat.le_trans
abbrev Bs:=@List.append_assoc
abbrev Bv:=@List.length_take
abbrev Aq:=@List.getElem_cons_zero
abbrev Au:=@List.getElem_cons_succ
abbrev Bw:=@Option.getD_some
abbrev BG:=@List.length_set
abbrev BF:=@List.ext_getElem?
abbrev Bz:=@Array.getElem?_push_size
abbrev Az:=@List.getElem_toArray
abbrev BA:=@List.eq_nil_of_length_eq_zero
abbrev BP:=@List.getElem?_map
abbrev BN:=@List.length_replicate
abbrev BI:=@List.getElem?_take
abbrev BH:=@Bool.eq_iff_iff
abbrev BJ:=@List.mem_or_eq_of_mem_set
abbrev BB:=@List.cons_append
abbrev BM:=@List.getElem?_eq_none
abbrev BK:=@Int.le_refl
abbrev BL:=@Nat.mul_le_mul_right
abbrev BO:=@Array.length_toList
abbrev BQ:=@List.mem_cons_of_mem
abbrev Cb:=@List.append_nil
abbrev Ce:=@Option.map_some
abbrev BR:=@trivial
abbrev BS:=@IntKind.wrap_i64
abbrev BU:=@World.cell?_setCell_same
abbrev BV:=@List.replicate_succ
abbrev BZ:=@Nat.mul_comm
abbrev B6:=@List.length_eq_zero_iff
abbrev Cn:=@List.getElem?_drop
abbrev Ca:=@Int.tmod_eq_emod_of_nonneg
abbrev Cc:=@List.nil_append
abbrev CQ:=@if_true
abbrev Cg:=@List.length_pos_iff
abbrev Ch:=@List.take_append_of_le_length
abbrev Ci:=@List.flatMap_cons
abbrev Cj:=@List.mem_of_mem_eraseIdx
abbrev Ck:=@World.setCell_alloc_past
abbrev Cr:=@Nat.zero_add
abbrev Cm:=@Option.toList_some
abbrev Co:=@List.mem_cons_self
abbrev Cp:=@List.findIdx?_eq_some_iff_getElem
abbrev Cq:=@List.map_cons
abbrev Cy:=@List.mem_map
abbrev Cs:=@of_decide_eq_true
abbrev CG:=@congrArg
abbrev Ct:=@Nat.min_eq_left
abbrev Cu:=@List.range_succ
abbrev Cv:=@Array.getElem?_modify
abbrev Cw:=@List.take_length
abbrev Cx:=@World.size_alloc
abbrev Cz:=@Nat.add_zero
abbrev CB:=@List.mem_of_mem_take
abbrev CF:=@List.drop_drop
abbrev CS:=@Nat.pow_le_pow_right
abbrev CH:=@ByteArray.toList_eq
abbrev CJ:=@ByteArray.ext
abbrev CK:=@List.getElem_mem
abbrev CL:=@List.all_eq_true
abbrev C3:=@List.mem_replicate
abbrev CM:=@Int.tdiv_eq_ediv_of_nonneg
abbrev CP:=@List.length_singleton
abbrev CO:=@List.getElem?_toArray
abbrev CR:=@Nat.lt_or_ge
abbrev CV:=@List.foldl_append
abbrev CU:=@List.map_nil
abbrev C4:=@List.map_set
abbrev CW:=@World.ownsRow_lit
abbrev agv:=@if_false
abbrev CX:=@List.mem_cons
abbrev Dh:=@wp_region_list
abbrev CY:=@List.drop_append_of_le_length
abbrev CZ:=@Nat.sub_self
abbrev C5:=@run_convert_bytes_back
abbrev C6:=@run_string_add_sum
abbrev C9:=@List.foldl_cons
abbrev C8:=@List.map_append
abbrev Da:=@List.take_append_drop
abbrev Db:=@decide_eq_true_eq
abbrev Dc:=@Go.WideMaps.keyOf_string_mk
abbrev De:=@List.drop_zero
abbrev Df:=@List.getElem?_modify
abbrev Dg:=@size_madeCells
abbrev Di:=@Option.bind_some
abbrev Dk:=@Bool.and_eq_true
abbrev Dl:=@List.drop_eq_getElem_cons
abbrev Dm:=@List.findIdx?_eq_none_iff
abbrev Dn:=@List.mem_filter
abbrev Dp:=@List.findIdx?_cons
abbrev agx:=@Bool.false_eq_true
abbrev Dq:=@BitVec.toNat_ofNat
abbrev Dr:=@World.size_setCell
abbrev Dt:=@Nat.zero_mul
abbrev Du:=@Nat.succ_mul
abbrev Dj:=@Int.le_trans
open RowKit Go.Proofs.Tryz
variable {xs:Array Value}{a c:BitVec 16}{E:Ending}{n:Int}{l r:List UInt8}{B b fuel i k k2 k3 o o2 o3 s:Nat}{P p0 p1 p2 p3 p4 p5:Prop}{t:TypeId}{d e f g j u v v2 v3 x y z:Value}{w w' w2 w3:World}
abbrev Z(n:Int):Value:=.int .i64 n
abbrev Y(b o:Nat):Addr:=⟨b,o,none⟩
abbrev EJ(b n c:Nat):Value:=.slice (some ⟨b,0,none⟩) n c
abbrev EB(w:Aa)(b o:Nat)(v:Ad):Prop:=w.cell? ⟨b,o,none⟩=v
abbrev ET:=Calls Tryz.prog
abbrev D7(n:Nat)(a:Array Value)(w:Aa)(x:Ad)(P:World->Prop):Prop:=Calls Tryz.prog n a w λe w'=>e=.returned x/\P w'
abbrev DY(w w':Aa):Prop:=Below w w w'
abbrev Dy(w:Aa)(b:Nat)(c:Array Value)(t:Ag):Prop:=w.heap[b]?=some (.cells c t)
abbrev Dz:Value:=.slice none 0 0
abbrev DG(w:Aa)(o:Nat):Addr:=⟨w+1,o,none⟩
abbrev DC:Value:=.bool true
abbrev DI:Value:=.bool false
abbrev DJ(w:Aa)(b o:Nat):Prop:=w.frozen? ⟨b,o,none⟩=false
theorem DK{α:Type}{a:α}:∃x,a=x:=⟨_,rfl⟩
theorem DR{α:Type}{a:α}:∃x,x=a:=⟨_,rfl⟩
theorem DN{α β:Type}{a:α}{b:β}:a=a/\b=b:=⟨rfl,rfl⟩
abbrev Ep:Value:=.tuple #[]
theorem U(h:P:=by omega):P:=h
theorem Em(h:P:=by decide):P:=h
theorem EL(h:P:=by kernel_rfl):P:=h
theorem Ev(h:P:=by simp):P:=h
theorem Fy(h:P:=by simp;omega):P:=h
theorem DX(h:P:=by simp;try omega):P:=h
theorem JG(h:P:=by unfold maxLen;omega):P:=h
theorem Kx(h:P:=by decide +kernel):P:=h
theorem Gn(h:P:=by simp[Value.ownBlock]):P:=h
theorem Vd(h:P:=by simp[Value.oneCell']):P:=h
theorem Vb(h:P:=by simp[go_sem]):P:=h
theorem Iz(h:P:=by rw[BS];omega):P:=h
theorem Kc(h:P:=by go_num):P:=h
theorem Ky(h:P:=by rfl):P:=h
theorem NU(h:P:=by unfold wrap64;omega):P:=h
theorem F9{o:Obj}:Below w w (w.alloc o):=(AA _ _).alloc (Ar _) _
theorem NV{P:Program}{e:Region.Mode}{d:Array Oper}{Q:Exit->Act->World->Prop}(i:Nat){f:Oper}{b l':Array Bool}{a g:Act}(hi:d[i]?=some f:=by rfl)
  (n:Region.noSelect d=true:=by kernel_rfl) (l:Region.free e d b i=true:=by kernel_rfl) (m:(Region.ready e d b).contains i=true:=by kernel_rfl)
  (j:∀c a w,Q (.panic c) (a.put f.dst v) w->Q (.panic c) a w:=by exact λ_ _ _ h=>h) (o:Yields P d f v a:=by(refine Aj ⟨by rfl,?_⟩;intro w;go_simp;try with_reducible rfl))
  (hl:b.setIfInBounds i true=l':=by(try simp only[Al,Av,Ax]);try rfl)
  (k:a.put f.dst v=g:=by(try simp only[Act.put,Al,Av,Ax,Az,Aq,Au]);try rfl)
  (h:wpAny P e d Q fuel l' g w):wpAny P e d Q (fuel+1) b a w:=
 wpAny_take hi n l m j o (by rw[hl,k];exact h)
theorem cm{P:Program}{f:FuncId}{a:Array Value}{A:World->Prop}{Q:Ending->World->Prop}(h:Calls P f a w λe b=>e=E/\A b)(k:∀b,A b->Q E b):Calls P f a w Q:=h.mono (by rintro e b ⟨c,h⟩;rw[c];exact k b h)
theorem cs{P:Program}{f:FuncId}{a:Array Value}{v:Aa}{Q:Ending->World->Prop}(h:Calls P f a w λe b=>e=E/\b=v)(k:Q E v):Calls P f a w Q:=h.mono (by rintro e b ⟨c,h⟩;rw[c,h];exact k)
theorem EI(h:w.heap[s]?=some (.cells xs t (0,0)))(o:Nat)(a:xs[o]?=some v:=by rfl):w.cell? ⟨s,o,none⟩=some v:=by
 simp[World.cell?,h,a]
theorem VL(h:w.heap[s]?=some (.cells xs t (0,0)))(i j:Nat)(hu:xs[i]?=some u:=by rfl)(a:xs[j]?=some v:=by rfl):w.cell? ⟨s,i,none⟩=some u/\w.cell? ⟨s,j,none⟩=some v:=⟨EI h i hu,EI h j a⟩
theorem TH(h:w.heap[s]?=some (.cells xs t (0,0)))(i j k:Nat)(hu:xs[i]?=some u:=by rfl)(a:xs[j]?=some v:=by rfl)(b:xs[k]?=some x:=by rfl):w.cell? ⟨s,i,none⟩=some u/\w.cell? ⟨s,j,none⟩=some v/\w.cell? ⟨s,k,none⟩=some x:=⟨EI h i hu,VL h j k a b⟩
theorem bC(h:w.heap[s]?=some (.cells xs t (0,0)))(i j k l m:Nat)(hu:xs[i]?=some u:=by rfl)(a:xs[j]?=some v:=by rfl)(b:xs[k]?=some x:=by rfl)(c:xs[l]?=some y:=by rfl)(hz:xs[m]?=some z:=by rfl):w.cell? ⟨s,i,none⟩=some u/\w.cell? ⟨s,j,none⟩=some v/\w.cell? ⟨s,k,none⟩=some x/\w.cell? ⟨s,l,none⟩=some y/\w.cell? ⟨s,m,none⟩=some z:=⟨EI h i hu,EI h j a,TH h k l m b c hz⟩
theorem Yy(h:w.heap[s]?=some (.cells xs t (0,0))){a b c i k:Ad}(l:xs[0]?=some a:=by rfl)(m:xs[1]?=some b:=by rfl)(n:xs[2]?=some c:=by rfl)(o:xs[3]?=some d:=by rfl)(p:xs[4]?=some e:=by rfl)(q:xs[5]?=some f:=by rfl)(r:xs[6]?=some g:=by rfl)(u:xs[7]?=some i:=by rfl)(v:xs[8]?=some j:=by rfl)(x:xs[9]?=some k:=by rfl):w.cell? ⟨s,0,none⟩=some a/\w.cell? ⟨s,1,none⟩=some b/\w.cell? ⟨s,2,none⟩=some c/\w.cell? ⟨s,3,none⟩=some d/\w.cell? ⟨s,4,none⟩=some e/\w.cell? ⟨s,5,none⟩=some f/\w.cell? ⟨s,6,none⟩=some g/\w.cell? ⟨s,7,none⟩=some i/\w.cell? ⟨s,8,none⟩=some j/\w.cell? ⟨s,9,none⟩=some k:=⟨EI h 0 l,EI h 1 m,EI h 2 n,EI h 3 o,EI h 4 p,bC h 5 6 7 8 9 q r u v x⟩
abbrev EN(w:Aa)(o:Nat):Addr:=⟨w,o,none⟩
abbrev Kk(w w0:Aa)(o:Nat)(v:Ad):Prop:=w.cell? ⟨w0,o,none⟩=v
theorem FU(a:p0)(b:p1):Hid p0/\Hid p1:=⟨a,b⟩
theorem Ll(a:p0)(b:p1)(c:p2):Hid p0/\Hid p1/\Hid p2:=⟨a,b,c⟩
theorem bE(a:p0)(b:p1)(c:p2)(d:p3):Hid p0/\Hid p1/\Hid p2/\Hid p3:=⟨a,b,c,d⟩
theorem Eo(a:p0)(b:p1)(c:p2)(d:p3)(e:p4):Hid p0/\Hid p1/\Hid p2/\Hid p3/\Hid p4:=⟨a,b,c,d,e⟩
theorem Zi(a:p0)(b:p1)(c:p2)(d:p3)(e:p4)(f:p5):Hid p0/\Hid p1/\Hid p2/\Hid p3/\Hid p4/\Hid p5:=⟨a,b,c,d,e,f⟩
abbrev zz(w:Aa):Nat:=w
theorem Gv(h:w.cell? ⟨k,o,none⟩=v):k<w:=by
 rcases CR k w.heap.size with a|a
 .exact a
 .simp[World.cell?,Array.getElem?_eq_none a]at h
theorem KM(h:w.cell? ⟨k,o,none⟩=v)(a:w2.cell? ⟨k2,o2,none⟩=v2):k<w/\k2<w2:=⟨Gv h,Gv a⟩
theorem Va(h:w.cell? ⟨k,o,none⟩=v)(a:w2.cell? ⟨k2,o2,none⟩=v2)(b:w3.cell? ⟨k3,o3,none⟩=v3):k<w/\k2<w2/\k3<w3:=⟨Gv h,Gv a,Gv b⟩
theorem GG{α:Type}{l:List α}{x:α}(h:l[i]?=x):i<l:=(Bi.1 h).1
theorem Kt(h:P:=by simp[intOf];omega):P:=h
theorem Ed{u v:Aa}(h:Below B u v)(n:Nat):Below B u (v.drewN n):=⟨h.os,h.tape,h.output,h.size,h.block⟩
def mT:BitVec 16:=0x8005#16
def mv(w:BitVec 16):BitVec 16:=if w.msb then (w <<< 1) ^^^ mT else w <<< 1
def Yo(w:BitVec 16)(m:Bool):BitVec 16:=if (w.msb ^^ m) then (w <<< 1) ^^^ mT else w <<< 1
def high(b:UInt8):BitVec 16:=BitVec.ofNat 16 (b.toNat*256)
def xZ:Nat->BitVec 16->BitVec 16
 |0,w=>w
 |n+1,w=>xZ n (mv w)
def WQ(w:BitVec 16)(b:UInt8):BitVec 16:=xZ 8 (w ^^^ high b)
def P8(w:BitVec 16)(l:Ac):BitVec 16:=l.foldl WQ w
def jr(l:Ac):BitVec 16:=P8 0 l
theorem KZ{b:BitVec 16}(h:a ^^^ c=b ^^^ c):a=b:=by
 have d:=CG (· ^^^ c) h
 grind [BitVec.xor_assoc,BitVec.xor_self]
theorem Sy{b:BitVec 16}(h:c ^^^ a=c ^^^ b):a=b:=by grind [BitVec.xor_comm,KZ]
theorem aao(a:BitVec 16):(a <<< 1).getLsbD 0=false:=Ev
theorem aan{b:BitVec 16}(d:a.msb=b.msb)(h:a <<< 1=b <<< 1):a=b:=by
 apply BitVec.eq_of_getLsbD_eq;intro i hi;by_cases c:i=15
 .grind
 .have:=CG (·.getLsbD (i+1)) h
  grind
theorem adl{b:BitVec 16}(h:mv a=mv b):a=b:=by
 unfold mv at h;have c:mT.getLsbD 0=true:=Em
 grind [aao,aan,KZ]
theorem jR:∀(n:Nat) {a b:BitVec 16},xZ n a=xZ n b->a=b:=by
 intro n;induction n with
 |zero=>intro a b h;exact h
 |succ n ih=>intro a b h;exact adl (ih h)
theorem rZ{a b:UInt8}(h:high a=high b):a=b:=by
 have:=CG BitVec.toNat h;unfold high at this;rw[Dq,Dq]at this;have c:=a.toNat_lt;have d:=b.toNat_lt;apply UInt8.toNat_inj.1;omega
theorem YA:∀(l:Ac) {a b:BitVec 16},P8 a l=P8 b l->a=b:=by
 intro l;induction l with
 |nil=>intro a b h;exact h
 |cons x l ih=>
  intro a b h;have c:=ih h;exact KZ (jR 8 c)
theorem qZ(p q:Ac)(a b:UInt8)(h:a≠b):jr (p++a :: q)≠jr (p++b :: q):=by
 intro e;unfold jr P8 at e;rw[CV,CV,C9,C9]at e;have c:=YA q e;exact h (rZ (Sy (jR 8 c)))
theorem adk(R x:BitVec 16):mv (R ^^^ x)=Yo R x.msb ^^^ (x <<< 1):=by grind [mv,Yo]
def jh(b:UInt8)(k:Nat):Bool:=(high b).getMsbD k
def Ty(R:BitVec 16)(b:UInt8):Nat->BitVec 16
 |0=>R
 |k+1=>Yo (Ty R b k) (jh b k)
theorem Zl(n:Nat)(w:BitVec 16):xZ (n+1) w=mv (xZ n w):=by
 induction n generalizing w with
 |zero=>rfl
 |succ n ih=>exact ih (mv w)
theorem tO(R:BitVec 16)(b:UInt8):∀k,xZ k (R ^^^ high b)=Ty R b k ^^^ (high b <<< k):=by
 intro k;induction k with
 |zero=>simp[xZ,Ty]
 |succ k ih=>grind [Zl,adk,jh,BitVec.getMsbD_shiftLeft,Ty,BitVec.shiftLeft_add]
theorem Yp(R:BitVec 16)(b:UInt8):WQ R b=Ty R b 8:=by
 unfold WQ;rw[tO];have:high b <<< 8=0#16:=by
  apply BitVec.eq_of_toNat_eq;unfold high
  grind [Nat.shiftLeft_eq]
 rw[this,BitVec.xor_zero]
def Ql(l:Ac)(i:Nat):Bool:=match l[i / 8]? with
 |some b=>jh b (i % 8)
 |none=>false
def reg(m:Nat->Bool):Nat->BitVec 16
 |0=>0
 |i+1=>Yo (reg m i) (m i)
theorem zQ(l:Ac):∀j,j<=l.length->reg (Ql l) (8*j)=jr (l.take j):=by
 intro j;induction j with
 |zero=>intro _;rfl
 |succ j ih=>
  intro d;obtain⟨b,c⟩:∃b,l[j]?=some b:=⟨_,Ah U⟩;have a:∀k,k<=8->reg (Ql l) (8*j+k)=Ty (reg (Ql l) (8*j)) b k:=by
   intro k;induction k with
   |zero=>intro _;rfl
   |succ k ihk=>grind [reg,Ql,Ty]
  grind [Yp,jr,P8,List.take_add_one]
theorem zP(l:Ac):reg (Ql l) (8*l)=jr l:=by grind [zQ]
def JL(m:Nat->Bool)(i k:Nat):Bool:=m k ^^ (reg m i).getMsbD (k-i)
theorem dm(m:Nat->Bool)(k:Nat):JL m 0 k=m k:=by
 unfold JL reg;simp
def Og(d:Nat):Bool:=d==0 || d==1 || d==14 || d==16
theorem uB(d:Nat):mT.getMsbD d=(d==0 || d==13 || d==15):=by
 by_cases h:d<16
 .have:∀d,d<16->mT.getMsbD d=(d==0 || d==13 || d==15):=Em;exact this d h
 grind
theorem TG(m:Nat->Bool)(hk:i<k):JL m (i+1) k=(JL m i k ^^ (JL m i i&&Og (k-i))):=by
 have b:JL m i i=(m i ^^ (reg m i).msb):=by
  unfold JL;rw[CZ];rfl
 rw[b];unfold JL;have a:(reg m (i+1)).getMsbD (k-(i+1))=((reg m i).getMsbD (k-i) ^^ ((m i ^^ (reg m i).msb)&&Og (k-i))):=by grind [Yo,reg,Og,uB,BitVec.getMsbD_xor]
 rw[a,<-Bool.xor_assoc]
theorem Dx{p:Prop}(h:p):Hid p:=h
theorem Dw{p:Prop}(h:Hid p):p:=h
abbrev str(l:Ac):ByteArray:=⟨l.toArray⟩
theorem Er(l:Ac):(str l)=l.length:=by simp[ByteArray.size]
theorem wrap_u16(n:Int):IntKind.u16.wrap n=n % 65536:=by grind [IntKind.wrap,IntKind.bits,IntKind.signed]
theorem VZ(a:BitVec 16):BitVec.ofInt 16 a.toNat=a:=Ev
theorem cJ(a b:BitVec 16):bits .and .u16 a.toNat b.toNat=((a &&& b).toNat:Int):=by
 show IntKind.u16.wrap ((BitVec.ofInt 16 (a.toNat:Int) &&& BitVec.ofInt 16 (b.toNat:Int)).toNat:Int)=_
 grind [VZ,wrap_u16]
theorem Tz(a b:BitVec 16):bits .xor .u16 a.toNat b.toNat=((a ^^^ b).toNat:Int):=by
 show IntKind.u16.wrap ((BitVec.ofInt 16 (a.toNat:Int) ^^^ BitVec.ofInt 16 (b.toNat:Int)).toNat:Int)=_
 grind [VZ,wrap_u16]
theorem ae4(a:BitVec 16):IntKind.u16.wrap (a.toNat*2)=((a <<< 1).toNat:Int):=by grind [wrap_u16,Nat.shiftLeft_eq]
theorem msb_and(a:BitVec 16):(((a &&& 0x8000#16).toNat:Int)==0)=!a.msb:=by
 have b:(a &&& 0x8000#16)=if a.msb then 0x8000#16 else 0#16:=by
  apply BitVec.eq_of_getLsbD_eq;intro i hi;have hc:∀i,i<16->(0x8000#16).getLsbD i=(i==15):=Em
  grind
 rw[b];cases a.msb<;>rfl
theorem ff(x y z r:Int)(w:Aa)(b:bits .and .u16 x 32768=y)(c:(y==0)=false)(d:IntKind.u16.wrap (x*2)=z)(e:bits .xor .u16 z 32773=r):
  D7 247 #[.int .u16 x] w (.int .u16 r) λa=>a=w:=by
 delta D7
 go_in
 go_wp2
 go_ret
 exact DN
theorem Zj(x y z:Int)(w:Aa)(b:bits .and .u16 x 32768=y)(c:(y==0)=true)(d:IntKind.u16.wrap (x*2)=z):
  D7 247 #[.int .u16 x] w (.int .u16 z) λa=>a=w:=by
 delta D7
 go_in
 go_wp2
 go_ret
 exact DN
theorem fe(a:BitVec 16)(w:Aa):D7 247 #[.int .u16 a.toNat] w (.int .u16 ((mv a).toNat:Int)) λg=>g=w:=by
 have c:=cJ a 0x8000#16;have f:=Tz (a <<< 1) 0x8005#16;have b:=msb_and a;have d:=ae4 a;cases hm:a.msb with
 |true=>
  rw[hm]at b;have e:mv a=(a <<< 1) ^^^ mT:=by simp[mv,hm]
  rw[e];exact ff _ _ _ _ w c b d f
 |false=>
  rw[hm]at b;have e:mv a=(a <<< 1):=by simp[mv,hm]
  rw[e];exact Zj _ _ _ w c b d
theorem xW(a:BitVec 16)(c:Nat)(h:c<256):bits .xor .u16 a.toNat (c*256)=((a ^^^ BitVec.ofNat 16 (c*256)).toNat:Int):=by
 have e:((c:Int)*256)=((BitVec.ofNat 16 (c*256)).toNat:Int):=by
  rw[Dq];omega
 rw[e];exact Tz a _
theorem gY(S:Ab)(g:Nat->Int)(F:Nat->Nat->Int)(w:Aa)(y:S.size<=1000000)(g0:g 0=0)
  (d:∀j (h:j<S.size),bits .xor .u16 (g j) ((S[j].toNat)*256)=F j 0) (e:∀j,j<S.size->F j 8=g (j+1))
  (r:Hid (∀j k (w:Aa),D7 247 #[.int .u16 (F j k)] w (.int .u16 (F j (k+1))) λn=>n=w)) (t:0<=g S/\g S<65536):
  D7 212 #[.string S] w (Z (g S)) λn=>n=w:=by
 have⟨b,c,q⟩:=Ll d e t
 delta D7
 go_in
 go_wp2;go_loopw [3,7] (λp iv wr=>∃i:Nat,i<=S.size/\iv=Z i/\p=.int .u16 (g i)/\wr=w) (λ_ iv _=>S.size-(intOf iv).toNat)
 case atStart=>exact⟨0,AV _,I,by rw[g0],I⟩
 case round=>
  obtain⟨i,hi,rfl,rfl,rfl⟩:=hrel;by_cases a:i<S.size
  .have x:=b i a;have hc:=S[i].toNat_lt;have s:=Dx (c i a);go_wp2;go_loopw [3,17] (λp m o=>∃k:Nat,k<=8/\m=Z k/\p=.int .u16 (F i k)/\o=wr) (λ_ m _=>8-(intOf m).toNat)
   case atStart=>exact⟨0,AV _,I,I,I⟩
   case round=>
    obtain⟨k,hk,rfl,rfl,rfl⟩:=hrel;by_cases u:k<8
    .have v:(k:Int)<8:=U;go_wp2_with (go_at_call 247;refine cs (r _ _ _) ?_)
     go_roundw
     case rel=>exact⟨k+1,U,Kc,I,BR⟩
     case measure=>exact Kt
    .have l:k=8:=U;subst l;rw[Dw s];go_wp2;go_roundw
     case rel=>exact⟨i+1,U,Kc,I,BR⟩
     case measure=>exact Kt
  .have f:i=S.size:=U;subst f;have⟨n1,n2⟩:=Dw q;go_wp2
   go_ret
   exact DN
def xR(l:Ac)(j:Nat):Int:=((jr (l.take j)).toNat:Int)
def pN(l:Ac)(j k:Nat):Int:=match l[j]? with
 |some b=>((xZ k (jr (l.take j) ^^^ high b)).toNat:Int)
 |none=>((xZ k 0).toNat:Int)
theorem pO(l:Ac)(j k:Nat)(w:Aa):D7 247 #[.int .u16 (pN l j k)] w (.int .u16 (pN l j (k+1))) λa=>a=w:=by
 unfold pN;split;all_goals grind [Zl,fe]
theorem K8(l:Ac)(j:Nat)(h:j<(str l)):l[j]?=(str l)[j]:=by
 have hl:j<l.length:=by rw[Er]at h;exact h
 rw[Ah hl];rfl
theorem R0(l:Ac)(w:Aa)(hl:l.length<=1000000):D7 212 #[.string (str l)] w (Z ((jr l).toNat:Int)) λc=>c=w:=by
 have h:=gY (str l) (xR l) (pN l) w (by rw[Er];exact hl) I ?_ ?_ (Dx (pO l)) ?_
 .grind [xR,Er]
 .intro j b;have a:=K8 l j b;unfold xR pN;rw[a,xW _ _ (UInt8.toNat_lt _)];rfl
 .intro j b;have a:=K8 l j b;unfold pN xR;rw[a,Bh,a,Cm];show _=(((l.take j++[(str l)[j]]).foldl WQ 0).toNat:Int);rw[CV];rfl
 .unfold xR;have:=(jr (l.take (str l).size)).isLt;omega
structure Pk where
 J:Int
 f:Int
 b:Int
 H:Int
 a:Int
 c:Int
 Ez:Int
 off:Int
 e:Bool
 d:List UInt8
def Ju(p:Pk):Prop:=if p.J=1\/p.J=5 then (if p.Ez<p.off-1 then p.d.length=8 else p.d.length<=8) else p.d.length=0
instance (p:Pk):Decidable (Ju p):=by unfold Ju;infer_instance
def EC(p:Pk):Prop:=(1<=p.J/\p.J<=7)/\(0<=p.f/\p.f<=2)/\(1<=p.b/\p.b<=255)/\(0<=p.H/\p.H<=2)/\(1<=p.a/\p.a<=999)/\(1<=p.c/\p.c<=255)/\(1<=p.off/\p.off<=9)/\(0<=p.Ez/\p.Ez<=p.off-1)/\Ju p
instance (p:Pk):Decidable (EC p):=by unfold EC;infer_instance
theorem Mm{p:Pk}(h:EC p):p.d.length<=8:=by grind [EC,Ju]
def b8(n:Int):UInt8:=UInt8.ofNat n.toNat
theorem FP(a:0<=n)(b:n<=255):((b8 n).toNat:Int)=n:=by grind [b8,UInt8.toNat_ofNat_of_lt']
theorem bQ(c:UInt8):b8 c.toNat=c:=by
 unfold b8;simp
theorem qH{a b:Int}(a0:0<=a)(a1:a<=255)(b0:0<=b)(c:b<=255)(h:b8 a=b8 b):a=b:=by grind [FP]
def EU(n:Int):List UInt8:=[b8 (n / 256),b8 (n % 256)]
def E5(a c:UInt8):Int:=a.toNat*256+c.toNat
theorem Uo(a:0<=n)(b:n<=65535):E5 (b8 (n / 256)) (b8 (n % 256))=n:=by grind [E5,FP]
theorem xJ(a c:UInt8):EU (E5 a c)=[a,c]:=by
 unfold EU E5;have b:=a.toNat_lt;have hc:=c.toNat_lt
 grind [bQ]
theorem aP{a b:Int}(a0:0<=a)(a1:a<=65535)(b0:0<=b)(c:b<=65535)(h:EU a=EU b):a=b:=by
 unfold EU at h;simp only[List.cons.injEq,and_true]at h;have d:=qH U U U U h.1
 grind [qH]
def N3(b:Bool):Int:=if b then 1 else 0
def nums(p:Pk):List Int:=[p.J,p.f,p.b,p.H,p.a / 256,p.a % 256,p.c,p.Ez,p.off,N3 p.e,p.d]
def Ha(p:Pk):List UInt8:=(nums p).map b8++p.d
def Kb(l:Ac):Int:=((jr l).toNat:Int)
theorem Nt(l:Ac):0<=Kb l/\Kb l<=65535:=by
 unfold Kb;have:=(jr l).isLt;omega
def Gq(p:Pk):List UInt8:=Ha p++EU (Kb (Ha p))
theorem JZ(p:Pk):(Ha p)=11+p.d.length:=by
 unfold Ha nums;simp;omega
theorem J4(p:Pk):(Gq p)=13+p.d.length:=by grind [Gq,JZ,EU]
def GZ:List UInt8->Option (Pk×List UInt8)
 |k :: c :: li :: ln :: s1 :: s2 :: u :: pa :: o :: f :: L :: r=>
  if f.toNat<=1/\L.toNat<=r.length then some (⟨k.toNat,c.toNat,li.toNat,ln.toNat,E5 s1 s2,u.toNat,pa.toNat,o.toNat,(f.toNat:Int)==1,r.take L.toNat⟩,r.drop L.toNat) else none
 |_=>none
def Sp(l r:Ac):Option (List UInt8):=match r with
 |a :: b :: t=>if E5 a b=Kb (l.take (l.length-r.length)) then some t else none
 |_=>none
def Ih(l:Ac):Option Pk:=match GZ l with
 |none=>none
 |some (p,r)=>if EC p then (match Sp l r with|some []=>some p|_=>none) else none
theorem RJ{p:Pk}(h:GZ l=(p,r)):l=Ha p++r:=by
 unfold GZ at h;split at h
 .rename_i k c m ln s1 s2 u pa o f L t;split at h
  .rename_i hc;simp only[Option.some.injEq,Prod.mk.injEq]at h;obtain⟨rfl,rfl⟩:=h;unfold Ha nums;have i:=s1.toNat_lt;have j:=s2.toNat_lt;have g:b8 (N3 ((f.toNat:Int)==1))=f:=by
    have:f.toNat=0\/f.toNat=1:=U;rcases this with h|h
    .have e:f=0:=UInt8.toNat_inj.1 h;subst e;rfl
    .have e:f=1:=UInt8.toNat_inj.1 h;subst e;rfl
   have d:((List.take L.toNat t).length:Int)=(L.toNat:Int):=by
    rw[Bv];omega
   have a:E5 s1 s2 / 256=(s1.toNat:Int):=by unfold E5;omega
   have b:E5 s1 s2 % 256=(s2.toNat:Int):=by unfold E5;omega
   simp only[Cq,CU,d,g,a,b,bQ,BB,Cc,Da]
  .cases h
 .cases h
theorem YQ{p:Pk}(h:EC p):GZ (Gq p)=(p,EU (Kb (Ha p))):=by
 have x:=Mm h;obtain⟨m,o,q,r,s,t,u,v,_⟩:=h;unfold Gq;generalize hT:EU (Kb (Ha p))=T;have w:T.length=2:=by rw[<-hT];rfl
 unfold Ha nums;simp only[Cq,CU,BB,Cc];unfold GZ;obtain⟨d,c,e,f,i,j,Ez,off,a,b⟩:=p;simp only at x m o q r s t u v ⊢;have l:((b8 (N3 a)).toNat:Int)=N3 a:=FP (by unfold N3;split<;>omega) (by unfold N3;split<;>omega);have k:=FP (n:=(b.length:Int)) U U;have g:(b8 (b.length:Int)).toNat=b.length:=U;rw[Ay]
 .rw[(FP (n:=d) U U),(FP (n:=c) U U),(FP (n:=e) U U),(FP (n:=f) U U),(Uo (n:=i) U U),(FP (n:=j) U U),(FP (n:=Ez) U U),(FP (n:=off) U U),l,g,Ch (Ar _),Cw,CY (Ar _),List.drop_length,Cc];cases a<;>rfl
 grind [N3]
theorem Rm(m t:Ac):(m++t).take ((m++t).length-t)=m:=by grind [Nat.add_sub_cancel,List.take_left]
theorem Q5(l:Ac)(p:Pk):Ih l=p↔EC p/\l=Gq p:=by
 constructor
 .intro h;unfold Ih at h;cases hf:GZ l with
  |none=>rw[hf]at h;cases h
  |some x=>
   have⟨q,r⟩:=x;have hl:=RJ hf;rw[hf]at h;simp only at h;split at h
   .rename_i d;split at h
    .rename_i c;cases h;refine⟨d,?_⟩;unfold Sp at c;split at c
     .rename_i a b t;split at c
      .rename_i hn;cases c;have e:l.take (l.length - [a,b].length)=Ha p:=by rw[hl];exact Rm _ _
       rw[e]at hn;unfold Gq;rw[hl,<-hn,xJ]
      .cases c
     .cases c
    .cases h
   .cases h
 .rintro ⟨d,rfl⟩;unfold Ih;rw[YQ d];simp only;rw[Ay d];have hc:=Nt (Ha p);have e:Sp (Gq p) (EU (Kb (Ha p)))=some []:=by
   have e2:(Gq p).take ((Gq p).length-(EU (Kb (Ha p))).length)=Ha p:=Rm _ _;show (if E5 (b8 (Kb (Ha p) / 256)) (b8 (Kb (Ha p) % 256))=Kb ((Gq p).take ((Gq p).length-(EU (Kb (Ha p))).length)) then some [] else none)=some [];rw[e2,(Uo hc.1 hc.2),Ay rfl]
  rw[e]
def XE(l:Ac):Pk:=⟨(l.getD 0 0).toNat,(l.getD 1 0).toNat,(l.getD 2 0).toNat,(l.getD 3 0).toNat,E5 (l.getD 4 0) (l.getD 5 0),(l.getD 6 0).toNat,(l.getD 7 0).toNat,(l.getD 8 0).toNat,((l.getD 9 0).toNat:Int)==1,(l.drop 11).take (l-13)⟩
def Ut(l:Ac):Option Pk:=if l.length<13 then none else if EC (XE l) then (if Gq (XE l)=l then (XE l) else none) else none
theorem nK{p:Pk}(h:EC p):XE (Gq p)=p:=by
 have u:=Mm h;obtain⟨k,l,m,o,q,r,s,t,_⟩:=h;unfold XE;rw[(J4 p)];unfold Gq;generalize hT:EU (Kb (Ha p))=T;unfold Ha nums;obtain⟨d,b,e,f,g,i,Ez,off,a,c⟩:=p;simp only at u k l m o q r s t ⊢;have j:((b8 (N3 a)).toNat:Int)=N3 a:=FP (by unfold N3;split<;>omega) (by unfold N3;split<;>omega);simp only[Cq,CU,BB,Cc,List.getD_cons_zero,List.getD_cons_succ,List.drop_succ_cons,De];rw[(FP (n:=d) U U),(FP (n:=b) U U),(FP (n:=e) U U),(FP (n:=f) U U),(Uo (n:=g) U U),(FP (n:=i) U U),(FP (n:=Ez) U U),(FP (n:=off) U U),j,show 13+c.length-13=c.length by omega,Ch (Ar _),Cw];cases a<;>rfl
theorem mO(l:Ac)(p:Pk):Ut l=p↔EC p/\l=Gq p:=by grind [Ut,J4,nK]
theorem Zx(l:Ac):Ut l=Ih l:=by grind [Ut,Ih,mO,Q5]
theorem L8{p:Pk}(h:EC p):Ih (Gq p)=p:=(Q5 _ _).2 ⟨h,rfl⟩
theorem Q6(h:∀q,EC q->l≠Gq q):Ih l=none:=by grind [Ih,Q5]
theorem ag(p:Pk)(i:Nat)(c:UInt8)(hi:i<(Gq p))(hc:(Gq p)[i]?≠c):Ih ((Gq p).set i c)=none:=by
 apply Q6;intro q _ e;have l1:=J4 p;have l2:=J4 q;have hl:=CG List.length e;rw[BG]at hl;have b:(Ha p).length=(Ha q).length:=by rw[JZ,JZ];omega
 have d:=Nt (Ha p);have f:=Nt (Ha q);unfold Gq at e hc;by_cases a:i<(Ha p).length
 .rw[List.set_append_left _ _ a]at e;have⟨e1,e2⟩:=List.append_inj e (by rw[BG];exact b)
  grind [aP,List.take_append_drop,List.drop_eq_getElem_cons,List.set_eq_take_append_cons_drop,qZ,BitVec.eq_of_toNat_eq,Kb]
 grind [List.append_inj,EU,JZ]
theorem Ef(h:P:=by
 cases hm:m i with
 |true=>
  rw[hm]at hcmp;go_wp2
  go_region
  go_wp2;go_roundw
  case rel=>exact⟨i+1,U,Kc,(HBT.set i true 1 I).to (Ar _) (λk _ _=>oN hm k),(HBL.setCell Ev _).drew⟩
  case measure=>exact Kt
 |false=>
  rw[hm]at hcmp;go_wp2
  go_region
  go_wp2;go_roundw
  case rel=>exact⟨i+1,U,Kc,HBT.to (Ar _) (λk _ _=>vT hm k),HBL.drew⟩
  case measure=>exact Kt):P:=h
theorem Lp(h:P:=by
 have g1:(n:Int)<=cap:=U;have g2:0<=(n:Int):=U;have HS:Hid ((w.alloc (.cells #[Z n,.string ⟨#[]⟩] 73)).ownsRow w.heap.size 73 2 (EJ w.heap.size 1 1) (0+1) (tab Ik (Hm n ps 0))):=
  CW (base:=w.heap.size) (e:=73) (size:=2) w #[Z n,.string ⟨#[]⟩] 1 (Ar _) JG rfl
 have HB:Hid (DY w (w.alloc (.cells #[Z n,.string ⟨#[]⟩] 73))):=F9;clear hcs hL;go_enter Tryz.func292,Tryz.ntmps292;go_wp2;go_loopw [6,26] (λlv iv wr=>∃i:Nat,i<=n/\iv=Z i/\wr.ownsRow w.heap.size 73 2 lv (i+1) (tab Ik (Hm n ps i))/\DY w wr) (λ_ iv _=>n-(intOf iv).toNat)
 case atStart=>exact⟨0,AV _,I,HS,HB⟩
 case round=>
  obtain⟨i,hin,rfl,hrow,hbl⟩:=hrel;by_cases hlt:i<n
  .have hsz:=hbl.size;obtain⟨s,hs⟩:∃s,ps[i]?=some s:=⟨ps[i]'(by have:=Dw HL;omega),Ah _⟩;have d0:EB wr g i (.string s):=(hbl.cell (p:=Y g i) hg).trans (HCS i s hs);have hlts:=λq=>Ba hrow q
   obtain⟨la,lc,hls⟩:=Fa hrow;subst hls;obtain⟨HRW,HBL,HLT,HSS⟩:=bE hrow hbl hlts hs;clear hrow hbl hlts hs;go_wp2_with (at_builtin;go_must (refine AQ _ I (.tmp 30) (.tmp 33) 37 I w.heap.size 73 i0 (.agg #[Z 0,.string ⟨#[]⟩]) 2 24 Tryz.underlying37 hi hz0 hz1 hz2 I Em (.slice la (i+1) lc) (i+1) (tab Ik (Hm n ps i)) I (by exact HRW.alloc _) (Y _ 0) 1 1 [Z 0,.string s] I I (by exact Zw _ _) Vd JG U Fy ?_;intro v' wz hown hgrow hnil hat))
   have HRN:Hid (wz.ownsRow w.heap.size 73 2 v' (i+1+1) (tab Ik (Hm n ps (i+1)))):=by
    rw[RZ n ps i s (Dw HSS),Jn];exact hown
   have HBN:=Dx ((HBL.alloc hsz _).grown hgrow Fy (λq hq=>(HLT q hq).1));clear hown hgrow hat;go_wp2;go_roundw
   case rel=>exact⟨i+1,U,Kc,HRN,HBN⟩
   case measure=>exact Kt
  .obtain rfl:i=n:=U;obtain⟨la,lc,hls⟩:=Fa hrow;have HI:Hid (V.Row wr w.heap.size u6 (Hm i ps i)):=by
    unfold V.Row;rw[UQ i ps i (by have:=Dw HL;omega),Qc];exact hrow
   have HBL:=Dx hbl;subst hls;clear hrow hbl;go_wp2;go_returns;exact⟨_,I,HI,HBL⟩):P:=h
theorem Lu(h:P:=by
 rcases hsp with hs|hs|hs|hs
 .obtain⟨k1,k2,k3⟩:=hs;have HD:=Dx (HYES ⟨k1,k2,k3⟩);rw[k1]at s4;rw[k2]at s0;rw[k3]at hc0;clear HYES HNO k1 k2 k3;go_wp2_with fail
  go_quiet (fail);go_wp2_with (first|(go_at_call 133;refine cm (HD _ (Ed (((AA wr.heap.size _).alloc Ev _).alloc Ev _) _)) λw4 hp=>?_;have HPP:=Dx hp;clear hp))
  go_returns;exact Aj ⟨I,HPP⟩
 .have HD:=Dx (HNO (λq=>hs q.1));have k1:(r.d==2)=false:=by simpa using hs
  clear HYES HNO hs;go_wp2_with fail
  go_quiet (fail);go_wp2_with fail
  go_roundw
  case rel=>exact⟨I,js,HD _ (Ed (((AA wr.heap.size _).alloc Ev _).alloc Ev _) _)⟩
  case measure=>
   have hb:∀W',A js W'->Lx x W'<Lx x wr:=λW' hW'=>by
    have h2:=Dw HLN;simp only[A4]at h2;rw[HL _ _ hW',h2];omega
   exact hb _ (HD _ (Ed (((AA wr.heap.size _).alloc Ev _).alloc Ev _) _))
 .obtain⟨k1,k2⟩:=hs;have HD:=Dx (HNO (λq=>k2 q.2.1));have k3:(r.a==j.a)=false:=by simpa using k2
  rw[k1]at s4;clear HYES HNO k1 k2;go_wp2_with fail
  go_quiet (fail);go_wp2_with fail
  go_roundw
  case rel=>exact⟨I,js,HD _ (Ed (((AA wr.heap.size _).alloc Ev _).alloc Ev _) _)⟩
  case measure=>
   have hb:∀W',A js W'->Lx x W'<Lx x wr:=λW' hW'=>by
    have h2:=Dw HLN;simp only[A4]at h2;rw[HL _ _ hW',h2];omega
   exact hb _ (HD _ (Ed (((AA wr.heap.size _).alloc Ev _).alloc Ev _) _))
 .obtain⟨k1,k2,k3⟩:=hs;have HD:=Dx (HNO (λq=>k3 q.2.2));have k4:(life==j.b)=false:=by simpa using k3
  rw[k1]at s4;rw[k2]at s0;clear HYES HNO k1 k2 k3;go_wp2_with fail
  go_quiet (fail);go_wp2_with fail
  go_roundw
  case rel=>exact⟨I,js,HD _ (Ed (((AA wr.heap.size _).alloc Ev _).alloc Ev _) _)⟩
  case measure=>
   have hb:∀W',A js W'->Lx x W'<Lx x wr:=λW' hW'=>by
    have h2:=Dw HLN;simp only[A4]at h2;rw[HL _ _ hW',h2];omega
   exact hb _ (HD _ (Ed (((AA wr.heap.size _).alloc Ev _).alloc Ev _) _))):P:=h
theorem LO(h:P:=by
 go_loopw [12,13] (λlv iv wr=>∃i:Nat,i<=q/\iv=Z i/\wr.ownsRow w1.heap.size 73 2 lv (i+1) (tab Ik (Hm q ps i))/\DY w1 wr) (λ_ iv _=>q-(intOf iv).toNat)
 case atStart=>exact⟨0,AV _,I,Dw HS,F9⟩
 case round=>
  obtain⟨i,hin,rfl,hrow,hbl⟩:=hrel;by_cases hlt:i<q
  .have hsz:=hbl.size;have p0:0<=(i:Int):=U;have p1:(i:Int)<q:=U;obtain⟨s,hs⟩:∃s,ps[i]?=some s:=⟨ps[i]'(by have:=Dw HM;omega),Ah _⟩;have hlts:=λq=>Ba hrow q
   obtain⟨la,lc,hls⟩:=Fa hrow;subst hls;rcases(Dw HTX) with h0|⟨g,off,rfl,hcs⟩
   .rw[h0]at hs;cases hs
   have d0:wr.cell? (Y g (off+i))=some (.string s):=(hbl.cell (p:=(Y g (off+i))) (Gv (hcs i s hs))).trans (hcs i s hs);have l3:=Gv d0;obtain⟨HRW,HBL,HLT,HSS⟩:=bE hrow hbl hlts hs;clear hrow hbl hlts hs hcs HTX HS;go_wp2_with (at_builtin;go_must (refine AQ _ I (.tmp 70) (.tmp 76) 37 I w1.heap.size 73 i0 (.agg #[Z 0,.string ⟨#[]⟩]) 2 24 Tryz.underlying37 hi hz0 hz1 hz2 I Em (.slice la (i+1) lc) (i+1) (tab Ik (Hm q ps i)) I (by exact(Dw HRW).alloc _) (Y _ 0) 1 1 [Z 0,.string s] I I (by exact Zw _ _) Vd JG U Fy ?_;intro v' wz hown hgrow hnil hat))
   have hrn:wz.ownsRow w1.heap.size 73 2 v' (i+1+1) (tab Ik (Hm q ps (i+1))):=by
    rw[RZ q ps i s (Dw HSS),Jn];exact hown
   have HRN:=Dx hrn;have HBN:=Dx (((Dw HBL).alloc hsz _).grown hgrow Fy (λq hq=>((Dw HLT) q hq).1));clear hown hgrow hat hrn;go_wp2;go_roundw
   case rel=>exact⟨i+1,U,Kc,Dw HRN,Dw HBN⟩
   case measure=>exact Kt
  .obtain rfl:i=q:=U;obtain⟨la,lc,hls⟩:=Fa hrow;have hI:V.Row wr w1.heap.size u12 (Hm i ps i):=by
    unfold V.Row;rw[UQ i ps i (by have:=Dw HM;omega),Qc];exact hrow
   obtain⟨HI,HBL⟩:=FU (gh (Dw HB) hI) ((Dw HB).trans (hbl.mono hbs));subst hls;clear hrow hbl hI;go_wp2;go_returns;exact⟨_,I,Dw HI,Dw HBL⟩):P:=h
theorem MP(h:P:=by
 clear key ht hg;go_enter Tryz.func228,Tryz.ntmps228;go_wp2_with fail
 refine cm (H1 _) λw1 hb1=>?_
 go_wp2;go_loopw [3,10] (λiv kv wr=>∃k:Nat,k<=qs.length/\kv=Z k/\iv=Z (vI i (E6 E (qs.take k) (v.drop i)))/\DY w wr) (λ_ kv _=>qs.length-(intOf kv).toNat)
 case atStart=>exact⟨0,AV _,I,by simp[E6,vI],hb1⟩
 case round=>
  obtain⟨k,hk,rfl,rfl,hbr⟩:=hrel;clear hb1;by_cases hkN:k<qs.length
  .cases hst:E6 E (qs.take k) (v.drop i) with
   |none=>
    have HFIN:=Dx (Re E hst);rw[show vI i none=-1 from rfl];clear hst;go_wp2
    go_ret
    exact⟨by rw[Dw HFIN];rfl,hbr⟩
   |some e=>
    obtain⟨ks,r⟩:=e;obtain⟨q,hq⟩:∃q,qs[k]?=some q:=⟨_,Ah hkN⟩;have hqm:q∈qs:=Ap hq;obtain⟨h1,h2⟩:=Mc (E:=E) (qs.take k) (λq' hq'=>Dw HEH q' (CB hq')) _ _ _ hst;have hstep:E6 E (qs.take (k+1)) (v.drop i)=Gu ks (E q r):=by
     rw[Bh,hq,Cm,OU,hst]
    rw[CF]at h1;rw[A9]at h2;obtain⟨j,hj⟩:∃j,j=i+ks.length:=DR;have hjl:j<=v.length:=U;have hvi:vI i (some (ks,r))=(j:Int):=by simp only[vI];omega
    have hnew:vI i (E6 E (qs.take (k+1)) (v.drop i))=vI j (E q (v.drop j)):=by rw[hstep,X4,h1,<-hj]
    rw[hvi];obtain⟨HNEW,HQ⟩:=FU hnew hq;clear hst h1 h2 hstep hj hvi hnew hq;go_wp2_with fail
    refine cm (H2 k q _ HQ) λw2 hb2=>?_
    have hb2':=hbr.trans (hb2.mono hbr.size);go_wp2_with fail
    refine cm (H3 q j _ hqm hjl hb2') λw3 hb3=>?_
    have hb':=hb2'.trans (hb3.mono hb2'.size);rw[<-Dw HNEW];clear hb2 hb2' hb3 hbr;go_wp2;go_roundw
    case rel=>exact⟨k+1,U,Kc,I,hb'⟩
    case measure=>exact Kt
  .obtain rfl:k=qs.length:=U;rw[Cw];go_wp2
   go_ret
   exact⟨I,hbr⟩):P:=h
theorem yd(h:P:=by
 go_wp2_with fail
 refine cm H2 λw3 h3=>?_
 have H3:=Dx h3;clear h3 e1 H2;have HNUM:=Dx OM;go_wp2_with fail
 refine cm (HNUM _ _) λw4 hw4=>?_
 rw[hw4];clear hw4 w4;go_wp2;go_returns;exact⟨I,H3⟩):P:=h
theorem MU(h:P:=by
 obtain⟨H1,H2,H3,HEH,HE,HOO⟩:=Zi HI HW HV hEh hE hO;clear HI HW HV hEh hE hO;go_enter Tryz.func229,Tryz.ntmps229;go_wp2_with fail
 refine cm (H1 _) λw1 hb1=>?_
 have I0:=Dx (HOO.go hb1);clear hb1;go_wp2;go_loopw [3,10] (λov kv wr=>∃(k:Nat) (k1:List Bool) (r1:List It),k<=qs.length/\kv=Z k/\JV w0 wr ov (outs++k1)/\Hid (E6 E (qs.take k) (v.drop outs.length)=some (k1,r1))) (λ_ kv _=>qs.length-(intOf kv).toNat)
 case atStart=>exact⟨0,[],_,AV _,I,by rw[Cb];exact Dw I0,I⟩
 case round=>
  obtain⟨k,k1,r1,hk,rfl,hor,hst⟩:=hrel;have HOR:=Dx hor;clear I0 hor;by_cases hkN:k<qs.length
  .obtain⟨q,hq⟩:∃q,qs[k]?=some q:=⟨_,Ah hkN⟩;have hqm:q∈qs:=Ap hq;obtain⟨k2,r2,hE2,hst2⟩:=aj HE hq (Dw hst);obtain⟨h1,h2⟩:=Mc (E:=E) (qs.take k) (λq' hq'=>Dw HEH q' (CB hq')) _ _ _ (Dw hst);rw[CF]at h1;have HE2:Hid (E q (v.drop (outs++k1).length)=some (k2,r2)):=by rw[AJ,<-h1];exact hE2
   obtain⟨HST2,HQ⟩:=FU hst2 hq;clear h1 h2 hE2 hst2 hq hst;go_wp2_with fail
   refine cm (H2 k q _ HQ) λw2 hb2=>?_
   have hor2:=Dx (HOR.go hb2);clear hb2;go_wp2_with fail
   refine(H3 q _ _ _ _ _ hqm hor2 HE2).mono ?_;rintro e w3 ⟨O3,rfl,ho3⟩;have HO3:=Dx ho3;clear ho3;go_wp2;go_roundw
   case rel=>exact⟨k+1,k1++k2,r2,U,Kc,by rw[<-Bs];exact Dw HO3,HST2⟩
   case measure=>exact Kt
  .obtain rfl:k=qs.length:=U;have e1:k1=ks:=by
    have h:=Dw hst;rw[Cw,Dw HE]at h;cases h;rfl
   subst e1;go_wp2
   go_ret
   exact⟨_,I,HOR⟩):P:=h
theorem MY(h:P:=by
 clear key ht hg;go_enter Tryz.func182,Tryz.ntmps182;go_wp2_with fail
 refine cm (H1 _) λw1 hb1=>?_
 have I1:=Dx (HGO _ _ _ _ _ H0 hb1);clear hb1;go_wp2;go_loopw [2,3,11,13] (λsv ov okv kv wr=>∃(k:Nat) (S':Ab),k<=n/\kv=Z k/\sv=.string S'/\((okv=DC/\Iq k ov S' wr)\/(okv=DI/\A wr))) (λ_ _ _ kv _=>n-(intOf kv).toNat)
 case atStart=>exact⟨0,_,AV _,I,I,Aj ⟨I,I1⟩⟩
 case round=>
  obtain⟨k,S',hk,rfl,rfl,hrel⟩:=hrel;rcases hrel with ⟨rfl,hIk⟩|⟨rfl,hA⟩
  .by_cases hlt:k<n
   .obtain⟨q,hw58,h47⟩:=H2 k hlt;obtain⟨K58,K47,HIK⟩:=Ll hw58 h47 hIk;clear hw58 h47 hIk I1;go_wp2_with fail
    refine cm (K58 _) λw2 hb2=>?_
    have J47:=Dx (K47 _ _ _ (HGO _ _ _ _ _ HIK hb2));clear hb2;go_wp2_with fail
    refine J47.mono ?_;rintro e w3 (⟨O3,S3,rfl,hA⟩|⟨O3,S3,rfl,hI3⟩)
    .have HA:=Dx hA;clear hA;go_wp2;go_roundw
     case rel=>exact⟨k+1,S3,U,Kc,I,Am ⟨I,HA⟩⟩
     case measure=>exact Kt
    .have HI3:=Dx hI3;clear hI3;go_wp2;go_roundw
     case rel=>exact⟨k+1,S3,U,Kc,I,Aj ⟨I,HI3⟩⟩
     case measure=>exact Kt
   .obtain rfl:k=n:=U;have HIK:=Dx hIk;clear hIk;go_wp2
    go_ret3
    exact Am ⟨_,_,I,HIK⟩
  .have HA:=Dx hA;clear hA;by_cases hlt:k<n
   .go_wp2
    go_ret3
    exact Aj ⟨_,_,I,HA⟩
   .go_wp2
    go_ret3
    exact Aj ⟨_,_,I,HA⟩):P:=h
theorem afe(h:P:=by
 go_enter Tryz.func294,Tryz.ntmps294;go_wp2_with fail
 go_quiet (fail);go_wp2_with (first|(go_at_call 39;refine(H74 _ (HB _)).mono ?_;rintro e w1 ⟨⟨ra,rn,rc,rfl,hc1⟩,hb1⟩;have hb2:=(HB _).trans (hb1.mono Ev);have db1:EB w1 b dn (.slice (some (Y lb lo)) l.length dc):=(hb2.cell (p:=Y b dn) hl).trans db;have z1:DJ w1 b dn:=(hb2.frozen (p:=Y b dn) hl).trans z;have hl1:=Gv db1;have HQ:=Dx (λR w2=>HP _ _ w1 R w2 (HB _) hb2 hc1);have HS1:=Dx (HSRC w1 (.slice ra rn rc) hb2);have HR1:=Dx (HROW w1 (.slice ra rn rc));clear hc1 hb1 hb2)|(at_builtin;go_must (refine AQ _ I (.tmp 35) (.tmp 36) 37 I w1.heap.size 73 i0 (.agg #[Z 0,.string ⟨#[]⟩]) 2 24 Tryz.underlying37 hi hz0 hz1 hz2 I Em (EJ w1.heap.size 2 2) 2 [Z 1,.string ⟨#[]⟩,Z (l.length:Int),.string ⟨#[]⟩] I HR1 (Y lb lo) l.length dc (V.flat l) I hfl HS1 (V.Oe l) JG U Ev ?_)))
 intro v' wz hown hgrow hnil _;obtain⟨va,vn,vc,hvs⟩:=Ei hown;subst hvs;have hz:Below w1.heap.size (w1.setCell (Y b dn) (.slice ra rn rc)) wz:=((AA _ _).alloc Ev _).grown hgrow Ev (λk hk=>by cases hk;exact Ar _);have HF:=Dx (HQ (.slice va vn vc) wz (by
  have e:V.flat ((1,⟨#[]⟩) :: ((l.length:Int),⟨#[]⟩) :: l)=[Z 1,.string ⟨#[]⟩,Z (l.length:Int),.string ⟨#[]⟩]++V.flat l:=rfl;have e2:((1,⟨#[]⟩) :: ((l.length:Int),⟨#[]⟩) :: l:List V.It).length=2+l.length:=Fy;unfold V.Row;rw[e,e2];exact hown) hz)
 clear hown hgrow hnil hz;go_wp2;go_returns;exact⟨_,I,HF⟩):P:=h
theorem adJ(h:P:=by
 obtain⟨y,hy⟩:∃y,bound[j]?=some y:=⟨_,Ah U⟩;obtain⟨hab,cy⟩:=HB j y hy;subst hab;have q0:0<=(j:Int):=U;have q1:(j:Int)<nb:=U;have HST:=Dx (Pf (u:=(u:Int)+1) hy);clear hy;cases hb:decide (((u:Int)+1)∈bound.take j) with
 |true=>
  rw[hb]at HST;clear hb;go_wp2_with fail
  go_roundw
  case rel=>exact⟨j+1,U,Kc,by rw[Dw HST];rfl,BR⟩
  case measure=>exact Kt
 |false=>
  rw[hb]at HST;clear hb;obtain⟨t,ht⟩:∃t,(y==(u:Int)+1)=t:=DK;rw[ht]at HST;go_wp2_with fail
  go_roundw
  case rel=>exact⟨j+1,U,Kc,by rw[Dw HST];rfl,BR⟩
  case measure=>exact Kt):P:=h
theorem adK(h:P:=by
 go_wp2_with fail
 refine(Dw HGG).mono ?_;rintro e w2 ⟨v2,rfl,hb2,hst⟩;have g0:w2.cell? (Y gb (r*3))=some (Z 5):=(hb2.cell (p:=(Y gb (r*3))) hgl).trans f0;have g1:w2.cell? (Y gb (r*3+1))=some (Z k):=(hb2.cell (p:=(Y gb (r*3+1))) hgl).trans f1;have g2:w2.cell? (Y gb (r*3+2))=some (Z L):=(hb2.cell (p:=(Y gb (r*3+2))) hgl).trans f2;obtain⟨HST,HB2⟩:=FU hst hb2;clear f0 f1 f2 hst hb2;go_wp2;go_roundw
 case rel=>
  have J:=Oj (Dw HI) hlt (Dw HS) (Dw HB2) (Dw HST) ((AA _ _).alloc (Ar _) (.cells #[Z 5,Z k,Z L] 265));rw[Dw HND]at J;exact⟨p+1,_,_,Kc,I,J⟩
 case measure=>exact Kt):P:=h
theorem aff(h:P:=by
 have hOl:=hR.lt;obtain⟨ka,kn,kc,hk⟩:=Ei hBk.row;subst hk;have hkn:kn=L.length:=by
  rcases hBk.row.2 with ⟨hv,h0⟩|⟨g,cap,cur,hv,_⟩
  .cases hv;omega
  .cases hv;rfl
 subst hkn;obtain⟨oa,on,oc,ho⟩:=Ei hR;subst ho;have hon:on=v.length:=by
  rcases hR.2 with ⟨hv,h0⟩|⟨g,cap,cur,hv,_⟩
  .cases hv;omega
  .cases hv;rfl
 have hO2:∀j,(Value.slice oa on oc).ownBlock=some j->(j<w.heap.size/\w0.heap.size<=j)/\j≠b/\(Value.slice ka L.length kc).ownBlock≠some j/\∀k∈L,∀t∈k.lists,t.1.ownBlock≠some j:=λj hj=>by
  grind [OY]
 have hb1:DY w (w.alloc (.cells #[Z (-1000-(L.length:Int)),.string Xq] 73)):=F9;refine cZ w0 w b w0.heap.size L lv ka oa kc on oc (-1000-(L.length:Int),Xq) I hL U hBk hb0 hb0.size (λj hj=>(hOl j hj).1) hO2 ⟨Ev,?_,λk hk _=>hb1.block k hk,hb0.trans (hb1.mono hb0.size),?_⟩
 .show ((w.heap.push _)[w.heap.size]?)=_;rw[Bz]
 .rcases hR.2 with ⟨hv,h0⟩|⟨g,cap,cur,hv,hbg,hg,hc,hcm,hcs,_⟩
  .exact Aj ⟨hv,U⟩
  .refine Am ⟨g,cap,?_,Dv hg,U,⟨cur,?_,hcs,λj y _ hy=>by simp at hy⟩,U,hcm⟩
   .rw[hv,hon]
   .rw[hb1.block g (Dv hg)];exact hg):P:=h
theorem adL(h:P:=by
 clear hno;go_enter Tryz.func21,Tryz.ntmps21;go_wp2_with (go_at_call 20;refine cm HL λw1 hw1=>?_;obtain⟨b1,b4⟩:=Xc hw1;obtain⟨f0,f1,f2,f3,f4,f5,f6,fz,_⟩:=PD b1 (DF.refl _ w1);have hl1:=Dv b1;have HX:=Dx b1;have HB:=Dx b4;clear hw1 b4 b1)
 refine EE _ (SQ HX (Z 0) (Z 0) (Z 0) (Z 0) (Z 0) Dz Dz) ?_;rintro W ⟨g0,g1,g2,g3,g4,g5,g6,gz,gk⟩;have HK:=Dx gk;clear gk;go_wp2
 (try simp only[Exit.inBlock,Exit.then])
 refine Bm (by simp[results,Tryz.results21,go_sem,g0,g1,g2,g3,g4,g5,g6];try rfl) I ?_;exact⟨I,QL HB (Dw HK)⟩):P:=h
theorem afg(h:P:=by
 go_wp2_with (first|(go_at_call 240;refine cs (C253 _ F9) ?_)|(go_at_call 241;refine cs (C254 _ F9) ?_)|(go_at_call 193;refine cs (C220 _) ?_)|(go_at_call 242;refine cm (D _ F9) λw4 hp=>?_;have HPP:=Dx hp;clear hp)|(go_at_call 243;refine cm (D _ F9) λw4 hp=>?_;have HPP:=Dx hp;clear hp)|(go_at_call 195;refine cm (D _ ((AA _ _).alloc Ev _)) λw4 hp=>?_;have HPP:=Dx hp;clear hp))
 first
 |(go_returns;first|exact⟨rfl,HPP⟩|exact⟨rfl,D _ F9⟩)
 |(go_region_held3 (λw'=>w'.cell? (Y x 11)=some (EJ sn 9 9)/\w'.cell? (Y bq 4)=some (Z sq)/\w'.cell? (Y bq 5)=some (Z ud)) (go_keep) (fail)
   clear b0 b1 b2 b3 b4 b5 b6 b7 b8 b9;refine EE (λW'=>Below W.heap.size (Ie W sn i (Oo ⟨kd,(ci:Int),lf,(li:Int),sq,ud,0,off,pl,bd⟩)) W'/\Dy W' bq (Je ⟨kd,(ci:Int),lf,(li:Int),sq,ud,0,off,pl,bd⟩) 82) (gZ _ HBX m2) ?_;rintro W5 ⟨hb5,hx5⟩;obtain⟨b0,b1,b2,b3,b4,b5,b6,b7,b8,b9⟩:=Yy hx5;have hl5:=Dv hx5;have HB5:=Dx hb5;clear hb5 hx5;go_wp2_with (first|(go_at_call 242;refine cm (D _ HB5) λw4 hp=>?_;have HPP:=Dx hp;clear hp))
   go_returns;exact⟨I,HPP⟩)):P:=h
theorem adM(h:P:=by
 have hlt:¬((n:Int)<=i):=U;have HMM:=Dx HM;clear HM;go_enter Tryz.func257,Tryz.ntmps257;go_wp2_with fail
 refine cm (HMM _) λw1 hb1=>?_
 have g0:Kk w1 w 0 (Z N):=(hb1.cell (p:=EN w 0) Ev).trans Vb;have g1:Kk w1 w 1 (.string S):=(hb1.cell (p:=EN w 1) Ev).trans Vb;have hb:DY w w1:=F9.trans (hb1.mono Ev);have hsz:w.heap.size<w1.heap.size:=by have:=hb1.size;simp at this;omega
 clear f0 f1 hb1;go_wp2
 go_ret
 exact⟨I,hb⟩):P:=h
theorem aaA(h:P:=by
 refine afX I (.tmp 4) I w.heap.size 0 I t HX.t ?_;refine xS I (.tmp 5) I (w.heap.size+1) 0 I o HX.o ?_;simp only[Act.put,Al,Av,Ax];go_wp2_with fail
 refine cm H1 λw2 h2=>?_
 have H2:=Dx h2;clear h2;go_wp2;go_returns;exact⟨I,H2⟩):P:=h
theorem xg(h:P:=by
 go_wp2_with fail
 refine cm H1 ?_;rintro w1 ⟨L',hws,hwk⟩;have hb:=hws.h;have hbz:=hb.size;clear hws hwk;go_wp2_with fail
 refine cm (HN _) λw2 hb2=>?_
 go_wp2;exact⟨I,I,(hb.alloc U _).trans (hb2.mono Fy)⟩):P:=h
theorem afh(h:P:=by
 go_wp2_with (at_builtin;go_must (refine AQ _ I (.tmp 119) (.tmp 122) 37 I w0.heap.size 73 j0 _ 2 24 Tryz.underlying37 hj0 hz0 hz1 hz2 I Em _ v.length (flat v) I (by exact how.alloc _) (EN w1 0) 1 1 [Z ((n:Int)),.string ⟨#[]⟩] I I (by exact Jd w1 ((n:Int),⟨#[]⟩)) (by exact KF ((n:Int),⟨#[]⟩)) JG U (by have:=HI1.h.size;simp;omega) ?_))
 intro O1 w2 hown hgrow _ _;obtain⟨ta,tn,tc,hts⟩:=Ei hown;subst hts;have HI2:=Dx (Qg (x:=((n:Int),⟨#[]⟩)) HI1 HL hown hgrow);clear hown hgrow how;go_wp2;go_loopw [2,3,11,17] (λsv ov okv kv wr=>sv=.string R/\ov=.slice ta tn tc/\okv=DC/\kv=Z 0/\wr=w2) (λ_ _ _ _ _=>0)
 case atStart=>exact⟨I,I,I,I,I⟩
 case round=>
  obtain⟨rfl,rfl,rfl,rfl,rfl⟩:=hrel;go_wp2
  go_ret3
  exact⟨_,I,HI2⟩):P:=h
theorem agq(h:P:=by
 go_wp2
 go_ret3
 refine⟨I,?_⟩;repeat (first|exact AA _ _|refine Below.drew ?_|refine Below.alloc ?_ DX _)):P:=h
theorem xh(h:P:=by
 go_wp2_with fail
 refine cm HH ?_;rintro w1 ⟨hrs,_⟩;have hb:=hrs.h;have HR:=Dx (JR w0.heap.size l O w1 hrs.rd);clear hrs;go_wp2_with fail
 refine cs HR ?_;go_wp2;exact⟨I,I,hb⟩):P:=h
theorem afk(h:P:=by
 .obtain⟨ci,ni,q,hci,hni,h3,h3',hcell,hcall⟩:=HC j js w2 hC2;have hbox:w2.heap[w1.heap.size]?=some (ac7 j):=by
   rw[hb2.block _ Ev];exact AF w1 _
  have g0:Kk w2 w1 0 (Z ci):=by rw[<-hci];exact EI hbox 0
  have g2:Kk w2 w1 2 (Z ni):=by rw[<-hni];exact EI hbox 2
  have HD:=Dx hcall;have q1:0<=(ci:Int):=U;have q2:(ci:Int)<3:=U;have q3:0<=(ni:Int):=U;have q4:(ni:Int)<3:=U;clear hcall hC2 hb2 hbox hci hni;go_wp2_with fail
  go_region_law (refine FG I 97 #[.tmp 16,.tmp 27] #[68,137] I af9 #[ptr s,ptr q] I _ HD ?_;rintro e w3 ⟨rfl,hw3⟩;refine⟨_,I,?_⟩)
  all_goals
   go_wp2;refine Qi ?_;go_wp2;go_returns;exact Am ⟨I,hw3⟩):P:=h
theorem aaB(h:P:=by
 obtain⟨hm1,hm2⟩:=hm;have HNN:=Dx HN;clear HN;go_enter Tryz.func225,Tryz.ntmps225;go_wp2_with fail
 refine HNN.mono ?_;rintro e w1 (⟨rfl,hA⟩|⟨i,rfl,hB⟩)
 .go_wp2;exact⟨I,Aj ⟨I,hA⟩⟩
 .go_wp2
  go_end0
  exact Am ⟨I,i,hB⟩):P:=h
theorem pg(h:P:=by
 go_enter Tryz.func123,Tryz.ntmps123;go_wp2_with (first|(go_at_call 188;refine cs (H212 _) ?_)|(go_at_call 189;refine cs H213 ?_))
 go_returns;exact DN):P:=h
theorem po(h:P:=by
 go_enter Tryz.func96,Tryz.ntmps96;go_wp2_with fail
 go_quiet (fail);go_wp2_with fail
 go_quiet (fail);go_wp2;go_returns;exact⟨I,Ed (HB _ _) _⟩):P:=h
theorem afl(h:P:=by
 go_wp2_with (at_builtin;refine AQ _ I (.tmp 37) (.tmp 40) 37 I (w0.heap.size+1) 73 i0 _ 2 24 Tryz.underlying37 hi0 hz0 hz1 hz2 I Em _ v.length (flat v) I (by exact how.alloc _) (EN w1 0) 1 1 [Z n,.string ⟨#[]⟩] I I (by exact Jd w1 ((n:Int),⟨#[]⟩)) (by exact KF ((n:Int),⟨#[]⟩)) JG U Fy ?_)
 intro O1 w2 hown hgrow _ hat;obtain⟨ta,tn,tc,hts⟩:=Ei hown;subst hts;obtain⟨hrd,hrs2,hwk2⟩:=Tc (x:=((n:Int),⟨#[]⟩)) HRS hown hgrow (by simpa using hat);have k1:=hrd.J;have k2:=hrd.thaw 2;obtain⟨HR2,HK2⟩:=FU hrs2 (HWK.trans hwk2);clear hown hgrow hat hrd hrs2 hwk2 how hO;go_wp2
 go_ret
 exact⟨I,_,HR2,HK2⟩):P:=h
theorem afm(h:P:=by
 go_wp2_with fail
 refine(Dw HGG).mono ?_;rintro e w2 ⟨v2,rfl,hb2,hst⟩;have g0:w2.cell? (Y gb (r*3))=some (Z 1):=(hb2.cell (p:=(Y gb (r*3))) hgl).trans f0;have g1:w2.cell? (Y gb (r*3+1))=some (Z k):=(hb2.cell (p:=(Y gb (r*3+1))) hgl).trans f1;have g2:w2.cell? (Y gb (r*3+2))=some (Z L):=(hb2.cell (p:=(Y gb (r*3+2))) hgl).trans f2;obtain⟨HST,HB2⟩:=FU hst hb2;clear f0 f1 f2 hst hb2;go_wp2;go_roundw
 case rel=>
  have J:=Oj (Dw HI) hlt (Dw HS) (Dw HB2) (Dw HST) ((AA _ _).alloc (Ar _) (.cells #[Z 1,Z k,Z L] 265));rw[Dw HND]at J;exact⟨p+1,_,_,Kc,I,J⟩
 case measure=>exact Kt):P:=h
theorem xm(h:P:=by
 unfold Ge;rw[hx];go_enter Tryz.func224,Tryz.ntmps224;go_wp2
 go_ret2
 refine⟨_,I,F9.alloc Ev _,?_⟩;exact XV _ _ Ev U I (by simp[GV,wc]) Ev):P:=h
theorem aaC(h:P:=by
 obtain⟨hl,h⟩:=h;refine⟨hl,?_⟩;rcases h with h|⟨g,cap,cur,hv,hg,hh,r⟩
 .exact Aj h
 .refine Am ⟨g,cap,cur,hv,hg,?_,r⟩;rw[hb.block g (Dv hh)];exact hh):P:=h
theorem afn(h:P:=by
 clear HN HG hold;go_enter Tryz.func160,Tryz.ntmps160;go_wp2_with fail
 go_quiet (fail);go_wp2_with fail
 refine EE _ (HF _) ?_;intro W hW;obtain⟨d5,d6,d7⟩:=HC W hW;have hd:=HD W hW;obtain⟨⟨f0,f1,f2,f3,f4⟩,f5,f6,f7,f8,f9⟩:=hd;have HB1:=Dx hW.1.drew;clear hW HF HC HD;go_region_held3 (λw'=>w'.cell? (Y lb (k*10+5))=some (.string S)/\w'.cell? (Y lb (k*10+7))=some (.string C)) (go_keep) (first|(go_at_call 203;refine cs (H1 _) ?_)|(go_at_call 203;refine cs (H2 _) ?_))
 go_wp2;go_returns;exact⟨I,HQ _ (Dw HB1)⟩):P:=h
theorem pu(h:P:=by
 go_enter Tryz.func119,Tryz.ntmps119;go_wp2
 go_ret3
 exact DN):P:=h
theorem xo(h:P:=by
 go_wp2_with fail
 go_quiet (fail);go_wp2_with fail
 go_quiet (fail);go_wp2;go_returns;exact⟨I,Ed (Ed (HB _) _) _⟩):P:=h
theorem aaD(h:P:=by
 go_wp2;go_returns;exact⟨I,HQ _ (by first|exact HB _|exact Ed (HB _) _|exact(HB _).drew|exact(HB _).drew.drew|exact Ed (Ed (HB _) _) _)⟩):P:=h
theorem pz(h:P:=by
 go_enter Tryz.func105,Tryz.ntmps105;go_wp2_with (first|(go_at_call 151;refine cs H ?_))
 go_ret
 exact DN):P:=h
theorem afo(h:P:=by
 have hw:Region.wanted o (yielded ops a.tmps)=true:=by simp[Region.wanted,hgd]
 rw[Ay hw];have hv:xs.map a.eval=vs:=by
  apply Array.ext';simpa using hv0
 clear hv0;subst hv;unfold Oper.wp;simp only[execOp,ho,resolve,invoke,Sem.run_bind];generalize Array.map a.eval xs=vs at hC ⊢;have hC2:ET f vs w (λe w'=>∃v,e=.returned v/\K (a.put o.dst v) w'):=hC.mono hR;clear hC hR;simp[Deferred.ofValue,Act.eval,hcf,go_sem];refine hC2.mono ?_;rintro e w' ⟨v,rfl,hk⟩;exact hk):P:=h
theorem pA(h:P:=by
 go_enter Tryz.func45,Tryz.ntmps45;go_wp2_with (first|(go_at_call 81;go_in))
 go_returns;exact⟨I,F9⟩):P:=h
theorem afp(h:P:=by
 go_enter Tryz.func294,Tryz.ntmps294;go_wp2_with fail
 go_quiet (fail);go_wp2_with (first|(go_at_call 39;refine(H74 _ (HB _)).mono ?_;rintro e w1 ⟨⟨ra,rn,rc,rfl,hc1⟩,hb1⟩;have hb2:=(HB _).trans (hb1.mono Ev);have db1:EB w1 b dn (.slice da 0 dc):=(hb2.cell (p:=Y b dn) hl).trans db;have z1:DJ w1 b dn:=(hb2.frozen (p:=Y b dn) hl).trans z;have hl1:=Gv db1;have HQ:=Dx (HP _ _ w1 (HB _) hb2 hc1);clear hc1 hb1 hb2))
 go_returns;exact⟨_,I,HQ⟩):P:=h
theorem aaE(h:P:=by
 go_wp2_with fail
 refine cm HN ?_;rintro w1 ⟨hk,ha⟩;go_wp2_with fail
 refine cm (pU b p s _ ha) λw2 hk2=>?_
 go_wp2;exact⟨I,I,hk.trans hk2⟩):P:=h
theorem aaF(h:P:=by
 go_enter Tryz.func83,Tryz.ntmps83;go_wp2_with (first|(go_at_call 142;refine cs (H68 _) ?_)|(go_at_call 143;refine cs (H32 _) ?_))
 go_returns;exact DN):P:=h
theorem afq(h:P:=by
 go_enter Tryz.func93,Tryz.ntmps93;go_wp2_with fail
 go_quiet (fail);go_wp2_with fail
 go_quiet (fail);go_wp2_with fail
 go_region
 go_wp2_with fail
 go_region
 refine EE _ (HBF _) ?_;intro V hV;have hw2:=HW V hV;obtain⟨⟨g0,g1,g2,g3,g4,g5,g6,g7,g8,g9⟩,f1,f2⟩:=hw2;have HB:=Dx f2;clear hV f2 HW HBF;go_wp2_with fail
 go_quiet (fail);go_wp2_with (first|(go_at_call 157;refine cm (HQ _ (HB _)) λw3 hw3=>?_))
 go_returns;exact⟨I,hw3⟩):P:=h
theorem afr(h:P:=by
 clear hlast e1;cases Ga;all_goals
  go_enter Tryz.func150,Tryz.ntmps150;go_wp2_with fail
  rw[Dw HLX];go_region_held3 (λw'=>w'.cell? (EN w 5)=some (.string SM)/\w'.cell? (EN w 6)=some (Z a)) (go_keep) ((go_at_call 203;refine cs (HP _) ?_))
  go_wp2_with (first|(go_at_call 205;refine cs (HC _) ?_)|(go_at_call 204;refine cm (HS _ HB.drew) λw3 hw3=>?_))
  go_returns;exact⟨I,hw3⟩):P:=h
theorem aaG(h:P:=by
 simp only[World.cell?]at h19;cases hs:w.heap[s]? with
 |none=>simp[hs]at h19
 |some o=>exact(AB.1 hs).1):P:=h
theorem adN(h:P:=by
 rcases J2 ho with (h|h|h|h)|⟨h,_⟩|⟨h,h1,h2,h3,h4⟩|⟨h,_⟩|h
 .omega
 .omega
 .omega
 .omega
 .omega
 .exact⟨h1,h2,h3,h4⟩
 .omega
 .have:=h.here;omega):P:=h
theorem pB(h:P:=by
 rintro w' ⟨F',q1,q2⟩;exact⟨I,F',q1,(D8.J F hb).trans q2⟩):P:=h
theorem afs(h:P:=by
 go_wp2;go_region_law (refine FG I 146 #[.tmp 53] #[9] I af8 #[.string SN] I _ (H71 _) ?_;rintro e w2 ⟨rfl,hb⟩;have f0:EB w2 s 5 (.map (some nm)):=(hb.cell (p:=Y s 5) hl1).trans d0;have hput:=HPUT w1 w2 HA1 (Mg hb);obtain⟨w3,hrun,hC⟩:=hput;have HC:=Dx hC;clear hC hb;refine⟨_,I,?_⟩)
 all_goals
  go_wp2;go_returns;exact⟨I,HC⟩):P:=h
theorem adO(h:P:=by
 rw[Dw HND]at J;exact⟨p+1,_,_,Kc,I,J⟩):P:=h
theorem aft(h:P:=by
 go_enter Tryz.func156,Tryz.ntmps156;go_wp2_with fail
 go_quiet (fail);go_wp2_with fail
 refine EE _ (HF _) ?_;intro W hW;obtain⟨d7,d8,y8,⟨g0,g1,g2,g3,g4,g5,g6,g7,g8,g9⟩,hlW,_⟩:=HC W hW;have HBW:=Dx hW.1;clear hW HF HC HT;go_quiet (first|(go_at_call 203;refine Calls.quiet_of_same (H187 _)));all_goals
  go_wp2;go_returns;exact⟨I,HQ1 _ (Ed HBW _)⟩):P:=h
theorem afu(h:P:=by
 have hw:Region.wanted o (yielded ops a.tmps)=true:=by simp[Region.wanted,hgd]
 rw[Ay hw];obtain⟨v',w',hr,h2,h3,_,h4⟩:=run_append_own_at (P:=P) w base t o.type e i z size bytes ht hi hz hsize hby hzs hsz v n xs hown ad m c news hl hnews h1 h63 hbytes hbase;unfold Oper.wp;simp[execOp,ho,resolve,invoke,builtin,hs,hx,hr,Result.andThen];exact h v' w' h2 h3 h4):P:=h
theorem iC(h:P:=by
 go_enter Tryz.func140,Tryz.ntmps140;go_wp2;go_returns;exact DN):P:=h
theorem afv(h:P:=by
 rcases h.2 with ⟨hv,h0⟩|⟨g,cap,cur,hv,_⟩
 .have:out=[]:=BA h0;subst this;rw[hv];exact Lib.run_convert_nil_bytes w 281 9 5 0 Tryz.underlying281 EL Tryz.underlying9
 .rw[hv];refine C5 w 281 9 5 (Y g 0) cap out Tryz.underlying281 EL Tryz.underlying9 λj hj=>?_
  refine hcl g (by rw[hv];rfl) j _ ?_;unfold Ku
  grind):P:=h
theorem iE(h:P:=by
 rintro e w' ⟨rfl,rfl⟩;exact⟨I,F,h,D8.refl F w'⟩):P:=h
theorem xq(h:P:=by
 go_wp2_with fail
 go_roundw
 case rel=>exact⟨k+1,U,Kc,HE⟩
 case measure=>exact Kt):P:=h
theorem adP(h:P:=by
 go_enter Tryz.func197,Tryz.ntmps197;go_wp2_with fail
 go_quiet (fail);go_wp2_with fail
 go_quiet (fail);go_wp2_with fail
 go_returns;exact⟨I,Ed (LG w (Ar _) _ _) _⟩):P:=h
theorem afw(h:P:=by
 have hcp:=UG w l M hMs;have hus:=UH w l M h0 hl;have HB:=Dx (Tv w M (Ku l).toArray l.length);have hne:((l.length:Int)==0)=false:=Fy;generalize hY:(Ku l).toArray=Yq at *;generalize hS:str l=S at *;clear hM hY h0 hS;generalize l.length=n at *;subst hsz;go_enter Tryz.func200,Tryz.ntmps200;go_wp2
 go_ret
 exact⟨I,HB⟩):P:=h
theorem afx(h:P:=by
 have H:=Dx (Uj w s m _ cap ((u:Int)+1) h6);rw[show decide (1<=(u:Int)+1/\(u:Int)+1<=(m:Int))=true by simp;omega]at H;have HV:=Dx (Nc w s g u m cap h6 hu hm);go_enter Tryz.func248,Tryz.ntmps248;go_wp2_with (first|(go_at_call 37;refine cs H ?_)|(go_at_call 38;refine cs HV ?_))
 go_returns;exact DN):P:=h
theorem afy(h:P:=by
 clear hc
 go_enter_defers Tryz.func52,Tryz.ntmps52
 go_wp2_with (first|(go_at_call 35;go_in))
 refine leaves_cons (f:=86) (args:=#[.pointer (some (EN w 0)),.pointer (some (DG w 0))]) Ev Vb ?_;refine(Pw _ _ _).mono ?_;rintro e u' w'' ⟨rfl,rfl,rfl⟩;simp[Leaves,settle,results,Tryz.results52,go_sem];exact Dw HB):P:=h
theorem afz(h:P:=by
 rcases J2 ho with (h|h|h|h)|⟨h,h1,h2,h3⟩|⟨h,_⟩|⟨h,h1,h2,h3,_⟩|h
 .exact zB s f p w hp h
 .exact zC s f p w hp h
 .exact tK s f p w hp h
 .omega
 .exact tJ s f p w h1 hs h U
 .omega
 .exact tL s f p w h1 hs h h2
 .exact adi s f p w h hs (by have:=h.here;omega)):P:=h
theorem afA(h:P:=by
 have n1:(BitVec.ofInt 64 ((a*256:Nat):Int)).toNat=a*256:=by
  rw[BitVec.ofInt_natCast,Dq];omega
 have n2:(BitVec.ofInt 64 (c:Int)).toNat=c:=by grind
 show IntKind.i64.wrap ((BitVec.ofInt 64 ((a*256:Nat):Int) ||| BitVec.ofInt 64 (c:Int)).toNat:Int)=_
 grind [BitVec.toNat_or,IntKind.wrap_i64]):P:=h
theorem adQ(h:P:=by
 go_enter Tryz.func242,Tryz.ntmps242;go_wp2_with (first|(go_at_call 243;refine cm (HG _ F9) λw3 hp=>?_;have HPP:=Dx hp;clear hp))
 go_returns;exact⟨I,HPP⟩):P:=h
theorem afB(h:P:=by
 go_enter Tryz.func292,Tryz.ntmps292;go_wp2;go_loopw [6,26] (λlv iv wr=>lv=EJ w.heap.size 1 1/\iv=Z 0/\wr=w.alloc (.cells #[Z 0,.string ⟨#[]⟩] 73)) (λ_ _ _=>0)
 case atStart=>exact⟨I,I,I⟩
 case round=>
  obtain⟨rfl,rfl,rfl⟩:=hrel;go_wp2;go_returns;exact⟨_,I,HI,HB⟩):P:=h
theorem aaH(h:P:=by
 rintro e' w' ⟨rfl,hS⟩;exact⟨I,by simp only[KP,e];exact fin (Nk w t o hW1) hS U U⟩):P:=h
theorem xt(h:P:=by
 go_enter Tryz.func224,Tryz.ntmps224;go_wp2
 go_ret2
 exact⟨_,I,F9,aaq _ _⟩):P:=h
theorem afC(h:P:=by
 go_enter Tryz.func157,Tryz.ntmps157;go_wp2_with fail
 go_quiet (fail);go_wp2_with (first|(go_at_call 215;refine cm (HQ _ (by first|exact HB _|exact Ed (HB _) _|exact(HB _).drew|exact(HB _).drew.drew|exact Ed (Ed (HB _) _) _)) λw3 hw3=>?_))
 go_returns;exact⟨I,hw3⟩):P:=h
theorem afD(h:P:=by
 go_region
 all_goals
  refine EE _ (HMB w1 HW1) ?_;intro V hV;have hn:=HN _ V hV;obtain⟨⟨y0,y1,y2,y3,y4,y5,y6,y7,y8,y9⟩,hc⟩:=hn;have HQ:=Dx hc;clear hV hc;go_wp2_with (first|(go_at_call 251;refine cm HQ λw3 hw3=>?_))
  go_returns;exact⟨I,hw3⟩):P:=h
theorem afE(h:P:=by
 have h1:W.heap[s]?=some (.cells cs_.toArray 144 (0,0)):=by rw[hW.1.block s hl];exact h
 have hold':cs_[10+ci*3+ni]?=some (.pointer old):=by rw[<-hold];congr 1;omega
 exact⟨VF hW.2,E7 h1 hold',Eb h1,Dv h1,(AB.1 hW.2).1⟩):P:=h
theorem adR(h:P:=by
 generalize l.length=m at *;subst hsz;have hlt:¬((S.size:Int)<(n:Int)):=U;go_enter Tryz.func246,Tryz.ntmps246;go_wp2
 go_ret
 exact DN):P:=h
theorem afF(h:P:=by
 have HTT:=Dx hT;clear hT hIk;go_wp2_with fail
 refine HTT.mono ?_;rintro e w2 (⟨rfl,hA⟩|⟨rfl,hB⟩)
 .go_wp2;exact⟨I,Aj ⟨I,hA⟩⟩
 .have HB:=Dx hB;clear hB f0 f1 f2;go_wp2;go_roundw
  case rel=>exact⟨k+1,U,Kc,HB⟩
  case measure=>exact Kt):P:=h
theorem adS(h:P:=by
 refine⟨?_,(HOO.h.alloc U _).grown hgrow Fy (λk hk=>(how.lt k hk).1)⟩;rw[AJ,C8,Dw HM];exact hown):P:=h
theorem aaI(h:P:=by
 go_wp2_with fail
 go_roundw
 case rel=>exact⟨j+1,U,Kc,HE⟩
 case measure=>exact Kt):P:=h
theorem afG(h:P:=by
 go_wp2;go_quiet (fail);go_wp2;go_roundw
 case rel=>
  exact⟨I,i+1,U,Kc,(HL1.h (Ed ((AA w1.heap.size w1).alloc (Ar _) _) _)).from _ _,(((Y9 (HBT.alloc _) _).setCell (Aj I) _).setCell (Aj I) _)⟩
 case measure=>exact Kt):P:=h
theorem afH(h:P:=by
 rcases k1 with rfl|rfl;all_goals
  go_enter Tryz.func186,Tryz.ntmps186;go_wp2
  go_ret
  refine⟨?_,HB⟩;refine CG (λx=>Ending.returned (.bool x)) ?_;rw[<-HR.out,BH];have:=HS.out;clear HB HR HS;simp[EC,Ju]
  (try split)<;>omega):P:=h
theorem adT(h:P:=by
 have hby:=G0 hp hc;have hlt:¬((n:Int)<=i):=U;go_enter Tryz.func257,Tryz.ntmps257;go_wp2
 go_ret
 exact⟨I,F9⟩):P:=h
theorem afI(h:P:=by
 simp only[Act.put,Al,Av,Ax];go_wp2_with fail
 refine cm HP λw3 h3=>?_
 have H3:=Dx h3;clear h3 HP;go_wp2_with fail
 go_roundw
 case rel=>exact⟨I,i+1,U,Kc,H3⟩
 case measure=>exact Kt):P:=h
theorem aaJ(h:P:=by
 go_wp2_with fail
 go_quiet (fail);go_wp2;go_returns;exact⟨I,Ed (HB _) _⟩):P:=h
theorem xu(h:P:=by
 go_enter Tryz.func135,Tryz.ntmps135;go_wp2;go_returns;exact⟨I,F9⟩):P:=h
theorem aaK(h:P:=by
 go_wp2;go_roundw
 case rel=>exact⟨k+1,U,Kc,HI⟩
 case measure=>exact Kt):P:=h
theorem afJ(h:P:=by
 rcases ha with ha|ha
 .exact⟨2,1,Aj ⟨I,I⟩,by rw[IU];simp[EX,ha,FI],by simp[ty,ha,FI]⟩
 .exact⟨3,0,Am ⟨I,I⟩,by rw[IU];simp[EX,ha,FI],by simp[ty,ha,FI]⟩):P:=h
theorem aaL(h:P:=by
 unfold R.Gf at hnm;simp only[Dk,Db]at hnm;omega):P:=h
theorem adU(h:P:=by
 refine cs (Nx kind w) ?_;refine⟨?_,I⟩;have:(kind==0 || kind==1 || kind==2)=true:=Fy;rw[this]):P:=h
theorem adV(h:P:=by
 refine wpS_of_wp ?_;go_wp2;exact⟨I,.returning,by cases c₀;simp_all,_,results_none I _ _ _,I,I,I⟩):P:=h
theorem afK(h:P:=by
 grind [Tw,V.Kp,Hn,Ii,D8,Tw.A,List.mem_of_getElem?,Option.some.inj,List.mem_iff_getElem?,V.NZ.H,V.Wr.out,V.Wk.kept,List.length_set,xI,V.WS.row,DF.row,V.RS.row,Bd.le,Nat.le_trans,Hn.free]):P:=h
theorem aaM(h:P:=by
 go_roundw
 case rel=>exact⟨k+1,U,Kc,hw3⟩
 case measure=>exact Kt):P:=h
theorem afL(h:P:=by
 go_enter Tryz.func93,Tryz.ntmps93;go_wp2_with fail
 go_quiet (fail);go_wp2_with fail
 go_quiet (fail);go_wp2_with fail
 go_quiet (fail);go_wp2_with (first|(go_at_call 157;refine cm (HQ _ (HB _ _)) λw3 hw3=>?_))
 go_returns;exact⟨I,hw3⟩):P:=h
theorem aaN(h:P:=by
 go_roundw
 case rel=>exact⟨i+1,U,Kc,HE⟩
 case measure=>exact Kt):P:=h
theorem afM(h:P:=by
 go_region_held3 (λw'=>w'.cell? (Y n 0)=some (EJ g m c)/\w'.cell? (Y g (i*3))=some (Z v0)/\w'.cell? (Y g (i*3+1))=some (.string v1)) (go_keep) (fail)
 go_wp2;go_returns;exact⟨I,(AA _ _).drew⟩):P:=h
theorem afN(h:P:=by
 .rw[<-ha.c];refine⟨hal,λe he hek=>?_⟩;obtain⟨n,s,a1,a2,a3⟩:=Yi hal;rw[a1,SV a2]at he;have hf:=h.a n s e a2 a3 he
  grind [Oc,JD,Key.mk.injEq,Vy,Vu]):P:=h
theorem afO(h:P:=by
 rw[hkey]at hd;obtain⟨d',q1,_,q3⟩:=hI.H hat h1;rw[hd]at q1;cases q1;rcases hk with ⟨q,_⟩|⟨q,_,q2⟩|⟨q,_⟩|⟨q,_⟩|⟨q,_⟩|⟨q,_⟩|⟨q,_⟩
 .omega
 .rw[q2,q3]
 all_goals omega):P:=h
theorem aaO(h:P:=by
 rintro e w' ⟨rfl,hb⟩;exact⟨I,F,h.h hb,D8.J F hb⟩):P:=h
theorem xw(h:P:=by
 simp only[World.setCell,Cv,h];simp):P:=h
theorem adW(h:P:=by
 rw[e1,e2];have hb:=G0 hp hc;go_enter Tryz.func232,Tryz.ntmps232;go_wp2
 go_ret2
 exact⟨I,AA _ _⟩):P:=h
theorem afP(h:P:=by
 clear hk;go_enter Tryz.func36,Tryz.ntmps36;go_wp2_with (first|(go_at_call 64;go_in))
 exact Bm (v:=.tuple #[.agg #[Z 0,Z 0,Dz],Z 14]) (by simp[results,Tryz.results36,go_sem]) I ⟨I,HB⟩):P:=h
theorem afQ(h:P:=by
 clear hc;go_enter Tryz.func19,Tryz.ntmps19;go_wp2_with (first|(go_at_call 35;go_in))
 exact Bm (v:=.tuple #[.agg #[Z 0,Z 0,Dz],Z 13]) (by simp[results,Tryz.results19,go_sem]) I ⟨I,HB⟩):P:=h
theorem afR(h:P:=by
 have h:=run_make (P:=Tryz.prog) W 281 5 i0 (.int .u8 0) Tryz.underlying281 hi hz0 .i64 .i64 (l.length:Int) (l.length:Int) U (BK _) (by rw[hz2];omega) U;rw[hz1,AY,<-hM]at h;exact h):P:=h
theorem afS(h:P:=by
 have HTT:=Dx hT;clear hT hB;go_wp2_with fail
 refine HTT.mono ?_;rintro e w2 (⟨rfl,hA⟩|⟨rfl,hB⟩)
 .go_wp2;exact⟨I,Aj ⟨I,hA⟩⟩
 .go_wp2
  go_end0
  exact Am ⟨I,hB⟩):P:=h
theorem afT(h:P:=by
 have hkl2:k<(Pt.EW (nx s) f p).length:=by grind
 have h:=aX s f p k w' hl hs U;have hpo:Gj (Pt.EW (nx s) f p) (k:Int)=q:=by grind [Gj,Int.toNat_natCast]
 rw[hpo]at h;exact h):P:=h
theorem afU(h:P:=by
 refine Lib.below_freeze (p:=EN w 0) ?_ (Ar _) _;exact((AA w.heap.size w).alloc (Ar _) _).trans ⟨I,I,I,by simp[World.setRow],λk hk=>setRow_other _ _ _ _ U⟩):P:=h
theorem abg(h:P:=by
 have HQ:=Dx (HT0 w hA);clear hA;go_wp2_with (first|(go_at_call 95;refine cm HQ λw1 hw1=>?_;have HP:=Dx hw1;clear hw1))
 refine Qi ?_;go_wp2;go_returns;exact Aj ⟨I,HP _ F9⟩):P:=h
theorem abh(h:P:=by
 rintro e w1 ⟨hk1,⟨h1,h2⟩|⟨a,r,h1,h3,h2,hr1⟩⟩
 .exact Aj ⟨h1,h2,h.only.trans hk1⟩
 .refine Am ⟨a,r,h1,h3,h2,h.only.trans hk1,hr1,?_⟩;have:=h.len
  grind):P:=h
theorem wy(h:P:=by
 go_enter Tryz.func88,Tryz.ntmps88;go_wp2_with (first|(go_at_call 64;go_in))
 go_returns;exact DN):P:=h
theorem wB(h:P:=by
 rintro w'' ⟨F',q1,q2⟩;exact⟨I,(hPost w'').2 ⟨F',q1,(D8.J F hb).trans q2⟩⟩):P:=h
theorem wC(h:P:=by
 go_wp2;refine KJ 0 I ?_;go_wp2;refine Qi ?_;go_wp2;go_returns;exact⟨I,HP⟩):P:=h
theorem wD(h:P:=by
 rcases h with ⟨hv,_⟩|⟨gb,cap,cur,hv,_⟩
 .exact⟨_,_,hv⟩
 .exact⟨_,_,hv⟩):P:=h
theorem aO(h:P:=by
 have HPP:=Dx hp;clear hp;go_wp2;go_returns;exact⟨I,HPP⟩):P:=h
theorem abj(h:P:=by
 rcases J2 ho with (h|h|h|h)|⟨h,_⟩|⟨h,_⟩|⟨h,h1,h2,h3,h4⟩|h
 .omega
 .omega
 .omega
 .omega
 .omega
 .omega
 .exact⟨h2,h3,h4⟩
 .have:=h.here;omega):P:=h
theorem abk(h:P:=by
 clear h1;go_enter Tryz.func161,Tryz.ntmps161;go_wp2_with fail
 go_quiet (fail);go_wp2_with (first|(go_at_call 167;refine cm (HQ _ (Ed (HB _) _)) λw3 hw3=>?_))
 go_returns;exact⟨I,hw3⟩):P:=h
theorem abl(h:P:=by
 obtain⟨a,cap,hC⟩:=Fa h.cl;have hlen:v.zc.length=G.b.length:=by rw[<-h.zc,AX]
 rw[hlen]at hC;exact⟨a,cap,ED h.bx 9 _ (by rw[<-hC];rfl)⟩):P:=h
theorem ko(h:P:=by
 go_enter Tryz.func193,Tryz.ntmps193;go_wp2;go_returns;exact DN):P:=h
theorem kp(h:P:=by
 go_enter Tryz.func127,Tryz.ntmps127;go_wp2;go_returns;exact DN):P:=h
theorem kq(h:P:=by
 go_enter Tryz.func128,Tryz.ntmps128;go_wp2;go_returns;exact⟨I,F9⟩):P:=h
theorem abm(h:P:=by
 grind [Es,QC,Rq,Ss,Hg,ay,Hs,EO,List.replicate,H9,KU,Pt.EW,La,E6,Gu,Et,FZ,FD,EU,KL,Gj,Gt,Rp]):P:=h
theorem abn(h:P:=by
 go_enter Tryz.func194,Tryz.ntmps194;go_wp2_with (go_at_call 238;refine H.mono ?_;rintro e w1 ⟨⟨a,c,rfl⟩,hb⟩;have HX:=Dx (HB w1 hb);clear hb)
 go_returns;exact⟨_,I,HX.1,HX.2⟩):P:=h
theorem abo(h:P:=by
 obtain⟨hl,h⟩:=h;refine⟨hl,?_⟩;rcases h with h|⟨g,cap,cur,hv,hg,hh,r⟩
 .exact Aj h
 .refine Am ⟨g,cap,cur,hv,hg,?_,r⟩
  grind [Below.heap_setCell]):P:=h
theorem wE(h:P:=by
 go_wp2;go_roundw
 case rel=>exact⟨i+1,U,HS,Kc,BR⟩
 case measure=>exact Kt):P:=h
theorem kr(h:P:=by
 rw[<-hW1];exact⟨(WO w t o).2.1,(WO w t o).2.2⟩):P:=h
theorem kt(h:P:=by
 have:=ED h.a.bs 6 p.t.K I;rw[hK]at this;exact this):P:=h
theorem abp(h:P:=by
 generalize str (c :: r)=S1 at *;generalize str r=S2 at *;go_enter Tryz.func207,Tryz.ntmps207;go_wp2_with fail
 refine cs H ?_;go_wp2_with fail
 refine cs H2 ?_;go_wp2
 go_ret
 exact DN):P:=h
theorem abq(h:P:=by
 obtain⟨hl,h⟩:=h;refine⟨hl,?_⟩;rcases h with h|⟨g,cap,cur,rfl,hb,hg,r⟩
 .exact Aj h
 .exact Am ⟨g,cap,cur,I,hb,by rw[hk g rfl];exact hg,r⟩):P:=h
theorem wF(h:P:=by
 grind [Ext,Es,Fx,Il,jC,yX,Gt,List.replicate,Pt.EW,KR]):P:=h
theorem abr(h:P:=by
 exact⟨Br h1.a.size h2,h1.free j h2,λe=>by have:=h1.lt j (Am (Aj e));omega,λs hs f=>by have:=h1.lt j (Am (Am ⟨s,hs,f⟩));omega⟩):P:=h
theorem abt(h:P:=by
 rw[e1,e2];have hb:=G0 U hc;generalize nx s (p+1)=d at *;go_enter Tryz.func232,Tryz.ntmps232;go_wp2_with fail
 refine cs (HD _) ?_;go_wp2
 go_ret2
 exact⟨I,AA _ _⟩):P:=h
theorem abu(h:P:=by
 rw[e];clear e;have hd:0<=n / 256/\n / 256<=255:=U;have hm:0<=n % 256/\n % 256<=255:=U;go_enter Tryz.func192,Tryz.ntmps192;go_wp2
 go_ret
 exact⟨I,F9⟩):P:=h
theorem abv(h:P:=by
 have uz:DJ w2 x 8:=(A8 hgx).trans z8;have HP:=Dx hP;clear how2 hg2 hat2 hP hgx HFIN;go_wp2_with fail
 go_returns;exact⟨I,HP⟩):P:=h
theorem wG(h:P:=by
 exact Am ⟨I,I,U,Kx,λv out h=>V.TV h Kx Kx Kx Kx Kx⟩):P:=h
theorem wH(h:P:=by
 rintro w' ⟨v',F',m1,m2⟩;exact⟨I,v',F',m1,(D8.J F hW).trans m2⟩):P:=h
theorem abw(h:P:=by
 have h:i=0\/i=1\/i=2\/i=3\/i=4\/i=5\/i=6\/i=7\/i=8:=U;rcases h with rfl|rfl|rfl|rfl|rfl|rfl|rfl|rfl|rfl<;>rfl):P:=h
theorem abx(h:P:=by
 have hsz:(Qo W' lb k G.c.c G.c.e).heap.size=W'.heap.size:=Ev;rw[<-hsz]at hb2;exact⟨v3,F3,n1.h hb2,(m2.trans n2).trans (D8.J F3 hb2)⟩):P:=h
theorem aby(h:P:=by
 go_enter Tryz.func283,Tryz.ntmps283;go_wp2;exact Bm (v:=.agg #[Z x.1,.string x.2]) (by simp[results,Tryz.results283,go_sem]) I ⟨I,_,Dw FIN _ (Dw HIT)⟩):P:=h
theorem abz(h:P:=by
 go_wp2_with (first|(go_at_call 131;refine cm (H167 _ (HB1.alloc (Nat.le_of_lt hB1) _)) λw4 hp=>?_;have HPP:=Dx hp;clear hp))
 go_returns;exact⟨I,HPP⟩):P:=h
theorem ku(h:P:=by
 exact(AA w.heap.size w).alloc (Ar _) _):P:=h
theorem wI(h:P:=by
 rw[Ho,Er,A7 (by rw[A9];omega)]):P:=h
theorem abA(h:P:=by
 have hta:=PU n q;go_enter Tryz.func87,Tryz.ntmps87;go_wp2;exact Bm (v:=Gk n q) (by simp[results,Tryz.results87,go_sem]) I ⟨I,F9.alloc Ev _⟩):P:=h
theorem wJ(h:P:=by
 rintro w' ⟨F',m1,m2⟩;exact⟨I,NM.of m1 ((D8.J F hb).trans m2)⟩):P:=h
theorem abB(h:P:=by
 grind [SP,R.Cf,R.Sv,R.Sn,R.Jb,G9,PR,DF,PT,Pp,Pp.one,Option.some.inj,V.WS.row,DF.row,V.RS.row,IW,nf,ES]):P:=h
theorem abC(h:P:=by
 go_wp2_with fail
 refine cm HN ?_;rintro w1 ⟨hk,ha⟩;have h2:=ha.place;have h3:=ha.wm;go_wp2
 go_ret
 exact⟨I,hk.setCell (Aj I) _,ha.set⟩):P:=h
theorem wK(h:P:=by
 all_goals
  have hclr:=(Dw HC);go_wp2
  go_ret
  exact⟨I,HE,HK⟩):P:=h
theorem wL(h:P:=by
 rintro w' ⟨F',m1,m2⟩;exact⟨I,F',m1,(D8.J F hb).trans m2⟩):P:=h
theorem abD(h:P:=by
 obtain⟨zl,h1,h2,h3⟩:=h.ln i z hz;exact⟨zl,h1,hk.at h2 (nb h2 Em),λy hy=>(h3 y hy).keep hk (λb cur _ hb=>nb hb Em) (λ_ q=>q)⟩):P:=h
theorem wM(h:P:=by
 cases hs;rw[h.1,h.2];refine ae0 ⟨I,?_,?_⟩<;>simp[num]<;>omega):P:=h
theorem wN(h:P:=by
 have:=hwf.cl j c hc;exact⟨this.a,this.b,this.d,this.H⟩):P:=h
theorem abE(h:P:=by
 have h3:n=1\/n=2\/n=3:=U;rcases h3 with rfl|rfl|rfl
 .show _=_;kernel_rfl
 .show _=_;kernel_rfl
 .show _=_;kernel_rfl):P:=h
theorem wO(h:P:=by
 apply CJ
 grind [ByteArray.data_extract,List.extract_eq_take_drop]):P:=h
theorem abF(h:P:=by
 rw[run_convert_bytes_string _ 281 9 5 _ _ _ Tryz.underlying281 Tryz.underlying5 Tryz.underlying9,run_bytesToString _ _ _ _ [a,b]]
 .rfl
 .simp[loadCells,go_sem]):P:=h
theorem abG(h:P:=by
 clear h2;go_enter Tryz.func242,Tryz.ntmps242;go_wp2_with fail
 go_quiet (fail);go_wp2_with fail
 go_returns;exact⟨I,HG _ (LG w (Ar _) _ _)⟩):P:=h
theorem wQ(h:P:=by
 rw[<-hBX];exact(AL _ _ _ Ev).trans (AF w _)):P:=h
theorem wR(h:P:=by
 subst e;obtain⟨cur,hc⟩:=J3 hrow rfl;exact ES hc h.bx Em I):P:=h
theorem abH(h:P:=by
 rw[hW2,hW1];have k0:DF (λk=>k=g) w w.drew:=(DF.refl _ w).drew;exact(k0.trans (NE _ _ _)).trans (NE _ _ _)):P:=h
theorem abI(h:P:=by
 rw[e];go_enter Tryz.func211,Tryz.ntmps211;go_wp2;exact Bm (v:=.tuple #[Z 8,Z 8]) (by simp[results,Tryz.results211,go_sem]) I ⟨I,HB⟩):P:=h
theorem abJ(h:P:=by
 rw[e];go_enter Tryz.func211,Tryz.ntmps211;go_wp2;exact Bm (v:=.tuple #[Z 0,Z 8]) (by simp[results,Tryz.results211,go_sem]) I ⟨I,HB⟩):P:=h
theorem abK(h:P:=by
 clear h3 hk;go_enter Tryz.func215,Tryz.ntmps215;go_wp2_with (first|(go_at_call 248;refine cs (HV _ (HB _)) ?_))
 go_returns;exact⟨I,HQ _ (HB _)⟩):P:=h
theorem abL(h:P:=by
 rcases hk with hk|hk
 .exact Aj (by rw[<-hq11,hk];rfl)
 .exact Am ⟨by rw[<-hq11,hk];rfl,by rw[<-hq12,hk];rfl⟩):P:=h
theorem abM(h:P:=by
 rintro e' w' ⟨rfl,L',K',hS,hl⟩;refine⟨I,t,L',K',?_,by simp only[KP,e];rfl,U⟩;rw[Rc hi];exact hS.more U):P:=h
theorem abN(h:P:=by
 funext v;have hh:EO g f p v=some ([],List.replicate (g (p+1)-48) (p+2),v):=by simp[EO,ha]
 rw[H9 hh,KU]):P:=h
theorem abO(h:P:=by
 rintro e w' (h|⟨rfl,x',hr,c',O',hc',hst,hk⟩)
 .exact Aj h
 .exact Am ⟨I,x',hr,c',O',U,hst,h1.trans hk⟩):P:=h
theorem wS(h:P:=by
 go_enter Tryz.func199,Tryz.ntmps199;go_wp2;go_returns;exact⟨I,H _ I⟩):P:=h
theorem abP(h:P:=by
 go_enter Tryz.func50,Tryz.ntmps50;go_wp2_with (first|(go_at_call 35;go_in))
 all_goals first
  |done
  |(go_returns
    exact DN)):P:=h
theorem wT(h:P:=by
 exact⟨I,by obtain⟨F',l,g⟩:=hM;exact hT.tH l g⟩):P:=h
theorem abQ(h:P:=by
 grind [Er,List.drop_of_length_le,Array.length_toList,Lib.byteCells,Ku]):P:=h
theorem wU(h:P:=by
 go_enter Tryz.func139,Tryz.ntmps139;go_wp2;go_returns;exact DN):P:=h
theorem wV(h:P:=by
 rintro w' ⟨v',F',r1,r2,_⟩;exact⟨I,v',F',r1,r2⟩):P:=h
theorem wW(h:P:=by
 go_enter Tryz.func134,Tryz.ntmps134;go_wp2;go_returns;exact DN):P:=h
theorem wX(h:P:=by
 go_enter Tryz.func240,Tryz.ntmps240;go_wp2;go_returns;exact DN):P:=h
theorem abR(h:P:=by
 show ((w.alloc (Gb x0 x1 ea en ec)).heap.push _)[(w.alloc (Gb x0 x1 ea en ec)).heap.size]?=_;rw[Bz]):P:=h
theorem wY(h:P:=by
 go_enter Tryz.func37,Tryz.ntmps37;go_wp2;go_returns;exact DN):P:=h
theorem wZ(h:P:=by
 cases h;exact λv out h=>V.TV h Kx Kx Kx Kx Kx):P:=h
theorem xb(h:P:=by
 have:=q 1 U;simp[World.cell?,hg];simpa [Gp] using this):P:=h
theorem abS(h:P:=by
 grind [Wd,Inv,Pk,Cd,Lm,R.Gr.J,R.off,DL,R.Cd.h,EY,Sn,Hl,F7,R.Inv.gather,R.Inv.XH]):P:=h
theorem abT(h:P:=by
 unfold GK;rw[BP,Ah U,Bu,Ah U];rfl):P:=h
theorem abU(h:P:=by
 rcases Nat.eq_zero_or_pos n with h0|h0
 .subst h0
  grind [List.length_eq_zero_iff]
 grind [R.Inv.unique,Int.toNat_natCast]):P:=h
theorem xd(h:P:=by
 rw[hpost];exact λw' hb hr=>⟨hb,Aj ⟨hr,I⟩⟩):P:=h
theorem abV(h:P:=by
 rcases h.2 with ⟨h0,_⟩|⟨g',cap',cur,hv,_,hg,_,_,_,htk⟩;all_goals grind [World.cell?]):P:=h
theorem abW(h:P:=by
 have e8:=Ek (off:=8) e7 (Z 0);have e9:=Ek (off:=9) e8 (Z 0);exact Ek (off:=10) e9 (Z 0)):P:=h
theorem abX(h:P:=by
 go_wp2;go_quiet (fail);go_wp2;go_roundw
 case rel=>exact⟨i+1,U,Kc,Ed HBB _⟩
 case measure=>exact Kt):P:=h
theorem xe(h:P:=by
 go_enter Tryz.func143,Tryz.ntmps143;go_wp2
 go_ret
 exact DN):P:=h
theorem abY(h:P:=by
 clear hc hN;go_enter Tryz.func194,Tryz.ntmps194;go_wp2_with (go_at_call 237;refine cs H ?_)
 go_returns;exact⟨_,I,HR,F9⟩):P:=h
theorem abZ(h:P:=by
 have:=hcd'.sig;rw[hk']at this;exact⟨d'.a,d'.to,d'.bs,by rw[g3];exact this,by rw[g4];exact hcd'.bs⟩):P:=h
theorem ab0(h:P:=by
 rintro e w' ⟨rfl,v',F',m1,m2⟩;exact⟨I,v',F',m1,((hw.trans r2).trans (D8.J F hb')).trans m2⟩):P:=h
theorem ab1(h:P:=by
 exact⟨Ev,Ev,λ_=>⟨by show -65536<=x.1;omega,by show x.1<=65536;omega⟩,Ev,Ev,Aj I⟩):P:=h
theorem ab2(h:P:=by
 have hn:=(h3 a).1;rw[hg]at hn;have:=atKey_of_not_has hn (.lit (.int .i64 0));rw[hc.1]at this;cases this;rfl):P:=h
theorem ab3(h:P:=by
 funext v;have hh:EO g f p v=some ([],Pt.EW g f p,v):=by simp[EO,hr]
 rw[H9 hh,KU]):P:=h
theorem ab4(h:P:=by
 go_wp2_with (first|(go_at_call 193;refine cs (H220 _) ?_))
 go_returns;exact⟨I,HFF _ (AA _ _)⟩):P:=h
theorem xf(h:P:=by
 exact⟨I,NM.of (h.h hb) (D8.J F hb)⟩):P:=h
theorem ab5(h:P:=by
 rcases h.2 with ⟨rfl,_⟩|⟨g,cap,cur,rfl,_,hg,_⟩
 .cases hj
 .cases hj;exact⟨cur,hg⟩):P:=h
theorem ab6(h:P:=by
 clear hown hgrow hat hrd hrs2 hwk2 how hO;go_wp2
 go_end0
 rw[hSS];exact⟨I,_,Dw HR2,Dw HK2⟩):P:=h
theorem ab7(h:P:=by
 .obtain rfl:k=n:=U;have HI:=Dx hJ;clear hJ;go_wp2;go_returns;exact⟨I,_,HI⟩):P:=h
theorem ab8(h:P:=by
 go_enter Tryz.func115,Tryz.ntmps115;go_wp2_with fail
 refine cm HH λw1 hb=>?_
 go_wp2
 go_ret2
 exact⟨I,hb⟩):P:=h
theorem ab9(h:P:=by
 have:=R.JK hdn.bytes;have h2:=V.jP this;have h3:=hdn.bytes;unfold R.Fi at h3
 grind):P:=h
theorem acb(h:P:=by
 have hl:i<G.J.length:=by rw[h.g.sl];exact hi9
 grind [R.F7,List.getElem?_eq_getElem]):P:=h
theorem acd(h:P:=by
 go_enter Tryz.func146,Tryz.ntmps146;go_wp2_with fail
 refine cm H λw1 hb=>?_
 go_wp2
 go_ret
 exact⟨I,hb⟩):P:=h
theorem ace(h:P:=by
 rcases e with rfl|e
 .exact ES hb h.bx h1 I
 .exact Fg h.a hb (λq=>h2 q.symm) e):P:=h
theorem acf(h:P:=by
 go_wp2_with fail
 refine cm H1 λw1 hb1=>?_
 go_wp2;exact⟨I,I,hb.trans (hb1.mono hb.size)⟩):P:=h
theorem acg(h:P:=by
 rintro w' ⟨v2,F2,m1,m2⟩;exact⟨I,v2,F2,m1,(r2.trans (D8.J F' hb2)).trans m2⟩):P:=h
theorem ach(h:P:=by
 show _=_;have:=AF (w.alloc (.cells #[Z 0] 3)) (.cells #[Z 0] 41);simpa using this):P:=h
theorem aci(h:P:=by
 rintro w' ⟨v',F',m1,m2⟩;exact⟨I,v',F',m1,(hw.trans (D8.J F hb)).trans m2⟩):P:=h
theorem acj(h:P:=by
 exact⟨_,QM Kx he (by simp[Et,KL,V.EU]),by simp[Et,KL,V.EU]⟩):P:=h
theorem acm(h:P:=by
 rw[Ay h255];exact same (hno 11 (Am (Am (Am ⟨hn,U,U,U,h255,I⟩))))):P:=h
theorem afi(h:P:=by
 exact((h.h.alloc U o).grown hg U (λk hk=>by have:=hrow k hk;omega)).setCell Ev _):P:=h
theorem acn(h:P:=by
 clear hno;go_enter Tryz.func182,Tryz.ntmps182;go_wp2;go_quiet (fail);go_wp2
 go_ret3
 exact⟨I,_,I⟩):P:=h
theorem aco(h:P:=by
 go_wp2_with fail
 go_roundw
 case rel=>exact⟨i+1,U,Kc,HB'⟩
 case measure=>exact Kt):P:=h
theorem acp(h:P:=by
 rcases Nv G.J ci (3*ci+ni) _ hr2 with ⟨_,q⟩|⟨q,_⟩
 .exact q
 .omega):P:=h
theorem acr(h:P:=by
 rintro e w' ⟨rfl,v',F',r1,r2⟩;exact⟨I,v',F',r1,(D8.J F hb).trans r2⟩):P:=h
theorem acs(h:P:=by
 rintro e w' (⟨rfl,_,hb⟩|⟨rfl,x',hx,_⟩)
 .exact⟨I,hbb w' hb⟩
 .cases hx):P:=h
theorem acu(h:P:=by
 intro t ht;rw[<-Gd hp];rcases hg with hg|hg<;>rw[hg]at ht ⊢<;>subst ht<;>simp):P:=h
theorem acv(h:P:=by
 go_enter Tryz.func206,Tryz.ntmps206;go_wp2_with fail
 refine cs H ?_;go_wp2
 go_ret
 exact DN):P:=h
theorem acw(h:P:=by
 rw[show ((a.toNat*256:Nat):Int)=(a.toNat:Int)*256 by omega]at this;exact this):P:=h
theorem acx(h:P:=by
 rcases hh with ⟨rfl,rfl⟩|⟨rfl,rfl⟩
 .simp[FW];omega
 .simp[FW];omega):P:=h
theorem acy(h:P:=by
 rw[<-Jh JN fl i j f hf hj,<-htk,BI,Ay U];simp):P:=h
theorem acz(h:P:=by
 go_wp2;go_roundw
 case rel=>exact⟨j+1,U,Kc,HN⟩
 case measure=>exact Kt):P:=h
theorem afj(h:P:=by
 intro k hk hr;rw[hg.block k U (λe=>hr e.symm)];exact AL _ _ _ hk):P:=h
theorem acA(h:P:=by
 go_wp2_with fail
 refine cm (HD _) λw1 hb1=>?_
 go_wp2
 go_ret
 exact⟨I,hb1⟩):P:=h
theorem acB(h:P:=by
 exact h.XH ha.right ha.Q ha.c Em Em Em (Am (Am ⟨I,I⟩))):P:=h
theorem acC(h:P:=by
 rw[<-hBX];exact((AA w.heap.size w).alloc (Ar _) _).alloc Ev _):P:=h
theorem acD(h:P:=by
 subst h0;go_enter Tryz.func200,Tryz.ntmps200;go_wp2
 go_ret
 exact⟨I,AA _ _⟩):P:=h
abbrev Gk(n q:Nat):Value:=.agg #[Z n,Z q]
abbrev EQ(n q:Nat):Ending:=.panicked [{v:=.iface 161 (Gk n q),recovered:=false}]
theorem Dv{o:Obj}(h:w.heap[k]?=o):k<w:=by grind
theorem Ho(l:Ac)(a b:Nat):(str l).extract a b=str ((l.drop a).take (b-a)):=by
 exact wO
def Ku(l:Ac):List Value:=l.map λc=>Value.int .u8 c.toNat
theorem info5:(prog.info? 5).map (λi=>(i.zero,i.size,i.bytes))=some (some (.int .u8 0),1,1):=EL
theorem UG(w:Aa)(l:Ac)(M:Array Value)(a:M=l.length):
  (Builtin.copy_ #[281,9] 3 #[EJ w l l,.string (str l)]).run prog (w.alloc (.cells M 5))=.ok (goInt l) ((w.alloc (.cells M 5)).setRow w (Ku l).toArray):=by
 have h:=Lib.run_copy_row_string (P:=prog) (w.alloc (.cells M 5)) 281 9 3 5 (zz w) 0 l.length l.length (str l) M 5 underlying281 EL (AF w _) (by rw[Er];exact Ar _) (by rw[Er];omega);exact abQ
theorem Tv(w:Aa)(M:Array Value)(a:Array Value)(n:Nat):DY w (((w.alloc (.cells M 5)).setRow w a).freeze (EN w 0) n):=by
 exact afU
theorem UH(w:Aa)(l:Ac)(M:Array Value)(a:l≠[])(hl:l.length<=1000):
  (Builtin.unsafeString_ #[330,3] 9 #[.pointer (EN w 0),Z l]).run prog ((w.alloc (.cells M 5)).setRow w (Ku l).toArray)=.ok (.string (str l)) (((w.alloc (.cells M 5)).setRow w (Ku l).toArray).freeze (EN w 0) l):=by
 have b:=setRow_heap (w.alloc (.cells M 5)) (zz w) M (Ku l).toArray 5 (0,0) (AF w _);have c:(Ku l).toArray.size=l.length:=by simp[Ku]
 refine Lib.run_unsafeString_row (P:=prog) _ 330 3 9 5 underlying330 EL (zz w) l.length ?_ l a (Ar _) U λj x d=>?_
 .grind [World.shape?]
 .refine Lib.cells_of_row b l.length j _ ?_
  grind [Ku]
theorem QN(l:Ac)(w:Aa)(hl:l.length<=1000):D7 200 #[.string (str l)] w (.string (str l)) (DY w):=by
 have hsz:=Er l;by_cases h0:l=[]
 .exact acD
 .have⟨i0,hi,hz0,hz1,hz2⟩:=A1 info5;have a:=Cg.2 h0;obtain⟨M,hM⟩:∃M,M=madeCells (Value.int .u8 0).cells (l.length*1):=DR;have hMs:M.size=l.length:=by rw[hM,Dg];omega
  have b:∀W:World,(Instr.makeSlice 281 (Z (l.length:Int)) (Z (l.length:Int))).run prog W=.ok (EJ (zz W) l.length l.length) (W.alloc (.cells M 5)):=λW=>by
   exact afR
  exact afw
theorem Kr(l:Ac)(w:Aa)(hl:l.length<=1000):D7 146 #[.string (str l)] w (.string (str l)) (DY w):=by
 have H:=Dx (QN l w hl);generalize hS:str l=S at *;exact acd
def Rd(w:Aa)(b:Nat)(l:Ac):Prop:=w.heap[b]?=some (.cells #[.string (str l),Z 7] 249 (0,0))
theorem Rd.left(h:Rd w b l):w.cell? (Y b 0)=some (.string (str l)):=by grind [Rd,World.cell?]
theorem Rd.WC(h:Rd w b l):w.cell? (Y b 1)=Z 7:=by grind [Rd,World.cell?]
theorem Rd.thaw(h:Rd w b l)(o:Nat):DJ w b o:=by grind [Rd,World.frozen?]
theorem Rd.lt(h:Rd w b l):b<w:=Dv h
theorem Rd.set(h:Rd w b l)(l':Ac):Rd (w.setCell (Y b 0) (.string (str l'))) b l':=by grind [Rd,World.setCell]
theorem Rd.h(h:Rd w b l)(a:Below B w w')(hB:b<B):Rd w' b l:=by
 unfold Rd at h ⊢;rw[a.block b hB];exact h
theorem JR(b:Nat)(l:Ac)(w:Aa)(h:Rd w b l):ET 213 #[.pointer (Y b 0)] w λe a=>e=EQ 7 0/\a=w:=by
 have c:=h.WC
 delta ET
 go_in
 go_wp2;exact⟨I,I,I⟩
theorem ME(b:Nat)(l:Ac)(n:Nat)(w:Aa)(h:Rd w b l)(hn:n<=l)(hl:l.length<=9223372036854775807):
  D7 246 #[.pointer (Y b 0),Z n] w (.string (str (l.take n))) λa=>a=w.setCell (Y b 0) (.string (str (l.drop n))):=by
 have c:=h.left;have d:=h.thaw 0;have hsz:=Er l;have e1:(str l).extract 0 n=str (l.take n):=by rw[Ho];simp
 have e2:(str l).extract n (str l).size=str (l.drop n):=by
  exact wI
 generalize hS:str l=S at *;generalize hA:str (l.take n)=A at *;generalize hB:str (l.drop n)=B at *;exact adR
theorem Qy(b:Nat)(l:Ac)(n:Nat)(w:Aa)(h:Rd w b l)(hn:¬n<=l):
  ET 246 #[.pointer (Y b 0),Z n] w λe f=>e=EQ 7 0/\f=w:=by
 have g:=h.left;have a:=Er l;have c:=Dx (JR b l w h);generalize hS:str l=S at *;clear hS h;have d:((S.size:Int)<(n:Int)):=U;clear hn a
 delta ET
 go_in
 go_wp2_with fail
 refine(Dw c).mono ?_;rintro e i ⟨rfl,rfl⟩;go_wp2;exact⟨I,I,I⟩
structure J8(b:Nat)(w w':Aa):Prop where
 h:Below b w w'
 size:w.heap.size<=w'.heap.size
 block:∀k,k<w.heap.size->k≠b->w'.heap[k]?=w.heap[k]?
theorem J8.refl(b:Nat)(w:Aa):J8 b w w:=by grind [J8,Below.refl]
theorem J8.trans{u v:Aa}(h:J8 b u v)(k:J8 b v w):J8 b u w:=⟨h.h.trans k.h,Br h.size k.size,λi hi a=>(k.block i (Ai hi h.size) a).trans (h.block i hi a)⟩
theorem J8.set(b o:Nat)(w:Aa)(x:Ad):J8 b w (w.setCell (Y b o) x):=⟨(AA _ _).setCell Ev _,Ev,λ_ _ hk=>AU _ _ _ _ (by simpa using hk)⟩
theorem J8.of_below(h:DY w w')(a:b<=w):J8 b w w':=⟨h.mono a,h.size,λk hk _=>h.block k hk⟩
def aep(b:Nat)(l:Ac)(w:Aa)(e:Ending)(w':Aa):Prop:=J8 b w w'/\((l=[]/\e=EQ 7 0)\/∃c r,l=c :: r/\e=.returned (Z c.toNat)/\Rd w' b r)
theorem N8(h:Rd w b l)(hl:l.length<=9223372036854775807):ET 206 #[.pointer (Y b 0)] w (aep b l w):=by
 cases l with
 |nil=>
  have H:=Dx (Qy b [] 1 w h Ev);clear h
  delta ET
  go_in
  go_wp2_with fail
  refine(Dw H).mono ?_;rintro e d ⟨rfl,rfl⟩;go_wp2;exact⟨I,J8.refl _ _,Aj ⟨I,I⟩⟩
 |cons c r=>
  have⟨H,a⟩:=FU (ME b (c :: r) 1 w h Ev hl) (h.set r);rw[show (c :: r).take 1=[c] from rfl,show (c :: r).drop 1=r from rfl]at H;have i0:(str [c])[0]'(by rw[Er];simp)=c:=rfl;have hc:=c.toNat_lt;have f:wrap64 (c.toNat:Int)=(c.toNat:Int):=NU;clear h
  delta ET
  go_in
  go_wp2_with fail
  refine(Dw H).mono ?_;rintro e d ⟨rfl,rfl⟩;go_wp2
  go_ret
  exact⟨J8.set _ _ _ _,Am ⟨c,r,I,I,Dw a⟩⟩
end Go.Proofs.YtblomippkddgiabGreatDoor
