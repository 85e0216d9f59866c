import Derived.Test.YtblomippkddgiabGreatDoorRows
namespace Go.Proofs.YtblomippkddgiabGreatDoor
abbrev afG:=@List.getElem?_eq_some_iff
abbrev afH:=@List.getElem?_eq_getElem
abbrev afI:=@Nat.le_refl
abbrev afJ:=@Or.inl
abbrev afK:=@List.setIfInBounds_toArray
abbrev afL:=@List.getElem_cons_zero
abbrev afM:=@Or.inr
abbrev afN:=@List.getElem_cons_succ
abbrev afO:=@List.getElem_toArray
abbrev afP:=@List.set_cons_zero
abbrev afQ:=@List.set_cons_succ
abbrev afR:=@Array.getElem?_eq_some_iff
abbrev afS:=@List.length_append
abbrev afT:=@Nat.lt_of_lt_of_le
abbrev afU:=@List.mem_of_getElem?
abbrev afV:=@List.getElem?_set
abbrev afW:=@List.getElem?_map
abbrev afX:=@List.getD_eq_getElem?_getD
abbrev afY:=@Int.toNat_natCast
abbrev afZ:=@List.getElem?_replicate
abbrev af0:=@List.length_map
abbrev af1:=@List.length_cons
abbrev af2:=@Option.getD_some
abbrev af3:=@List.mem_singleton
abbrev af4:=@List.getElem?_append_left
abbrev af5:=@List.getElem?_eq_none
abbrev af6:=@List.take_of_length_le
abbrev af7:=@List.getElem?_take
abbrev af8:=@Nat.zero_le
abbrev af9:=@Option.map_some
abbrev aga:=@List.length_take
abbrev agb:=@List.mem_append
abbrev agc:=@List.mem_or_eq_of_mem_set
abbrev agd:=@List.ext_getElem?
abbrev age:=@List.replicate_succ
abbrev agf:=@List.length_drop
abbrev agh:=@List.getElem?_append_right
abbrev agi:=@Array.getElem?_modify
abbrev agj:=@List.getElem?_toArray
abbrev agk:=@List.append_assoc
abbrev agl:=@List.eq_nil_of_length_eq_zero
abbrev agm:=@List.getElem?_modify
abbrev agn:=@Nat.zero_add
abbrev agp:=@List.take_append_of_le_length
abbrev agq:=@List.length_set
abbrev agr:=@List.getElem_mem
abbrev ags:=@Array.getElem?_eq_none
abbrev agt:=@Int.le_refl
abbrev agu:=@List.getElem_of_mem
abbrev agv:=@List.append_nil
abbrev agw:=@List.map_append
abbrev agx:=@List.range_succ
abbrev agy:=@Nat.lt_or_ge
abbrev agz:=@List.cons_append
abbrev agA:=@List.length_singleton
abbrev agB:=@Nat.mul_le_mul_right
abbrev agC:=@List.mem_cons_of_mem
abbrev agD:=@List.map_cons
abbrev agE:=@List.mem_map
abbrev agF:=@Nat.mul_comm
abbrev agG:=@Array.length_toList
abbrev agH:=@List.take_add_one
abbrev agI:=@List.flatMap_cons
abbrev agJ:=@Array.getElem?_push_size
abbrev agK:=@List.mem_append_left
abbrev agL:=@List.length_eq_zero_iff
abbrev agM:=@Nat.le_trans
abbrev agN:=@List.length_pos_iff
abbrev agO:=@List.nil_append
abbrev agP:=@List.getElem?_drop
abbrev agQ:=@List.mem_cons_self
abbrev agR:=@List.mem_cons
abbrev agS:=@List.mem_of_mem_eraseIdx
abbrev agT:=@List.drop_append_of_le_length
abbrev agU:=@List.foldl_append
abbrev agV:=@List.map_nil
abbrev agW:=@List.take_length
abbrev agX:=@List.take_append_drop
abbrev agY:=@List.mem_iff_getElem?
abbrev agZ:=@List.findIdx?_eq_some_iff_getElem
abbrev ag0:=@List.findIdx?_eq_none_iff
abbrev ag1:=@List.getElem?_eq_none_iff
abbrev ag2:=@List.foldl_cons
abbrev ag3:=@List.mem_flatMap
abbrev ag4:=@Nat.succ_mul
abbrev ag5:=@List.set_set
abbrev ag6:=@List.mem_filter
abbrev ag7:=@Nat.pow_le_pow_right
abbrev ag8:=@Int.tdiv_eq_ediv_of_nonneg
abbrev ag9:=@List.pairwise_iff_getElem
abbrev aha:=@Nat.add_zero
end Go.Proofs.YtblomippkddgiabGreatDoor
namespace Go.Proofs.YtblomippkddgiabGreatDoor
variable {a b n:Int}{l:List UInt8}
def abh:BitVec 16:=0x8005#16
def mv(w:BitVec 16):BitVec 16:=if w.msb then (w <<< 1) ^^^ abh else w <<< 1
def high(b:UInt8):BitVec 16:=BitVec.ofNat 16 (b.toNat*256)
def mvs:Nat->BitVec 16->BitVec 16
 |0,w=>w
 |n+1,w=>mvs n (mv w)
def O3(w:BitVec 16)(b:UInt8):BitVec 16:=mvs 8 (w ^^^ high b)
def LP(w:BitVec 16)(l:List UInt8):BitVec 16:=l.foldl O3 w
def crc(l:List UInt8):BitVec 16:=LP 0 l
theorem EI{a b c:BitVec 16}(h:a ^^^ c=b ^^^ c):a=b:=by
 have h2:=congrArg (· ^^^ c) h;simp only[BitVec.xor_assoc,BitVec.xor_self,BitVec.xor_zero]at h2;exact h2
theorem LJ{a b c:BitVec 16}(h:c ^^^ a=c ^^^ b):a=b:=by
 rw[BitVec.xor_comm c a,BitVec.xor_comm c b]at h;exact EI h
theorem Vh(a:BitVec 16):(a <<< 1).getLsbD 0=false:=by simp
theorem Vg{a b:BitVec 16}(hm:a.msb=b.msb)(h:a <<< 1=b <<< 1):a=b:=by
 apply BitVec.eq_of_getLsbD_eq;intro i hi;by_cases aa:i=15
 ·subst aa;simpa [BitVec.msb_eq_getLsbD_last] using hm
 ·have:=congrArg (·.getLsbD (i+1)) h;simp only[BitVec.getLsbD_shiftLeft]at this;have e:i+1<16:=by omega
  simpa [e] using this
theorem acx{a b:BitVec 16}(h:mv a=mv b):a=b:=by
 unfold mv at h;have p0:abh.getLsbD 0=true:=by decide
 have a0:=Vh a;have b0:=Vh b;cases ha:a.msb<;>cases hb:b.msb<;>simp only[ha,hb,if_true,if_false,Bool.false_eq_true]at h
 ·exact Vg (by rw[ha,hb]) h
 ·have:=congrArg (·.getLsbD 0) h;simp only[BitVec.getLsbD_xor,a0,b0,p0]at this;simp at this
 ·have:=congrArg (·.getLsbD 0) h;simp only[BitVec.getLsbD_xor,a0,b0,p0]at this;simp at this
 ·exact Vg (by rw[ha,hb]) (EI h)
theorem U5:∀(n:Nat) {a b:BitVec 16},mvs n a=mvs n b->a=b:=by
 intro n;induction n with
 |zero=>intro a b h;exact h
 |succ n ih=>intro a b h;exact acx (ih h)
theorem Yg{a b:UInt8}(h:high a=high b):a=b:=by
 have:=congrArg BitVec.toNat h;unfold high at this;rw[BitVec.toNat_ofNat,BitVec.toNat_ofNat]at this;have ha:=a.toNat_lt;have hb:=b.toNat_lt;apply UInt8.toNat_inj.1;omega
theorem Qt:∀(l:List UInt8) {a b:BitVec 16},LP a l=LP b l->a=b:=by
 intro l;induction l with
 |nil=>intro a b h;exact h
 |cons x l ih=>
  intro a b h;have h1:O3 a x=O3 b x:=ih h;exact EI (U5 8 h1)
theorem XW(p q:List UInt8)(a b:UInt8)(h:a≠b):crc (p++a :: q)≠crc (p++b :: q):=by
 intro e;unfold crc LP at e;rw[agU,agU,ag2,ag2]at e;have h1:=Qt q e;exact h (Yg (LJ (U5 8 h1)))
theorem QZ(n:Nat)(w:BitVec 16):mvs (n+1) w=mv (mvs n w):=by
 induction n generalizing w with
 |zero=>rfl
 |succ n ih=>exact ih (mv w)
structure Pk where
 kind:Int
 client:Int
 Ae:Int
 line:Int
 seq:Int
 uid:Int
 part:Int
 off:Int
 please:Bool
 body:List UInt8
def Dm(p:Pk):Prop:=if p.kind=1\/p.kind=5 then (if p.part<p.off-1 then p.body.length=8 else p.body.length<=8) else p.body.length=0
instance (p:Pk):Decidable (Dm p):=by unfold Dm;infer_instance
def AR(p:Pk):Prop:=(1<=p.kind/\p.kind<=7)/\(0<=p.client/\p.client<=2)/\(1<=p.Ae/\p.Ae<=255)/\(0<=p.line/\p.line<=2)/\(1<=p.seq/\p.seq<=999)/\(1<=p.uid/\p.uid<=255)/\(1<=p.off/\p.off<=9)/\(0<=p.part/\p.part<=p.off-1)/\Dm p
instance (p:Pk):Decidable (AR p):=by unfold AR;infer_instance
theorem LO{p:Pk}(h:AR p):p.body.length<=8:=by
 obtain⟨_,_,_,_,_,_,_,_,h⟩:=h;unfold Dm at h;split at h
 ·split at h<;>omega
 ·omega
def b8(n:Int):UInt8:=UInt8.ofNat n.toNat
theorem Bj(h0:0<=n)(h1:n<=255):((b8 n).toNat:Int)=n:=by
 unfold b8;rw[UInt8.toNat_ofNat_of_lt' (by show n.toNat<256;omega)];omega
theorem OZ(c:UInt8):b8 (c.toNat:Int)=c:=by
 unfold b8;simp
theorem XG(a0:0<=a)(a1:a<=255)(b0:0<=b)(b1:b<=255)(h:b8 a=b8 b):a=b:=by
 have:=congrArg (fun c=>((UInt8.toNat c:Nat):Int)) h;simp only[Bj a0 a1,Bj b0 b1]at this;exact this
def A5(n:Int):List UInt8:=[b8 (n / 256),b8 (n % 256)]
def Cc(a c:UInt8):Int:=(a.toNat:Int)*256+(c.toNat:Int)
theorem Q7(h0:0<=n)(h1:n<=65535):Cc (b8 (n / 256)) (b8 (n % 256))=n:=by
 unfold Cc;rw[Bj (by omega) (by omega),Bj (by omega) (by omega)];omega
theorem Z0(a c:UInt8):A5 (Cc a c)=[a,c]:=by
 unfold A5 Cc;have ha:=a.toNat_lt;have hc:=c.toNat_lt;rw[show ((a.toNat:Int)*256+(c.toNat:Int)) / 256=(a.toNat:Int) by omega,show ((a.toNat:Int)*256+(c.toNat:Int)) % 256=(c.toNat:Int) by omega,OZ,OZ]
theorem RV(a0:0<=a)(a1:a<=65535)(b0:0<=b)(b1:b<=65535)(h:A5 a=A5 b):a=b:=by
 unfold A5 at h;simp only[List.cons.injEq,and_true]at h;have h1:=XG (by omega) (by omega) (by omega) (by omega) h.1;have h2:=XG (by omega) (by omega) (by omega) (by omega) h.2;omega
def yes(b:Bool):Int:=if b then 1 else 0
def nums(p:Pk):List Int:=[p.kind,p.client,p.Ae,p.line,p.seq / 256,p.seq % 256,p.uid,p.part,p.off,yes p.please,(p.body.length:Int)]
def Bv(p:Pk):List UInt8:=(nums p).map b8++p.body
def EZ(l:List UInt8):Int:=((crc l).toNat:Int)
theorem JP(l:List UInt8):0<=EZ l/\EZ l<=65535:=by
 unfold EZ;have:=(crc l).isLt;omega
def Bm(p:Pk):List UInt8:=Bv p++A5 (EZ (Bv p))
theorem Ev(p:Pk):(Bv p).length=11+p.body.length:=by
 unfold Bv nums;simp;omega
theorem E5(p:Pk):(Bm p).length=13+p.body.length:=by
 unfold Bm;rw[afS,Ev];simp[A5];omega
def Cb:List UInt8->Option (Pk×List UInt8)
 |k :: c :: li :: ln :: s1 :: s2 :: u :: pa :: o :: f :: L :: r=>
  if f.toNat<=1/\L.toNat<=r.length then some (⟨k.toNat,c.toNat,li.toNat,ln.toNat,Cc s1 s2,u.toNat,pa.toNat,o.toNat,(f.toNat:Int)==1,r.take L.toNat⟩,r.drop L.toNat) else none
 |_=>none
def LH(l r:List UInt8):Option (List UInt8):=match r with
 |a :: b :: t=>if Cc a b=EZ (l.take (l.length-r.length)) then some t else none
 |_=>none
def CO(l:List UInt8):Option Pk:=match Cb l with
 |none=>none
 |some (p,r)=>if AR p then (match LH l r with|some []=>some p|_=>none) else none
theorem Lc{p:Pk}{r:List UInt8}(h:Cb l=some (p,r)):l=Bv p++r:=by
 unfold Cb at h;split at h
 ·rename_i k c li ln s1 s2 u pa o f L t;split at h
  ·rename_i hc;simp only[Option.some.injEq,Prod.mk.injEq]at h;obtain⟨rfl,rfl⟩:=h;unfold Bv nums;have ha:=s1.toNat_lt;have hb:=s2.toNat_lt;have hf:b8 (yes ((f.toNat:Int)==1))=f:=by
    have:f.toNat=0\/f.toNat=1:=by omega
    rcases this with h|h
    ·have e:f=0:=UInt8.toNat_inj.1 h;subst e;rfl
    ·have e:f=1:=UInt8.toNat_inj.1 h;subst e;rfl
   have hL:((List.take L.toNat t).length:Int)=(L.toNat:Int):=by
    rw[aga];omega
   have h1:Cc s1 s2 / 256=(s1.toNat:Int):=by unfold Cc;omega
   have h2:Cc s1 s2 % 256=(s2.toNat:Int):=by unfold Cc;omega
   simp only[agD,agV,hL,hf,h1,h2,OZ,agz,agO,agX]
  ·cases h
 ·cases h
theorem QI{p:Pk}(h:AR p):Cb (Bm p)=some (p,A5 (EZ (Bv p))):=by
 have hb:=LO h;obtain⟨h1,h2,h3,h4,h5,h6,h7,h8,_⟩:=h;unfold Bm;generalize hT:A5 (EZ (Bv p))=T;have ac:T.length=2:=by rw[<-hT];rfl
 clear hT;unfold Bv nums;simp only[agD,agV,agz,agO];unfold Cb;obtain⟨kind,client,Ae,line,seq,uid,part,off,please,body⟩:=p;simp only at hb h1 h2 h3 h4 h5 h6 h7 h8 ⊢;have e1:=Bj (n:=kind) (by omega) (by omega);have e2:=Bj (n:=client) (by omega) (by omega);have e3:=Bj (n:=Ae) (by omega) (by omega);have e4:=Bj (n:=line) (by omega) (by omega);have e5:=Q7 (n:=seq) (by omega) (by omega);have e6:=Bj (n:=uid) (by omega) (by omega);have e7:=Bj (n:=part) (by omega) (by omega);have e8:=Bj (n:=off) (by omega) (by omega);have e9:((b8 (yes please)).toNat:Int)=yes please:=Bj (by unfold yes;split<;>omega) (by unfold yes;split<;>omega);have ab:=Bj (n:=(body.length:Int)) (by omega) (by omega);have aa:(b8 (body.length:Int)).toNat=body.length:=by omega
 rw[if_pos]
 ·rw[e1,e2,e3,e4,e5,e6,e7,e8,e9,aa,agp (afI _),agW,agT (afI _),List.drop_length,agO];cases please<;>rfl
 ·refine⟨?_,?_⟩
  ·unfold yes at e9;split at e9<;>(unfold yes;simp_all;try omega)
  ·rw[aa,afS];omega
theorem KN(m t:List UInt8):(m++t).take ((m++t).length-t.length)=m:=by
 rw[afS,Nat.add_sub_cancel,List.take_left]
theorem OA(l:List UInt8)(p:Pk):CO l=some p↔AR p/\l=Bm p:=by
 constructor
 ·intro h;unfold CO at h;cases hf:Cb l with
  |none=>rw[hf]at h;cases h
  |some x=>
   obtain⟨q,r⟩:=x;have hl:=Lc hf;rw[hf]at h;simp only at h;split at h
   ·rename_i hr;split at h
    ·rename_i hs;cases h;refine⟨hr,?_⟩;unfold LH at hs;split at hs
     ·rename_i a b t;split at hs
      ·rename_i hn;cases hs;have e:l.take (l.length - [a,b].length)=Bv p:=by rw[hl];exact KN _ _
       rw[e]at hn;unfold Bm;rw[hl,<-hn,Z0]
      ·cases hs
     ·cases hs
    ·cases h
   ·cases h
 ·rintro ⟨hr,rfl⟩;unfold CO;rw[QI hr];simp only;rw[if_pos hr];have hc:=JP (Bv p);have e:LH (Bm p) (A5 (EZ (Bv p)))=some []:=by
   have e2:(Bm p).take ((Bm p).length-(A5 (EZ (Bv p))).length)=Bv p:=KN _ _;have e3:=Q7 hc.1 hc.2;show (if Cc (b8 (EZ (Bv p) / 256)) (b8 (EZ (Bv p) % 256))=EZ ((Bm p).take ((Bm p).length-(A5 (EZ (Bv p))).length)) then some [] else none)=some [];rw[e2,e3,if_pos rfl]
  rw[e]
theorem Fx{p:Pk}(h:AR p):CO (Bm p)=some p:=(OA _ _).2 ⟨h,rfl⟩
theorem KH(h:∀q,AR q->l≠Bm q):CO l=none:=by
 cases hr:CO l with
 |none=>rfl
 |some q=>
  obtain⟨h1,h2⟩:=(OA _ _).1 hr;exact absurd h2 (h q h1)
theorem RB(p:Pk)(i:Nat)(c:UInt8)(hi:i<(Bm p).length)(hc:(Bm p)[i]?≠some c):CO ((Bm p).set i c)=none:=by
 apply KH;intro q _ e;have l1:=E5 p;have l2:=E5 q;have hl:=congrArg List.length e;rw[agq]at hl;have hh:(Bv p).length=(Bv q).length:=by rw[Ev,Ev];omega
 have cp:=JP (Bv p);have cq:=JP (Bv q);unfold Bm at e hc;by_cases aa:i<(Bv p).length
 ·rw[List.set_append_left _ _ aa]at e;obtain⟨e1,e2⟩:=List.append_inj e (by rw[agq];exact hh);have e3:=RV cp.1 cp.2 cq.1 cq.2 e2;rw[af4 aa]at hc;obtain⟨x,hx⟩:∃x,(Bv p)[i]?=some x:=⟨_,afH aa⟩;have ac:=(afG.1 hx);have d1:Bv p=(Bv p).take i++x :: (Bv p).drop (i+1):=by
   conv=>lhs;rw[<-agX i (Bv p),List.drop_eq_getElem_cons aa]
   rw[ac.2]
  have d2:Bv q=(Bv p).take i++c :: (Bv p).drop (i+1):=by
   rw[<-e1,List.set_eq_take_append_cons_drop,if_pos aa]
  have ab:x≠c:=by
   intro ad;rw[hx,ad]at hc;exact hc rfl
  refine XW ((Bv p).take i) ((Bv p).drop (i+1)) x c ab ?_;rw[<-d1,<-d2];apply BitVec.eq_of_toNat_eq;unfold EZ at e3;omega
 ·rw[List.set_append_right _ _ (by omega)]at e;obtain⟨e1,e2⟩:=List.append_inj e hh;rw[<-e1]at e2;have h2:(A5 (EZ (Bv p))).length=2:=rfl;have hj:i-(Bv p).length<(A5 (EZ (Bv p))).length:=by
   rw[h2];have:=Ev p;omega
  rw[agh (by omega)]at hc;apply hc;have:=congrArg (·[i-(Bv p).length]?) e2;simp only[List.getElem?_set_self hj]at this;exact this.symm
end Go.Proofs.YtblomippkddgiabGreatDoor
namespace Go.Proofs.YtblomippkddgiabGreatDoor.V.Pt
variable {D L c k n p:Nat}{g:Nat→Nat}
def Cn(c:Nat):Bool:=c==98 || c==99 || c==105 || c==115
def GD(g:Nat->Nat)(least p:Nat):Bool×Nat:=if 48+least<=g p/\g p<=57 then (true,p+1) else (false,p)
def Ft(T:Nat->Bool×Nat)(g:Nat->Nat):Nat->Nat->Bool×Nat
 |0,p=>if g p=41 then (true,p+1) else (false,p)
 |j+1,p=>if g p=41 then (true,p+1) else if (T p).1 then Ft T g j (T p).2 else (false,(T p).2)
def ty(g:Nat->Nat):Nat->Nat->Bool×Nat
 |0,p=>(false,p)
 |f+1,p=>
  if Cn (g p) then (true,p+1)
  else if g p=101 then GD g 1 (p+1)
  else if g p=97 then (if (GD g 1 (p+1)).1 then ty g f (p+2) else (false,p+1))
  else if g p=113 then (if (GD g 0 (p+1)).1 then ty g f (p+2) else (false,p+1))
  else if g p=114\/g p=117 then
   (if g (p+1)=40 then (if (ty g f (p+2)).1 then Ft (ty g f) g 5 (ty g f (p+2)).2 else (false,(ty g f (p+2)).2)) else (false,p+1))
  else (false,p)
def CV(T:Nat->Bool×Nat)(g:Nat->Nat):Nat->Nat->List Nat
 |0,_=>[]
 |j+1,p=>if g p=41 then [] else p :: CV T g j (T p).2
def kids(g:Nat->Nat)(f p:Nat):List Nat:=
 if g p=97\/g p=113 then [p+2]
 else if g p=114\/g p=117 then (p+2) :: CV (ty g f) g 5 (ty g f (p+2)).2
 else []
def top:List Nat->Nat
 |[]=>0
 |a :: l=>max a (top l)
def EC(g:Nat->Nat):Nat->Nat->Nat
 |0,_=>0
 |f+1,p=>top ((kids g f p).map (EC g f))+1
def begins(c L:Nat):Option (List (Nat×Nat×Nat)):=
 if Cn c then some []
 else if c=101 then some [(2,0,0)]
 else if c=97 then some [(2,0,0),(1,0,L+1)]
 else if c=113 then some [(3,0,0),(1,0,L+1)]
 else if c=114\/c=117 then some [(4,0,0),(5,0,L+1)]
 else none
def goes:List (Nat×Nat×Nat)->Nat->Option (List (Nat×Nat×Nat))
 |[],_=>none
 |(h,k,L) :: S,c=>
  if h=2 then (if 49<=c/\c<=57 then some S else none)
  else if h=3 then (if 48<=c/\c<=57 then some S else none)
  else if h=4 then (if c=40 then some S else none)
  else if h=5 then (if c=41/\0<k then some S else if k=6 then none else (begins c L).map (·++(5,k+1,L) :: S))
  else (begins c L).map (·++S)
def nd(S:List (Nat×Nat×Nat))(c D:Nat):Nat:=
 match S with
 |[]=>D
 |(h,_,L) :: _=>if (h=1\/(h=5/\c≠41))/\D<L then L else D
def fin(n:Nat)(S:List (Nat×Nat×Nat))(D:Nat):Nat×Nat:=if S=[] then (if 4<D then (3,0) else (0,0)) else (2,n)
def run(g:Nat->Nat)(n:Nat):Nat->List (Nat×Nat×Nat)->Nat->Nat->Nat×Nat
 |0,S,D,_=>fin n S D
 |m+1,S,D,p=>match goes S (g p) with
  |none=>(2,p)
  |some S'=>run g n m S' (nd S (g p) D) (p+1)
def IZ(g:Nat->Nat)(n:Nat):Nat×Nat:=
 if 40<n then (1,0)
 else if (ty g (n+1) 0).1 then (if (ty g (n+1) 0).2<n then (2,(ty g (n+1) 0).2) else if 4<EC g (n+1) 0 then (3,0) else (0,0))
 else (2,(ty g (n+1) 0).2)
def ends(g:Nat->Nat)(n:Nat)(S:List (Nat×Nat×Nat))(D:Nat)(r:Bool×Nat):Nat×Nat:=
 if r.1 then run g n (n-r.2) S D r.2 else (2,r.2)
theorem Ex{S S':List (Nat×Nat×Nat)}(hp:p<n)(h:goes S (g p)=some S'):
  run g n (n-p) S D p=run g n (n-(p+1)) S' (nd S (g p) D) (p+1):=by
 obtain⟨m,hm⟩:∃m,n-p=m+1:=⟨n-p-1,by omega⟩;rw[hm,run,h,show n-(p+1)=m by omega]
theorem Gy{S:List (Nat×Nat×Nat)}(hp:p<n)(h:goes S (g p)=none):
  run g n (n-p) S D p=(2,p):=by
 obtain⟨m,hm⟩:∃m,n-p=m+1:=⟨n-p-1,by omega⟩;rw[hm,run,h]
theorem IQ{x:Nat×Nat×Nat}{S:List (Nat×Nat×Nat)}:run g n (n-n) (x :: S) D n=(2,n):=by
 rw[Nat.sub_self,run,fin,if_neg (by simp)]
theorem Ve{h aa:Nat}{S:List (Nat×Nat×Nat)}(hg:∀p,n<=p->g p=0)(hp:p<=n)(hh:(h=2/\aa=1)\/(h=3/\aa=0)):
  run g n (n-p) ((h,0,0) :: S) D p=ends g n S D (GD g aa p)/\((GD g aa p).1=true->(GD g aa p).2=p+1/\p<n)/\((GD g aa p).1=false->(GD g aa p).2=p):=by
 by_cases hn:p=n
 ·subst hn;have h0:=hg p (afI _);have hd:GD g aa p=(false,p):=by unfold GD;rw[if_neg (by omega)]
  rw[hd,IQ];simp[ends]
 ·have ac:p<n:=by omega
  by_cases hc:48+aa<=g p/\g p<=57
  ·have hd:GD g aa p=(true,p+1):=by unfold GD;rw[if_pos hc]
   have ab:goes ((h,0,0) :: S) (g p)=some S:=by
    rcases hh with ⟨rfl,rfl⟩|⟨rfl,rfl⟩
    ·simp[goes];omega
    ·simp[goes];omega
   have ad:nd ((h,0,0) :: S) (g p) D=D:=by
    rcases hh with ⟨rfl,rfl⟩|⟨rfl,rfl⟩<;>simp[nd]
   rw[hd,Ex ac ab,ad];simp[ends,ac]
  ·have hd:GD g aa p=(false,p):=by unfold GD;rw[if_neg hc]
   have ab:goes ((h,0,0) :: S) (g p)=none:=by
    rcases hh with ⟨rfl,rfl⟩|⟨rfl,rfl⟩
    ·simp[goes];omega
    ·simp[goes];omega
   rw[hd,Gy ac ab];simp[ends]
theorem VZ{S:List (Nat×Nat×Nat)}(h:k=0\/(c≠41/\k≠6)):goes ((5,k,L) :: S) c=goes ((1,0,L) :: (5,k+1,L) :: S) c:=by
 have h1:¬(c=41/\0<k):=by omega
 have h2:¬k=6:=by omega
 simp[goes,h1,h2]
theorem O0(L:Nat):begins 41 L=none:=by simp[begins,Cn]
theorem Ry{S:List (Nat×Nat×Nat)}(hp:p<=n)(h:k=0\/(g p≠41/\k≠6)):
  run g n (n-p) ((5,k,L) :: S) D p=run g n (n-p) ((1,0,L) :: (5,k+1,L) :: S) D p:=by
 by_cases hn:p=n
 ·subst hn;rw[IQ,IQ]
 ·have aa:p<n:=by omega
  have ab:=VZ (S:=S) (L:=L) h;cases hx:goes ((5,k,L) :: S) (g p) with
  |none=>rw[Gy aa hx,Gy aa (ab ▸ hx)]
  |some S'=>
   rw[Ex aa hx,Ex aa (ab ▸ hx)];by_cases hc:g p=41
   ·rcases h with rfl|h
    ·exfalso;rw[hc]at hx;simp[goes,O0]at hx
    ·omega
   ·simp[nd,hc]
def Agree(g:Nat->Nat)(n f:Nat):Prop:=∀(p k L D:Nat) (S:List (Nat×Nat×Nat)),p<=n->n-p<f ->
 run g n (n-p) ((1,k,L) :: S) D p=ends g n S (max D (L+EC g f p-1)) (ty g f p)/\((ty g f p).1=true->p<(ty g f p).2/\(ty g f p).2<=n)/\((ty g f p).1=false->p<=(ty g f p).2/\(ty g f p).2<=n)
theorem Yx{f:Nat}(hg:∀p,n<=p->g p=0)(hT:Agree g n f):∀(j p k L D:Nat) (S:List (Nat×Nat×Nat)),k+j=6->1<=k->p<=n->n-p<f->1<=L->L<=D+1 ->
  run g n (n-p) ((5,k,L) :: S) D p=ends g n S (max D (L+top ((CV (ty g f) g j p).map (EC g f))-1)) (Ft (ty g f) g j p) /\
   ((Ft (ty g f) g j p).1=true->p<(Ft (ty g f) g j p).2/\(Ft (ty g f) g j p).2<=n)/\((Ft (ty g f) g j p).1=false->p<=(Ft (ty g f) g j p).2/\(Ft (ty g f) g j p).2<=n):=by
 have close:∀(p k L D:Nat) (S:List (Nat×Nat×Nat)),1<=k->p<=n->g p=41->L<=D+1->p<n/\run g n (n-p) ((5,k,L) :: S) D p=ends g n S (max D (L+0-1)) (true,p+1):=by
  intro p k L D S hk hp hc hL;have aa:p<n:=by
   rcases agy p n with h|h
   ·exact h
   ·have:=hg p h;omega
  have ac:goes ((5,k,L) :: S) (g p)=some S:=by
   have:0<k:=by omega
   simp[goes,hc,this]
  refine⟨aa,?_⟩;rw[Ex aa ac];have e1:nd ((5,k,L) :: S) (g p) D=D:=by simp[nd,hc]
  have e2:max D (L+0-1)=D:=by omega
  rw[e1,e2];simp[ends]
 intro j;induction j with
 |zero=>
  intro p k L D S hk h1 hp _ ab hL;obtain rfl:k=6:=by omega
  by_cases hc:g p=41
  ·obtain⟨aa,hr⟩:=close p 6 L D S h1 hp hc hL;have e:Ft (ty g f) g 0 p=(true,p+1):=by simp[Ft,hc]
   rw[e,hr];refine⟨?_,fun _=>⟨by simp,by show p+1<=n;omega⟩,fun h=>by simp at h⟩;simp[CV,top]
  ·have e:Ft (ty g f) g 0 p=(false,p):=by simp[Ft,hc]
   rw[e];refine⟨?_,fun h=>by simp at h,fun _=>⟨afI _,hp⟩⟩;by_cases hn:p=n
   ·subst hn;rw[IQ];simp[ends]
   ·rw[Gy (by omega) (by simp[goes,hc])];simp[ends]
 |succ j ih=>
  intro p k L D S hk h1 hp hf ab hL;by_cases hc:g p=41
  ·obtain⟨aa,hr⟩:=close p k L D S h1 hp hc hL;have e:Ft (ty g f) g (j+1) p=(true,p+1):=by simp[Ft,hc]
   rw[e,hr];refine⟨?_,fun _=>⟨by simp,by show p+1<=n;omega⟩,fun h=>by simp at h⟩;simp[CV,top,hc]
  ·rw[Ry hp (afM ⟨hc,by omega⟩)];obtain⟨ha,hb,hd⟩:=hT p 0 L D ((5,k+1,L) :: S) hp hf;rw[ha];cases hx:(ty g f p).1 with
   |false=>
    have e:Ft (ty g f) g (j+1) p=(false,(ty g f p).2):=by simp[Ft,hc,hx]
    rw[e];refine⟨?_,fun h=>by simp at h,fun _=>hd hx⟩;simp[ends,hx]
   |true=>
    obtain⟨q1,q2⟩:=hb hx;have e:Ft (ty g f) g (j+1) p=Ft (ty g f) g j (ty g f p).2:=by simp[Ft,hc,hx]
    have e3:CV (ty g f) g (j+1) p=p :: CV (ty g f) g j (ty g f p).2:=by simp[CV,hc]
    rw[e,e3];obtain⟨ia,ib,ic⟩:=ih (ty g f p).2 (k+1) L (max D (L+EC g f p-1)) S (by omega) (by omega) q2 (by omega) ab (by omega);have e4:ends g n ((5,k+1,L) :: S) (max D (L+EC g f p-1)) (ty g f p)=run g n (n-(ty g f p).2) ((5,k+1,L) :: S) (max D (L+EC g f p-1)) (ty g f p).2:=by simp[ends,hx]
    rw[e4,ia];refine⟨?_,fun h=>?_,fun h=>?_⟩
    ·have e5:max (max D (L+EC g f p-1)) (L+top ((CV (ty g f) g j (ty g f p).2).map (EC g f))-1)=max D (L+top ((p :: CV (ty g f) g j (ty g f p).2).map (EC g f))-1):=by
      simp only[agD,top];omega
     rw[e5]
    ·have:=ib h;omega
    ·have:=ic h;omega
theorem V2(h:Cn c=true):c≠97/\c≠113/\c≠114/\c≠117/\c≠0/\c≠101:=by
 simp[Cn]at h;omega
theorem V3(h:c=101\/c=97\/c=113\/c=114\/c=117\/c=0):Cn c=false:=by
 rcases h with h|h|h|h|h|h<;>subst h<;>rfl
theorem Fa{S:List (Nat×Nat×Nat)}:goes ((1,k,L) :: S) c=(begins c L).map (·++S):=by simp[goes]
theorem LV{S:List (Nat×Nat×Nat)}:nd ((1,k,L) :: S) c D=max D L:=by
 simp only[nd,true_or,true_and];split<;>omega
theorem agree(hg:∀p,n<=p->g p=0):∀f,Agree g n f:=by
 intro f;induction f with
 |zero=>intro p k L D S hp hf;omega
 |succ f ih=>
  intro p k L D S hp hf;by_cases hn:p=n
  ·subst hn;have h0:=hg p (afI _);have e:ty g (f+1) p=(false,p):=by simp[ty,h0,Cn]
   rw[e,IQ];exact⟨by simp[ends],fun h=>by simp at h,fun _=>⟨afI _,hp⟩⟩
  have ac:p<n:=by omega
  cases hl:Cn (g p) with
  |true=>
   obtain⟨a1,a2,a3,a4,_,_⟩:=V2 hl;have e:ty g (f+1) p=(true,p+1):=by simp[ty,hl]
   have ed:EC g (f+1) p=1:=by simp[EC,kids,a1,a2,a3,a4,top]
   have ab:goes ((1,k,L) :: S) (g p)=some S:=by rw[Fa];simp[begins,hl]
   rw[e,ed,Ex ac ab,LV];exact⟨by simp[ends],fun _=>⟨by simp,by show p+1<=n;omega⟩,fun h=>by simp at h⟩
  |false=>
  by_cases he:g p=101
  ·have e:ty g (f+1) p=GD g 1 (p+1):=by simp[ty,he,Cn]
   have ed:EC g (f+1) p=1:=by simp[EC,kids,he,top]
   have ab:goes ((1,k,L) :: S) (g p)=some ((2,0,0) :: S):=by rw[Fa];simp[begins,he,Cn]
   obtain⟨d1,d2,d3⟩:=Ve (S:=S) (D:=max D L) hg (show p+1<=n by omega) (afJ ⟨rfl,rfl⟩);rw[e,ed,Ex ac ab,LV,d1];exact⟨by simp,fun h=>by have:=d2 h;omega,fun h=>by have:=d3 h;omega⟩
  by_cases ha:g p=97\/g p=113
  ·obtain⟨h,aa,hh,ab,ae⟩:∃h aa,((h=2/\aa=1)\/(h=3/\aa=0))/\goes ((1,k,L) :: S) (g p)=some ((h,0,0) :: (1,0,L+1) :: S)/\ty g (f+1) p=(if (GD g aa (p+1)).1 then ty g f (p+2) else (false,p+1)):=by
    rcases ha with ha|ha
    ·exact⟨2,1,afJ ⟨rfl,rfl⟩,by rw[Fa];simp[begins,ha,Cn],by simp[ty,ha,Cn]⟩
    ·exact⟨3,0,afM ⟨rfl,rfl⟩,by rw[Fa];simp[begins,ha,Cn],by simp[ty,ha,Cn]⟩
   have ed:EC g (f+1) p=EC g f (p+2)+1:=by simp[EC,kids,ha,top]
   obtain⟨d1,d2,d3⟩:=Ve (S:=(1,0,L+1) :: S) (D:=max D L) hg (show p+1<=n by omega) hh;rw[Ex ac ab,LV,d1,ae,ed];cases hx:(GD g aa (p+1)).1 with
   |false=>
    have hq:=d3 hx;rw[if_neg (by simp)];refine⟨?_,fun h=>by simp at h,fun _=>⟨by simp,by show p+1<=n;omega⟩⟩;simp[ends,hx,hq]
   |true=>
    obtain⟨hq,ad⟩:=d2 hx;rw[if_pos rfl];obtain⟨ia,ib,ic⟩:=ih (p+2) 0 (L+1) (max D L) S (by omega) (by omega);refine⟨?_,fun h=>by have:=ib h;omega,fun h=>by have:=ic h;omega⟩;have e4:ends g n ((1,0,L+1) :: S) (max D L) (GD g aa (p+1))=run g n (n-(p+2)) ((1,0,L+1) :: S) (max D L) (p+2):=by simp[ends,hx,hq]
    rw[e4,ia];have e5:max (max D L) (L+1+EC g f (p+2)-1)=max D (L+(EC g f (p+2)+1)-1):=by omega
    rw[e5]
  by_cases hr:g p=114\/g p=117
  ·have n1:¬g p=97:=by omega
   have n2:¬g p=113:=by omega
   have ab:goes ((1,k,L) :: S) (g p)=some ((4,0,0) :: (5,0,L+1) :: S):=by
    rw[Fa];simp[begins,hl,he,n1,n2,hr]
   have ae:ty g (f+1) p=(if g (p+1)=40 then (if (ty g f (p+2)).1 then Ft (ty g f) g 5 (ty g f (p+2)).2 else (false,(ty g f (p+2)).2)) else (false,p+1)):=by
    simp[ty,hl,he,n1,n2,hr]
   have ed:EC g (f+1) p=top (((p+2) :: CV (ty g f) g 5 (ty g f (p+2)).2).map (EC g f))+1:=by simp[EC,kids,n1,n2,hr]
   rw[Ex ac ab,LV,ae,ed];by_cases hb:g (p+1)=40
   ·have ad:p+1<n:=by
     rcases agy (p+1) n with h|h
     ·exact h
     ·have:=hg _ h;omega
    rw[if_pos hb,Ex ad (show goes ((4,0,0) :: (5,0,L+1) :: S) (g (p+1))=some ((5,0,L+1) :: S) by simp[goes,hb])];have e1:nd ((4,0,0) :: (5,0,L+1) :: S) (g (p+1)) (max D L)=max D L:=by simp[nd]
    rw[e1,show p+1+1=p+2 from rfl,Ry (by omega) (afJ rfl)];obtain⟨ia,ib,ic⟩:=ih (p+2) 0 (L+1) (max D L) ((5,0+1,L+1) :: S) (by omega) (by omega);rw[ia];cases hx:(ty g f (p+2)).1 with
    |false=>
     rw[if_neg (by simp)];refine⟨?_,fun h=>by simp at h,fun _=>by have:=ic hx;simp;omega⟩;simp[ends,hx]
    |true=>
     obtain⟨q1,q2⟩:=ib hx;rw[if_pos rfl];obtain⟨ja,jb,jc⟩:=Yx hg ih 5 (ty g f (p+2)).2 1 (L+1) (max (max D L) (L+1+EC g f (p+2)-1)) S (by omega) (by omega) q2 (by omega) (by omega) (by omega);refine⟨?_,fun h=>by have:=jb h;omega,fun h=>by have:=jc h;omega⟩;have e4:ends g n ((5,0+1,L+1) :: S) (max (max D L) (L+1+EC g f (p+2)-1)) (ty g f (p+2))=run g n (n-(ty g f (p+2)).2) ((5,1,L+1) :: S) (max (max D L) (L+1+EC g f (p+2)-1)) (ty g f (p+2)).2:=by simp[ends,hx]
     rw[e4,ja];have e5:max (max (max D L) (L+1+EC g f (p+2)-1)) (L+1+top ((CV (ty g f) g 5 (ty g f (p+2)).2).map (EC g f))-1)=max D (L+(top (((p+2) :: CV (ty g f) g 5 (ty g f (p+2)).2).map (EC g f))+1)-1):=by
      simp only[agD,top];omega
     rw[e5]
   ·rw[if_neg hb];refine⟨?_,fun h=>by simp at h,fun _=>⟨by simp,by show p+1<=n;omega⟩⟩;by_cases af:p+1=n
    ·rw[af,IQ];simp[ends]
    ·rw[Gy (by omega) (by simp[goes,hb])];simp[ends]
  ·have e:ty g (f+1) p=(false,p):=by
    have n1:¬g p=97:=by omega
    have n2:¬g p=113:=by omega
    simp[ty,hl,he,n1,n2,hr]
   have ab:goes ((1,k,L) :: S) (g p)=none:=by
    have n1:¬g p=97:=by omega
    have n2:¬g p=113:=by omega
    rw[Fa];simp[begins,hl,he,n1,n2,hr]
   rw[e,Gy ac ab];exact⟨by simp[ends],fun h=>by simp at h,fun _=>⟨afI _,hp⟩⟩
end Go.Proofs.YtblomippkddgiabGreatDoor.V.Pt
