import Derived.Test.YtblomippkddgiabGreatDoorJ00
set_option maxRecDepth 100000
set_option maxHeartbeats 4000000
namespace Go.Proofs.YtblomippkddgiabGreatDoor
open Go.Proofs.Tryz RowKit
variable {xs ys:Array Value}{body l r:List UInt8}{B b cl n o s size:Nat}{f fz g:Nat×Nat}{p:Pk}{P:Program}{e t:TypeId}{L k li ln s1 s2 u:UInt8}{O v:Value}{W a c w w' w1:World}
abbrev D9:=Nat->Prop
structure DF(F:D9)(w w':Aa):Prop where
 os:w'.os=w.os
 tape:w'.tape=w.tape
 output:w'.output=w.output
 size:w.heap.size<=w'.heap.size
 block:∀k,k<w.heap.size->¬F k->w'.heap[k]?=w.heap[k]?
theorem DF.refl(F:D9)(w:Aa):DF F w w:=by grind [DF]
theorem DF.mono{F G:D9}(h:DF F w w')(a:∀k,k<w.heap.size->F k->G k):DF G w w':=by grind [DF]
theorem DF.andThen{F G:D9}{b:Aa}(h:DF F a b)(k:DF G b c)(d:∀i,i<a.heap.size->G i->F i):DF F a c:=by grind [DF]
theorem DF.trans{F:D9}{b:Aa}(h:DF F a b)(k:DF F b c):DF F a c:=h.andThen k (λ_ _ h=>h)
theorem DF.J(h:DY w w')(F:D9):DF F w w':=⟨h.os,h.tape,h.output,h.size,λk hk _=>h.block k hk⟩
theorem DF.h{F:D9}(h:DF F w w')(hB:B<=w)(a:∀k,F k->B<=k):Below B w w':=⟨h.os,h.tape,h.output,h.size,λk hk=>h.block k (Ai hk hB) (λb=>by have:=a k b;omega)⟩
theorem DF.drew{F:D9}(h:DF F a w):DF F a w.drew:=⟨h.os,h.tape,h.output,h.size,h.block⟩
theorem DF.alloc{F:D9}(h:DF F a w)(o:Obj):DF F a (w.alloc o):=
 h.trans ⟨rfl,rfl,rfl,Ev,λk hk _=>AL _ _ _ hk⟩
theorem DF.setCell{F:D9}(h:DF F a w){p:Addr}(b:F p.block\/a<=p.block)(u:Ad):DF F a (w.setCell p u):=by grind [DF,World.setCell]
theorem DF.grown{F:D9}{row:Option Nat}(h:DF F a w)(b:w.grownBy w' row)(c:∀k,row=some k->F k\/a<=k):DF F a w':=
 ⟨b.os.trans h.os,b.tape.trans h.tape,b.output.trans h.output,Br h.size b.size,λk hk hn=>by
  rw[b.block k (Ai hk h.size) (λe=>by
   rcases c k e.symm with q|q
   .exact hn q
   .omega)]
  exact h.block k hk hn⟩
theorem DF.at{F:D9}(h:DF F w w'){k:Nat}{o:Obj}(hk:w.heap[k]?=o)(hn:¬F k):w'.heap[k]?=o:=by grind [DF]
theorem DF.row{F:D9}(h:DF F w w'){xs:Ae}(a:w.ownsRow B e size v n xs)(hn:∀j,v.ownBlock=some j->¬F j):w'.ownsRow B e size v n xs:=by
 have⟨hl,a⟩:=a;refine⟨hl,?_⟩;rcases a with a|⟨g,cap,b,rfl,c,d,r⟩
 .exact Aj a
 .exact Am ⟨g,cap,b,I,c,h.at d (hn g I),r⟩
theorem DF.map{F:D9}(h:DF F w w'){H:Type}{k:Ag}{R:Value->Option (DataW H×List MemPlace)}{D:DataW H}(e:w.ownsMap P k R b n D)(hn:¬F b):w'.ownsMap P k R b n D:=by
 have⟨c,a,d,r⟩:=e;exact⟨c,a,h.at d hn,r⟩
structure D8(F F':D9)(w w':Aa):Prop where
 H:DF F w w'
 fresh:∀k,F' k->F k\/w.heap.size<=k
theorem D8.refl(F:D9)(w:Aa):D8 F F w w:=by grind [D8,DF.refl]
theorem D8.trans{F F' d:D9}{b:Aa}(h:D8 F F' a b)(k:D8 F' d b c):D8 F d a c:=
 ⟨h.H.andThen k.H (λi hi e=>(h.fresh i e).resolve_right U),λi hi=>by
  rcases k.fresh i hi with q|q
  .exact h.fresh i q
  .exact Am (Br h.H.size q)⟩
theorem D8.J(F:D9)(h:DY w w'):D8 F F w w':=by grind [D8,DF.J]
theorem D8.apart{F F' G:D9}(h:D8 F F' w w')(a:∀k,G k->k<w)(b:∀k,F k->¬G k):∀k,F' k->¬G k:=by grind [D8]
theorem D8.acE{F F' G:D9}(h:D8 F F' w w'):D8 (λk=>F k\/G k) (λk=>F' k\/G k) w w':=by grind [D8,DF.mono]
def tab{α:Type}(f:α->List Value)(xs:List α):List Value:=xs.flatMap f
theorem F8{α:Type}{f:α->List Value}(b:∀x,(f x).length=n):∀a:List α,(tab f a).length=n*a.length
 |[]=>by simp[tab]
 |x :: a=>by
  have h:=F8 b a;simp only[tab,Ci,AJ,b,A4]at h ⊢;rw[h,Nat.mul_succ];omega
theorem Jh{α:Type}{f:α->List Value}(a:∀x,(f x).length=n):∀(xs:List α) (k j:Nat) (x:α),xs[k]?=some x->j<n->(tab f xs)[k*n+j]?=(f x)[j]?
 |[],k,j,x,h,_=>by simp at h
 |y :: xs,0,j,x,h,hj=>by
  simp at h;subst h;simp only[tab,Ci,Dt,Cr];rw[A6 (by rw[a];exact hj)]
 |y :: xs,k+1,j,x,h,hj=>by
  have b:=Jh a xs k j x (by simpa using h) hj;simp only[tab,Ci]at b ⊢;rw[Bq (by rw[a,Du];omega),a,<-b];congr 1;rw[Du];omega
theorem J6{α:Type}{f:α->List Value}(a:∀x,(f x).length=n):∀(xs:List α) (k j:Nat) (x x':α) (v:Ad),xs[k]?=some x->j<n->f x'=(f x).set j v->(tab f xs).set (k*n+j) v=tab f (xs.set k x')
 |[],k,j,x,x',v,h,_,_=>by simp at h
 |y :: xs,0,j,x,x',v,h,hj,e=>by
  simp at h;subst h;simp only[tab,Ci,Dt,Cr,Av];rw[List.set_append_left _ _ (by rw[a];exact hj),e]
 |y :: xs,k+1,j,x,x',v,h,hj,e=>by
  have b:=J6 a xs k j x x' v (by simpa using h) hj e;simp only[tab,Ci,Ax]at b ⊢;rw[List.set_append_right _ _ (by rw[a,Du];omega),a,<-b];congr 2;rw[Du];omega
theorem Jn{α:Type}(f:α->List Value)(xs:List α)(x:α):tab f (xs++[x])=tab f xs++f x:=by simp[tab]
theorem Ek{off:Nat}{cs:Ae}(h:w.heap[b]?=some (.cells cs.toArray t fz))(v:Ad):(w.setCell (Y b off) v).heap[b]?=some (.cells (cs.set off v).toArray t fz):=by grind [World.setCell]
theorem E7{off:Nat}{cs:Ae}(h:w.heap[b]?=some (.cells cs.toArray t fz))(a:cs[off]?=v):w.cell? (Y b off)=v:=by
 simp[World.cell?,h,a]
theorem Eb{off:Nat}{cs:Array Value}(h:w.heap[b]?=some (.cells cs t (0,0))):w.frozen? (Y b off)=false:=by
 simp[World.frozen?,h]
theorem ES{a:Nat}{u:Ag}(c:w.heap[a]?=some (.cells xs t f))(d:w.heap[b]?=some (.cells ys u g))(h:t≠u):a≠b:=by grind
theorem On{a:Nat}{d:Array MapEntry}(e:w.heap[a]?=some (.cells xs t f))(c:w.heap[b]?=some (.map d cl)):a≠b:=by
 rintro rfl;rw[e]at c;cases c
theorem Xy(a c:Nat)(d:a<256)(hc:c<256):bits .or .i64 (a*256) c=a*256+c:=by
 have e:a*256 ||| c=a*256+c:=by
  have h:=Nat.two_pow_add_eq_or_of_lt (i:=8) (b:=c) U a
  grind
 have e0:(a:Int)*256=((a*256:Nat):Int):=U;rw[e0];exact afA
def agr(b:Nat)(l:Ac)(w:Aa)(e:Ending)(w':Aa):Prop:=J8 b w w'/\((l.length<2/\e=EQ 7 0)\/∃a c r,l=a :: c :: r/\e=.returned (Z (E5 a c))/\Rd w' b r)
theorem QA(b:Nat)(l:Ac)(w:Aa)(h:Rd w b l)(hl:l.length<=9223372036854775807):ET 207 #[.pointer (Y b 0)] w (agr b l w):=by
 obtain⟨j,k⟩:=FU (N8 h hl) (λ(r:Ac) (w:Aa) (h:Rd w b r) (hl:r.length<=9223372036854775807)=>N8 h hl)
 delta ET
 go_in
 go_wp2_with fail
 refine j.mono ?_;rintro e o ⟨d,⟨rfl,rfl⟩|⟨a,r,rfl,rfl,g⟩⟩
 .go_wp2;exact⟨I,d,Aj ⟨Ev,I⟩⟩
 .have m:=Dx (k r o g (by simp at hl;omega));have p:=a.toNat_lt;have s:wrap64 ((a.toNat:Int)*256)=(a.toNat:Int)*256:=NU;go_wp2_with fail
  refine m.mono ?_;rintro e t ⟨f,⟨rfl,rfl⟩|⟨c,r,rfl,rfl,i⟩⟩
  .go_wp2;exact⟨I,d.trans f,Aj ⟨Ev,I⟩⟩
  .have hc:=c.toNat_lt;have q:=Xy a.toNat c.toNat U U;have n:=Dx i;go_wp2
   go_ret
   exact⟨d.trans f,Am ⟨a,c,r,I,I,n⟩⟩
theorem yT(b:Nat)(l:Ac)(w:Aa)(h:Rd w b l)(hl:l.length<=9223372036854775807):ET 155 #[.pointer (Y b 0)] w λe f=>f=w/\e=if l=[] then .returned Ep else EQ 7 0:=by
 have H:=Dx (JR b l w h);have g:=h.left;have d:=Er l;by_cases a:l=[]
 .subst a;clear h
  delta ET
  go_in
  go_wp2
  go_end0
  exact DN
 .have i:=Cg.2 a;rw[Ao a];have c:(0:Int)<((str l).size:Int):=U;generalize str l=S at *;clear h a
  delta ET
  go_in
  go_wp2_with fail
  refine(Dw H).mono ?_;rintro e j ⟨rfl,rfl⟩;go_wp2;exact⟨I,I,I⟩
def aeH(b:Nat)(l:Ac)(w:Aa)(e:Ending)(w':Aa):Prop:=J8 b w w'/\(((∀f r,l=f :: r->¬f.toNat<=1)/\e=EQ 7 0)\/∃f r,l=f :: r/\f.toNat<=1/\e=.returned (.bool ((f.toNat:Int)==1))/\Rd w' b r)
theorem rV(h:Rd w b l)(hl:l.length<=9223372036854775807):ET 208 #[.pointer (Y b 0)] w (aeH b l w):=by
 obtain⟨i,g⟩:=FU (N8 h hl) (λ(r:Ac) (w:Aa) (h:Rd w b r)=>JR b r w h);clear h
 delta ET
 go_in
 go_wp2_with fail
 refine(Dw i).mono ?_;rintro e m ⟨d,⟨rfl,rfl⟩|⟨a,r,rfl,rfl,c⟩⟩
 .go_wp2;exact⟨I,d,Aj ⟨λf r h=>(by cases h),I⟩⟩
 .by_cases n:(1:Int)<(a.toNat:Int)
  .have j:=Dx ((Dw g) r m c);clear g c;go_wp2_with fail
   refine(Dw j).mono ?_;rintro e o ⟨rfl,rfl⟩;go_wp2;refine⟨I,d,Aj ⟨λf r h=>?_,I⟩⟩;cases h;omega
  .have k:=Dx c;clear c g;go_wp2
   go_ret
   exact⟨d,Am ⟨a,r,I,U,I,Dw k⟩⟩
def aeo(b:Nat)(l:Ac)(w:Aa)(e:Ending)(w':Aa):Prop:=J8 b w w'/\(((∀L r,l=L :: r->¬L.toNat<=r)/\e=EQ 7 0)\/∃L r,l=L :: r/\L.toNat<=r/\e=.returned (.string (str (r.take L.toNat)))/\Rd w' b (r.drop L.toNat))
theorem qO(h:Rd w b l)(hl:l.length<=9223372036854775807):ET 209 #[.pointer (Y b 0)] w (aeo b l w):=by
 have o:=Dx (N8 h hl);clear h
 delta ET
 go_in
 go_wp2_with fail
 refine(Dw o).mono ?_;rintro e i ⟨d,⟨rfl,rfl⟩|⟨L,r,rfl,rfl,a⟩⟩
 .go_wp2;exact⟨I,d,Aj ⟨λf r h=>(by cases h),I⟩⟩
 .have u:=L.toNat_lt;have m:r.length<=9223372036854775807:=by simp at hl;omega
  by_cases j:L.toNat<=r.length
  .have k:=Dx (ME b r L.toNat i a j m);have c:=a.set (r.drop L.toNat);have p:=Dx (Kr (r.take L.toNat) (i.setCell (Y b 0) (.string (str (r.drop L.toNat)))) (by rw[Bv];omega));have q:=Dx (J8.set b 0 i (.string (str (r.drop L.toNat))));have s:=Dx c;have n:=c.lt;clear c a;generalize hA:str (r.take L.toNat)=A at *;generalize hB:i.setCell (Y b 0) (.string (str (r.drop L.toNat)))=W at *;go_wp2_with fail
   refine(Dw k).mono ?_;rintro e t ⟨rfl,rfl⟩;go_wp2_with fail
   refine(Dw p).mono ?_;rintro e v ⟨rfl,g⟩;go_wp2
   go_ret
   refine⟨(d.trans (Dw q)).trans (J8.of_below g U),Am ⟨L,r,I,j,by rw[hA];rfl,(Dw s).h g n⟩⟩
  .have k:=Dx (Qy b r L.toNat i a j);clear a;go_wp2_with fail
   refine(Dw k).mono ?_;rintro e t ⟨rfl,rfl⟩;go_wp2;refine⟨I,d,Aj ⟨λf r h=>?_,I⟩⟩;cases h;exact j
abbrev pv(p:Pk):Value:=.agg #[Z p.J,Z p.f,Z p.b,Z p.H,Z p.a,Z p.c,Z p.Ez,Z p.off,.bool p.e,.string (str p.d)]
abbrev NY:Value:=.agg #[Z 0,Z 0,Z 0,Z 0,Z 0,Z 0,Z 0,Z 0,.bool false,.string ⟨#[]⟩]
abbrev zeroCells:Array Value:=#[Z 0,Z 0,Z 0,Z 0,Z 0,Z 0,Z 0,Z 0,.bool false,.string ⟨#[]⟩]
structure St(b:Nat)(w W:Aa)(l:Ac):Prop where
 only:J8 b w W
 rd:Rd W b l
 len:l.length<=9223372036854775807
theorem jk(h:St b w W l):ET 206 #[.pointer (Y b 0)] W λe j=>(l=[]/\e=EQ 7 0/\J8 b w j)\/∃c r,l=c :: r/\e=.returned (Z c.toNat)/\St b w j r:=by
 refine(N8 h.rd h.len).mono ?_;rintro e k ⟨d,⟨f,g⟩|⟨a,r,f,g,i⟩⟩
 .exact Aj ⟨f,g,h.only.trans d⟩
 .refine Am ⟨a,r,f,g,h.only.trans d,i,?_⟩;have:=h.len
  grind
theorem adX(h:St b w W l):ET 207 #[.pointer (Y b 0)] W λe j=>(l.length<2/\e=EQ 7 0/\J8 b w j)\/∃a c r,l=a :: c :: r/\e=.returned (Z (E5 a c))/\St b w j r:=by
 refine(QA b l W h.rd h.len).mono ?_;rintro e k ⟨d,⟨f,g⟩|⟨a,c,r,f,g,i⟩⟩
 .exact Aj ⟨f,g,h.only.trans d⟩
 .refine Am ⟨a,c,r,f,g,h.only.trans d,i,?_⟩;have:=h.len
  grind
theorem za(h:St b w W l):ET 208 #[.pointer (Y b 0)] W λe c=>((∀f r,l=f :: r->¬f.toNat<=1)/\e=EQ 7 0/\J8 b w c)\/∃f r,l=f :: r/\Hid (f.toNat<=1)/\e=.returned (.bool ((f.toNat:Int)==1))/\St b w c r:=by
 refine(rV h.rd h.len).mono ?_;exact abh
theorem yy(h:St b w W l):ET 209 #[.pointer (Y b 0)] W λe c=>((∀L r,l=L :: r->¬L.toNat<=r)/\e=EQ 7 0/\J8 b w c)\/∃L r,l=L :: r/\Hid (L.toNat<=r)/\e=.returned (.string (str (r.take L.toNat)))/\St b w c (r.drop L.toNat):=by
 refine(qO h.rd h.len).mono ?_;exact abh
theorem ED(h:Dy w s xs t)(o:Nat)(v:Ad)(a:xs[o]?=v):w.cell? (Y s o)=v:=by
 simp[World.cell?,h,a]
theorem Hf(h:w.heap[s]?=some (.cells xs t (0,0)))(o:Nat):w.frozen? (Y s o)=false:=by
 simp[World.frozen?,h]
theorem J8.put(h:J8 b w w1)(d:w<=s)(c:b<s)(x:Ad):J8 b w (w1.setCell (Y s o) x):=
 ⟨h.h.setCell Fy _,by simpa using h.size,λk hk a=>(AU _ _ _ _ Fy).trans (h.block k hk a)⟩
theorem Rd.other(h:Rd w b l)(a:b<s)(x:Ad):Rd (w.setCell (Y s o) x) b l:=by grind [Rd,Below.heap_setCell]
abbrev km(w:Aa)(s:Nat)(x0 x1 x2 x3 x4 x5 x6 x7 x8 x9:Ad):World:=(((((((((w.setCell (Y s 0) x0).setCell (Y s 1) x1).setCell (Y s 2) x2).setCell (Y s 3) x3).setCell (Y s 4) x4).setCell (Y s 5) x5).setCell (Y s 6) x6).setCell (Y s 7) x7).setCell (Y s 8) x8).setCell (Y s 9) x9
def dI(b:Nat)(l:Ac)(w:Aa)(e:Ending)(w':Aa):Prop:=J8 b w w'/\((GZ l=none/\e=EQ 7 0)\/∃p r,GZ l=some (p,r)/\e=.returned (pv p)/\Rd w' b r)
theorem Hd(h:l.length<11):GZ l=none:=by
 unfold GZ;split
 .simp only[A4]at h;omega
 .rfl
theorem age{c pa o:UInt8}(h:∀f r,l=f :: r->¬f.toNat<=1):GZ (k :: c :: li :: ln :: s1 :: s2 :: u :: pa :: o :: l)=none:=by
 unfold GZ;split
 .rename_i a;simp only[List.cons.injEq]at a;have⟨_,_,_,_,_,_,_,_,_,a⟩:=a;rw[Ao (λb=>h _ _ a b.1)]
 .rfl
theorem aeF{c pa o f:UInt8}(h:∀L r,l=L :: r->¬L.toNat<=r):GZ (k :: c :: li :: ln :: s1 :: s2 :: u :: pa :: o :: f :: l)=none:=by
 unfold GZ;split
 .rename_i a;simp only[List.cons.injEq]at a;have⟨_,_,_,_,_,_,_,_,_,_,a⟩:=a;rw[Ao (λb=>h _ _ a b.2)]
 .rfl
theorem aem{c pa o f:UInt8}(a:f.toNat<=1)(b:L.toNat<=r):GZ (k :: c :: li :: ln :: s1 :: s2 :: u :: pa :: o :: f :: L :: r)=some (⟨k.toNat,c.toNat,li.toNat,ln.toNat,E5 s1 s2,u.toNat,pa.toNat,o.toNat,(f.toNat:Int)==1,r.take L.toNat⟩,r.drop L.toNat):=by
 show (if f.toNat<=1/\L.toNat<=r.length then _ else _)=_;rw[Ay ⟨a,b⟩]
theorem dJ(b:Nat)(l:Ac)(w:Aa)(h:Rd w b l)(hl:l.length<=9223372036854775807):ET 152 #[.pointer (Y b 0)] w (dI b l w):=by
 have a:=h.lt;have m:J8 b w ((w.alloc (.cells zeroCells 82)).drew):=⟨((AA _ _).alloc U _).drew,Ev,λk hk _=>AL _ _ _ hk⟩;have x:Rd ((w.alloc (.cells zeroCells 82)).drew) b l:=by
  unfold Rd at h ⊢;show (w.alloc _).heap[b]?=_;rw[AL _ _ _ a];exact h
 obtain⟨W,p⟩:∃W,W=(w.alloc (.cells zeroCells 82)).drew:=DR;have o:Dy W w.heap.size zeroCells 82:=by
  rw[p];show (w.heap.push _)[w.heap.size]?=_;rw[Bz]
 have i:St b W W l:=⟨J8.refl _ _,p ▸ x,hl⟩;rw[<-p]at m;have t:=Dv o;clear h x hl
 delta ET
 go_in
 go_wp2;go_region_with (first
  |(go_at_call 206;refine(jk (by rw[<-p];exact i)).mono ?_;rintro e q (⟨rfl,rfl,j⟩|⟨c,r,rfl,rfl,i⟩);(exact⟨rfl,m.trans j,Aj ⟨Hd Ev,rfl⟩⟩))
  |(go_at_call 206;refine(jk (by assumption)).mono ?_;rintro e q (⟨rfl,rfl,j⟩|⟨c,r,rfl,rfl,i⟩);(exact⟨rfl,m.trans j,Aj ⟨Hd Ev,rfl⟩⟩))
  |(go_at_call 207;refine(adX (by assumption)).mono ?_;rintro e q (⟨n,rfl,j⟩|⟨c,d,r,rfl,rfl,i⟩);(exact⟨rfl,m.trans j,Aj ⟨Hd (by simp only[A4];omega),rfl⟩⟩))
  |(go_at_call 208;refine(za (by assumption)).mono ?_;rintro e q (⟨n,rfl,j⟩|⟨f,r,rfl,u,rfl,i⟩);(exact⟨rfl,m.trans j,Aj ⟨age n,rfl⟩⟩))
  |(go_at_call 209;refine(yy (by assumption)).mono ?_;rintro e q (⟨n,rfl,j⟩|⟨L,r,rfl,s,rfl,i⟩);(exact⟨rfl,m.trans j,Aj ⟨aeF n,rfl⟩⟩);have g:=(i.only.block _ t U).trans o;have c0:=EI g 0;have c1:=EI g 1;have c2:=EI g 2;have c3:=EI g 3;have c4:=EI g 4;have c5:=EI g 5;have c6:=EI g 6;have A:=EI g 7;have B:=EI g 8;have c9:=EI g 9;have C:=Hf g;clear g))
 have⟨y,z⟩:=FU (m.trans i.only) i.rd;clear i;go_wp2;refine Bm (v:=pv ⟨_,_,_,_,_,_,_,_,_,_⟩) (by simp[results,results152,go_sem,c0,c1,c2,c3,c4,c5,c6,A,B,c9]) I ⟨((((((((((y.put (Ar _) a _).put (Ar _) a _).put (Ar _) a _).put (Ar _) a _).put (Ar _) a _).put (Ar _) a _).put (Ar _) a _).put (Ar _) a _).put (Ar _) a _).put (Ar _) a _),Am ⟨_,_,aem u (Dw s),I,((((((((((z.other a _).other a _).other a _).other a _).other a _).other a _).other a _).other a _).other a _).other a _)⟩⟩
def aaY(n lo hi:Int)(w:Aa)(e:Ending)(w':Aa):Prop:=w'=w/\(((lo<=n/\n<=hi)/\e=.returned Ep)\/(¬(lo<=n/\n<=hi)/\e=EQ 7 0))
theorem iQ(n lo hi:Int)(w:Aa):ET 210 #[Z n,Z lo,Z hi] w (aaY n lo hi w):=by
 by_cases a:n<lo
 .delta ET
  go_in
  go_wp2;exact⟨I,I,Am ⟨U,I⟩⟩
 .by_cases b:hi<n
  .delta ET
   go_in
   go_wp2;exact⟨I,I,Am ⟨U,I⟩⟩
  .delta ET
   go_in
   go_wp2
   go_end0
   exact⟨I,Aj ⟨⟨U,U⟩,I⟩⟩
def Ig(kind Ez off:Int):Int×Int:=if kind=1\/kind=5 then (if Ez<off-1 then (8,8) else (0,8)) else (0,0)
theorem VE(p:Pk):((Ig p.J p.Ez p.off).1<=p.d/\p.d<=(Ig p.J p.Ez p.off).2)↔Ju p:=by grind [Ig,Ju]
abbrev S9(k c li ln sq u pa o:Int)(pl:Bool)(S:Ab):Value:=.agg #[Z k,Z c,Z li,Z ln,Z sq,Z u,Z pa,Z o,.bool pl,.string S]
theorem cO(k c li ln g u pa o:Int)(f:Bool)(S:Ab)(w:Aa)(i:1<=o/\o<=9):
  D7 211 #[S9 k c li ln g u pa o f S] w (.tuple #[Z (Ig k pa o).1,Z (Ig k pa o).2]) (DY w):=by
 have j:wrap64 (o-1)=o-1:=NU;have HB:=Dx ((AA (zz w) w).alloc (Ar _) (.cells #[Z k,Z c,Z li,Z ln,Z g,Z u,Z pa,Z o,.bool f,.string S] 82));by_cases b:k=1
 .subst b;by_cases a:pa<o-1
  .have e:Ig 1 pa o=(8,8):=by simp[Ig,a]
   exact abI
  .have e:Ig 1 pa o=(0,8):=by simp[Ig,a]
   exact abJ
 .have hk:(k != 1)=true:=by simpa using b
  by_cases d:k=5
  .subst d;by_cases a:pa<o-1
   .have e:Ig 5 pa o=(8,8):=by simp[Ig,a]
    exact abI
   .have e:Ig 5 pa o=(0,8):=by simp[Ig,a]
    exact abJ
  .have h:(k != 5)=true:=by simpa using d
   have e:Ig k pa o=(0,0):=by simp[Ig,b,d]
   rw[e]
   delta D7
   go_in
   go_wp2;exact Bm (v:=.tuple #[Z 0,Z 0]) (by simp[results,results211,go_sem]) I ⟨I,HB⟩
def V7(p:Pk)(w:Aa)(e:Ending)(w':Aa):Prop:=Below w w w'/\((EC p/\e=.returned Ep)\/(¬EC p/\e=EQ 7 0))
theorem nU{k c li ln a u pa o:Int}{n:Bool}(h:EC ⟨k,c,li,ln,a,u,pa,o,n,body⟩):((1<=k/\k<=7)/\(0<=c/\c<=2)/\(1<=li/\li<=255)/\(0<=ln/\ln<=2)/\(1<=a/\a<=999)/\(1<=u/\u<=255)/\(1<=o/\o<=9)/\(0<=pa/\pa<=o-1))/\((Ig k pa o).1<=body/\body<=(Ig k pa o).2):=by
 have⟨b,d,e,f,g,i,j,l,m⟩:=h;exact⟨⟨b,d,e,f,g,i,j,l⟩,(VE _).2 m⟩
theorem V8(p:Pk)(w:Aa):ET 153 #[pv p] w (V7 p w):=by
 have⟨z,t⟩:=FU iQ cO;have⟨k,c,g,ln,j,u,pa,o,i,a⟩:=p;have s:=Er a;obtain⟨S,x⟩:∃S,S=str a:=DR;have y:=Dx ((AA (zz w) w).alloc (Ar _) (.cells #[Z k,Z c,Z g,Z ln,Z j,Z u,Z pa,Z o,.bool i,.string S] 82));have m:Hid (EC ⟨k,c,g,ln,j,u,pa,o,i,a⟩->_):=nU;have v:=Dx (VE ⟨k,c,g,ln,j,u,pa,o,i,a⟩);obtain⟨b,hpost⟩:∃b,b=V7 ⟨k,c,g,ln,j,u,pa,o,i,a⟩ w:=DR;have l:Hid (∀w',DY w w'->¬EC ⟨k,c,g,ln,j,u,pa,o,i,a⟩->b (EQ 7 0) w'):=by
  rw[hpost];exact λw' hb hr=>⟨hb,Am ⟨hr,I⟩⟩
 have n:Hid (∀w',DY w w'->EC ⟨k,c,g,ln,j,u,pa,o,i,a⟩->b (.returned Ep) w'):=by
  exact xd
 show ET 153 #[S9 k c g ln j u pa o i (str a)] w _;rw[<-x,<-hpost];have D:(S.size:Int)=(a.length:Int):=by rw[x,s]
 clear s x hpost
 delta ET
 go_in
 go_wp2_with (first
  |(go_at_call 210;refine(z _ _ _ _).mono ?_;rintro e E ⟨rfl,⟨f,rfl⟩|⟨d,rfl⟩⟩;rotate_left;(exact⟨rfl,l _ y (λh=>by have J:=(m h).1;omega)⟩);have⟨A,C⟩:=f))
 refine cm (t _ _ _ _ _ _ _ _ _ _ _ U) λF q=>?_
 have r:=Dx (y.trans (q.mono Ev));have c9:Kk F w 9 (.string S):=(q.cell (p:=EN w 9) Ev).trans Vb;generalize Ig k pa o=B at *;have⟨G,H⟩:=B;go_wp2_with fail
 refine(z _ _ _ _).mono ?_;rintro e E ⟨rfl,⟨f,rfl⟩|⟨d,rfl⟩⟩
 .go_wp2
  go_end0
  refine n _ r ?_;exact⟨U,U,U,U,U,U,U,U,v.1 f⟩
 .go_wp2;exact⟨I,l _ r (λh=>d (m h).2)⟩
def aar(b:Nat)(l r:Ac)(w:Aa)(e:Ending)(w':Aa):Prop:=J8 b w w'/\((Sp l r=none/\e=EQ 7 0)\/∃t,Sp l r=some t/\e=.returned Ep/\Rd w' b t)
theorem aat(h:r.length<2):Sp l r=none:=by
 unfold Sp;split
 .simp at h;omega
 .rfl
theorem aas(b:Nat)(m r:Ac)(w:Aa)(h:Rd w b r)(F:m.length<=1000)(hl:(m++r).length<=9223372036854775807):
  ET 154 #[.pointer (Y b 0),.string (str (m++r))] w (aar b (m++r) r w):=by
 have z:r.length<=9223372036854775807:=by rw[AJ]at hl;omega
 have⟨q,k,g⟩:=Ll (QA b r w h z) (λw=>R0 m w U) (λ(r:Ac) (w:Aa) (h:Rd w b r)=>JR b r w h);have E:=h.left;have s1:=Er (m++r);have s2:=Er r;have D:(str (m++r)).extract 0 m.length=str m:=by rw[Ho];simp
 have G:wrap64 (((str (m++r)).size:Int)-((str r).size:Int))=(m.length:Int):=by
  rw[s1,s2,AJ];unfold wrap64;rw[AJ]at hl;omega
 have y:(m.length:Int)<=((str (m++r)).size:Int):=by rw[s1,AJ];omega
 have p:=Dx (Rm m r);have x:=Nt m;have j:((jr m).toNat:Int)=Kb m:=rfl;rw[j]at k;generalize hC:Kb m=C at *;generalize hS:str (m++r)=S at *;generalize hR:str r=R at *;generalize hM:str m=M at *;generalize m.length=n at *;clear h s1 s2 hR j
 delta ET
 go_in
 go_wp2_with fail
 refine(Dw q).mono ?_;rintro e A ⟨i,⟨o,rfl⟩|⟨a,c,t,rfl,rfl,f⟩⟩
 .go_wp2;exact⟨I,i,Aj ⟨aat o,I⟩⟩
 .by_cases d:E5 a c=C
  .have v:(E5 a c != C)=false:=by simpa using d
   have s:=Dx f;clear f g;have l:=Dx d;clear d;go_wp2_with fail
   refine((Dw k) _).mono ?_;rintro e B ⟨rfl,rfl⟩;go_wp2
   go_end0
   refine⟨i,Am ⟨t,?_,I,Dw s⟩⟩;show (if E5 a c=Kb ((m++a :: c :: t).take ((m++a :: c :: t).length-(a :: c :: t).length)) then some t else none)=some t;rw[Dw p,hC,Ay (Dw l)]
  .have v:(E5 a c != C)=true:=by simpa using d
   have u:=Dx ((Dw g) t A f);clear f g;have l:=Dx d;clear d;go_wp2_with fail
   refine((Dw k) _).mono ?_;rintro e B ⟨rfl,rfl⟩;go_wp2_with fail
   refine(Dw u).mono ?_;rintro e H ⟨rfl,rfl⟩;go_wp2;refine⟨I,i,Aj ⟨?_,I⟩⟩;show (if E5 a c=Kb ((m++a :: c :: t).take ((m++a :: c :: t).length-(a :: c :: t).length)) then some t else none)=none;rw[Dw p,hC,Ao (Dw l)]
def ZM(l:Ac)(w:Aa)(e:Ending)(w':Aa):Prop:=Below w w w'/\((Ih l=none/\e=EQ 7 0)\/∃p,Ih l=some p/\e=.returned (pv p))
theorem dK(h:GZ l=(p,r)):p.d.length<=255:=by
 unfold GZ at h;split at h
 .split at h
  .rename_i L t hc;cases h;simp only[Bv];have:=L.toNat_lt;omega
  .cases h
 .cases h
theorem uP(h:GZ l=none):Ih l=none:=by
 unfold Ih;rw[h]
theorem uQ(h:GZ l=(p,r))(a:¬EC p):Ih l=none:=by grind [Ih]
theorem uR(h:GZ l=(p,r))(a:Sp l r=none):Ih l=none:=by grind [Ih]
theorem uS{t:Ac}(h:GZ l=(p,r))(a:Sp l r=t)(b:t≠[]):Ih l=none:=by grind [Ih]
theorem uT(h:GZ l=(p,r))(a:EC p)(b:Sp l r=some []):Ih l=p:=by grind [Ih]
theorem aau{t:Ac}(h:Sp l r=t):t<=r.length:=by
 unfold Sp at h
 grind
abbrev FF(w:Aa)(l:Ac):World:=(w.alloc (.cells zeroCells 82)).alloc (.cells #[.string (str l),Z 7] 249)
theorem adw(w:Aa)(l:Ac):Rd (FF w l) (w+1) l:=by
 unfold Rd;have:=AF (w.alloc (.cells zeroCells 82)) (.cells #[.string (str l),Z 7] 249);rw[show (w.alloc (.cells zeroCells 82)).heap.size=zz w+1 by simp]at this;exact this
theorem uI(w:Aa)(l:Ac):(FF w l).heap[w.heap.size]?=some (.cells zeroCells 82 (0,0)):=by
 rw[AL _ _ _ Ev];exact AF w _
theorem nC(w:Aa)(l:Ac):DY w (FF w l):=F9.alloc Ev _
theorem uM(l:Ac)(w:Aa)(hl:l.length<=9223372036854775807):ET 92 #[.string (str l)] w (ZM l w):=by
 have HF:=Dx (dJ (w.heap.size+1) l (FF w l) (adw w l) hl);have ak:(FF w l).heap.size=w.heap.size+2:=Ev;obtain⟨d,hpost⟩:∃d,d=ZM l w:=DR;have j:Hid (∀w',DY w w'->Ih l=none->d (EQ 7 0) w'):=by
  exact xd
 have F:Hid (∀w' p,DY w w'->Ih l=some p->d (.returned (pv p)) w'):=by
  rw[hpost];exact λw' p hb hr=>⟨hb,Am ⟨p,hr,I⟩⟩
 obtain⟨HZ,m⟩:=FU (uI w l) (nC w l);rw[<-hpost];clear hpost
 delta ET
 go_in
 go_wp2_with fail
 refine(Dw HF).mono ?_;rintro e w1 ⟨f,⟨hn,rfl⟩|⟨p,r,Q,rfl,s⟩⟩
 .go_wp2;exact⟨I,(Dw j) _ ((Dw m).trans (f.h.mono U)) (uP hn)⟩
 .have am:=f.size;have x:=Dx ((Dw m).trans (f.h.mono (by omega:w.heap.size<=w.heap.size+1)));obtain⟨G,A,q,P,B⟩:=Eo ((f.block _ U U).trans (Dw HZ)) (dK Q) (RJ Q) Q s;have J:=s.lt;clear Q s f HF;have C:=Dx (λw=>V8 p w);obtain⟨k,c,S,ln,W,u,pa,o,T,b⟩:=p;go_wp2_with fail
  refine((Dw C) _).mono ?_;rintro e w3 ⟨a,⟨M,rfl⟩|⟨aa,rfl⟩⟩
  .have ab:=a.size;have n:=Dx (((Dw x).alloc U (.cells #[Z k,Z c,Z S,Z ln,Z W,Z u,Z pa,Z o,.bool T,.string (str b)] 82)).trans (a.mono Fy));have H:=(a.block w1.heap.size Ev).trans (AF w1 _);have O:=(a.block w.heap.size Fy).trans ((AL w1 _ _ U).trans (Dw G));have K:Rd w3 (w.heap.size+1) r:=by
    have h:=Dw B;unfold Rd at h ⊢;rw[a.block _ Fy,AL _ _ _ J];exact h
   have al:r.length<=9223372036854775807:=by
    have:=CG List.length (Dw q);rw[AJ]at this;omega
   have i:=aas (w.heap.size+1) (Ha ⟨k,c,S,ln,W,u,pa,o,T,b⟩) r w3 K (by have:=JZ ⟨k,c,S,ln,W,u,pa,o,T,b⟩;have h2:=Dw A;simp only at this;omega) (by rw[<-Dw q];exact hl);rw[<-Dw q]at i;obtain⟨HS,D⟩:=FU i M;simp at ab;clear i K a M C B G HZ m;go_wp2_with fail
   refine(Dw HS).mono ?_;rintro e w4 ⟨g,⟨N,rfl⟩|⟨t,N,rfl,L⟩⟩
   .go_wp2;exact⟨I,(Dw j) _ ((Dw n).trans (g.h.mono U)) (uR (Dw P) N)⟩
   .have X:=Dx (yT (w.heap.size+1) t w4 L (by have:=aau N;omega));have y:=Dx ((Dw n).trans (g.h.mono (by omega:w.heap.size<=w.heap.size+1)));have hk:=(g.block _ U U).trans H;have hz:=(g.block _ U U).trans O;have E:=Dx N;clear N g L H O HS n;by_cases ht:t=[]
    .subst ht;obtain⟨e0,e1,e2,e3,e4,e5,e6,e7,e8,e9⟩:=Yy hk;obtain⟨c0,c1,c2,c3,c4,c5,c6,c7,c8,c9⟩:=Yy hz;have cz:=Hf hz;clear hk hz;go_wp2_with fail
     refine(Dw X).mono ?_;rintro e w5 ⟨rfl,rfl⟩;go_wp2;refine Bm (v:=pv ⟨k,c,S,ln,W,u,pa,o,T,b⟩) (by simp[results,results92,go_sem,c0,c1,c2,c3,c4,c5,c6,c7,c8,c9]) I ((Dw F) _ _ ?_ (uT (Dw P) (Dw D) (Dw E)));exact((((((((((Dw y).setCell Ev _).setCell Ev _).setCell Ev _).setCell Ev _).setCell Ev _).setCell Ev _).setCell Ev _).setCell Ev _).setCell Ev _).setCell Ev _
    .have z:=X;rw[Ao ht]at z;clear X hk hz;go_wp2_with fail
     refine(Dw z).mono ?_;rintro e w5 ⟨rfl,rfl⟩;go_wp2;exact⟨I,(Dw j) _ (Dw y) (uS (Dw P) (Dw E) ht)⟩
  .go_wp2;exact⟨I,(Dw j) _ (((Dw x).alloc U _).trans (a.mono Fy)) (uQ (Dw P) aa)⟩
theorem PU(n q:Nat)(w:Aa):(Instr.typeAssert (.iface 161 (Gk n q)) 20 161 true).run prog w=.ok (.tuple #[Gk n q,DC]) w:=EL
theorem Od(n q:Nat)(w:Aa):(Instr.field 161 (Gk n q) 0).run prog w=.ok (Z n) w:=EL
theorem PV(h:Below B w w1)(a:B<=s)(b x1 x2 x3 x4 c d x7 x8 x9:Ad):Below B w (km w1 s b x1 x2 x3 x4 c d x7 x8 x9):=
 (((((((((h.setCell (by exact a) _).setCell (by exact a) _).setCell (by exact a) _).setCell (by exact a) _).setCell (by exact a) _).setCell (by exact a) _).setCell (by exact a) _).setCell (by exact a) _).setCell (by exact a) _).setCell (by exact a) _
theorem lt_of_cell{k:Nat}(h:w.cell? (Y k o)=v):k<w:=by
 rcases CR k w.heap.size with a|a
 .exact a
 .simp[World.cell?,Array.getElem?_eq_none a]at h
theorem Io(h:w.heap[s]?=some (.cells xs t (0,0)))(x:Ad):(w.setCell (Y s o) x).heap[s]?=some (.cells (xs.setIfInBounds o x) t (0,0)):=by
 exact xw
theorem acY(h:Dy w s zeroCells 82)(a x1 x2 x3 x4 b c x7 x8 x9:Ad):Dy (km w s a x1 x2 x3 x4 b c x7 x8 x9) s #[a,x1,x2,x3,x4,b,c,x7,x8,x9] 82:=by
 have d:=Io (o:=0) h a;have e:=Io (o:=1) d x1;have f:=Io (o:=2) e x2;have g:=Io (o:=3) f x3;have i:=Io (o:=4) g x4;have j:=Io (o:=5) i b;have k:=Io (o:=6) j c;have l:=Io (o:=7) k x7;have m:=Io (o:=8) l x8;have n:=Io (o:=9) m x9;refine n.trans ?_;simp
theorem Px(n q:Nat)(w:Aa):
  D7 87 #[.iface 161 (Gk n q)] w (Gk n q) (DY w):=by
 exact abA
theorem QX(a0 a1 B:Nat)(n q:Nat)(a:List PanicEntry)(w:Aa)(c:w.heap[a0]?=some (.cells zeroCells 82 (0,0)))(d:w.cell? (Y a1 0)=Z 0)(k:DJ w a1 0)(f:B<=a0)(g:B<=a1)(h:¬a0=a1):
  CallsD prog 91 #[.pointer (Y a0 0),.pointer (Y a1 0)] (.panicking ({v:=.iface 161 (Gk n q),recovered:=false} :: a)) w λe t i=>
   e=.returned Ep/\t=.panicking ({v:=.iface 161 (Gk n q),recovered:=true} :: a)/\i.heap[a0]?=some (.cells zeroCells 82 (0,0))/\i.cell? (Y a1 0)=Z n/\Below B w i:=by
 refine callsD_of_wpS func91 I λr cs hu=>?_
 apply wpS_seq;apply wpS_region;simp[wpOpsS,go_sem,recoverD,hu,ntmps91,Exit.thenS];rw[show (#[Value.pointer (some {block:=a0,off:=0}),Value.pointer (some {block:=a1,off:=0})]++((Array.replicate 8 undef).setIfInBounds 1 (Value.iface 161 (Gk n q))).setIfInBounds 0 (Value.iface 161 (Gk n q)))=#[.pointer (some {block:=a0,off:=0}),.pointer (some {block:=a1,off:=0}),.iface 161 (Gk n q),.iface 161 (Gk n q),undef,undef,undef,undef,undef,undef] from rfl];refine wpS_of_wp ?_;have s:=Od n q;have l0:=Dv c;have l1:=Gv d;go_wp2_with fail
 refine cm (Px n q _) λj b=>?_
 have s1:=b.size;have hz:=(b.block _ l0).trans c;have g1:=(b.cell (p:=Y a1 0) l1).trans d;have C:=(b.frozen (p:=Y a1 0) l1).trans k;obtain⟨z,A,e2⟩:a0<j.heap.size/\a1<j.heap.size/\¬a1=a0:=U;have c0:=EI hz 0;have c1:=EI hz 1;have c2:=EI hz 2;have c3:=EI hz 3;have c4:=EI hz 4;have c5:=EI hz 5;have c6:=EI hz 6;have u:=EI hz 7;have x:=EI hz 8;have c9:=EI hz 9;have y:=Hf hz;have o:=Dx hz;clear c d k hz;go_wp2;have l:=acY o (Z 0) (Z 0) (Z 0) (Z 0) (Z 0) (Z 0) (Z 0) (Z 0) DI (.string ⟨#[]⟩);have m:=PV (b.mono (by omega:B<=w.heap.size)) f (Z 0) (Z 0) (Z 0) (Z 0) (Z 0) (Z 0) (Z 0) (Z 0) DI (.string ⟨#[]⟩);show bodyPostS prog f91 r cs _ _ _ _ _;refine⟨I,_,I,_,results_none I _ _ _,I,I,?_,?_,m.setCell (by exact g) _⟩
 .rw[AU _ _ _ _ (by simpa using h)];exact l
 .simp[go_sem,g1]
theorem Zt(a b:Addr)(w:Aa):
  CallsD prog 91 #[.pointer (a),.pointer (b)] .returning w λe c d=>e=.returned Ep/\c=.returning/\d=w:=by
 refine callsD_of_wpS func91 I λc₀ cs hu=>?_
 apply wpS_seq;apply wpS_region;simp[wpOpsS,go_sem,recoverD,hu,ntmps91,Exit.thenS];rw[show (#[Value.pointer (some a),Value.pointer (some b)]++((Array.replicate 8 undef).setIfInBounds 1 (Value.nilIface)).setIfInBounds 0 (Value.nilIface))=#[.pointer (some a),.pointer (some b),.nilIface,.nilIface,undef,undef,undef,undef,undef,undef] from rfl];exact adV
abbrev jV(w:Aa):World:=(w.alloc (.cells zeroCells 82)).alloc (.cells #[Z 0] 41)
def Us(l:Ac)(w:Aa)(e:Ending)(w':Aa):Prop:=Below w w w'/\((Ih l=none/\e=.returned (.tuple #[NY,Z 7]))\/∃p,Ih l=some p/\e=.returned (.tuple #[pv p,Z 0]))
theorem Zy(hl:l.length<=9223372036854775807):ET 54 #[.string (str l)] w (Us l w):=by
 have D:∀(fn:Fn) (first cap:Array Value) (w:Aa),(Instr.makeFunc fn first cap).run prog w=.ok (.func fn first cap) w:=λ_ _ _ _=>rfl
 have r:=Dx (uM l (jV w) hl);have d:(jV w).heap[w.heap.size]?=some (.cells zeroCells 82 (0,0)):=by
  rw[AL _ _ _ Ev];exact AF w _
 have s:=Dx d;have F:(jV w).heap.size=w.heap.size+2:=Ev;have q:=Dx (((AA w.heap.size w).alloc (Ar _) (.cells zeroCells 82)).alloc Ev (.cells #[Z 0] 41));clear d
 go_enter_defers func54,ntmps54
 go_wp2_with fail
 refine r.mono ?_;rintro e g ⟨a,⟨hn,rfl⟩|⟨p,v,rfl⟩⟩
 .have E:=a.size;have x:=(a.block w.heap.size U).trans (Dw s);have c1:g.cell? (DG w 0)=some (Z 0):=(a.cell (p:=DG w 0) Ev).trans Vb;have y:g.frozen? (DG w 0)=false:=(a.frozen (p:=DG w 0) Ev).trans Vb;have m:=q.trans (a.mono U);have b:=Dx x;clear x;go_wp2;refine leaves_cons (f:=91) (args:=#[.pointer (some (EN w 0)),.pointer (some (DG w 0))]) Ev Vb ?_;refine(QX w.heap.size (w.heap.size+1) w.heap.size 7 0 [] _ b c1 y (Ar _) U U).mono ?_;rintro e G n ⟨rfl,rfl,A,B,C⟩;obtain⟨c0,d1,c2,c3,c4,c5,c6,i,j,c9⟩:=Yy A;simp[Leaves,settle,results,results54,go_sem,c0,d1,c2,c3,c4,c5,c6,i,j,c9,B];exact⟨m.trans C,Aj ⟨hn,I⟩⟩
 .have E:=a.size;have hz:=(a.block w.heap.size U).trans (Dw s);have g1:g.cell? (DG w 0)=some (Z 0):=(a.cell (p:=DG w 0) Ev).trans Vb;have y:g.frozen? (DG w 0)=false:=(a.frozen (p:=DG w 0) Ev).trans Vb;have h:=Dx (q.trans (a.mono (by omega:w.heap.size<=(jV w).heap.size)));obtain⟨c0,c1,c2,c3,c4,c5,c6,i,j,c9⟩:=Yy hz;have H:=Hf hz;obtain⟨b,z⟩:=FU hz v;obtain⟨k,c,J,ln,L,u,pa,o,K,t⟩:=p;clear hz a v r;go_wp2;refine leaves_cons (f:=91) (args:=#[.pointer (some (EN w 0)),.pointer (some (DG w 0))]) Ev Vb ?_;refine(Zt _ _ _).mono ?_;rintro e G n ⟨rfl,rfl,rfl⟩;simp[Leaves,settle,results,results54,go_sem,c0,c1,c2,c3,c4,c5,c6,i,j,c9,g1];exact⟨(PV h (Ar _) _ _ _ _ _ _ _ _ _ _).setCell Ev _,Am ⟨_,z,I⟩⟩
theorem Ei{xs:Ae}(h:w.ownsRow B e size v n xs):∃a k c,v=.slice a k c:=by
 rcases h.2 with ⟨d,_⟩|⟨g,cap,b,d,_⟩;all_goals grind
theorem ER{xs:Ae}(h:w.ownsRow B e size v n xs)(hb:DY w w'):w'.ownsRow B e size v n xs:=by
 exact aaC
theorem QB(l:Ac):∀u∈Ku l,u.oneCell'=true:=by
 intro u hu;unfold Ku at hu;obtain⟨c,_,rfl⟩:=Cy.1 hu;rfl
theorem iJ(a b:Ac):Ku (a++b)=Ku a++Ku b:=by
 unfold Ku;rw[C8]
def Own(w:Aa)(B:Nat)(O:Ad)(l:Ac):Prop:=w.ownsRow B 5 1 O l (Ku l)
theorem Own.push{a b:Ac}(h:w.ownsRow B 5 1 O (a+b) (Ku a++Ku b)):Own w B O (a++b):=by grind [Own,iJ]
theorem Own.conv{out:Ac}(h:Own w B O out):(convert 281 9 O).run prog w=.ok (.string (str out)) w:=by
 have hcl:=λg=>World.ownsRow.cells (g:=g) h
 exact afv
theorem VK(w:Aa)(cs:Ae):∀(j:Nat) (u:Ad),cs[j]?=u->(w.alloc (.cells cs.toArray 5)).cell? (((EN w 0):Addr).add j)=u:=by grind [Addr.add_lit,World.cell?_alloc_new]
theorem MH(B:Nat)(O:Ad)(out:Ac)n(w:Aa)(how:Own w B O out)(hB:B<=w)(r:out.length<=1000)(hn:0<=n/\n<=65535):
  ET 202 #[O,Z n] w λe o=>∃m,e=.returned m/\Own o B m (out++EU n)/\Below B w o:=by
 have d:=λk=>Ba how k
 have⟨x,ok,y,q⟩:=Ei how;subst q;have c:=Dx (how.alloc (.cells (Ku (EU n)).toArray 5));have l:=Dx (VK w (Ku (EU n)));have e1:(Ku (EU n)).toArray=#[.int .u8 (n / 256),.int .u8 (n % 256)]:=by
  unfold Ku EU;simp only[Cq,CU,FP (show 0<=n / 256 by omega) (show n / 256<=255 by omega),FP (show 0<=n % 256 by omega) (show n % 256<=255 by omega)]
 rw[e1]at l c;clear how;have⟨i0,hi,h,i,j⟩:=A1 info5;have z:IntKind.u16.wrap n=n:=by rw[wrap_u16];omega
 have A:0<=n / 256/\n / 256<=255:=U
 delta ET
 go_in
 go_wp2_with (at_builtin;refine AQ _ I (.tmp 8) (.tmp 14) 281 I B 5 i0 (.int .u8 0) 1 1 underlying281 hi h i j I Em _ out.length (Ku out) I (by exact c) (EN w 0) 2 2 (Ku (EU n)) I I (by exact l) (by exact QB _) JG U Fy ?_)
 intro v C b a _ g;have⟨s,u,t,f⟩:=Ei b;subst f;have HF:=Own.push b;have p:=Dx (((AA B w).alloc hB (.cells #[.int .u8 (n / 256),.int .u8 (n % 256)] 5)).grown a Fy (λk hk=>(d k hk).1));clear b a g d;go_wp2
 go_ret
 exact⟨_,I,HF,p⟩
theorem Vx(b:Bool)(w:Aa):D7 234 #[.bool b] w (.int .u8 (N3 b)) λa=>a=w:=by
 cases b
 .delta D7
  go_in
  go_wp2
  go_ret
  exact DN
 .delta D7
  go_in
  go_wp2
  go_ret
  exact DN
theorem FM{ops:Array Oper}{o:Oper}{a:Act}{K:Act->World->Prop}{Q:Exit->Act->World->Prop}{E:Prop}
  (hgd:o.guard=none) (sl x:Operand) (t:Ag) (ho:o.op=.call {callee:=.builtin .append,args:=#[sl,x],argTypes:=#[t,t]})
  (base:Nat) (e:Ag) (i:TypeInfo) (z:Ad) (size bytes:Nat) (ht:P.underlying t=some (.slice e)) (hi:P.info? e=i) (hz:i.zero=z)
  (hsize:i.size=size) (hby:i.bytes=bytes) (hzs:z.cells=size) (hsz:0<size)
  (v:Ad) (n:Nat) (xs:Ae) (hs:a.eval sl=v) (hown:w.ownsRow base e size v n xs)
  (ad:Addr) (m c:Nat) (news:Ae) (hx:a.eval x=.slice (ad) m c) (hl:news=m*size) (hnews:∀j u,news[j]?=some u->w.cell? (ad.add j)=some u) (h1:∀u∈news,u.oneCell'=true)
  (h63:n+m<=maxLen) (hbytes:(n+m)*bytes<=140737488355328) (hbase:base<=w)
  (h:∀v' w',w'.ownsRow base e size v' (n+m) (xs++news)->w.grownBy w' v.ownBlock->(v'.ownBlock=v.ownBlock\/v'.ownBlock=some w.heap.size)->K (a.put o.dst v') w'):
  if Region.wanted o (yielded ops a.tmps)=true then Oper.wp P o a w K Q else E:=by
 exact afu
namespace V.Pt
variable {S S':List (Nat×Nat×Nat)}{D L c f k least p:Nat}{g:Nat→Nat}
def FI(c:Nat):Bool:=c==98 || c==99 || c==105 || c==115
def Pe(g:Nat->Nat)(least p:Nat):Bool×Nat:=if 48+least<=g p/\g p<=57 then (true,p+1) else (false,p)
def LV(T:Nat->Bool×Nat)(g:Nat->Nat):Nat->Nat->Bool×Nat
 |0,p=>if g p=41 then (true,p+1) else (false,p)
 |j+1,p=>if g p=41 then (true,p+1) else if (T p).1 then LV T g j (T p).2 else (false,(T p).2)
def ty(g:Nat->Nat):Nat->Nat->Bool×Nat
 |0,p=>(false,p)
 |f+1,p=>
  if FI (g p) then (true,p+1)
  else if g p=101 then Pe g 1 (p+1)
  else if g p=97 then (if (Pe g 1 (p+1)).1 then ty g f (p+2) else (false,p+1))
  else if g p=113 then (if (Pe g 0 (p+1)).1 then ty g f (p+2) else (false,p+1))
  else if g p=114\/g p=117 then
   (if g (p+1)=40 then (if (ty g f (p+2)).1 then LV (ty g f) g 5 (ty g f (p+2)).2 else (false,(ty g f (p+2)).2)) else (false,p+1))
  else (false,p)
def I7(T:Nat->Bool×Nat)(g:Nat->Nat):Nat->Nat->List Nat
 |0,_=>[]
 |j+1,p=>if g p=41 then [] else p :: I7 T g j (T p).2
def EW(g:Nat->Nat)(f p:Nat):List Nat:=
 if g p=97\/g p=113 then [p+2]
 else if g p=114\/g p=117 then (p+2) :: I7 (ty g f) g 5 (ty g f (p+2)).2
 else []
def top:List Nat->Nat
 |[]=>0
 |a :: l=>max a (top l)
def Lj(g:Nat->Nat):Nat->Nat->Nat
 |0,_=>0
 |f+1,p=>top ((EW g f p).map (Lj g f))+1
def EX(c L:Nat):Option (List (Nat×Nat×Nat)):=
 if FI c then some []
 else if c=101 then [(2,0,0)]
 else if c=97 then [(2,0,0),(1,0,L+1)]
 else if c=113 then [(3,0,0),(1,0,L+1)]
 else if c=114\/c=117 then [(4,0,0),(5,0,L+1)]
 else none
def FW:List (Nat×Nat×Nat)->Nat->Option (List (Nat×Nat×Nat))
 |[],_=>none
 |(h,k,L) :: S,c=>
  if h=2 then (if 49<=c/\c<=57 then some S else none)
  else if h=3 then (if 48<=c/\c<=57 then some S else none)
  else if h=4 then (if c=40 then some S else none)
  else if h=5 then (if c=41/\0<k then some S else if k=6 then none else (EX c L).map (·++(5,k+1,L) :: S))
  else (EX c L).map (·++S)
def nd(S:List (Nat×Nat×Nat))(c D:Nat):Nat:=
 match S with
 |[]=>D
 |(h,_,L) :: _=>if (h=1\/(h=5/\c≠41))/\D<L then L else D
def fin(n:Nat)(S:List (Nat×Nat×Nat))(D:Nat):Nat×Nat:=if S=[] then (if 4<D then (3,0) else (0,0)) else (2,n)
def run(g:Nat->Nat)(n:Nat):Nat->List (Nat×Nat×Nat)->Nat->Nat->Nat×Nat
 |0,S,D,_=>fin n S D
 |m+1,S,D,p=>match FW S (g p) with
  |none=>(2,p)
  |some S'=>run g n m S' (nd S (g p) D) (p+1)
def O7(g:Nat->Nat)(n:Nat):Nat×Nat:=
 if 40<n then (1,0)
 else if (ty g (n+1) 0).1 then (if (ty g (n+1) 0).2<n then (2,(ty g (n+1) 0).2) else if 4<Lj g (n+1) 0 then (3,0) else (0,0))
 else (2,(ty g (n+1) 0).2)
def ends(g:Nat->Nat)(n:Nat)(S:List (Nat×Nat×Nat))(D:Nat)(r:Bool×Nat):Nat×Nat:=
 if r.1 then run g n (n-r.2) S D r.2 else (2,r.2)
theorem Kf(b:p<n)(h:FW S (g p)=S'):
  run g n (n-p) S D p=run g n (n-(p+1)) S' (nd S (g p) D) (p+1):=by
 obtain⟨m,a⟩:∃m,n-p=m+1:=⟨n-p-1,U⟩;rw[a,run,h,show n-(p+1)=m by omega]
theorem Lh(b:p<n)(h:FW S (g p)=none):
  run g n (n-p) S D p=(2,p):=by
 obtain⟨m,a⟩:∃m,n-p=m+1:=⟨n-p-1,U⟩;rw[a,run,h]
theorem OT{x:Nat×Nat×Nat}:run g n (n-n) (x :: S) D n=(2,n):=by
 rw[CZ,run,fin,Ao Ev]
theorem Qt{h:Nat}(d:∀p,n<=p->g p=0)(f:p<=n)(hh:(h=2/\least=1)\/(h=3/\least=0)):
  run g n (n-p) ((h,0,0) :: S) D p=ends g n S D (Pe g least p)/\((Pe g least p).1=true->(Pe g least p).2=p+1/\p<n)/\((Pe g least p).1=false->(Pe g least p).2=p):=by
 by_cases hn:p=n
 .subst hn;have e:=d p (Ar _);have hd:Pe g least p=(false,p):=by unfold Pe;rw[Ao U]
  rw[hd,OT];simp[ends]
 .have b:p<n:=U;by_cases hc:48+least<=g p/\g p<=57
  .have hd:Pe g least p=(true,p+1):=by unfold Pe;rw[Ay hc]
   have a:FW ((h,0,0) :: S) (g p)=some S:=by
    exact acx
   have c:nd ((h,0,0) :: S) (g p) D=D:=by
    rcases hh with ⟨rfl,rfl⟩|⟨rfl,rfl⟩<;>simp[nd]
   rw[hd,Kf b a,c];simp[ends,b]
  .have hd:Pe g least p=(false,p):=by unfold Pe;rw[Ao hc]
   have a:FW ((h,0,0) :: S) (g p)=none:=by
    exact acx
   rw[hd,Lh b a];simp[ends]
theorem VS(h:k=0\/(c≠41/\k≠6)):FW ((5,k,L) :: S) c=FW ((1,0,L) :: (5,k+1,L) :: S) c:=by
 have a:¬(c=41/\0<k):=U;have b:¬k=6:=U;simp[FW,a,b]
theorem WM(L:Nat):EX 41 L=none:=by simp[EX,FI]
theorem Z9(c:p<=n)(h:k=0\/(g p≠41/\k≠6)):
  run g n (n-p) ((5,k,L) :: S) D p=run g n (n-p) ((1,0,L) :: (5,k+1,L) :: S) D p:=by
 by_cases hn:p=n
 .subst hn;rw[OT,OT]
 .have a:p<n:=U;have b:=VS (S:=S) (L:=L) h;cases hx:FW ((5,k,L) :: S) (g p) with
  |none=>rw[Lh a hx,Lh a (b ▸ hx)]
  |some S'=>
   rw[Kf a hx,Kf a (b ▸ hx)];by_cases hc:g p=41
   .rcases h with rfl|h
    .exfalso;rw[hc]at hx;simp[FW,WM]at hx
    .omega
   .simp[nd,hc]
def Agree(g:Nat->Nat)(n f:Nat):Prop:=∀(p k L D:Nat) (S:List (Nat×Nat×Nat)),p<=n->n-p<f ->
 run g n (n-p) ((1,k,L) :: S) D p=ends g n S (max D (L+Lj g f p-1)) (ty g f p)/\((ty g f p).1=true->p<(ty g f p).2/\(ty g f p).2<=n)/\((ty g f p).1=false->p<=(ty g f p).2/\(ty g f p).2<=n)
theorem tf(t:∀p,n<=p->g p=0)(o:Agree g n f):∀(j p k L D:Nat) (S:List (Nat×Nat×Nat)),k+j=6->1<=k->p<=n->n-p<f->1<=L->L<=D+1 ->
  run g n (n-p) ((5,k,L) :: S) D p=ends g n S (max D (L+top ((I7 (ty g f) g j p).map (Lj g f))-1)) (LV (ty g f) g j p) /\
   ((LV (ty g f) g j p).1=true->p<(LV (ty g f) g j p).2/\(LV (ty g f) g j p).2<=n)/\((LV (ty g f) g j p).1=false->p<=(LV (ty g f) g j p).2/\(LV (ty g f) g j p).2<=n):=by
 have close:∀(p k L D:Nat) (S:List (Nat×Nat×Nat)),1<=k->p<=n->g p=41->L<=D+1->p<n/\run g n (n-p) ((5,k,L) :: S) D p=ends g n S (max D (L+0-1)) (true,p+1):=by
  intro p k L D S hk b hc d;have a:p<n:=by
   rcases CR p n with h|h
   .exact h
   .have:=t p h;omega
  have l:FW ((5,k,L) :: S) (g p)=some S:=by
   have:0<k:=U;simp[FW,hc,this]
  refine⟨a,?_⟩;rw[Kf a l];have e1:nd ((5,k,L) :: S) (g p) D=D:=by simp[nd,hc]
  have e2:max D (L+0-1)=D:=U;rw[e1,e2];simp[ends]
 intro j;induction j with
 |zero=>
  intro p k L D S hk i b _ c d;obtain rfl:k=6:=U;by_cases hc:g p=41
  .have⟨a,m⟩:=close p 6 L D S i b hc d;have e:LV (ty g f) g 0 p=(true,p+1):=by simp[LV,hc]
   rw[e,m];refine⟨?_,λ_=>⟨Ev,by show p+1<=n;omega⟩,λh=>by simp at h⟩;simp[I7,top]
  .have e:LV (ty g f) g 0 p=(false,p):=by simp[LV,hc]
   rw[e];refine⟨?_,λh=>by simp at h,λ_=>⟨Ar _,b⟩⟩;by_cases hn:p=n
   .subst hn;rw[OT];simp[ends]
   .rw[Lh U (by simp[FW,hc])];simp[ends]
 |succ j ih=>
  intro p k L D S hk i b s c d;by_cases hc:g p=41
  .have⟨a,m⟩:=close p k L D S i b hc d;have e:LV (ty g f) g (j+1) p=(true,p+1):=by simp[LV,hc]
   rw[e,m];refine⟨?_,λ_=>⟨Ev,by show p+1<=n;omega⟩,λh=>by simp at h⟩;simp[I7,top,hc]
  .rw[Z9 b (Am ⟨hc,U⟩)];have⟨q,r,hd⟩:=o p 0 L D ((5,k+1,L) :: S) b s;rw[q];cases hx:(ty g f p).1 with
   |false=>
    have e:LV (ty g f) g (j+1) p=(false,(ty g f p).2):=by simp[LV,hc,hx]
    rw[e];refine⟨?_,λh=>by simp at h,λ_=>hd hx⟩;simp[ends,hx]
   |true=>
    have⟨y,x⟩:=r hx;have e:LV (ty g f) g (j+1) p=LV (ty g f) g j (ty g f p).2:=by simp[LV,hc,hx]
    have e3:I7 (ty g f) g (j+1) p=p :: I7 (ty g f) g j (ty g f p).2:=by simp[I7,hc]
    rw[e,e3];have⟨u,v,w⟩:=ih (ty g f p).2 (k+1) L (max D (L+Lj g f p-1)) S U U x U c U;have e4:ends g n ((5,k+1,L) :: S) (max D (L+Lj g f p-1)) (ty g f p)=run g n (n-(ty g f p).2) ((5,k+1,L) :: S) (max D (L+Lj g f p-1)) (ty g f p).2:=by simp[ends,hx]
    rw[e4,u];refine⟨?_,λh=>?_,λh=>?_⟩
    .have e5:max (max D (L+Lj g f p-1)) (L+top ((I7 (ty g f) g j (ty g f p).2).map (Lj g f))-1)=max D (L+top ((p :: I7 (ty g f) g j (ty g f p).2).map (Lj g f))-1):=by
      simp only[Cq,top];omega
     rw[e5]
    .have:=v h;omega
    .have:=w h;omega
theorem mh(h:FI c=true):c≠97/\c≠113/\c≠114/\c≠117/\c≠0/\c≠101:=by
 simp[FI]at h;omega
theorem mj(h:c=101\/c=97\/c=113\/c=114\/c=117\/c=0):FI c=false:=by
 rcases h with h|h|h|h|h|h<;>subst h<;>rfl
theorem IU:FW ((1,k,L) :: S) c=(EX c L).map (·++S):=by simp[FW]
theorem SZ:nd ((1,k,L) :: S) c D=max D L:=by grind [nd]
theorem agree(m:∀p,n<=p->g p=0):∀f,Agree g n f:=by
 intro f;induction f with
 |zero=>intro p k L D S w u;omega
 |succ f ih=>
  intro p k L D S w u;by_cases hn:p=n
  .subst hn;have e:ty g (f+1) p=(false,p):=by simp[ty,(m p (Nat.le_refl _)),FI]
   grind [OT,ends]
  have c:p<n:=U;cases hl:FI (g p) with
  |true=>
   have⟨a1,a2,a3,a4,_,_⟩:=mh hl;have e:ty g (f+1) p=(true,p+1):=by simp[ty,hl]
   have i:Lj g (f+1) p=1:=by simp[Lj,EW,a1,a2,a3,a4,top]
   have b:FW ((1,k,L) :: S) (g p)=some S:=by rw[IU];simp[EX,hl]
   rw[e,i,Kf c b,SZ]
   grind [ends]
  |false=>
  by_cases l:g p=101
  .have e:ty g (f+1) p=Pe g 1 (p+1):=by simp[ty,l,FI]
   have i:Lj g (f+1) p=1:=by simp[Lj,EW,l,top]
   have b:FW ((1,k,L) :: S) (g p)=some ((2,0,0) :: S):=by rw[IU];simp[EX,l,FI]
   have⟨d1,d2,d3⟩:=Qt (S:=S) (D:=max D L) m (show p+1<=n by omega) (Aj ⟨I,I⟩);rw[e,i,Kf c b,SZ,d1]
   grind
  by_cases ha:g p=97\/g p=113
  .obtain⟨h,a,v,b,j⟩:∃h a,((h=2/\a=1)\/(h=3/\a=0))/\FW ((1,k,L) :: S) (g p)=some ((h,0,0) :: (1,0,L+1) :: S)/\ty g (f+1) p=(if (Pe g a (p+1)).1 then ty g f (p+2) else (false,p+1)):=by
    exact afJ
   have i:Lj g (f+1) p=Lj g f (p+2)+1:=by simp[Lj,EW,ha,top]
   have⟨d1,d2,d3⟩:=Qt (S:=(1,0,L+1) :: S) (D:=max D L) m (show p+1<=n by omega) v;rw[Kf c b,SZ,d1,j,i];cases hx:(Pe g a (p+1)).1 with
   |false=>grind [ends]
   |true=>
    have⟨z,d⟩:=d2 hx;rw[Ay rfl];have⟨s,t,x⟩:=ih (p+2) 0 (L+1) (max D L) S U U
    grind [ends,Pe,run,Lj]
  by_cases r:g p=114\/g p=117
  .have n1:¬g p=97:=U;have n2:¬g p=113:=U;have b:FW ((1,k,L) :: S) (g p)=some ((4,0,0) :: (5,0,L+1) :: S):=by grind [IU,EX]
   have j:ty g (f+1) p=(if g (p+1)=40 then (if (ty g f (p+2)).1 then LV (ty g f) g 5 (ty g f (p+2)).2 else (false,(ty g f (p+2)).2)) else (false,p+1)):=by
    simp[ty,hl,l,n1,n2,r]
   have i:Lj g (f+1) p=top (((p+2) :: I7 (ty g f) g 5 (ty g f (p+2)).2).map (Lj g f))+1:=by simp[Lj,EW,n1,n2,r]
   rw[Kf c b,SZ,j,i];by_cases o:g (p+1)=40
   .have d:p+1<n:=by grind
    rw[Ay o,Kf d (show FW ((4,0,0) :: (5,0,L+1) :: S) (g (p+1))=some ((5,0,L+1) :: S) by simp[FW,o])];have e1:nd ((4,0,0) :: (5,0,L+1) :: S) (g (p+1)) (max D L)=max D L:=by simp[nd]
    rw[e1,show p+1+1=p+2 from rfl,Z9 U (Aj I)];have⟨s,t,x⟩:=ih (p+2) 0 (L+1) (max D L) ((5,0+1,L+1) :: S) U U;rw[s];cases hx:(ty g f (p+2)).1 with
    |false=>grind [ends]
    |true=>
     have⟨B,y⟩:=t hx;rw[Ay rfl];have⟨A,jb,jc⟩:=tf m ih 5 (ty g f (p+2)).2 1 (L+1) (max (max D L) (L+1+Lj g f (p+2)-1)) S U U y U U U
     grind [ends,Lj,ty,run,top,I7]
   .rw[Ao o];refine⟨?_,λh=>by simp at h,λ_=>⟨Ev,by show p+1<=n;omega⟩⟩;by_cases q:p+1=n
    .rw[q,OT];simp[ends]
    grind [Lh,FW,ends]
  grind [ty,FW,IU,EX,Lh,ends]
theorem aaf(d:∀p,n<=p->g p=0)(h:n<=40):run g n n [(1,0,1)] 0 0=O7 g n:=by
 have⟨b,c,hc⟩:=agree d (n+1) 0 0 1 0 [] U U;rw[Nat.sub_zero]at b;rw[b];unfold O7 ends;rw[Ao (show ¬40<n by omega)];cases hx:(ty g (n+1) 0).1 with
 |false=>simp
 |true=>
  have⟨f,i⟩:=c hx;rw[Ay I,Ay rfl];by_cases a:(ty g (n+1) 0).2<n
  .rw[Ay a,Lh a Ky]
  .rw[Ao a];have e:(ty g (n+1) 0).2=n:=U;rw[e,CZ,run,fin,Ay rfl]
   grind
end V.Pt
namespace V
variable {a:Addr}{s:ByteArray}{ks:List Nat}{xs:List Value}{B' c d f k m p q:Nat}{g:Nat→Nat}{S S':Nat→Prop}{a0 a1 a2 c0 c1 d0 d1 d2 x:Value}{X u v:World}
def nx(s:Ab)(p:Nat):Nat:=if h:p<s then (s[p]).toNat else 0
theorem Ot(h:s<=p):nx s p=0:=by unfold nx;rw[dif_neg U]
theorem Gd(h:p<s):nx s p=(s[p]).toNat:=by unfold nx;rw[dif_pos h]
theorem jU(s:Ab)(p:Nat):nx s p<256:=by grind [nx,UInt8.toNat_lt]
def At(w:Aa)(b:Nat)(s:Ab)(p:Nat):Prop:=w.heap[b]?=some (.cells #[.string s,Z p] 294 (0,0))
theorem At.text(h:At w b s p):w.cell? (Y b 0)=some (.string s):=by grind [At,World.cell?]
theorem At.place(h:At w b s p):w.cell? (Y b 1)=Z p:=by grind [At,World.cell?]
theorem At.wm(h:At w b s p):DJ w b 1:=by grind [At,World.frozen?]
theorem At.lt(h:At w b s p):b<w:=by grind [At]
theorem At.set(h:At w b s p):At (w.setCell (Y b 1) (Z q)) b s q:=by
 unfold At at h ⊢;exact xw
theorem At.alloc(h:At w b s p)(o:Obj):At (w.alloc o) b s p:=by grind [At,Below.heap_alloc]
theorem At.drew(h:At w b s p)(n:Nat):At (w.drewN n) b s p:=h
theorem se(a:p<s):Value.int .u8 (nx s p:Int)=.int .u8 ((s[p]).toNat:Int):=by rw[Gd a]
structure DF(b:Nat)(w w':Aa):Prop where
 os:w'.os=w.os
 tape:w'.tape=w.tape
 output:w'.output=w.output
 size:w.heap.size<=w'.heap.size
 block:∀k,k<w.heap.size->k≠b->w'.heap[k]?=w.heap[k]?
theorem DF.refl(b:Nat)(w:Aa):DF b w w:=by grind [DF]
theorem DF.trans(h:DF b u v)(k:DF b v w):DF b u w:=by grind [DF]
theorem DF.drew(h:DF b u v):DF b u v.drew:=⟨h.os,h.tape,h.output,h.size,h.block⟩
theorem DF.drewN(h:DF b u v)(n:Nat):DF b u (v.drewN n):=⟨h.os,h.tape,h.output,h.size,h.block⟩
theorem DF.alloc(h:DF b u v)(o:Obj):DF b u (v.alloc o):=
 h.trans ⟨rfl,rfl,rfl,Ev,λk hk _=>AL _ _ _ hk⟩
theorem DF.setCell(h:DF b u v){p:Addr}(a:p.block=b\/u<=p.block)(x:Ad):DF b u (v.setCell p x):=by grind [DF,World.setCell]
theorem DF.h(h:DF b u v)(a:b<=u):Below b u v:=⟨h.os,h.tape,h.output,h.size,λk hk=>h.block k U U⟩
theorem DF.cell(h:DF b u v){p:Addr}(c:p.block<u)(a:p.block≠b):v.cell? p=u.cell? p:=by grind [DF,World.cell?_of_block]
theorem DF.frozen(h:DF b u v){p:Addr}(c:p.block<u)(a:p.block≠b):v.frozen? p=u.frozen? p:=by grind [DF,World.frozen?_of_block]
theorem zH(b p:Nat)(s:Ab)(w:Aa)(h:At w b s p)(d:p<s)(_hs:s.size<=40):
  D7 263 #[.pointer (Y b 0)] w (.int .u8 (nx s p)) λa=>DF b w a/\At a b s p:=by
 have H:=h;have e:=h.text;have f:=h.place;have c:((p:Int)==(s.size:Int))=false:=Fy;rw[se d]
 delta D7
 go_in
 go_wp2;go_quiet (fail);go_wp2;go_quiet (fail);go_wp2
 go_ret
 exact⟨I,((DF.refl _ _).drewN _).drewN _,H⟩
theorem uj(b p:Nat)(s:Ab)(w:Aa)(h:At w b s p)(f:p=s):
  D7 263 #[.pointer (Y b 0)] w (.int .u8 (nx s p)) λa=>DF b w a/\At a b s p:=by
 rw[Ot U];have H:=h;have d:=h.text;have e:=h.place;have c:((p:Int)==(s.size:Int))=true:=Fy
 delta D7
 go_in
 go_wp2;go_quiet (fail);go_wp2
 go_ret
 exact⟨I,(DF.refl _ _).drewN _,H⟩
theorem Ld(b p:Nat)(s:Ab)(w:Aa)(h:At w b s p)(c:p<=s)(d:s.size<=40):
  D7 263 #[.pointer (Y b 0)] w (.int .u8 (nx s p)) λa=>DF b w a/\At a b s p:=by grind [zH,uj]
theorem pU(b p:Nat)(s:Ab)(w:Aa)(h:At w b s p):
  D7 222 #[.pointer (Y b 0)] w (.agg #[Z 2,Z p]) λa=>DF b w a:=by
 have c:=λo=>(h.alloc o).place
 delta D7
 go_in
 go_wp2;exact Bm (v:=.agg #[Z 2,Z p]) (by simp[results,results222,go_sem]) I ⟨I,(DF.refl _ _).alloc _⟩
abbrev Ji(q:Nat):Ending:=.panicked [{v:=.iface 161 (.agg #[Z 2,Z q]),recovered:=false}]
theorem M4(b p:Nat)(s:Ab)(w:Aa)(c:Nat)(h:At w b s p)(e:p<=s)(f:s.size<=40)(a:nx s p=c)(hc:c=98\/c=99\/c=105\/c=115\/c=101\/c=97\/c=113\/c=114\/c=117):
  D7 253 #[.pointer (Y b 0)] w (.int .u8 c) λd=>DF b w d/\At d b s (p+1):=by
 have HN:=Ld b p s w h e f;rw[a]at HN;have g:=a;rcases hc with rfl|rfl|rfl|rfl|rfl|rfl|rfl|rfl|rfl;all_goals
  delta D7
  go_in
  exact abC
theorem mA(b p:Nat)(s:Ab)(w:Aa)(c:Nat)(h:At w b s p)(a:p<=s)(d:s.size<=40)(f:nx s p=c)(hc:¬(c=98\/c=99\/c=105\/c=115\/c=101\/c=97\/c=113\/c=114\/c=117)):
  ET 253 #[.pointer (Y b 0)] w λe g=>e=Ji p/\DF b w g:=by
 have HN:=Ld b p s w h a d;rw[f]at HN;have c1:((c:Int)==98)=false:=Fy;have c2:((c:Int)==99)=false:=Fy;have c3:((c:Int)==105)=false:=Fy;have c4:((c:Int)==115)=false:=Fy;have c5:((c:Int)==101)=false:=Fy;have c6:((c:Int)==97)=false:=Fy;have i:((c:Int)==113)=false:=Fy;have j:((c:Int)==114)=false:=Fy;have c9:((c:Int)==117)=false:=Fy
 delta ET
 go_in
 exact aaE
theorem YE(b p:Nat)(s:Ab)(w:Aa)(c l:Nat)(h:At w b s p)(d:p<=s)(e:s.size<=40)(f:nx s p=c)(hc:48+l<=c/\c<=57):
  D7 254 #[.pointer (Y b 0),Z l] w (Z (c-48)) λa=>DF b w a/\At a b s (p+1):=by
 have HN:=Ld b p s w h d e;rw[f]at HN;have⟨c1,c2⟩:=hc;have d1:¬((c:Int)-48<(l:Int)):=U;have d2:¬((9:Int)<c-48):=U
 delta D7
 go_in
 exact abC
theorem rA(b p:Nat)(s:Ab)(w:Aa)(c l:Nat)(h:At w b s p)(d:p<=s)(f:s.size<=40)(g:nx s p=c)(hc:¬(48+l<=c/\c<=57)):
  ET 254 #[.pointer (Y b 0),Z l] w λe i=>e=Ji p/\DF b w i:=by
 have HN:=Ld b p s w h d f;have a:=jU s p;rw[g]at HN a;by_cases d1:(c:Int)-48<(l:Int)
 .clear hc
  delta ET
  go_in
  exact aaE
 .have d2:(9:Int)<c-48:=U
  delta ET
  go_in
  exact aaE
theorem Np(h:At w b s p)(f:p<=s)(g:s.size<=40)(i:nx s p=c):
  D7 264 #[.pointer (Y b 0),.int .u8 c] w Ep λe=>DF b w e/\At e b s (p+1):=by
 have d:=Ld b p s w h f g;rw[i]at d
 delta D7
 go_in
 go_wp2_with fail
 refine cm d ?_;rintro l ⟨hk,a⟩;have j:=a.place;have k:=a.wm;go_wp2
 go_end0
 exact⟨I,hk.setCell (Aj I) _,a.set⟩
theorem TA(h:At w b s p)(a:p<=s)(f:s.size<=40)(g:nx s p=c)(hd:c≠d):
  ET 264 #[.pointer (Y b 0),.int .u8 d] w λe i=>e=Ji p/\DF b w i:=by
 have HN:=Ld b p s w h a f;rw[g]at HN;have d1:((c:Int) != (d:Int))=true:=Fy
 delta ET
 go_in
 exact aaE
def Gl(g:Nat->Nat)(p:Nat):Int:=if g p=101\/g p=97\/g p=113 then (g (p+1):Int)-48 else 0
def Ve(w:Aa)(S:Nat->Prop)(v:Ad)(n:Nat)(xs:Ae):Prop:=w.ownsRow 0 262 3 v n xs/\∀k,v.ownBlock=some k->S k
def NP(w:Aa)(S:Nat->Prop)(g:Nat->Nat):Nat->Nat->Value->Value->Value->Prop
 |0,_,_,_,_=>False
 |f+1,p,c0,c1,c2=>c0=.int .u8 (g p)/\c1=.int .i64 (Gl g p)/\∃xs:List Value,Ve w S c2 (Pt.EW g f p).length xs /\
   ∀(i q:Nat),(Pt.EW g f p)[i]?=some q->∃d0 d1 d2,xs[3*i]?=some d0/\xs[3*i+1]?=some d1/\xs[3*i+2]?=some d2/\NP w S g f q d0 d1 d2
structure Hq(S:Nat->Prop)(w w':Aa):Prop where
 size:w.heap.size<=w'.heap.size
 block:∀k,S k->k<w.heap.size->w'.heap[k]?=w.heap[k]?
theorem Hq.refl(S:Nat->Prop)(w:Aa):Hq S w w:=⟨Ar _,λ_ _ _=>rfl⟩
theorem Hq.trans(h:Hq S u v)(k:Hq S v w):Hq S u w:=by grind [Hq]
theorem Hq.alloc(h:Hq S u v)(o:Obj):Hq S u (v.alloc o):=
 h.trans ⟨Ev,λk _ hk=>AL _ _ _ hk⟩
theorem Hq.drewN(h:Hq S u v)(n:Nat):Hq S u (v.drewN n):=⟨h.size,h.block⟩
theorem Hq.setCell(h:Hq S u v)(b:¬S a.block)(x:Ad):Hq S u (v.setCell a x):=by grind [Hq,World.setCell]
theorem DF.above(h:DF b u v)(a:¬S b):Hq S u v:=by grind [DF,Hq]
theorem PI{v:Ad}(h:Ve w S v n xs)(hk:Hq S w w'):Ve w' S v n xs:=by
 have⟨⟨hl,h⟩,b⟩:=h;refine⟨⟨hl,?_⟩,b⟩;rcases h with h|⟨g,cap,a,d,e,c,r⟩
 .exact Aj h
 .refine Am ⟨g,cap,a,d,e,?_,r⟩;rw[hk.block g (b g (by rw[d];rfl)) (Dv c)];exact c
theorem QY{v:Ad}(h:Ve w S v n xs)(c:∀k,S k->k<w->S' k):Ve w S' v n xs:=by
 refine⟨h.1,λk hk=>c k (h.2 k hk) ?_⟩;have⟨⟨_,h⟩,_⟩:=h;rcases h with ⟨a,_⟩|⟨g,cap,b,a,e,d,r⟩
 .rw[a]at hk;cases hk
 .rw[a]at hk;cases hk;exact Dv d
theorem Zz(X:Aa)(a:X=m):Ve (X.alloc (.cells #[d0,d1,d2] 262)) (λk=>k=m) (EJ m 1 1) 1 [d0,d1,d2]:=by
 subst a;refine⟨⟨I,Am ⟨_,_,#[d0,d1,d2],I,AV _,?_,Ar _,Em,I,I⟩⟩,λk hk=>by cases hk;rfl⟩;show (X.heap.push _)[(zz X)]?=_;rw[Bz]
theorem GM(hk:Hq S w w'):∀{f p:Nat} {c0 c1 c2:Ad},NP w S g f p c0 c1 c2->NP w' S g f p c0 c1 c2:=by
 intro f;induction f with
 |zero=>intro p c0 c1 c2 h;exact h
 |succ f ih=>
  intro p c0 c1 c2 h;have⟨a,b,d,c,hi⟩:=h;refine⟨a,b,d,PI c hk,λi q e=>?_⟩
  grind
theorem Ke(c:∀k,S k->k<w->S' k):∀{f p:Nat} {c0 c1 c2:Ad},NP w S g f p c0 c1 c2->NP w S' g f p c0 c1 c2:=by
 intro f;induction f with
 |zero=>intro p c0 c1 c2 h;exact h
 |succ f ih=>
  intro p c0 c1 c2 h;have⟨a,b,e,d,hi⟩:=h;refine⟨a,b,e,QY d c,λi q j=>?_⟩
  grind
theorem uA(w:Aa)(S:Nat->Prop):Ve w S Dz 0 []:=⟨AZ _ _ _ _,λk hk=>by cases hk⟩
theorem ZQ(hk:Pt.EW g f p=[])(a:c0=.int .u8 (g p))(b:c1=Z (Gl g p)):NP w S g (f+1) p c0 c1 Dz:=by
 refine⟨a,b,[],?_,?_⟩;all_goals grind [uA]
theorem aeR(a:DF b W w1):(∀k o,k<W.heap.size->¬k=b->w1.cell? (Y k o)=W.cell? (Y k o))/\(∀k o,k<W.heap.size->¬k=b->w1.frozen? (Y k o)=W.frozen? (Y k o)):=by grind [V.DF.cell,V.DF.frozen]
theorem At.other(h:At w b s p)(c:¬a.block=b)(x:Ad):At (w.setCell a x) b s p:=by grind [At,Below.heap_setCell]
def Ja(b:Nat)(s:Ab)(f p:Nat)(w:Aa)(e:Ending)(w':Aa):Prop:=
 if (Pt.ty (nx s) f p).1 then ∃c0 c1 c2,e=.returned (.agg #[c0,c1,c2])/\DF b w w'/\At w' b s (Pt.ty (nx s) f p).2/\NP w' (λk=>w<=k) (nx s) f p c0 c1 c2
 else e=Ji (Pt.ty (nx s) f p).2/\DF b w w'
abbrev IZ:Obj:=.cells #[.int .u8 0,Z 0,.slice none 0 0] 262
theorem uq(h:At w b s p)(k:p<=s)(l:s.size<=40)(f:nx s p=c)(hc:c=98\/c=99\/c=105\/c=115):
  D7 221 #[.pointer (Y b 0)] w (.agg #[.int .u8 c,Z 0,Dz]) λg=>DF b w g/\At g b s (p+1):=by
 have j:=h.lt;have e:=M4 b p s (w.alloc IZ) c (h.alloc _) k l f U;clear f h;have a:¬w.heap.size=b:=U;rcases hc with rfl|rfl|rfl|rfl;all_goals
  delta D7
  go_in
  go_wp2_with fail
  refine cm e ?_;rintro m ⟨hk,i⟩;have⟨hc,n⟩:=aeR hk;have hz:w.heap.size<m.heap.size:=by have:=hk.size;simp at this;omega
  clear e;go_wp2;refine Bm (v:=.agg #[.int .u8 _,Z 0,Dz]) (by simp[results,results221,go_sem,hc,hz,a]) I ⟨I,?_,?_⟩
  .refine DF.alloc ?_ _;have d:=((DF.refl b w).alloc IZ).trans hk;repeat (first|exact d|refine DF.setCell ?_ Ev _)
  .refine At.alloc ?_ _;repeat (first|exact i|refine At.other ?_ (by simpa using a) _)
theorem zJ(h:At w b s p)(f:p<=s)(g:s.size<=40)(d:nx s p=c)(hc:¬(c=98\/c=99\/c=105\/c=115\/c=101\/c=97\/c=113\/c=114\/c=117)):
  ET 221 #[.pointer (Y b 0)] w λe i=>e=Ji p/\DF b w i:=by
 have a:=mA b p s (w.alloc IZ) c (h.alloc _) f g d hc;clear d h hc
 delta ET
 go_in
 go_wp2_with fail
 refine a.mono ?_;rintro e j ⟨rfl,hk⟩;clear a;go_wp2;exact⟨I,I,((DF.refl b w).alloc IZ).trans hk⟩
def NZ(w:Aa)(k:Nat)(a0 a1 a2:Ad):Prop:=w.heap[k]?=some (.cells #[a0,a1,a2] 262 (0,0))
theorem NZ.facts(h:NZ w k a0 a1 a2):
  w.cell? (Y k 0)=a0/\w.cell? (Y k 1)=a1/\w.cell? (Y k 2)=a2/\w.frozen? (Y k 0)=false/\w.frozen? (Y k 1)=false/\w.frozen? (Y k 2)=false:=by
 unfold NZ at h;simp[World.cell?,World.frozen?,h]
theorem NZ.new(w:Aa)(a0 a1 a2:Ad):NZ (w.alloc (.cells #[a0,a1,a2] 262)) w a0 a1 a2:=by
 show (w.heap.push _)[(zz w)]?=_;rw[Bz]
theorem NZ.lt(h:NZ w k a0 a1 a2):k<w:=by grind [NZ]
theorem NZ.H(h:NZ w k a0 a1 a2)(hk:DF b w w')(a:k≠b):NZ w' k a0 a1 a2:=by grind [NZ,DF]
theorem NZ.alloc(h:NZ w k a0 a1 a2)(o:Obj):NZ (w.alloc o) k a0 a1 a2:=by grind [NZ,Below.heap_alloc]
theorem NZ.set1(h:NZ w k a0 a1 a2)(x:Ad):NZ (w.setCell (Y k 1) x) k a0 x a2:=by
 unfold NZ at h ⊢;exact xw
theorem NZ.other(h:NZ w k a0 a1 a2)(b:¬a.block=k)(x:Ad):NZ (w.setCell a x) k a0 a1 a2:=by grind [NZ,Below.heap_setCell]
theorem aeZ(h:At w b s p)(u:p<s)(n:s.size<=40)(o:nx s p=101)(hd:49<=nx s (p+1)/\nx s (p+1)<=57):
  D7 221 #[.pointer (Y b 0)] w (.agg #[.int .u8 101,Z ((nx s (p+1):Int)-48),Dz]) λq=>DF b w q/\At q b s (p+2):=by
 have r:=h.lt;have k:=M4 b p s (w.alloc IZ) 101 (h.alloc _) U n o U;clear o h;have c:¬w.heap.size=b:=U;generalize hc2:nx s (p+1)=c2 at *;have f:Hid (nx s (p+1)=c2):=hc2;clear hc2
 delta D7
 go_in
 go_wp2_with fail
 refine cm k ?_;rintro e ⟨hk,g⟩;have T:=(NZ.new w (.int .u8 0) (Z 0) Dz).H hk c;have hz:=T.lt;have d:¬e.heap.size=b:=by have:=g.lt;omega
 have t:¬w.heap.size=e.heap.size:=U;clear k;go_wp2_with fail
 refine cm (YE b (p+1) s _ c2 1 (g.alloc _) U n f.out U) ?_;rintro A ⟨a,i⟩;have l:=(NZ.new e (.int .u8 101) (Z 0) Dz).H a d;have m:=(T.alloc (.cells #[.int .u8 101,Z 0,Dz] 262)).H a c;have j:=(((DF.refl b w).alloc IZ).trans hk).trans (((DF.refl b e).alloc _).trans a);have⟨B,x1,x2,C,D,E⟩:=l.facts;have⟨u0,u1,u2,x,y,z⟩:=m.facts;clear T hk a g l m;go_wp2;refine Bm (v:=.agg #[.int .u8 101,Z ((c2:Int)-48),Dz]) (by simp[results,results221,go_sem,u0,u1,u2]) I ⟨I,?_,?_⟩
 .repeat (first|exact j|refine DF.setCell ?_ DX _)
 .repeat (first|exact i|refine At.other ?_ (by first|simpa using c|simpa using d) _)
abbrev Want:=Nat×Nat×Nat
def wc(x:Want):List Value:=[Z x.1,Z x.2.1,Z x.2.2]
def GV(S:List Want):List Value:=S.reverse.flatMap wc
def SG(w:Aa)(B:Nat)(v:Ad)(S:List Want):Prop:=w.ownsRow B 265 3 v S (GV S)
theorem KY(S:List Want):(GV S)=S.length*3:=by
 unfold GV;induction S with
 |nil=>rfl
 |cons x S ih=>simp only[List.reverse_cons,List.flatMap_append,AJ,ih,A4];simp[wc];omega
theorem MQ(S R:List Want):GV (S++R)=GV R++GV S:=by grind [GV]
theorem PO{S:List Want}:∀u∈GV S,u.oneCell'=true:=by
 intro u hu;unfold GV at hu;rw[List.mem_flatMap]at hu;have⟨x,_,a⟩:=hu;simp[wc]at a;rcases a with rfl|rfl|rfl<;>rfl
theorem aaq(w:Aa)(B:Nat):SG w B Dz []:=AZ _ _ _ _
theorem oT{l:List Want}{a:Array Value}(h:Dy w m a 265)(hB:B<=m)(hn:n=l)(hl:a.toList=GV l)(b:n<=100):SG w B (EJ m n n) l:=by
 subst hn;refine⟨KY l,Am ⟨m,l.length,a,I,hB,h,Ar _,JG,?_,?_⟩⟩;all_goals grind [KY]
theorem XV{l:List Want}(X:Aa)(a:Array Value)(b:X=m)(hB:B<=m)(hn:n=l)(hl:a.toList=GV l)(c:n<=100):SG (X.alloc (.cells a 265)) B (EJ m n n) l:=by
 subst b;refine oT ?_ hB hn hl c;show (X.heap.push _)[(zz X)]?=_;rw[Bz]
def Ge(c L:Nat)(w:Aa)(e:Ending)(w':Aa):Prop:=
 ∃v,e=.returned (.tuple #[v,.bool (Pt.EX c L).isSome])/\Below w w w'/\SG w' w v ((Pt.EX c L).getD [])
theorem kR(L:Nat)(w:Aa)(_hL:L<=1000):ET 224 #[.int .u8 98,Z L] w (Ge 98 L w):=by
 have a:Pt.EX 98 L=some []:=by simp[Pt.EX,Pt.FI]
 unfold Ge;rw[a];exact xt
theorem kS(L:Nat)(w:Aa)(_hL:L<=1000):ET 224 #[.int .u8 99,Z L] w (Ge 99 L w):=by
 have a:Pt.EX 99 L=some []:=by simp[Pt.EX,Pt.FI]
 unfold Ge;rw[a];exact xt
theorem bZ(L:Nat)(w:Aa)(_hL:L<=1000):ET 224 #[.int .u8 105,Z L] w (Ge 105 L w):=by
 have a:Pt.EX 105 L=some []:=by simp[Pt.EX,Pt.FI]
 unfold Ge;rw[a];exact xt
theorem cw(L:Nat)(w:Aa)(_hL:L<=1000):ET 224 #[.int .u8 115,Z L] w (Ge 115 L w):=by
 have a:Pt.EX 115 L=some []:=by simp[Pt.EX,Pt.FI]
 unfold Ge;rw[a];exact xt
theorem bY(L:Nat)(w:Aa)(_hL:L<=1000):ET 224 #[.int .u8 101,Z L] w (Ge 101 L w):=by
 have hx:Pt.EX 101 L=some [(2,0,0)]:=by simp[Pt.EX,Pt.FI]
 exact xm
theorem kQ(L:Nat)(w:Aa)(_hL:L<=1000):ET 224 #[.int .u8 97,Z L] w (Ge 97 L w):=by
 have hx:Pt.EX 97 L=some [(2,0,0),(1,0,L+1)]:=by simp[Pt.EX,Pt.FI]
 exact xm
theorem ck(L:Nat)(w:Aa)(_hL:L<=1000):ET 224 #[.int .u8 113,Z L] w (Ge 113 L w):=by
 have hx:Pt.EX 113 L=some [(3,0,0),(1,0,L+1)]:=by simp[Pt.EX,Pt.FI]
 exact xm
theorem cr(L:Nat)(w:Aa)(_hL:L<=1000):ET 224 #[.int .u8 114,Z L] w (Ge 114 L w):=by
 have hx:Pt.EX 114 L=some [(4,0,0),(5,0,L+1)]:=by simp[Pt.EX,Pt.FI]
 exact xm
theorem cB(L:Nat)(w:Aa)(_hL:L<=1000):ET 224 #[.int .u8 117,Z L] w (Ge 117 L w):=by
 have hx:Pt.EX 117 L=some [(4,0,0),(5,0,L+1)]:=by simp[Pt.EX,Pt.FI]
 exact xm
theorem QK(c L:Nat)(w:Aa)(_hL:L<=1000)(hc:¬(c=98\/c=99\/c=105\/c=115\/c=101\/c=97\/c=113\/c=114\/c=117)):ET 224 #[.int .u8 c,Z L] w (Ge c L w):=by
 have b:Pt.EX c L=none:=by
  have a:Pt.FI c=false:=by simp[Pt.FI];omega
  obtain⟨a1,a2,a3,a4,a5⟩:¬c=101/\¬c=97/\¬c=113/\¬c=114/\¬c=117:=U;simp[Pt.EX,a,a1,a2,a3,a4,a5]
 unfold Ge;rw[b];have c1:((c:Int)==98)=false:=Fy;have c2:((c:Int)==99)=false:=Fy;have c3:((c:Int)==105)=false:=Fy;have c4:((c:Int)==115)=false:=Fy;have c5:((c:Int)==101)=false:=Fy;have c6:((c:Int)==97)=false:=Fy;have d:((c:Int)==113)=false:=Fy;have e:((c:Int)==114)=false:=Fy;have c9:((c:Int)==117)=false:=Fy;exact xt
theorem Nn(c L:Nat)(w:Aa)(a:L<=1000):ET 224 #[.int .u8 c,Z L] w (Ge c L w):=by
 by_cases hc:c=98\/c=99\/c=105\/c=115\/c=101\/c=97\/c=113\/c=114\/c=117
 .rcases hc with rfl|rfl|rfl|rfl|rfl|rfl|rfl|rfl|rfl;all_goals grind [kR,kS,bZ,cw,bY,kQ,ck,cr,cB]
 .exact QK c L w a hc
def Kids(w:Aa)(S:Nat->Prop)(g:Nat->Nat)(f:Nat)(ks:List Nat)(v:Ad):Prop:=∃xs:List Value,Ve w S v ks xs /\
   ∀i q,ks[i]?=some q->∃d0 d1 d2,xs[3*i]?=some d0/\xs[3*i+1]?=some d1/\xs[3*i+2]?=some d2/\NP w S g f q d0 d1 d2
theorem uX{v:Ad}(a:c0=.int .u8 (g p))(b:c1=Z (Gl g p))(hk:Kids w S g f (Pt.EW g f p) v):NP w S g (f+1) p c0 c1 v:=⟨a,b,hk⟩
theorem eO{v:Ad}(h:Kids w S g f ks v)(hk:Hq S w w'):Kids w' S g f ks v:=by
 have⟨b,a,hi⟩:=h;refine⟨b,PI a hk,λi q c=>?_⟩
 grind [GM]
theorem mq{v:Ad}(h:Kids w S g f ks v)(a:∀k,S k->k<w->S' k):Kids w S' g f ks v:=by
 have⟨c,b,hi⟩:=h;refine⟨c,QY b a,λi q d=>?_⟩
 grind [Ke]
theorem sI{v:Ad}(a:Ve w S v 1 [d0,d1,d2])(b:NP w S g f q d0 d1 d2):Kids w S g f [q] v:=by grind [Kids]
theorem uv(a:c=101/\k=1\/c=97/\k=1\/c=113/\k=0)(h:At w b s p)(o:p<s)(g:s.size<=40)(i:nx s p=c)(hd:¬(48+k<=nx s (p+1)/\nx s (p+1)<=57)):
  ET 221 #[.pointer (Y b 0)] w λe m=>e=Ji (p+1)/\DF b w m:=by
 have f:=M4 b p s (w.alloc IZ) c (h.alloc _) U g i U;have j:=Dx hd;clear i h hd;rcases a with ⟨rfl,rfl⟩|⟨rfl,rfl⟩|⟨rfl,rfl⟩;all_goals
  delta ET
  go_in
  go_wp2_with fail
  refine cm f ?_;rintro n ⟨hk,l⟩;clear f;go_wp2_with fail
  refine cm (rA b (p+1) s _ _ _ (l.alloc _) U g I j.out) λq d=>?_
  go_wp2;exact⟨I,I,(((DF.refl b w).alloc IZ).trans hk).trans (((DF.refl b n).alloc _).trans d)⟩
theorem adt(E:c=97/\k=1\/c=113/\k=0)(h:At w b s p)(hp:p<s)(O:s.size<=40)(H:nx s p=c)(hd:48+k<=nx s (p+1)/\nx s (p+1)<=57)(e1:Pt.ty (nx s) (f+1) p=Pt.ty (nx s) f (p+2))
  (u:∀w,At w b s (p+2)->ET 221 #[.pointer (Y b 0)] w (Ja b s f (p+2) w)):
  ET 221 #[.pointer (Y b 0)] w (Ja b s (f+1) p w):=by
 have W:=h.lt;have K:=M4 b p s (w.alloc IZ) c (h.alloc _) U O H U;have m:=Dx H;have j:¬w.heap.size=b:=U;have⟨S,Q,J⟩:=Ll hd u e1;clear h H hd u e1;rcases E with ⟨rfl,rfl⟩|⟨rfl,rfl⟩;all_goals
  delta ET
  go_in
  go_wp2_with fail
  refine cm K ?_;rintro q ⟨hk,C⟩;have T:=(NZ.new w (.int .u8 0) (Z 0) Dz).H hk j;have hz:=T.lt;have g:¬q.heap.size=b:=by have:=C.lt;omega
  have X:¬w.heap.size=q.heap.size:=U;clear K;go_wp2_with fail
  refine cm (YE b (p+1) s _ _ _ (C.alloc _) U O I S.out) ?_;rintro P ⟨i,t⟩;have y:=(NZ.new q _ _ _).H i g;have L:=(T.alloc _).H i j;have x:=(((DF.refl b w).alloc IZ).trans hk).trans (((DF.refl b q).alloc _).trans i);obtain⟨c2,n⟩:∃c2:Int,c2=(nx s (p+1):Int)-48:=DR;rw[<-n];have A:=Dx n;clear n;have⟨x0,x1,x2,y0,y1,y2⟩:=y.facts;have aa:=y.lt;clear T hk i C;go_wp2_with fail
  refine(Q _ (t.other (by simpa using g) _)).mono ?_;intro e z l;unfold Ja at l;split at l
  .rename_i r;obtain⟨d0,d1,d2,rfl,d,D,o⟩:=l;have B:=Dx r;clear r;have M:=((y.set1 (Z c2)).H d g).alloc (.cells #[d0,d1,d2] 262);have N:=((L.other (a:=EN q 1) Fy (Z c2)).H d j).alloc (.cells #[d0,d1,d2] 262);have ab:P.heap.size<=z.heap.size:=by have:=d.size;simpa using this
   have⟨x0,x1,x2,y0,y1,y2⟩:=M.facts;have⟨u0,u1,u2,v0,v1,v2⟩:=N.facts;have F:=(x.setCell (p:=EN q 1) Fy (Z c2)).trans d;clear y L M N d t;go_wp2;have o:NP z (λk=>P.heap.size<=k) (nx s) f (p+2) d0 d1 d2:=by simpa using o
   refine Bm (v:=.agg #[_,Z c2,EJ z.heap.size 1 1]) (by simp[results,results221,go_sem,u0,u1,u2];rfl) I ?_;unfold Ja;rw[J.out,Ay B.out];refine⟨_,_,_,I,?_,?_,?_⟩
   .repeat (first|exact F|refine DF.setCell ?_ DX _|refine DF.alloc ?_ _)
   .repeat (first|exact D|refine At.other ?_ (by first|simpa using j|simpa using g) _|refine At.alloc ?_ _)
   .refine uX (by rw[m.out];rfl) (by rw[A.out];unfold Gl;rw[Ay (by rw[m.out];omega)]) ?_;have G:Pt.EW (nx s) f p=[p+2]:=by simp[Pt.EW,m.out]
    rw[G];refine sI (QY (PI (Zz z I) ?_) (λk hk _=>by omega)) (Ke (λk hk _=>by omega) (GM ?_ o));all_goals repeat (first|exact Hq.refl _ _|refine Hq.setCell ?_ DX _|refine Hq.alloc ?_ _)
  .rename_i r;have B:=Dx r;clear r;obtain⟨rfl,d⟩:=l;go_wp2;refine⟨I,?_⟩;unfold Ja;rw[J.out,Ao B.out];exact⟨I,(x.setCell Fy _).trans d⟩
theorem ads{t:Bool}(hc:c=114\/c=117)(h:At w b s p)(X:p<s)(P:s.size<=40)(C:nx s p=c)(e1:Pt.ty (nx s) (f+1) p=(t,q))
  (r:∀w,At w b s (p+1)->ET 255 #[.pointer (Y b 0)] w λe x=>if t then ∃v,e=.returned v/\DF b w x/\At x b s q/\Kids x (λk=>w<=k) (nx s) f (Pt.EW (nx s) f p) v else e=Ji q/\DF b w x):
  ET 221 #[.pointer (Y b 0)] w (Ja b s (f+1) p w):=by
 have M:=h.lt;have E:=M4 b p s (w.alloc IZ) c (h.alloc _) U P C U;have m:=Dx C;have j:¬w.heap.size=b:=U;have⟨K,D⟩:=FU r e1;clear h C r e1;rcases hc with rfl|rfl;all_goals
  delta ET
  go_in
  go_wp2_with fail
  refine cm E ?_;rintro l ⟨hk,z⟩;have T:=(NZ.new w (.int .u8 0) (Z 0) Dz).H hk j;have hz:=T.lt;have o:¬l.heap.size=b:=by have:=z.lt;omega
  have N:¬w.heap.size=l.heap.size:=U;clear E;go_wp2_with fail
  refine(K _ (z.alloc _)).mono ?_;intro e W u;cases t
  .obtain⟨rfl,d⟩:=u;go_wp2;refine⟨I,?_⟩;unfold Ja;rw[D.out];exact⟨I,(((DF.refl b w).alloc IZ).trans hk).trans (((DF.refl b l).alloc _).trans d)⟩
  obtain⟨v,rfl,d,A,i⟩:=u;obtain⟨G,J,H,Q⟩:∃a n c,v=.slice a n c:=by
   have⟨xs,⟨⟨_,O⟩,_⟩,_⟩:=i;rcases O with ⟨rfl,_⟩|⟨g,cap,L,rfl,_⟩<;>exact⟨_,_,_,rfl⟩
  subst Q;have y:=(NZ.new l _ _ _).H d o;have F:=(T.alloc _).H d j;have B:=(((DF.refl b w).alloc IZ).trans hk).trans (((DF.refl b l).alloc _).trans d);have S:=y.lt;have⟨x0,x1,x2,y0,y1,y2⟩:=y.facts;have⟨u0,u1,u2,v0,v1,v2⟩:=F.facts;clear T y F hk d z;go_wp2;have i:Kids W (λk=>l.heap.size+1<=k) (nx s) f (Pt.EW (nx s) f p) (.slice G J H):=by simpa using i
  refine Bm (v:=.agg #[_,Z 0,.slice G J H]) (by simp[results,results221,go_sem,u0,u1,u2];rfl) I ?_;unfold Ja;rw[D.out];refine⟨_,_,_,I,?_,?_,?_⟩
  .repeat (first|exact B|refine DF.setCell ?_ DX _)
  .repeat (first|exact A|refine At.other ?_ (by first|simpa using j|simpa using o) _)
  .refine uX (by rw[m.out];rfl) (by unfold Gl;rw[Ao (by rw[m.out];omega)]) ?_;refine mq (eO i ?_) (λk hk _=>by omega);repeat (first|exact Hq.refl _ _|refine Hq.setCell ?_ DX _)
theorem ac4:(prog.info? 265).map (λi=>(i.zero,i.size,i.bytes))=some (some (.agg #[Z 0,Z 0,Z 0]),3,24):=EL
def Tw(w:Aa)(k:Nat)(a0 a1 a2:Ad):Prop:=w.heap[k]?=some (.cells #[a0,a1,a2] 265 (0,0))
theorem Tw.facts(h:Tw w k a0 a1 a2):
  w.cell? (Y k 0)=a0/\w.cell? (Y k 1)=a1/\w.cell? (Y k 2)=a2/\w.frozen? (Y k 0)=false/\w.frozen? (Y k 1)=false/\w.frozen? (Y k 2)=false:=by
 unfold Tw at h;simp[World.cell?,World.frozen?,h]
theorem Tw.new(w:Aa)(a0 a1 a2:Ad):Tw (w.alloc (.cells #[a0,a1,a2] 265)) w a0 a1 a2:=by
 show (w.heap.push _)[(zz w)]?=_;rw[Bz]
def Ti(S:List Want)(c:Nat)(w:Aa)(e:Ending)(w':Aa):Prop:=
 ∃v,e=.returned (.tuple #[v,.bool (Pt.FW S c).isSome])/\Below w w w'/\∀S',Pt.FW S c=some S'->SG w' w v S'
theorem Qx{v:Ad}{x:Want}{R:List Want}(h:SG w B v (x :: R)):∃b cap,v=EJ b (R+1) cap/\R+1<=cap/\b<w/\(∀j u,(GV R)[j]?=some u->w.cell? (((Y b 0):Addr).add j)=some u) /\
  w.cell? (Y b (R*3))=Z x.1/\w.cell? (Y b (R*3+1))=Z x.2.1/\w.cell? (Y b (R*3+2))=Z x.2.2:=by
 have a:=λg=>h.cells (g:=g)
 have⟨_,h⟩:=h;rcases h with ⟨_,i⟩|⟨b,cap,f,d,l,k,hc,_⟩
 .simp at i
 .have a:=a b (by rw[d];rfl);have e:GV (x :: R)=GV R++wc x:=by grind [GV]
  rw[e]at a;have c:∀o,((Y b 0):Addr).add o=(Y b o):=λo=>by simp[Addr.add];omega
  have hl:=KY R;refine⟨b,cap,d,hc,Dv k,λj u m=>a j u ?_,?_,?_,?_⟩
  .grind
  .rw[<-c];refine a _ _ ?_;rw[Bq U,hl,CZ];rfl
  .rw[<-c];refine a _ _ ?_;rw[Bq U,hl,show R.length*3+1-R.length*3=1 by omega];rfl
  .rw[<-c];refine a _ _ ?_;rw[Bq U,hl,show R.length*3+2-R.length*3=2 by omega];rfl
theorem below_grown(h:(w.alloc (.cells #[a0,a1,a2] 265)).grownBy w1 none):DY w w1:=
 ((AA _ _).alloc (Ar _) (.cells #[a0,a1,a2] 265)).trans ⟨h.os,h.tape,h.output,h.size,λk hk=>h.block k Fy Ev⟩
theorem add_block(a:Addr)(j:Nat):(a.add j).block=a.block:=by
 unfold Addr.add;split<;>rfl
theorem own_below{v:Ad}(h:w.ownsRow B 265 3 v n xs)(hb:DY w w'):w'.ownsRow B 265 3 v n xs:=by
 exact aaC
theorem NA{v:Ad}(h:w.ownsRow B 265 3 v n xs)(b:B'<=B):w.ownsRow B' 265 3 v n xs:=by
 have⟨hl,h⟩:=h;refine⟨hl,?_⟩;rcases h with h|⟨g,cap,a,d,c,r⟩
 .exact Aj h
 .exact Am ⟨g,cap,a,d,Br b c,r⟩
theorem zM{v:Ad}(h:w.ownsRow B 265 3 v n xs)(hk:k<B):(w.setCell (Y k o) x).ownsRow B 265 3 v n xs:=by
 exact abo
theorem aeb{x:Want}{a1:Int}(c:X=m)(b:a1=x.2.1):∀j u,(wc x)[j]?=some u->(X.alloc (.cells #[Z x.1,Z a1,Z x.2.2] 265)).cell? (((Y m 0):Addr).add j)=some u:=by
 subst c;subst b;have⟨d,e,f,_⟩:=(Tw.new X (Z x.1) (Z x.2.1) (Z x.2.2)).facts;intro j u a;match j,a with
 |0,a=>simp[wc]at a;subst a;exact d
 |1,a=>simp[wc]at a;subst a;exact e
 |2,a=>simp[wc]at a;subst a;exact f
theorem aec{x:Want}:∀u∈wc x,u.oneCell'=true:=by
 intro u hu;simp[wc]at hu;rcases hu with rfl|rfl|rfl<;>rfl
theorem rX{v:Ad}(hv:SG w 0 v []):ET 174 #[v,.int .u8 c] w (Ti [] c w):=by
 obtain⟨a,cap,rfl⟩:∃a cap,v=.slice a 0 cap:=by
  have⟨_,h⟩:=hv;exact wD
 clear hv;unfold Ti
 delta ET
 go_in
 go_wp2
 go_ret2
 exact⟨_,I,AA _ _,λb h=>by cases h⟩
theorem YZ(S:List Want)(v:Ad)(c:Nat)(w:Aa)(hv:SG w 0 v S)(hS:S.length<=1000)(hw:∀x∈S,1<=x.1/\x.1<=5/\x.2.1<=6/\x.2.2<=1000):
  ET 174 #[v,.int .u8 c] w (Ti S c w):=by
 match S,hv,hS,hw with
 |[],hv,_,_=>exact rX hv
 |(h,k,L) :: R,hv,hS,hw=>
  obtain⟨gb,cap,rfl,aw,b3,az,f0,f1,f2⟩:=Qx hv;have⟨h1,h5,hk,hL⟩:=hw (h,k,L) Ev;simp only at h1 h5 hk hL f0 f1 f2;simp only[A4]at hS;have ao:=Dx λw=>Nn c L w hL
  have hl:((Pt.EX c L).getD []).length<=2:=by
   unfold Pt.EX;repeat' split
   all_goals simp
  have aq:=Dx hl;obtain⟨r,hr⟩:∃r,R.length=r:=DK;have aa:=Dx hr;obtain⟨Q,hQ⟩:∃Q,Ti ((h,k,L) :: R) c w=Q:=DK;have HQ:Hid (∀e E,Ti ((h,k,L) :: R) c w e E->Q e E):=λe E q=>by rw[<-hQ];exact q
  have ak:Hid (h=1\/h=2\/h=3\/h=4\/h=5):=by show _\/_;omega
  have HN:Hid (∀(o:Obj) (j:Nat) (u:Ad),(GV R)[j]?=some u->(w.alloc o).cell? (((Y gb 0):Addr).add j)=some u):=λo j u hj=>(AR (w:=w) (AL _ _ _ (by rw[add_block];exact b3))).trans (az j u hj)
  rw[hr]at hS aw f0 f1 f2 ⊢;rw[hQ];clear az hr hl hw hv hQ h1 h5;have⟨i0,hi,ac,ad,ae⟩:=A1 ac4
  delta ET
  go_in
  go_wp2_with (at_builtin;refine AQ _ I (.tmp 19) (.tmp 24) 266 I (w.heap.size+1) 265 i0 (.agg #[Z 0,Z 0,Z 0]) 3 24 underlying266 hi ac ad ae I Em _ 0 [] I (AZ _ _ _ _) (Y gb 0) r cap (GV R) I (by rw[<-Dw aa];exact KY R) (Dw HN _) (PO) JG U Ev ?_)
  intro v1 W A a _ _;have⟨t0,t1,t2,y0,y1,y2⟩:=(Tw.new w (Z h) (Z k) (Z L)).facts;have b0:=a.cell t0 Gn;have b1:=a.cell t1 Gn;have b2:=a.cell t2 Gn;have av:DY w W:=below_grown a;have s1:w.heap.size+1<=W.heap.size:=by have:=a.size;simpa using this
  have A:W.ownsRow (w.heap.size+1) 265 3 v1 r (GV R):=by simpa using A
  have z1:W.frozen? (EN w 1)=false:=(A8 (w:=w.alloc (.cells #[Z h,Z k,Z L] 265)) (a.block w.heap.size Ev Gn)).trans y1;have H:=Dx A;have aS:Hid (SG W w.heap.size v1 R):=by unfold SG;rw[Dw aa];exact NA A U
  have X:=Dx av;clear t0 t1 t2 y0 y1 y2 f0 f1 f2 A a HN av;have fin:Hid (∀t,Pt.FW ((h,k,L) :: R) c=(if t=true then some R else none)->Q (.returned (.tuple #[v1,.bool t])) W):=λt hg=>HQ _ _ (by
   refine⟨v1,?_,X,?_⟩
   .rw[hg];cases t<;>rfl
   .rw[hg];cases t with
    |false=>intro S' q;cases q
    |true=>intro S' q;cases q;exact Dw aS)
  rcases Dw ak with rfl|rfl|rfl|rfl|rfl;rotate_left
  .by_cases hc:(49:Int)<=c
   .go_wp2;exact fin _ (by grind [Pt.FW])
   .go_wp2;exact fin _ (by grind [Pt.FW])
  .by_cases hc:(48:Int)<=c
   .go_wp2;exact fin _ (by grind [Pt.FW])
   .go_wp2;exact fin _ (by grind [Pt.FW])
  .go_wp2;exact fin _ (by grind [Pt.FW])
  .by_cases hx:c=41/\0<k
   .obtain⟨rfl,b4⟩:=hx;have bt:0<(k:Int):=U;go_wp2;exact fin _ (by grind [Pt.FW])
   by_cases hy:c≠41/\k=6
   .have bq:((c:Int)==41)=false:=Fy;have b5:((k:Int)==6)=true:=Fy;go_wp2;exact HQ _ _ ⟨_,by simp[Pt.FW,hy];rfl,X,by simp[Pt.FW,hy]⟩
   have b5:((k:Int)==6)=false:=Fy;have hg:Hid (Pt.FW ((5,k,L) :: R) c=(Pt.EX c L).map (·++((5,k+1,L) :: R))):=by
    show _=_;by_cases q:c=41
    .have q0:k=0:=U;subst q q0;cases hb:Pt.EX 41 L<;>simp[Pt.FW,hb]
    .have q6:¬k=6:=U;cases hb:Pt.EX c L<;>simp[Pt.FW,q,q6,hb]
   have hz:((c:Int)==41)=false\/(((c:Int)==41)=true/\¬0<(k:Int)):=by
    by_cases q:c=41
    .exact Am ⟨by simp[q],U⟩
    .exact Aj Fy
   clear hx hy;obtain⟨D,m⟩:∃D,(5,k+1,L) :: R=D:=DK;have J:Hid (D.length=r+1):=by show _=_;rw[<-m,A4,Dw aa]
   rw[m]at hg;rcases hz with hc|⟨hc,b4⟩;all_goals
    go_wp2_with (at_builtin;refine AQ _ I (.tmp 68) (.tmp 70) 266 I (w.heap.size+1) 265 i0 (.agg #[Z 0,Z 0,Z 0]) 3 24 underlying266 hi ac ad ae I Em _ r (GV R) I (by exact(zM H U).alloc _) (EN W 0) 1 1 (wc (5,k+1,L)) I I (by exact aeb Ev Ev) (by exact aec) JG U Fy ?_)
    intro vA wA P d _ _;have C:∀T,v1.ownBlock=some T->w.heap.size+1<=T:=λT B=>(H.lt T B).1
    have b9:w.heap.size<W.heap.size:=U;have q2:((W.setCell {block:=w.heap.size,off:=1} (Value.int IntKind.i64 (↑k+1))).alloc (Obj.cells #[Value.int IntKind.i64 5,Value.int IntKind.i64 (↑k+1),Value.int IntKind.i64 ↑L] 265)).cell? (EN w 2)=some (Z L):=by simp[go_sem,b2,b9]
    have c2:=d.cell q2 (λe=>by have:=C _ e.symm;simp at this;omega);have aN:Hid (DY w wA):=((X.setCell Ev _).alloc Fy _).grown d Fy (λT B=>by have:=C T B;omega);have sA:w.heap.size+1<=wA.heap.size:=by have:=d.size;simp at this;omega
    have HO:Hid (wA.ownsRow (w.heap.size+1) 265 3 vA (r+1) (GV D)):=by
     have e:GV [(5,k+1,L)]=wc (5,k+1,L):=by simp[GV]
     rw[<-m,show ((5,k+1,L) :: R)=[(5,k+1,L)]++R from rfl,MQ,e];exact P
    clear P d C q2 b0 b1 b2 z1 m;go_wp2_with fail
    refine(ao _).mono ?_;unfold Ge;rintro e w2 ⟨v2,rfl,f,s⟩;have n:=own_below HO f;have s2:=f.size;have z:=aN.trans (f.mono U);have N:=λg=>s.cells (g:=g)
    have hl:=Dw aq;have O:∀V E,DY w E->SG E w.heap.size V ((Pt.EX c L).getD []++D)->Q (.returned (.tuple #[V,.bool (Pt.EX c L).isSome])) E:=λV E p q=>HQ _ _ (by
     refine⟨V,by rw[Dw hg,Option.isSome_map],p,λS' e=>?_⟩;rw[Dw hg]at e;cases hb:Pt.EX c L with
     |none=>rw[hb]at e;cases e
     |some y=>rw[hb]at e q;cases e;exact q)
    have G:=Dx O;clear O;generalize (Pt.EX c L).isSome=t at *;generalize (Pt.EX c L).getD []=l at *;rcases s.2 with ⟨rfl,h0⟩|⟨g2,K,ar,rfl,_,al,_⟩
    .obtain rfl:l=[]:=BA h0;clear s N f;go_wp2_with (at_builtin;refine wpList_append_own_none I (.tmp 79) (.tmp 80) 266 I (w.heap.size+1) 265 i0 3 underlying266 hi _ _ _ I n I ?_)
     refine G _ _ z ?_;unfold SG;rw[Cc,Dw J];exact NA n U
    .have F:=Dx (N g2 I);clear s N f al;go_wp2_with (at_builtin;refine AQ _ I (.tmp 79) (.tmp 80) 266 I (w.heap.size+1) 265 i0 (.agg #[Z 0,Z 0,Z 0]) 3 24 underlying266 hi ac ad ae I Em _ _ _ I n (Y g2 0) l.length K (GV l) I (KY l) F (PO) JG U U ?_)
     intro v3 w3 i b _ _;have M:=z.grown b U (λT B=>by have:=(n.lt T B).1;omega);have ah:Hid (SG w3 w.heap.size v3 (l++D)):=by
      unfold SG;rw[MQ,AJ,J,Nat.add_comm];exact NA i U
     clear i b;go_wp2;exact G _ _ M (Dw ah)
  .obtain⟨D,m⟩:∃D,D=R:=DR;have hg:Hid (Pt.FW ((1,k,L) :: R) c=(Pt.EX c L).map (·++D)):=by
    show _=_;rw[m];cases hb:Pt.EX c L<;>simp[Pt.FW,hb]
   have HO:Hid (W.ownsRow (w.heap.size+1) 265 3 v1 r (GV D)):=by rw[m];exact H
   have J:Hid (D.length=r):=by rw[m];exact aa
   clear m;go_wp2_with fail
   refine(ao _).mono ?_;unfold Ge;rintro e w2 ⟨v2,rfl,f,s⟩;have n:=own_below HO f;have s2:=f.size;have z:=X.trans (f.mono U);have hl:=Dw aq;have O:∀V E,DY w E->SG E w.heap.size V ((Pt.EX c L).getD []++D)->Q (.returned (.tuple #[V,.bool (Pt.EX c L).isSome])) E:=λV E p q=>HQ _ _ (by
    refine⟨V,by rw[Dw hg,Option.isSome_map],p,λS' e=>?_⟩;rw[Dw hg]at e;cases hb:Pt.EX c L with
    |none=>rw[hb]at e;cases e
    |some y=>rw[hb]at e q;cases e;exact q)
   have G:=Dx O;clear O;generalize (Pt.EX c L).isSome=t at *;generalize (Pt.EX c L).getD []=l at *;rcases s.2 with ⟨rfl,h0⟩|⟨g2,K,ar,rfl,_,al,_⟩
   .obtain rfl:l=[]:=BA h0;clear s f;go_wp2_with (at_builtin;refine wpList_append_own_none I (.tmp 79) (.tmp 80) 266 I (w.heap.size+1) 265 i0 3 underlying266 hi _ _ _ I n I ?_)
    refine G _ _ z ?_;unfold SG;rw[Cc,Dw J];exact NA n U
   .have F:=Dx ((λg=>s.cells (g:=g)) g2 I);clear s f al;go_wp2_with (at_builtin;refine AQ _ I (.tmp 79) (.tmp 80) 266 I (w.heap.size+1) 265 i0 (.agg #[Z 0,Z 0,Z 0]) 3 24 underlying266 hi ac ad ae I Em _ _ _ I n (Y g2 0) l.length K (GV l) I (KY l) F (PO) JG U U ?_)
    intro v3 w3 i b _ _;have M:=z.grown b U (λT B=>by have:=(n.lt T B).1;omega);have ah:Hid (SG w3 w.heap.size v3 (l++D)):=by
     unfold SG;rw[MQ,AJ,J,Nat.add_comm];exact NA i U
    clear i b;go_wp2;exact G _ _ M (Dw ah)
end V
end Go.Proofs.YtblomippkddgiabGreatDoor
