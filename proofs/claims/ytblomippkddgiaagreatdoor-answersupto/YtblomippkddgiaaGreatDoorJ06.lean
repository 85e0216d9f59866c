import Derived.Test.YtblomippkddgiaaGreatDoorJ05
set_option maxRecDepth 100000
set_option maxHeartbeats 1000000
namespace Go.Proofs.YtblomippkddgiaaGreatDoor.V
open Go.Proofs.Tryz
open Go.RowKit
variable {hi' lo:Int}{x:It}{ks:List Bool}{v:List It}{news:List UInt8}{xs:List Value}{B b k n o size:Nat}{P:Program}{e:TypeId}{L O O1:Value}{w w' w0 w1:World}
def b8(n:Int):UInt8:=UInt8.ofNat n.toNat
theorem FP{n:Int}(f:0<=n)(g:n<=255):((b8 n).toNat:Int)=n:=by grind [b8,UInt8.toNat_ofNat_of_lt']
def EU(n:Int):List UInt8:=[b8 (n % 65536 / 256),b8 (n % 256)]
theorem P7(w:Aa)(a b:Int):(convert 199 9 (EJ w.heap.size 2 2)).run prog (w.alloc (.cells #[.int .u8 a,.int .u8 b] 5))=.ok (.string ⟨[b8 a,b8 b].toArray⟩) (w.alloc (.cells #[.int .u8 a,.int .u8 b] 5)):=by
 exact abF
theorem two_pos(n:Int)(w:Aa)(f:0<=n)(g:n<=65535):
  D7 219 #[Z n] w (.string ⟨(EU n).toArray⟩) λw'=>DY w w':=by
 have hc:=P7 w (n / 256) (n % 256);have e:EU n=[b8 (n / 256),b8 (n % 256)]:=by unfold EU;rw[show n % 65536=n by omega]
 exact abu
theorem aaS(n:Int)(w:Aa)(f:n<0)(g:-32768<=n):
  D7 219 #[Z n] w (.string ⟨(EU n).toArray⟩) λw'=>DY w w':=by
 have hc:=P7 w ((n+65536) / 256) ((n+65536) % 256);have e:EU n=[b8 ((n+65536) / 256),b8 ((n+65536) % 256)]:=by unfold EU;rw[show n % 65536=n+65536 by omega,show n % 256=(n+65536) % 256 by omega]
 rw[e];clear e;have hd:0<=(n+65536) / 256/\(n+65536) / 256<=255:=U;have h:0<=(n+65536) % 256/\(n+65536) % 256<=255:=U;go_enter func219,ntmps219;go_wp2
 go_ret
 exact⟨rfl,F9⟩
theorem QA(n:Int)(w:Aa)(f:-32768<=n)(g:n<=65535):
  D7 219 #[Z n] w (.string ⟨(EU n).toArray⟩) λw'=>DY w w':=by grind [aaS,two_pos]
theorem YT(s:Ab)(V:Ad)(a:Af)(cap:Nat)(v:List It)(w:Aa)(h:V=.slice a v.length cap)(Kw:Int)(H:D7 239 #[.string s,Z 0,V,Z 0] w (Z Kw) λw'=>DY w w'):
  D7 207 #[.string s,V] w (.bool (Kw==(v.length:Int))) λw'=>DY w w':=by
 subst h;have g:=Dx H;clear H;go_enter func207,ntmps207;go_wp2_with fail
 refine cm g λw1 f=>?_
 go_wp2
 go_ret
 exact⟨rfl,f⟩
def KL(k:Bool)(x:It):List UInt8:=if k then EU x.2.size++(x.2.data.toList++(if x.2.size % 2=1 then [0] else [])) else EU x.1
def Et:List Bool->List It->List UInt8
 |k :: ks,x :: v=>KL k x++Et ks v
 |_,_=>[]
theorem PX:∀(ks:List Bool) (v:List It) (k:Bool) (x:It),ks.length=v.length->Et (ks++[k]) (v++[x])=Et ks v++KL k x:=by
 intro ks;induction ks with
 |nil=>intro v k x h;cases v with
  |nil=>simp[Et]
  |cons y v=>simp at h
 |cons a ks ih=>intro v k x h;cases v with
  |nil=>simp at h
  |cons y v=>grind [Et]
theorem jA(k:Bool)(x:It)(h:k=true->x.2.size<=14):(KL k x).length<=17:=by
 unfold KL;cases k with
 |false=>simp[EU]
 |true=>
  have f:=h rfl;have e:x.2.data.toList.length=x.2.size:=Ev
  grind [EU]
theorem aer(a t:Ac)(S:Ab):({data:=a.toArray}++{data:=t.toArray}++S:Ab)={data:=(a++(t++(S.data.toList++[]))).toArray}:=by
 have h:S={data:=S.data.toList.toArray}:=Ev;rw[Cb];conv=>lhs;rw[h]
 grind [ByteArray.mk_append_mk]
theorem af6{a t:Ac}{S:Ab}:({data:=a.toArray}++{data:=t.toArray}++S++{data:=#[0]}:Ab)={data:=(a++(t++(S.data.toList++[0]))).toArray}:=by grind [aer,ByteArray.mk_append_mk]
def Vz(ks:List Bool)(v:List It):Prop:=ks.length=v.length/\∀(i:Nat) (k:Bool) (x:It),ks[i]?=some k->v[i]?=some x->(k=true->x.2.size<=14)/\(k=false->-32768<=x.1/\x.1<=65535)
theorem df(h:Vz ks v):∀i,i<=v.length->(Et (ks.take i) (v.take i)).length<=17*i:=by
 intro i;induction i with
 |zero=>intro _;simp[Et]
 |succ i ih=>grind [Vz,List.take_add_one,PX,jA]
theorem WT{i:Nat}{k:Bool}(hk:ks[i]?=some k)(f:v[i]?=some x):Et (ks.take (i+1)) (v.take (i+1))=Et (ks.take i) (v.take i)++KL k x:=by grind [List.take_add_one,PX]
theorem VH(s:Ab)(V:Ad)(v:List It)(ks:List Bool)(w:Aa)(hI:Ff w V v)(hn:v.length<=100000)(hK:Vz ks v)
  (HT:ET 240 #[.string s,Z 0,V,.slice none 0 0] w λe w'=>∃O',e=.returned O'/\JV w w' O' ks):
  D7 208 #[.string s,V] w (.string ⟨(Et ks v).toArray⟩) λw'=>DY w w':=by
 have⟨aa,ah,h⟩:=Ll HT hI hK;have⟨a,cap,hV,_,_⟩:=hI;subst hV;clear HT hK;go_enter func208,ntmps208;go_wp2_with fail
 refine aa.mono ?_;rintro e w1 ⟨O,rfl,hO⟩;have X:=Dx hO;clear hO aa;go_wp2;go_loopw [6,7] (λsv iv wr=>∃i:Nat,i<=v.length/\iv=Z i/\sv=.string ⟨(Et (ks.take i) (v.take i)).toArray⟩/\DY w1 wr) (λ_ iv _=>v.length-(intOf iv).toNat)
 case atStart=>exact⟨0,AV _,rfl,rfl,AA _ _⟩
 case round=>
  obtain⟨i,hi,rfl,rfl,M⟩:=hrel;have az:=df h i hi;by_cases ao:i<v.length
  ·obtain⟨x,hx⟩:∃x,v[i]?=some x:=⟨_,Ah ao⟩;obtain⟨k,hk⟩:∃k,ks[i]?=some k:=⟨_,Ah (by have:=h.1;omega)⟩;have D:=X.go M;have⟨b,off,av,hV,ab,f0,f1⟩:=(ah.DG D.DG).at hx;cases hV;have m:=WT hk hx;have y:=h.2 i k x hk hx;obtain⟨og,T,rfl,fo⟩:∃og T,O=EJ og ks.length T/\EB wr og i (.bool k):=by
    have an:=λg=>D.own.cells (g:=g)
    rcases D.own.2 with ⟨_,h0⟩|⟨g,c2,aN,hv,_⟩
    ·have:=h.1;omega
    ·refine⟨g,c2,hv,?_⟩;have:=an g (by rw[hv];rfl) i (.bool k) (by rw[BP,hk];rfl);rw[show ((Y g 0):Addr).add i=(Y g i) by simp[Addr.add];omega]at this;exact this
   have aV:(i:Int)<(ks.length:Int):=by have:=h.1;omega
   generalize Et (ks.take i) (v.take i)=acc at *;have u:=Dx m;clear m hk hx D;cases k with
   |false=>
    have⟨n1,n2⟩:=y.2 rfl;have H2:=Dx (λw=>QA x.1 w n1 n2);have HR:Hid (Et (ks.take (i+1)) (v.take (i+1))=acc++EU x.1):=by rw[Dw u];rfl
    clear u y f1;go_wp2_with fail
    refine cm (H2 _) λw2 f=>?_
    have j:=M.trans (f.mono M.size);have ar:(EU x.1).length=2:=rfl;generalize EU x.1=tw at *;go_wp2;go_roundw
    case rel=>exact⟨i+1,U,Kc,by rw[Dw HR,ByteArray.mk_append_mk],j⟩
    case measure=>exact Kt
   |true=>
    have al:=y.1 rfl;have⟨N,S⟩:=x;simp only at al f0 f1;have H2:=Dx (λw=>QA (S.size:Int) w U U);have ar:(EU (S.size:Int)).length=2:=rfl;have aS:S.toList.length=S.size:=by rw[CH];simp
    have HR:Hid (Et (ks.take (i+1)) (v.take (i+1))=acc++(EU (S.size:Int)++(S.data.toList++(if S.size % 2=1 then [0] else [])))):=by rw[Dw u];rfl
    generalize EU (S.size:Int)=tw at *;clear u y;by_cases Q:S.size % 2=1
    ·have aq:((S.size:Int) % 2==1)=true:=Fy;rw[Ay Q]at HR;go_wp2_with fail
     go_region_with (go_at_call 219;refine cm (H2 _) λw2 f=>?_;have ak:=(f.cell (p:=(Y b (off+i*2+1))) (by exact ab)).trans f1)
     all_goals
      have j:=M.trans (Below.mono ⟨f.os,f.tape,f.output,f.size,f.block⟩ M.size);go_wp2;go_roundw
      case rel=>exact⟨i+1,U,Kc,by rw[Dw HR];exact CG Value.string (af6),j⟩
      case measure=>exact Kt
    ·have aq:((S.size:Int) % 2==1)=false:=Fy;rw[Ao Q]at HR;go_wp2_with fail
     go_region_with (go_at_call 219;refine cm (H2 _) λw2 f=>?_;have ak:=(f.cell (p:=(Y b (off+i*2+1))) (by exact ab)).trans f1)
     all_goals
      have j:=M.trans (Below.mono ⟨f.os,f.tape,f.output,f.size,f.block⟩ M.size);go_wp2;go_roundw
      case rel=>exact⟨i+1,U,Kc,by rw[Dw HR];exact CG Value.string (aer acc tw S),j⟩
      case measure=>exact Kt
  ·obtain rfl:i=v.length:=U;rw[Cw,A7 (by have:=h.1;omega)];go_wp2
   go_ret
   exact⟨rfl,X.DG.trans (M.mono X.DG.size)⟩
theorem JP(w:Aa):D7 126 #[] w (.agg #[Z 4,Z 0]) λw'=>DY w w':=by
 go_enter func126,ntmps126;go_wp2;exact Bm (v:=.agg #[Z 4,Z 0]) (by simp[results,results126,go_sem]) rfl ⟨rfl,F9⟩
def Wr(w:Aa)(b:Nat)(L O:Ad):Prop:=w.heap[b]?=some (.cells #[L,O] 201 (0,0))
theorem Wr.left(h:Wr w b L O):w.cell? (Y b 0)=some L:=by grind [Wr,World.cell?]
theorem Wr.out(h:Wr w b L O):w.cell? (Y b 1)=some O:=by grind [Wr,World.cell?]
theorem Wr.afd(h:Wr w b L O):w.frozen? (Y b 0)=false:=by grind [Wr,World.frozen?]
theorem Wr.aL(h:Wr w b L O):w.frozen? (Y b 1)=false:=by grind [Wr,World.frozen?]
theorem Wr.lt(h:Wr w b L O):b<w.heap.size:=Dv h
theorem Wr.set0(h:Wr w b L O)(x:Ad):Wr (w.setCell (Y b 0) x) b x O:=by grind [Wr,World.setCell]
theorem Wr.set1(h:Wr w b L O)(x:Ad):Wr (w.setCell (Y b 1) x) b L x:=by
 unfold Wr at h ⊢;exact xw
theorem Wr.alloc(h:Wr w b L O)(o:Obj):Wr (w.alloc o) b L O:=by grind [Wr,Below.heap_alloc]
theorem Wr.other(h:Wr w b L O){a:Addr}(f:¬a.block=b)(x:Ad):Wr (w.setCell a x) b L O:=by grind [Wr,Below.heap_setCell]
theorem Wr.DG(h:Wr w b L O)(f:DY w w'):Wr w' b L O:=by
 have hl:=h.lt;unfold Wr at h ⊢;rw[f.block b hl];exact h
theorem jM{a:Af}{cap:Nat}(h:Wr w b (.slice a 0 cap) O):
  ET 283 #[.pointer (some (Y b 0))] w λe w'=>e=EQ 4 0/\DY w w':=by
 have j:=λo=>(h.alloc o).left
 have g:=Dx JP;clear h;go_enter func283,ntmps283;go_wp2_with fail
 refine cm (g _) λw1 f=>?_
 go_wp2;exact⟨rfl,rfl,F9.trans (f.mono Ev)⟩
def Ku(l:Ac):List Value:=l.map λc=>Value.int .u8 (c.toNat:Int)
theorem ER{v:Ad}(h:w.ownsRow B e size v n xs)(hb:DY w w'):w'.ownsRow B e size v n xs:=by
 exact aaC
theorem Qq{v x:Ad}(h:w.ownsRow B e size v n xs)(hk:k<B):(w.setCell (Y k o) x).ownsRow B e size v n xs:=by
 exact abo
theorem QB(l:Ac):∀u∈Ku l,u.oneCell'=true:=by
 intro u hu;unfold Ku at hu;obtain⟨c,_,rfl⟩:=Cy.1 hu;rfl
structure WS(w0 w:Aa)(L:Ad)(v:List It)(O:Ad)(out:Ac):Prop where
 wr:Wr w w0.heap.size L O
 Gz:Ff w0 L v
 DG:Below w0.heap.size w0 w
 own:w.ownsRow (w0.heap.size+1) 5 1 O out.length (Ku out)
structure Wk(b:Nat)(O O':Ad)(w w':Aa):Prop where
 size:w.heap.size<=w'.heap.size
 block:∀k,k<w.heap.size->k≠b->O.ownBlock≠some k->w'.heap[k]?=w.heap[k]?
 row:O'.ownBlock=O.ownBlock\/∃g,O'.ownBlock=some g/\w.heap.size<=g
theorem Wk.refl(b:Nat)(O:Ad)(w:Aa):Wk b O O w w:=by grind [Wk]
theorem Wk.trans{f:Ad}{g:Aa}(h:Wk b O O1 w w1)(k:Wk b O1 f w1 g):Wk b O f w g:=by
 have u:=h.size;refine⟨Br h.size k.size,λi hi j m=>?_,?_⟩;all_goals grind [Wk]
theorem Wk.of_below(h:DY w w'):Wk b O O w w':=⟨h.size,λk hk _ _=>h.block k hk,Aj rfl⟩
theorem Wk.cell{f:Ad}(h:Wk b O f w w')(hk:k<w.heap.size)(g:k≠b)(j:O.ownBlock≠some k):w'.cell? (Y k o)=w.cell? (Y k o):=by grind [Wk,World.cell?_of_block]
theorem WS.row{out:Ac}(h:WS w0 w L v O out)(hk:O.ownBlock=some k):w0.heap.size<k/\k<w.heap.size:=by
 have:=h.own.lt k hk;omega
theorem WS.go{out:Ac}(h:WS w0 w L v O out)(f:DY w w'):WS w0 w' L v O out:=
 ⟨h.wr.DG f,h.Gz,h.DG.trans (f.mono h.DG.size),ER h.own f⟩
theorem eF(h:Ff w L (x :: v)):∃g off cap,L=.slice (some (Y g off)) (v.length+1) cap/\v.length+1<=cap/\g<w.heap.size/\EB w g off (Z x.1)/\EB w g (off+1) (.string x.2)/\Ff w (.slice (some (Y g (off+2))) v.length (cap-1)) v/\(cap=1->Ff w (.slice (some (Y g off)) v.length 0) v):=by
 have⟨a,cap,m,hc,h⟩:=h;rcases h with h|⟨g,off,D,hl,u⟩
 ·cases h
 ·subst D;simp only[A4]at m hc;have f:=u 0 x rfl;refine⟨g,off,cap,m,hc,hl,by simpa using f.1,by simpa using f.2,⟨_,_,rfl,U,?_⟩,λM=>⟨_,_,rfl,U,Aj ?_⟩⟩
  ·refine Am ⟨g,off+2,rfl,hl,λj y Q=>?_⟩;have T:=u (j+1) y (by simpa using Q)
   grind
  ·exact BA U
theorem Ny(w0 w:Aa)(L O:Ad)(x:It)(v:List It)(out:Ac)(h:WS w0 w L (x :: v) O out)(hn:v.length<=9000000000000):
  D7 283 #[.pointer (some (EN w0 0))] w (.agg #[Z x.1,.string x.2]) λw'=>∃j,WS w0 w' j v O out/\Wk w0.heap.size O O w w':=by
 obtain⟨g,off,cap,rfl,hc,hg,T,X,m,u⟩:=eF h.Gz;have aa:=h.DG.size;obtain⟨b,D⟩:∃b,b=w0.heap.size:=⟨_,rfl⟩;have f:=h.wr;have ab:=f.lt;have y:g<w.heap.size:=U;have e0:=λo=>(AR (w:=w) (a:=Y g off) (AL w o g y)).trans ((h.DG.cell (p:=Y g off) hg).trans T)
 have e1:=λo=>(AR (w:=w) (a:=(Y g (off+1))) (AL w o g y)).trans ((h.DG.cell (p:=(Y g (off+1))) hg).trans X)
 have h1:=λo=>(f.alloc o).left
 have h2:=λo=>(f.alloc o).afd
 have HS:=Dx h;have ac:¬w.heap.size=w0.heap.size:=U;have fin:∀j,Ff w0 j v->WS w0 (((w.setCell (EN w0 0) j).alloc (.cells #[Z x.1,.string x.2] 106)).alloc (.cells #[Z x.1,.string x.2] 106)) j v O out/\Wk w0.heap.size O O w (((w.setCell (EN w0 0) j).alloc (.cells #[Z x.1,.string x.2] 106)).alloc (.cells #[Z x.1,.string x.2] 106)):=by
  intro j hi;have hb:DY w0 (w.setCell (EN w0 0) j):=h.DG.setCell Ev _;refine⟨⟨((f.set0 j).alloc _).alloc _,hi,(hb.alloc Fy _).alloc Fy _,((Qq h.own U).alloc _).alloc _⟩,⟨Fy,λk hk Q _=>?_,Aj rfl⟩⟩;rw[AL _ _ _ Fy,AL _ _ _ Fy,AU _ _ _ _ (by simpa using Q)]
 have FIN:=Dx fin;clear h f T X D fin;by_cases M:cap=1
 ·subst M;obtain rfl:v=[]:=BA U;have it:=u rfl;clear m u;have HIT:=Dx it;clear it;exact aby
 ·have HIT:=Dx m;clear m u;exact aby
theorem info5:(prog.info? 5).map (λi=>(i.zero,i.size,i.bytes))=some (some (.int .u8 0),1,1):=EL
theorem Ei{v:Ad}(h:w.ownsRow B e size v n xs):∃a k c,v=.slice a k c:=by
 rcases h.2 with ⟨j,_⟩|⟨g,cap,f,j,_⟩;all_goals grind
theorem aed(n:Int):IntKind.u16.wrap n=n % 65536:=by grind [IntKind.wrap,IntKind.bits,IntKind.signed]
theorem ky{out:Ac}{o:Obj}(h:WS w0 w L v O out)(m:w1.ownsRow (w0.heap.size+1) 5 1 O1 (out.length+news.length) (Ku out++Ku news))(j:(w.alloc o).grownBy w1 O.ownBlock)(y:O1.ownBlock=O.ownBlock\/O1.ownBlock=some (w.alloc o).heap.size):
  Wr w1 w0.heap.size L O/\WS w0 (w1.setCell (EN w0 1) O1) L v O1 (out++news)/\Wk w0.heap.size O O1 w (w1.setCell (EN w0 1) O1):=by
 have Q:=h.wr.lt;have D:(w.alloc o).heap.size=w.heap.size+1:=Ev;have T:=j.size;have keep:∀k,k<w.heap.size->O.ownBlock≠some k->w1.heap[k]?=w.heap[k]?:=by
  intro k hk u;rw[j.block k U (λe=>u e.symm)];exact AL _ _ _ hk
 have f:∀k,O.ownBlock=some k->w0.heap.size<k:=λk hk=>(h.row hk).1
 have g:Wr w1 w0.heap.size L O:=by
  have:=h.wr;unfold Wr at this ⊢;all_goals grind
 refine⟨g,⟨g.set1 O1,h.Gz,?_,?_⟩,⟨Fy,λk hk M u=>?_,?_⟩⟩
 ·exact((h.DG.alloc U o).grown j U (λk hk=>by have:=f k hk;omega)).setCell Ev _
 all_goals grind [Qq,Ku,Below.heap_setCell]
theorem WS.drew{out:Ac}(h:WS w0 w L v O out):WS w0 w.drew L v O out:=⟨h.wr,h.Gz,h.DG.drew,h.own⟩
theorem Rz(w0 w:Aa)(L O:Ad)(v:List It)(out:Ac)(n:Int)(h:WS w0 w L v O out)(av:out.length<=1000000):
  ET 186 #[O,Z n] w λe w'=>∃a k c,e=.returned (.slice a k c)/\Wr w' w0.heap.size L O/\WS w0 (w'.setCell (EN w0 1) (.slice a k c)) L v (.slice a k c) (out++EU n)/\Wk w0.heap.size O (.slice a k c) w (w'.setCell (EN w0 1) (.slice a k c)):=by
 have ar:=h.wr.lt;have how:=h.own;have HH:=Dx h;have HN:Hid (∀(j:Nat) (u:Ad),(Ku (EU n))[j]?=some u->(w.alloc (.cells #[.int .u8 (IntKind.u16.wrap n / 256 % 256),.int .u8 (IntKind.u16.wrap n % 256)] 5)).cell? (((EN w 0):Addr).add j)=some u):=by
  intro j u y;rw[aed];unfold Ku EU at y;match j,y with
  |0,y=>
   simp at y;rw[FP U U]at y;subst y;rw[show n % 65536 / 256 % 256=n % 65536 / 256 by omega];simp[Addr.add,go_sem]
  |1,y=>
   simp at y;rw[FP U U]at y;subst y;rw[show n % 65536 % 256=n % 256 by omega];simp[Addr.add,go_sem]
 obtain⟨oa,al,hO⟩:∃a c,O=.slice a out.length c:=by
  rcases how.2 with ⟨hv,h0⟩|⟨g,cap,ao,hv,_⟩
  ·exact⟨none,0,by rw[hv,h0]⟩
  ·exact⟨_,_,hv⟩
 subst hO;clear h;have⟨i0,hi,ae,ah,ak⟩:=A1 info5;go_enter func186,ntmps186;go_wp2_with (at_builtin;refine AQ _ rfl (.tmp 8) (.tmp 14) 199 rfl (w0.heap.size+1) 5 i0 (.int .u8 0) 1 1 underlying199 hi ae ah ak rfl Em _ out.length (Ku out) rfl (by exact how.alloc _) (EN w 0) 2 2 (Ku (EU n)) rfl rfl HN (by exact QB _) JG U Fy ?_)
 intro O1 w1 m f _ D;have⟨aw,aN,az,ac⟩:=Ei m;subst ac;have⟨Q,T,M⟩:=ky HH m f (by simpa using D);have⟨aa,ab,X⟩:=Ll Q T M;clear m f D Q T M how;go_wp2
 go_ret
 exact⟨_,_,_,rfl,aa,ab,X⟩
theorem Zs{out:Ac}(h:WS w0 w L [] O out):
  ET 281 #[.pointer (some (EN w0 0)),Z lo,Z hi'] w λe w'=>e=EQ 4 0/\DY w0 w':=by
 have⟨a,cap,f,_,_⟩:=h.Gz;subst f;have H1:=Dx (jM h.wr);have hb:=h.DG;clear h;go_enter func281,ntmps281;exact acf
theorem Zo{out:Ac}(h:WS w0 w L (x :: v) O out)(hn:v.length<=9000000000000)(f:¬x.2.toList=[]):
  ET 281 #[.pointer (some (EN w0 0)),Z lo,Z hi'] w λe w'=>e=EQ 4 0/\DY w0 w':=by
 have⟨H1,HN⟩:=FU (Ny w0 w L O x v out h hn) JP;clear h;have⟨N,S⟩:=x;simp only at H1 f;go_enter func281,ntmps281;exact xg
theorem Zp{out:Ac}(h:WS w0 w L (x :: v) O out)(hn:v.length<=9000000000000)(f:x.2.toList=[])(hl:x.1<lo):
  ET 281 #[.pointer (some (EN w0 0)),Z lo,Z hi'] w λe w'=>e=EQ 4 0/\DY w0 w':=by
 have⟨H1,HN⟩:=FU (Ny w0 w L O x v out h hn) JP;clear h;have⟨N,S⟩:=x;simp only at H1 f hl;go_enter func281,ntmps281;exact xg
theorem Zr{out:Ac}(h:WS w0 w L (x :: v) O out)(hn:v.length<=9000000000000)(f:x.2.toList=[])(hl:¬x.1<lo)(g:hi'<x.1):
  ET 281 #[.pointer (some (EN w0 0)),Z lo,Z hi'] w λe w'=>e=EQ 4 0/\DY w0 w':=by
 have⟨H1,HN⟩:=FU (Ny w0 w L O x v out h hn) JP;clear h;have⟨N,S⟩:=x;simp only at H1 f hl g;go_enter func281,ntmps281;exact xg
theorem mK{out:Ac}(h:WS w0 w L (x :: v) O out)(hn:v.length<=9000000000000)(hS:x.2.toList=[])(hl:¬x.1<lo)(hh:¬hi'<x.1)(aa:out.length<=1000000):
  D7 281 #[.pointer (some (EN w0 0)),Z lo,Z hi'] w (Z x.1) λw'=>∃M O',WS w0 w' M v O' (out++EU x.1)/\Wk w0.heap.size O O' w w':=by
 have H1:=Dx (Ny w0 w L O x v out h hn);clear h;have⟨N,S⟩:=x;simp only at H1 hS hl hh ⊢;go_enter func281,ntmps281;go_wp2_with fail
 refine cm H1 ?_;rintro w1 ⟨M,m,D⟩;have f:=m.go ((AA w1.heap.size w1).alloc (Ar _) (.cells #[Z N,.string S] 106));have H2:=Dx (Rz w0 _ M O v out N f.drew aa);have y:O.ownBlock≠some w1.heap.size:=λe=>by have:=(m.row e).2;omega
 have al:=m.wr.lt;have ae:=f.wr.out;have X:=Dx D;have⟨sa,sn,sc,ab⟩:=Ei f.own;subst ab;clear m D f;go_wp2_with fail
 go_region_with ((go_at_call 186;refine H2.mono ?_;rintro e w2 ⟨ta,tn,tc,rfl,j,u,g⟩;have t1:=j.out;have t2:=j.aL))
 all_goals
  have c0:(w2.setCell (EN w0 1) (.slice ta tn tc)).cell? (EN w1 0)=some (Z N):=(g.cell Ev U y).trans Vb;have T:=Dx u;have Q:=Dx (X.trans ((Wk.of_below (((AA w1.heap.size w1).alloc (Ar _) (.cells #[Z N,.string S] 106)).drew)).trans g));clear u g j t1 t2;generalize w2.setCell (EN w0 1) (.slice ta tn tc)=W3 at *;go_wp2
  go_ret
  exact⟨rfl,M,_,T,Q⟩
theorem oU(S:Ab):Lib.strCells S=Ku S.data.toList:=by
 unfold Lib.strCells Ku;rfl
theorem gK(w:Aa)(base:Nat)(t u ty e:Ag)(i:TypeInfo)(ht:P.underlying t=some (.slice e))(hu:P.underlying u=some .string)(hi:P.info? e=some i)(hz:i.zero=some (.int .u8 0))
  (f:i.size=1) (Q:i.bytes=1) (v:Ad) (n:Nat) (xs:Ae) (h:w.ownsRow base e 1 v n xs) (hn:1<=n) (s:Ab) (an:n+s.size<=100000000) (m:base<=w.heap.size):
  ∃D w',(Builtin.append_ #[t,u] ty #[v,.string s]).run P w=.ok D w'/\w'.ownsRow base e 1 D (n+s.size) (xs++Lib.strCells s)/\w.grownBy w' v.ownBlock/\(D.ownBlock=v.ownBlock\/D.ownBlock=some w.heap.size):=by
 have⟨D,w',hr,h2,h3,h4⟩:=Lib.run_append_own_string (P:=P) w base t u ty e i ht hu hi hz f Q v n xs h s JG U m;refine⟨D,w',hr,h2,h3,?_⟩;have ab:xs.length=n:=by simpa using h.1
 have T:=λg=>h.cells (g:=g)
 rcases h.2 with ⟨_,h0⟩|⟨g,cap,M,rfl,ah,hg,am,ak,X,aa⟩
 ·omega
 ·by_cases y:n+s.size<=cap
  ·have ac:M.size=cap:=by simpa using X
   have j:=Lib.run_append_room_string (P:=P) w t u ty e i ht hu hi f g n cap M hg s y U;rw[hr]at j;cases j;exact Aj rfl
  ·have j:=Lib.run_append_grow_string (P:=P) w t u ty e i (.int .u8 0) ht hu hi hz (Y g 0) n cap xs (by rw[f];simpa using ab) (T g rfl) s U U (by rw[Q];exact growslice_fits U U);rw[hr]at j;cases j;exact Am rfl
theorem Sl{y:Array Oper}{o:Oper}{a:Act}{K:Act->World->Prop}{Q:Exit->Act->World->Prop}{E:Prop}
  (M:o.guard=none) (sl x:Operand) (t u:Ag) (ho:o.op=.call {callee:=.builtin .append,args:=#[sl,x],argTypes:=#[t,u]})
  (base:Nat) (e:Ag) (i:TypeInfo) (ht:P.underlying t=some (.slice e)) (hu:P.underlying u=some .string) (hi:P.info? e=some i) (hz:i.zero=some (.int .u8 0))
  (g:i.size=1) (D:i.bytes=1) (v:Ad) (n:Nat) (xs:Ae) (hs:a.eval sl=v) (m:w.ownsRow base e 1 v n xs) (hn:1<=n) (s:Ab) (hx:a.eval x=.string s) (T:n+s.size<=100000000) (f:base<=w.heap.size)
  (h:∀j w',w'.ownsRow base e 1 j (n+s.size) (xs++Lib.strCells s)->w.grownBy w' v.ownBlock->(j.ownBlock=v.ownBlock\/j.ownBlock=some w.heap.size)->K (a.put o.dst j) w'):
  if Region.wanted o (yielded y a.tmps)=true then Oper.wp P o a w K Q else E:=by
 have hw:Region.wanted o (yielded y a.tmps)=true:=by simp[Region.wanted,M]
 rw[Ay hw];have⟨j,w',hr,X,h3,h4⟩:=gK (P:=P) w base t u o.type e i ht hu hi hz g D v n xs m hn s T f;unfold Oper.wp;simp[execOp,ho,resolve,invoke,builtin,hs,hx,hr,Result.andThen];exact h j w' X h3 h4
theorem xV{out:Ac}(h:WS w0 w L v O out)(m:w1.ownsRow (w0.heap.size+1) 5 1 O1 (out.length+news.length) (Ku out++Ku news))(j:w.grownBy w1 O.ownBlock)(y:O1.ownBlock=O.ownBlock\/O1.ownBlock=some w.heap.size):
  Wr w1 w0.heap.size L O/\WS w0 (w1.setCell (EN w0 1) O1) L v O1 (out++news)/\Wk w0.heap.size O O1 w (w1.setCell (EN w0 1) O1):=by
 have M:=h.wr.lt;have Q:=j.size;have keep:∀k,k<w.heap.size->O.ownBlock≠some k->w1.heap[k]?=w.heap[k]?:=λk hk u=>j.block k hk (λe=>u e.symm)
 have f:∀k,O.ownBlock=some k->w0.heap.size<k:=λk hk=>(h.row hk).1
 have g:Wr w1 w0.heap.size L O:=by
  have:=h.wr;unfold Wr at this ⊢;all_goals grind
 refine⟨g,⟨g.set1 O1,h.Gz,?_,?_⟩,⟨Fy,λk hk D u=>?_,?_⟩⟩
 ·exact(h.DG.grown j U (λk hk=>by have:=f k hk;omega)).setCell Ev _
 all_goals grind [Qq,Ku,Below.heap_setCell]
theorem M2(n:Nat)(w:Aa)(hn:n<=14):D7 284 #[Z n] w (.bool (n % 2==1)) λw'=>w'=w:=by
 have e:((n % 2==1:Bool))=(((n:Int) % 2==1:Bool)):=by
  rw[BH];simp;omega
 rw[e];go_enter func284,ntmps284;go_wp2
 go_ret
 exact⟨rfl,rfl⟩
theorem aav{out:Ac}(h:WS w0 w L (x :: v) O out)(hn:v.length<=9000000000000)(hN:x.1=0)(hS:x.2.size<=14)(bj:out.length<=1000000):
  D7 282 #[.pointer (some (EN w0 0))] w Ep λw'=>∃L' O',WS w0 w' L' v O' (out++KL true x)/\Wk w0.heap.size O O' w w':=by
 have H1:=Dx (Ny w0 w L O x v out h hn);clear h;have⟨N,S⟩:=x;simp only at H1 hS hN ⊢;subst hN;have bL:¬(14:Int)<(S.size:Int):=U;have al:=Dx (λw=>M2 S.size w hS);have ak:Hid (KL true (0,S)=EU (S.size:Int)++(S.data.toList++(if S.size % 2=1 then [0] else []))):=rfl;go_enter func282,ntmps282;go_wp2_with fail
 refine(Dw H1).mono ?_;rintro e w1 ⟨rfl,L',an,b7⟩;have M:=an.go ((AA w1.heap.size w1).alloc (Ar _) (.cells #[Z 0,.string S] 106));have H2:=Dx (Rz w0 _ L' O v out (S.size:Int) M.drew bj);have ac:O.ownBlock≠some w1.heap.size:=λe=>by have:=(an.row e).2;omega
 have bT:=an.wr.lt;have b6:=M.wr.out;have b1:=Dx b7;have⟨sa,sn,sc,bp⟩:=Ei M.own;subst bp;clear an b7 M;go_wp2_with fail
 go_region_with ((go_at_call 186;refine(Dw H2).mono ?_;rintro e w2 ⟨ta,tn,tc,rfl,ae,Q,j⟩;have t1:=ae.out;have t2:=ae.aL))
 all_goals
  clear ae t1 t2;generalize w2.setCell (EN w0 1) (.slice ta tn tc)=W2 at *;have c1:W2.cell? (EN w1 1)=some (.string S):=(j.cell Ev U ac).trans Vb;have b4:w1.heap.size<W2.heap.size:=by have:=j.size;simp at this;omega
  have ab:(Value.slice ta tn tc).ownBlock≠some w1.heap.size:=by
   intro e;rcases j.row with h|⟨g,h,hg⟩
   ·exact ac (h.symm.trans e)
   ·rw[e]at h;cases h;simp at hg;omega
  have aS:=Dx ((Dw b1).trans ((Wk.of_below (((AA w1.heap.size w1).alloc (Ar _) (.cells #[Z 0,.string S] 106)).drew)).trans j));have bg:=Q.wr.out;have av:=Dx Q;have bt:=Q.wr.lt;have bi:(EU (S.size:Int)).length=2:=rfl;have⟨i0,hi,b9,ba,bb⟩:=A1 info5;clear Q j H2 H1 b1 b6;go_wp2_with fail
  go_region_law (refine Sl rfl (.tmp 31) (.tmp 33) 199 9 rfl (w0.heap.size+1) 5 i0 underlying199 underlying9 hi b9 ba bb _ (out++EU (S.size:Int)).length (Ku (out++EU (S.size:Int))) rfl (by exact(Dw av).own) Fy S rfl (by rw[AJ];omega) (by exact bt) ?_;intro v' wz aa X b3;have⟨va,vn,vc,br⟩:=Ei aa;subst br;have aw:=xV (news:=S.data.toList) (Dw av).drew (by rw[<-oU];simpa using aa) X b3;have⟨az,m,ad⟩:=aw;have k1:=az.out;have k2:=az.aL)
  all_goals
   have d1:=(ad.cell (o:=1) (by exact b4) U ab).trans c1;have am:=Dx m;have aV:=Dx ((Dw aS).trans ((Wk.of_below ((AA W2.heap.size W2).drew)).trans ad));have o4:=m.wr.out;have z4:=m.wr.aL;have l4:=m.wr.lt;clear az m ad k1 k2 aa X b3 av aS c1 bg b4 ab ac;generalize wz.setCell {block:=w0.heap.size,off:=1} (Value.slice va vn vc)=W4 at *;by_cases f:S.size % 2=1
   ·have ho:(S.size % 2==1)=true:=by simp[f]
    rw[ho]at al;rw[Ay f]at ak;clear f ho;obtain⟨T,y⟩:∃T,T=out++EU (S.size:Int)++S.data.toList:=⟨_,rfl⟩;have bS:T.length<=1000100:=by
     have e2:S.data.toList.length=S.size:=BO;rw[y,AJ,AJ,bi,e2];omega
    rw[<-y]at am;have aN:=Dx y;clear y;go_wp2_with fail
    refine((Dw al) _).mono ?_;rintro e w5 ⟨rfl,rfl⟩;go_wp2_with (at_builtin;refine AQ _ rfl (.tmp 45) (.tmp 46) 199 rfl (w0.heap.size+1) 5 i0 (.int .u8 0) 1 1 underlying199 hi b9 ba bb rfl Em _ T.length (Ku T) rfl (by exact(Dw am).own.alloc _) (EN w5 0) 1 1 (Ku [0]) rfl rfl (by exact cell_one_new _ _ _) (by exact QB _) JG U Fy ?_)
    intro O5 w6 u D _ ao;have⟨ta,tn,tc,bq⟩:=Ei u;subst bq;have⟨ah,ar,aq⟩:=ky (news:=[0]) (Dw am) u D (by simpa using ao);have k1:=ah.out;have k2:=ah.aL;have⟨bf,be⟩:=FU ar ((Dw aV).trans aq);clear u D ao ah ar aq;go_wp2
    go_end0
    refine⟨rfl,L',_,?_,Dw be⟩;rw[Dw ak,<-Bs,<-Bs,<-Dw aN];exact Dw bf
   ·have ho:(S.size % 2==1)=false:=by simp[f]
    rw[ho]at al;rw[Ao f,Cb]at ak;clear f ho;go_wp2_with fail
    refine((Dw al) _).mono ?_;rintro e w5 ⟨rfl,rfl⟩;go_wp2
    go_end0
    refine⟨rfl,L',_,?_,Dw aV⟩;rw[Dw ak,<-Bs];exact Dw am
theorem o8{out:Ac}(h:WS w0 w L [] O out):
  ET 282 #[.pointer (some (EN w0 0))] w λe w'=>e=EQ 4 0/\DY w0 w':=by
 have⟨a,cap,f,_,_⟩:=h.Gz;subst f;have H1:=Dx (jM h.wr);have hb:=h.DG;clear h;go_enter func282,ntmps282;exact acf
theorem oZ{out:Ac}(h:WS w0 w L (x :: v) O out)(hn:v.length<=9000000000000)(f:(x.1 != 0)=true):
  ET 282 #[.pointer (some (EN w0 0))] w λe w'=>e=EQ 4 0/\DY w0 w':=by
 have⟨H1,HN⟩:=FU (Ny w0 w L O x v out h hn) JP;clear h;have⟨N,S⟩:=x;simp only at H1 f;go_enter func282,ntmps282;exact xg
theorem o7{out:Ac}(h:WS w0 w L (x :: v) O out)(hn:v.length<=9000000000000)(f:(x.1 != 0)=false)(g:(14:Int)<(x.2.size:Int)):
  ET 282 #[.pointer (some (EN w0 0))] w λe w'=>e=EQ 4 0/\DY w0 w':=by
 have⟨H1,HN⟩:=FU (Ny w0 w L O x v out h hn) JP;clear h;have⟨N,S⟩:=x;simp only at H1 f g;go_enter func282,ntmps282;exact xg
abbrev Gb(c:Int)(x1:Int)(a:Af)(n k:Nat):Obj:=.cells #[.int .u8 c,Z x1,.slice a n k] 153
def SE(er:Nat)(A B:World->Prop)(e:Ending)(w:Aa):Prop:=(e=EQ er 0/\A w)\/(e=.returned Ep/\B w)
def xY(er:Nat)(A:World->Prop)(B:Int->World->Prop)(e:Ending)(w:Aa):Prop:=(e=EQ er 0/\A w)\/∃i,e=.returned (Z i)/\B i w
def bJ (tid fn : Nat) (ptr : Addr) : Prop := (∀ w, (method 460 tid (.pointer (some ptr)) "errand/value.number").run Tryz.prog w = .ok (fn, .pointer (some ptr)) w) ∧ ∀ args w, (callFunc fn args).run Tryz.prog w = .ok (.enter fn args) w
def aej (tid fn : Nat) (ptr : Addr) : Prop := (∀ w, (method 460 tid (.pointer (some ptr)) "errand/value.text").run Tryz.prog w = .ok (fn, .pointer (some ptr)) w) ∧ ∀ args w, (callFunc fn args).run Tryz.prog w = .ok (.enter fn args) w
theorem ad3(tid fn er:Nat)(ptr:Addr)(hm:bJ tid fn ptr)(w:Aa)(x1:Int)(a0:Af)(n0 k0:Nat)(A:World->Prop)(B:Int->World->Prop)
  (HN:ET fn #[.pointer (some ptr),Z 0,Z 1] (w.alloc (Gb 98 x1 a0 n0 k0)) (xY er A B)):
  ET 125 #[.agg #[.int .u8 98,Z x1,.slice a0 n0 k0],.iface tid (.pointer (some ptr))] w (SE er A λw'=>∃i,B i w'):=by
 exact aaB
theorem ad4(tid fn er:Nat)(ptr:Addr)(hm:bJ tid fn ptr)(w:Aa)(x1:Int)(a0:Af)(n0 k0:Nat)(A:World->Prop)(B:Int->World->Prop)
  (HN:ET fn #[.pointer (some ptr),Z 0,Z 65535] (w.alloc (Gb 99 x1 a0 n0 k0)) (xY er A B)):
  ET 125 #[.agg #[.int .u8 99,Z x1,.slice a0 n0 k0],.iface tid (.pointer (some ptr))] w (SE er A λw'=>∃i,B i w'):=by
 exact aaB
theorem ad6(tid fn er:Nat)(ptr:Addr)(hm:bJ tid fn ptr)(w:Aa)(x1:Int)(a0:Af)(n0 k0:Nat)(A:World->Prop)(B:Int->World->Prop)
  (HN:ET fn #[.pointer (some ptr),Z (-32768),Z 32767] (w.alloc (Gb 105 x1 a0 n0 k0)) (xY er A B)):
  ET 125 #[.agg #[.int .u8 105,Z x1,.slice a0 n0 k0],.iface tid (.pointer (some ptr))] w (SE er A λw'=>∃i,B i w'):=by
 exact aaB
theorem ad5(tid fn er:Nat)(ptr:Addr)(hm:bJ tid fn ptr)(w:Aa)(x1:Int)(a0:Af)(n0 k0:Nat)(A:World->Prop)(B:Int->World->Prop)(f:0<=x1/\x1<=9)
  (HN:ET fn #[.pointer (some ptr),Z 0,Z (x1-1)] (w.alloc (Gb 101 x1 a0 n0 k0)) (xY er A B)):
  ET 125 #[.agg #[.int .u8 101,Z x1,.slice a0 n0 k0],.iface tid (.pointer (some ptr))] w (SE er A λw'=>∃i,B i w'):=by
 exact aaB
theorem ad9(tid fn er:Nat)(ptr:Addr)(j:aej tid fn ptr)(w:Aa)(x1:Int)(a0:Af)(n0 k0:Nat)(A B:World->Prop)
  (g:ET fn #[.pointer (some ptr)] (w.alloc (Gb 115 x1 a0 n0 k0)) (SE er A B)):
  ET 125 #[.agg #[.int .u8 115,Z x1,.slice a0 n0 k0],.iface tid (.pointer (some ptr))] w (SE er A B):=by
 have⟨m,u⟩:=j;have f:=Dx g;clear g;go_enter func125,ntmps125;go_wp2_with fail
 refine f.mono ?_;rintro e w1 (⟨rfl,h⟩|⟨rfl,hB⟩)
 ·go_wp2;exact⟨rfl,Aj ⟨rfl,h⟩⟩
 ·go_wp2
  go_end0
  exact Am ⟨rfl,hB⟩
theorem ad2(tid er:Nat)(ptr:Addr)(w:Aa)(x1:Int)(g n0 k0:Nat)(j m:Int)(u:Af)(D y:Nat)(A B:World->Prop)(hn:0<n0)
  (Q:∀o,(w.alloc o).cell? (Y g 0)=some (.int .u8 j)) (T:∀o,(w.alloc o).cell? (Y g 1)=some (Z m)) (X:∀o,(w.alloc o).cell? (Y g 2)=some (.slice u D y))
  (h:ET 193 #[Z x1,.agg #[.int .u8 j,Z m,.slice u D y],.iface tid (.pointer (some ptr))] (w.alloc (Gb 97 x1 (some (Y g 0)) n0 k0)).drew (SE er A B)):
  ET 125 #[.agg #[.int .u8 97,Z x1,EJ g n0 k0],.iface tid (.pointer (some ptr))] w (SE er A B):=by
 have f:=Dx h;clear h;go_enter func125,ntmps125;go_wp2_with fail
 go_region_with (go_at_call 193;refine f.mono ?_;rintro e w1 (⟨rfl,M⟩|⟨rfl,hB⟩);focus (go_wp2;exact⟨rfl,Aj ⟨rfl,M⟩⟩))
 all_goals
  go_wp2
  go_end0
  exact Am ⟨rfl,hB⟩
theorem ad7(tid fn er:Nat)(ptr:Addr)(T:bJ tid fn ptr)(w:Aa)(x1:Int)(g n0 k0:Nat)(u y:Int)(D:Af)(Q M:Nat)(A B:World->Prop)(N:Int->World->Prop)(hn:0<n0)
  (j:ET fn #[.pointer (some ptr),Z 0,Z x1] (w.alloc (Gb 113 x1 (some (Y g 0)) n0 k0)) (xY er A N))
  (m:∀i w',N i w'->Kk w' w 2 (EJ g n0 k0)/\EB w' g 0 (.int .u8 u)/\EB w' g 1 (Z y)/\EB w' g 2 (.slice D Q M) /\
   ET 193 #[Z i,.agg #[.int .u8 u,Z y,.slice D Q M],.iface tid (.pointer (some ptr))] w' (SE er A B)):
  ET 125 #[.agg #[.int .u8 113,Z x1,EJ g n0 k0],.iface tid (.pointer (some ptr))] w (SE er A B):=by
 have⟨X,aa⟩:=T;have⟨f,h⟩:=FU j m;clear j m;go_enter func125,ntmps125;go_wp2_with fail
 refine f.mono ?_;rintro e w1 (⟨rfl,hA⟩|⟨i,rfl,hB⟩)
 ·go_wp2;exact⟨rfl,Aj ⟨rfl,hA⟩⟩
 ·have⟨b2,f0,f1,f2,hT⟩:=h i w1 hB;exact afS
theorem aea(tid fn er:Nat)(ptr:Addr)(X:bJ tid fn ptr)(w:Aa)(x1:Int)(g n0 k0:Nat)(A B:World->Prop)(N:Nat->World->Prop)(hn:n0<=6)
  (Q:ET fn #[.pointer (some ptr),Z 0,Z ((n0:Int)-1)] (w.alloc (Gb 117 x1 (some (Y g 0)) n0 k0)) (xY er A λi w'=>∃j:Nat,i=j/\j<n0/\N j w'))
  (T:∀j w',N j w'->∃m u y M D,Kk w' w 2 (EJ g n0 k0)/\EB w' g (j*3) (.int .u8 m)/\EB w' g (j*3+1) (Z u)/\EB w' g (j*3+2) (.slice y M D) /\
   ET 125 #[.agg #[.int .u8 m,Z u,.slice y M D],.iface tid (.pointer (some ptr))] w' (SE er A B)):
  ET 125 #[.agg #[.int .u8 117,Z x1,EJ g n0 k0],.iface tid (.pointer (some ptr))] w (SE er A B):=by
 have⟨aa,ab⟩:=X;have⟨f,h⟩:=FU Q T;clear Q T;go_enter func125,ntmps125;go_wp2_with fail
 refine f.mono ?_;rintro e w1 (⟨rfl,hA⟩|⟨i,rfl,j,rfl,hj,hB⟩)
 ·go_wp2;exact⟨rfl,Aj ⟨rfl,hA⟩⟩
 ·have⟨m,u,y,M,D,b2,f0,f1,f2,hT⟩:=h j w1 hB;exact afS
theorem ad8(tid er:Nat)(ptr:Addr)(w:Aa)(x1:Int)(Q:Af)(n0 k0:Nat)(A:World->Prop)(I:Nat->World->Prop)(hn:n0<=6)(T:I 0 (w.alloc (Gb 114 x1 Q n0 k0)))
  (X:∀j w',j<n0->I j w'->∃g f h m y u,Q=some (Y g 0)/\EB w' g (j*3) (.int .u8 f)/\EB w' g (j*3+1) (Z h)/\EB w' g (j*3+2) (.slice m y u) /\
   ET 125 #[.agg #[.int .u8 f,Z h,.slice m y u],.iface tid (.pointer (some ptr))] (w'.alloc (.cells #[.int .u8 f,Z h,.slice m y u] 153)) (SE er A (I (j+1)))):
  ET 125 #[.agg #[.int .u8 114,Z x1,.slice Q n0 k0],.iface tid (.pointer (some ptr))] w (SE er A (I n0)):=by
 have⟨H0,D⟩:=FU T X;clear T X;go_enter func125,ntmps125;go_wp2;go_loopw [61] (λi wr=>∃k:Nat,k<=n0/\i=Z k/\I k wr) (λi _=>n0-(intOf i).toNat)
 case atStart=>exact⟨0,AV _,rfl,H0⟩
 case round=>
  obtain⟨k,hk,rfl,hIk⟩:=hrel;by_cases M:k<n0
  ·obtain⟨g,f,h,m,y,u,rfl,f0,f1,f2,hT⟩:=D k wr M hIk;exact afF
  ·obtain rfl:k=n0:=U;have HB:=Dx hIk;clear hIk;go_wp2
   go_end0
   exact Am ⟨rfl,HB⟩
theorem iP(tid er:Nat)(ptr:Addr)(w:Aa)(f g:Int)(h:Af)(u m n:Nat)(A:World->Prop)(I:Nat->World->Prop)(hn:n<=9)(M:I 0 (w.alloc (.cells #[.int .u8 f,Z g,.slice h u m] 153)))
  (Q:∀j w',j<n->I j w'->Kk w' w 0 (.int .u8 f)/\Kk w' w 1 (Z g)/\Kk w' w 2 (.slice h u m) /\
   ET 125 #[.agg #[.int .u8 f,Z g,.slice h u m],.iface tid (.pointer (some ptr))] w' (SE er A (I (j+1)))):
  ET 193 #[Z n,.agg #[.int .u8 f,Z g,.slice h u m],.iface tid (.pointer (some ptr))] w (SE er A (I n)):=by
 have⟨T,y⟩:=FU M Q;clear M Q;go_enter func193,ntmps193;go_wp2;go_loopw [7] (λi wr=>∃k:Nat,k<=n/\i=Z k/\I k wr) (λi _=>n-(intOf i).toNat)
 case atStart=>exact⟨0,AV _,rfl,T⟩
 case round=>
  obtain⟨k,hk,rfl,hIk⟩:=hrel;by_cases D:k<n
  ·have⟨f0,f1,f2,hT⟩:=y k wr D hIk;exact afF
  ·obtain rfl:k=n:=U;have HB:=Dx hIk;clear hIk;go_wp2
   go_end0
   exact Am ⟨rfl,HB⟩
end Go.Proofs.YtblomippkddgiaaGreatDoor.V
