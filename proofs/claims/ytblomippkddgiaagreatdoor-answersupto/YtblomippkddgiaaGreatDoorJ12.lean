import Derived.Test.YtblomippkddgiaaGreatDoorJ11
set_option maxRecDepth 100000
set_option maxHeartbeats 1000000
namespace Go.Proofs.YtblomippkddgiaaGreatDoor.V
open Go.Proofs.Tryz
open Go.RowKit
variable {w:World}
theorem GL{B B' n size:Nat}{e:Ag}{v:Ad}{xs:Ae}(h:w.ownsRow B e size v n xs)(hB:B'<=B):w.ownsRow B' e size v n xs:=by
 have⟨hl,h⟩:=h;refine⟨hl,?_⟩;rcases h with h|⟨g,cap,f,j,m,r⟩
 ·exact Aj h
 ·exact Am ⟨g,cap,f,j,U,r⟩
def Row(w:Aa)(B:Nat)(O:Ad)(v:List It):Prop:=w.ownsRow B 106 2 O v.length (flat v)
theorem uN(w:Aa)(m x1:Int)(g:Af)(en h:Nat)(S:Ab)(hn:70<S.size):
  ET 197 #[.agg #[.int .u8 m,Z x1,.slice g en h],.string S] w λe j=>e=EQ 5 0/\DY w j:=by
 have f:=Dx (λw=>Mf S.size w);rw[show decide (70<S.size)=true by simp[hn]]at f;clear hn;go_enter func197,ntmps197;go_wp2_with fail
 refine cs (f _) ?_;go_wp2;exact⟨rfl,rfl,F9⟩
theorem Q6(w:Aa)(m x1:Int)(g:Af)(en h:Nat)(l:Ac)(hn:¬70<l.length)
  (y:ET 125 #[.agg #[.int .u8 m,Z x1,.slice g en h],.iface 311 (.pointer (some ⟨w.heap.size+1,0,none⟩))] ((w.alloc (Gb m x1 g en h)).alloc (.cells #[.string (str l),Z 6,.slice none 0 0] 310)) λe j=>e=EQ 6 0/\DY w j):
  ET 197 #[.agg #[.int .u8 m,Z x1,.slice g en h],.string (str l)] w λe j=>e=EQ 6 0/\DY w j:=by
 have⟨f,u⟩:=FU y (λw=>Mf (str l).size w);rw[show decide (70<(str l).size)=false by rw[Er];simp;omega]at u;clear y hn;generalize str l=S at *;go_enter func197,ntmps197;go_wp2_with fail
 refine cs (u _) ?_;go_wp2_with fail
 refine cm f λD B=>?_
 go_wp2;exact⟨rfl,rfl,B⟩
theorem yU(b:Nat)(w:Aa)(h:EB w b 0 (.string (str []))):D7 69 #[.pointer (some (Y b 0))] w Ep λe=>w=e:=by
 go_enter func69,ntmps69;go_wp2
 go_end0
 exact⟨rfl,rfl⟩
theorem acW(b:Nat)(l:Ac)(w:Aa)(h:EB w b 0 (.string (str l)))(f:EB w b 1 (Z 6))(hl:¬l=[]):ET 69 #[.pointer (some (Y b 0))] w λe m=>e=EQ 6 0/\w=m:=by
 have g:(0:Int)<((str l).size:Int):=by
  rw[Er];have:=Cg.2 hl;omega
 have j:=Dx (RQ f);clear hl f;generalize str l=S at *;go_enter func69,ntmps69;go_wp2_with fail
 refine cs j ?_;go_wp2;exact⟨rfl,rfl,rfl⟩
structure aa1(w w':Aa)(l:Ac)(O:Ad)(v:List It):Prop where
 left:w'.cell? ⟨w.heap.size+1,0,none⟩=some (.string (str l))
 WC:w'.cell? ⟨w.heap.size+1,1,none⟩=some (Z 6)
 out:w'.cell? ⟨w.heap.size+1,2,none⟩=some O
 row:Row w' (w.heap.size+2) O v
 DG:Below w.heap.size w w'
theorem nJ(w:Aa)(T x1:Int)(y:Af)(en B:Nat)(l l':Ac)(v:List It)(hn:¬70<l.length)
  (X:D7 125 #[.agg #[.int .u8 T,Z x1,.slice y en B],.iface 311 (.pointer (some ⟨w.heap.size+1,0,none⟩))] ((w.alloc (Gb T x1 y en B)).alloc (.cells #[.string (str l),Z 6,.slice none 0 0] 310)) Ep λj=>∃O,aa1 w j l' O v):
  ET 197 #[.agg #[.int .u8 T,Z x1,.slice y en B],.string (str l)] w λe j=>(if l'=[] then ∃O,e=.returned O/\Row j (w.heap.size+2) O v else e=EQ 6 0)/\DY w j:=by
 have⟨h,m⟩:=FU X (λw=>Mf (str l).size w);rw[show decide (70<(str l).size)=false by rw[Er];simp;omega]at m;clear X hn;generalize str l=S at *;by_cases D:l'=[]
 ·subst D;simp only[CQ];go_enter func197,ntmps197;go_wp2_with fail
  refine cs (m _) ?_;go_wp2_with fail
  refine cm h ?_;rintro Q ⟨O,f⟩;have c1:=f.out;have⟨oa,on,oc,M⟩:=Ei f.row;subst M;have⟨u,HL⟩:=FU (yU (w.heap.size+1) Q f.left) f;clear f;go_wp2_with fail
  refine cm u λw2 g=>?_
  subst g;go_wp2
  go_ret
  exact⟨⟨_,rfl,HL.row⟩,HL.DG⟩
 ·simp only[D,if_false];go_enter func197,ntmps197;go_wp2_with fail
  refine cs (m _) ?_;go_wp2_with fail
  refine cm h ?_;rintro Q ⟨O,f⟩;have hb:=f.DG;have u:=Dx (acW (w.heap.size+1) l' Q f.left f.WC D);clear f;generalize str l'=S' at *;go_wp2_with fail
  refine cm u λw2 g=>?_
  subst g;go_wp2;exact⟨rfl,rfl,hb⟩
def MO(r:Option OJ)(l:Ac):Nat×List It:=if 70<l.length then (5,[]) else match r with
 |none=>(6,[])
 |some (l',v)=>if l'=[] then (0,v) else (6,[])
def qd(B:Nat)(Kw:Nat×List It)(e:Ending)(w':Aa):Prop:=if Kw.1=0 then ∃O,e=.returned O/\Row w' B O Kw.2 else e=EQ Kw.1 0
theorem pH{s:Ab}(S:Nat->Prop){c0 c1 c2:Ad}{l:Ac}(hR:NP w S (nx s) (s.size+1) 0 c0 c1 c2)(hO:N4 s (s.size+1) 0)(hd:Pt.Lj (nx s) (s.size+1) 0<=4):
  ET 197 #[.agg #[c0,c1,c2],.string (str l)] w λe w'=>qd w.heap.size (MO (Es Fx Il (nx s) (s.size+1) 0 (l,[])) l) e w'/\DY w w':=by
 obtain⟨⟨x0,rfl⟩,⟨x1,rfl⟩,⟨ea,en,ec,rfl⟩⟩:=GN hR;by_cases f:70<l.length
 ·refine(uN w x0 x1 ea en ec (str l) (by rw[Er];exact f)).mono ?_;rintro e w' ⟨rfl,hb⟩;refine⟨?_,hb⟩;simp[qd,MO,f]
 ·have j:DY w (w.alloc (Gb x0 x1 ea en ec)):=(AA w.heap.size w).alloc (Ar _) _;have Q:=GM ⟨j.size,λk _ hl=>j.block k hl⟩ hR;have hz:(w.alloc (Gb x0 x1 ea en ec)).heap.size=w.heap.size+1:=Ev;have T:RS (w.alloc (Gb x0 x1 ea en ec)) ((w.alloc (Gb x0 x1 ea en ec)).alloc (.cells #[.string (str l),Z 6,.slice none 0 0] 310)) l (.slice none 0 0) []:=by
   refine⟨?_,F9,AZ _ _ _ _⟩;unfold Rd;exact abR
  have hM:10 ^ Pt.Lj (nx s) (s.size+1) 0<=10 ^ 4:=CS Em hd;have m:=VI (Uy (w.alloc (Gb x0 x1 ea en ec))) s (s.size+1) 0 S _ _ _ Q hO _ 0 (l,[]) _ ⟨_,T,rfl,by simp only;omega,Ar _⟩ U;have u:(Jw (w.alloc (Gb x0 x1 ea en ec))).I=.iface 311 (.pointer (some ⟨w.heap.size+1,0,none⟩)):=by
   show Value.iface 311 (.pointer (some ⟨(w.alloc (Gb x0 x1 ea en ec)).heap.size,0,none⟩))=_;rw[hz]
  rw[u]at m;rw[show Es (Jw (w.alloc (Gb x0 x1 ea en ec))).num (Jw (w.alloc (Gb x0 x1 ea en ec))).IE (nx s) (s.size+1) 0 (l,[])=Es Fx Il (nx s) (s.size+1) 0 (l,[]) from rfl]at m;have hbb:∀w',Below (w.alloc (Gb x0 x1 ea en ec)).heap.size (w.alloc (Gb x0 x1 ea en ec)) w'->DY w w':=λw' h=>j.trans (h.mono U)
  cases hr:Es Fx Il (nx s) (s.size+1) 0 (l,[]) with
  |none=>
   rw[hr]at m;refine(Q6 w x0 x1 ea en ec l f (m.mono ?_)).mono ?_
   ·exact acs
   grind [qd,MO]
  |some a=>
   have⟨B,v⟩:=a;rw[hr]at m;have HL:D7 125 #[.agg #[.int .u8 x0,Z x1,.slice ea en ec],.iface 311 (.pointer (some ⟨w.heap.size+1,0,none⟩))] ((w.alloc (Gb x0 x1 ea en ec)).alloc (.cells #[.string (str l),Z 6,.slice none 0 0] 310)) Ep λw'=>∃O,aa1 w w' B O v:=by
    refine m.mono ?_;rintro e w' (⟨rfl,hx,_⟩|⟨rfl,x',hx,c',O',_,⟨Ov,g,_⟩,_⟩)
    ·cases hx
    ·cases hx;have X:=g.rd.left;have h2:=g.rd.Gz;have h4:=g.rd.WC;have h3:=g.own;rw[hz]at X h2 h3 h4;exact⟨rfl,Ov,X,h4,h2,h3,hbb w' g.DG⟩
   refine(nJ w x0 x1 ea en ec l B v f HL).mono ?_;rintro e w' ⟨M,hb⟩;refine⟨?_,hb⟩;by_cases D:B=[]
   ·rw[Ay D]at M;obtain⟨O,rfl,y⟩:=M;have:MO (some (B,v)) l=(0,v):=by simp[MO,f,D]
    rw[this];exact⟨O,rfl,GL y U⟩
   ·rw[Ao D]at M;subst M;have:MO (some (B,v)) l=(6,[]):=by simp[MO,f,D]
    rw[this];rfl
def I8(s:Ab)(l:Ac):Nat×List It:=if (Pt.O7 (nx s) s.size).1=0 then MO (Es Fx Il (nx s) (s.size+1) 0 (l,[])) l else ((Pt.O7 (nx s) s.size).1,[])
theorem My(w:Aa)(B:Nat):Row w B (.slice none 0 0) []:=AZ _ _ _ _
end Go.Proofs.YtblomippkddgiaaGreatDoor.V
namespace Go.Proofs.YtblomippkddgiaaGreatDoor.R
open Go.Proofs.Tryz
def JS(w:Wd)(DJ DZ:Int):Wd:=Eh w DJ DZ {Ia w DJ DZ with El:=w.c.Ew,DW:=w.c.DW}
def LP(w:Wd)(DJ:Int)(p:Pk):Wd:=
 let l:=Ia w DJ p.DZ
 E9 w (-1) ⟨6,DJ,Qj w DJ,p.DZ,l.D4,l.D5,p.Ez,p.off,false,[]⟩
def IL(w:Wd)(DJ:Int)(p:Pk):Wd:=
 let l:=Ia w DJ p.DZ
 let n:=DL l.DC
 if l.Ea<n-1\/l.DT<p.Ez then w
 else if p.Ez=l.DT then
  if l.DT+1=p.off then Eh w DJ p.DZ {l with EK:=l.EK++p.Ef,DT:=l.DT+1,Ea:=n,DU:=(V.I8 l.to (l.EK++p.Ef)).2,DK:=2}
  else JS (LP (Eh w DJ p.DZ {l with EK:=l.EK++p.Ef,DT:=l.DT+1,Ea:=n}) DJ p) DJ p.DZ
 else LP w DJ p
def Kl(w:Wd)(DJ:Int)(p:Pk):Wd:=
 let l:=Ia w DJ p.DZ
 if l.DK≠1\/p.DR≠Qj w DJ\/p.D4≠l.D4 then w
 else if p.Dz=2 then
  if p.Ez=l.Ea then
   let w1:=Eh w DJ p.DZ {l with Ea:=l.Ea+1}
   JS (if l.Ea+1<DL l.DC then EG w1 DJ p.DZ false else w1) DJ p.DZ
  else w
 else if p.Dz=4 then JS w DJ p.DZ
 else if p.Dz=5 then IL w DJ p
 else if p.Dz=7 then Eh w DJ p.DZ {l with DK:=4+p.Ez}
 else w
def G8(w:Wd)(p:Pk)(Dz k of':Int):Wd:=E9 w p.DJ ⟨Dz,p.DJ,p.DR,p.DZ,p.D4,p.D5,k,of',false,[]⟩
def JF(w:Wd)(i:Nat):Wd:=
 let w1:=Ex w i
 let r:=EZ w1 i
 EA w1 i {r with E1:=decide (8*r.at'+8<(r.DU.length:Int)),El:=w.c.Ew,DW:=w.c.DW}
def Js(w:Wd)(D5:Int):Bool:=decide (1<=D5)&&((w.Dy[(D5-1).toNat]?).map (·.Fj)).getD false
def FE(w:Wd):Nat:=(w.DN.filter λr=>decide (0<r.D4)).length
def Mi(w:Wd)(p:Pk):Wd:=if p.Fs=true then G8 w p 2 p.Ez p.off else w
def Gy(w:Wd)(i:Nat)(p:Pk):Wd:=
 let r:=EZ w i
 if p.Ez=r.DT then
  if p.Ez=p.off-1 then
   if w.c.FF<=(w.EF.length:Int) then w
   else Mi {EA w i {r with DK:=2,DC:=r.DC++p.Ef,DT:=r.DT+1} with EF:=w.EF++[⟨p.DJ,p.DZ,p.DR,p.D4,p.D5⟩]} p
  else Mi (EA w i {r with DC:=r.DC++p.Ef,DT:=r.DT+1}) p
 else Mi w p
def Hl(w:Wd)(i:Nat)(p:Pk):Wd:=
 let r:=EZ w i
 if r.DK=1 then (if p.Dz=1/\p.Ez<=r.DT then Gy w i p else w)
 else if r.DK=4 then G8 w p 7 0 2
 else if p.Fs=false then w
 else if r.DK=3 then JF w i
 else if p.Dz=3 then G8 w p 4 0 1
 else G8 w p 2 p.Ez p.off
def Ib(w:Wd)(p:Pk):Wd:=
 if (w.DX.getD p.DJ.toNat 0)<p.DR then {w with DX:=w.DX.set p.DJ.toNat p.DR,DN:=((w.DN.set (3*p.DJ.toNat) Ic).set (3*p.DJ.toNat+1) Ic).set (3*p.DJ.toNat+2) Ic} else w
def N0(w:Wd)(i:Nat)(p:Pk):Wd:=
 let r:=EZ w i
 if p.Dz=6 then
  if r.D4=p.D4/\r.DK=3/\p.off=DL r.DU/\p.Ez=r.at'/\r.at'<DL r.DU-1 then JF (EA w i {r with at':=r.at'+1}) i else w
 else if r.D4=p.D4 then Hl w i p
 else if p.D4<r.D4 then w
 else if Js w p.D5=false then G8 w p 7 0 2
 else if p.Dz=3\/p.Ez≠0 then w
 else if r.D4=0/\w.c.FF<=(FE w:Int) then G8 w p 7 1 2
 else Hl (EA w i {Ic with D4:=p.D4,D5:=p.D5,DK:=1}) i p
def KB(w:Wd)(p:Pk):Wd:=
 if p.DR<w.DX.getD p.DJ.toNat 0 then w else N0 (Ib w p) (3*p.DJ.toNat+p.DZ.toNat) p
def Fv(w:Wd)(i:Int):Int×Wd:=if off w i then (9,w) else match w.Ej[i.toNat]? with
 |none=>(9,w)
 |some f=>
  let w1:={w with Ej:=w.Ej.eraseIdx i.toNat}
  (0,if f.Ij=true then w1 else match Ih f.s with
   |none=>w1
   |some p=>if f.to=-1 then KB w1 p else Kl w1 f.to p)
def IJ(v:List It)(k:Nat):Int:=((v[k]?).map (·.1)).getD 0
def Tt(v:List It)(k:Nat):ByteArray:=((v[k]?).map (·.2)).getD ⟨#[]⟩
def Fh:List En->Int->Int
 |[],n=>n
 |e :: es,n=>Fh es (if e.Eo=0 then (n+IJ e.arg 0+65536) % 65536 else if IJ e.arg 0=1 then 0 else n)
def Fe(l:List En):List ByteArray:=
 let out:=(l.filter λe=>decide (e.Eo=0)).map λe=>Tt e.arg 0
 out.drop (out.length-4)
def I6:List En->Int->List It->List It
 |[],_,MP=>MP
 |e :: es,d,MP=>I6 es d (if IJ e.arg 0=d then e.arg.drop 2 else MP)
def num(n:Int):It:=(n,⟨#[]⟩)
def Hw(Dz:Int)(l:List En)(Eo:Int)(arg:List It):List It:=
 if Dz=0 then [num (if Eo=0 then (Fh l 0+IJ arg 0+65536) % 65536 else Fh l 0)]
 else if Dz=1 then
  if Eo=0 then [num (min 4 (((Fe l).length:Int)+1))]
  else let b:=(Fe l).take (IJ arg 0).toNat;num b.length :: b.map λs=>(0,s)
 else
  let MP:=I6 l (IJ arg 0) []
  if MP.length=0 then [num 0,num 0] else num 1 :: num MP.length :: MP
def Oa(w:Wd)(i:Nat):Wd:=
 let r:=EZ w i
 let k:=(r.D5-1).toNat
 let s:=(w.Dy[k]?).getD ⟨0,false,[]⟩
 let Eo:=256*((r.DC.getD 0 0).toNat:Int)+((r.DC.getD 1 0).toNat:Int)
 let t:=(IY s.Dz Eo).getD (⟨#[]⟩,⟨#[]⟩)
 let arg:=(V.I8 t.1 (r.DC.drop 2)).2
 let out:=Hw s.Dz s.log Eo arg
 let w1:={w with Dy:=w.Dy.set k {s with log:=s.log++[⟨((i / 3:Nat):Int),w.DX.getD (i / 3) 0,((i % 3:Nat):Int),r.D4,Eo,arg,out⟩]}}
 JF (EA w1 i {r with DK:=3,DU:=(Fi t.2 out).getD [],at':=0}) i
def Km(w:Wd)(j:Jb):Prop:=(EZ w (3*j.DJ.toNat+j.DZ.toNat)).DK=2/\(EZ w (3*j.DJ.toNat+j.DZ.toNat)).D4=j.D4/\w.DX.getD j.DJ.toNat 0=j.DR
instance (w:Wd) (j:Jb):Decidable (Km w j):=by unfold Km;infer_instance
def Hy(w:Wd):List Jb->Int×Wd
 |[]=>(19,{w with EF:=[]})
 |j :: js=>if Km w j then (0,Oa {w with EF:=js} (3*j.DJ.toNat+j.DZ.toNat)) else Hy w js
def FQ(w:Wd):Int×Wd:=Hy w w.EF
def LY(w:Wd)(D5:Int):Prop:=1<=D5/\D5<=(w.Dy.length:Int)
instance (w:Wd) (D5:Int):Decidable (LY w D5):=by unfold LY;infer_instance
def Ol(w:Wd)(D5:Int):List En:=((w.Dy[(D5-1).toNat]?).map (·.log)).getD []
def MJ(w:Wd)(D5:Int):Int×Int:=if LY w D5 then ((Ol w D5).length,0) else (0,9)
def Fq(w:Wd)(D5 k:Int):Option En:=if LY w D5/\0<=k then (Ol w D5)[k.toNat]? else none
end Go.Proofs.YtblomippkddgiaaGreatDoor.R
namespace Go.Proofs.YtblomippkddgiaaGreatDoor.V
open Go.Proofs.Tryz
open Go.RowKit
variable {hi lo:Int}{k1 k2:List Bool}{v:List It}{E:Nat→List It→GB}
def Jf(x:OJ):Option OJ:=match x.1 with
 |a :: c :: r=>if E5 a c<=14/\E5 a c+E5 a c % 2<=r.length then some (r.drop (E5 a c+E5 a c % 2),x.2++[(0,str (r.take (E5 a c)))]) else none
 |_=>none
structure Two(E:List It->GB)(G:OJ->Option OJ)(l:Ac)(it:List It)(l':Ac)(it':List It)(v:List It)(ks:List Bool)(pre:Ac):Prop where
 Gz:it'=it++v
 bytes:l=pre++l'
 IG:∀rest,E (v++rest)=some (ks,rest)
 same:ks.length=v.length
 len:pre.length=(Et ks v).length
 back:G (l,it)=if pre=Et ks v then some (l',it') else none
def kE(E:List It->GB)(F G:OJ->Option OJ):Prop:=∀l it,(F (l,it)=none->G (l,it)=none)/\∀l' it',F (l,it)=some (l',it')->∃v ks pre,Two E G l it l' it' v ks pre
theorem Vg:∀(e:List Bool) (v u:List It),e.length=v.length->Et e (v++u)=Et e v:=by
 intro e;induction e with
 |nil=>intro v u _;simp[Et]
 |cons k e ih=>
  intro v u h;cases v with
  |nil=>simp at h
  |cons x v=>
   simp only[BB,Et];rw[ih v u (by simpa using h)]
theorem tF{F G:Nat->OJ->Option OJ}:∀f:List Nat,(∀q∈f,kE (E q) (F q) (G q))->kE (E6 E f) (Gt F f) (Gt G f):=by
 intro f;induction f with
 |nil=>
  intro _ l it;refine⟨λh=>by simp[Gt]at h,λB g h=>?_⟩;simp only[Gt,Option.some.injEq,Prod.mk.injEq]at h;obtain⟨rfl,rfl⟩:=h;exact⟨[],[],[],Ev,Ev,λrest=>rfl,rfl,rfl,by simp[Gt,Et]⟩
 |cons q f ih=>
  intro Q l it;have D:=Q q (Co ..) l it;have y:=ih (λq' h=>Q q' (BQ _ h));simp only[Gt];cases hF:F q (l,it) with
  |none=>exact⟨λ_=>by rw[D.1 hF];rfl,λB g h=>by simp at h⟩
  |some x1=>
   have⟨l1,j⟩:=x1;have⟨u,k1,T,e⟩:=D.2 l1 j hF;have M:=y l1 j;refine⟨λh=>?_,λB g h=>?_⟩
   ·rw[e.back];split
    ·exact M.1 h
    ·rfl
   ·have⟨w,k2,X,m⟩:=M.2 B g h;have O:Et (k1++k2) (u++w)=Et k1 u++Et k2 w:=by
     rw[LM _ _ _ (by rw[AJ,e.same];omega),e.same,List.drop_left];rw[Vg k1 u w e.same]
    refine⟨u++w,k1++k2,T++X,by rw[m.Gz,e.Gz,Bs],by rw[e.bytes,m.bytes,Bs],λrest=>?_,by simp[e.same,m.same],by rw[O,AJ,AJ,e.len,m.len],?_⟩
    ·simp only[E6,Bs,e.IG,m.IG,Gu]
    ·rw[e.back,O];by_cases e1:T=Et k1 u
     ·rw[Ay e1];show Gt G f (l1,j)=_;rw[m.back];by_cases e2:X=Et k2 w
      ·rw[Ay e2,Ay (by rw[e1,e2])]
      ·rw[Ao e2,Ao (λh=>e2 (List.append_inj h e.len).2)]
     ·rw[Ao e1,Ao (λh=>e1 (List.append_inj h e.len).1)];rfl
theorem Ww(a c:UInt8)(t:Int)(h:t=(E5 a c:Int)\/t=(E5 a c:Int)-65536):EU t=[a,c]:=by
 have e:=a.toNat_lt;have hc:=c.toNat_lt;unfold E5 at h;have e1:t % 65536 / 256=(a.toNat:Int):=U;have e2:t % 256=(c.toNat:Int):=U;unfold EU;rw[e1,e2];simp[b8]
theorem pE(lo hi n:Int):Ht lo hi n=n\/Ht lo hi n=n-65536:=by
 unfold Ht;split
 ·exact Am rfl
 ·exact Aj rfl
theorem tC(E:List It->GB)(w:Int->List It->GB)(F G:Int->OJ->Option OJ)
  (D:∀t rest,lo<=t->t<=hi->E ((t,⟨#[]⟩) :: rest)=Gu [false] (w t rest))
  (h:∀t,lo<=t->t<=hi->kE (w t) (F t) (G t)):
  kE E (λx=>(Fx lo hi x).bind λr=>F r.1 r.2) (λx=>(Fx lo hi x).bind λr=>G r.1 r.2):=by
 intro l it;match l with
 |[]=>exact⟨λ_=>rfl,λm e h=>by simp[Fx]at h⟩
 |[a]=>exact⟨λ_=>rfl,λm e h=>by simp[Fx]at h⟩
 |a :: c :: r=>
  have f:Fx lo hi (a :: c :: r,it)=if Ht lo hi (E5 a c)<lo\/hi<Ht lo hi (E5 a c) then none else some (Ht lo hi (E5 a c),(r,it++[(Ht lo hi (E5 a c),⟨#[]⟩)])):=rfl
  have B:=Ww a c (Ht lo hi (E5 a c)) (pE lo hi _);generalize Ht lo hi (E5 a c)=t at f B;by_cases y:t<lo\/hi<t
  ·rw[Ay y]at f;simp only[f];exact⟨λ_=>rfl,λ_ _ h=>by simp at h⟩
  ·rw[Ao y]at f;simp only[f,Di];have⟨O,Q⟩:=h t U U r (it++[(t,⟨#[]⟩)]);refine⟨O,λm e M=>?_⟩;have⟨v,j,u,T⟩:=Q m e M;have g:Et (false :: j) ((t,⟨#[]⟩) :: v)=a :: c :: Et j v:=by simp[Et,KL,B]
   refine⟨(t,⟨#[]⟩) :: v,false :: j,a :: c :: u,by rw[T.Gz,Bs];rfl,by rw[T.bytes];rfl,λrest=>?_,by simp[T.same],by rw[g];simp[T.len],?_⟩
   ·rw[BB,D t _ U U,T.IG];rfl
   ·rw[g];simp only[f,Di];rw[T.back];simp
theorem tG(E:List It->GB)(M:∀x rest,x.1=0->x.2.size<=14->E (x :: rest)=some ([true],rest)):kE E Jf Il:=by
 intro l it;match l with
 |[]=>exact⟨λ_=>rfl,λB e h=>by simp[Jf]at h⟩
 |[a]=>exact⟨λ_=>rfl,λB e h=>by simp[Jf]at h⟩
 |a :: c :: r=>
  have f:Jf (a :: c :: r,it)=if E5 a c<=14/\E5 a c+E5 a c % 2<=r.length then some (r.drop (E5 a c+E5 a c % 2),it++[(0,str (r.take (E5 a c)))]) else none:=rfl
  have g:Il (a :: c :: r,it)=if E5 a c<=14/\E5 a c<=r.length then
   (if E5 a c % 2=0 then some (r.drop (E5 a c),it++[(0,str (r.take (E5 a c)))])
    else match r.drop (E5 a c) with
    |p :: r'=>if p=0 then some (r',it++[(0,str (r.take (E5 a c)))]) else none
    |[]=>none)
   else none:=rfl
  have T:=Ww a c (E5 a c) (Aj rfl);generalize E5 a c=n at f g T;by_cases h:n<=14/\n+n % 2<=r.length
  ·rw[Ay h]at f;rw[Ay ⟨h.1,U⟩]at g;refine⟨λh=>(by rw[f]at h;cases h),λB e w=>?_⟩;rw[f]at w;cases w;have m:(str (r.take n)).size=n:=by grind [Er]
   have O:Et [true] [(0,str (r.take n))]=a :: c :: (r.take n++if n % 2=1 then [0] else []):=by grind [Et,KL]
   refine⟨[(0,str (r.take n))],[true],a :: c :: r.take (n+n % 2),rfl,by simp[List.take_append_drop],λrest=>M _ rest rfl (by rw[m];exact h.1),rfl,?_,?_⟩
   ·grind
   ·rw[g,O];by_cases y:n % 2=0
    ·simp[y]
    ·have D:n % 2=1:=U;rw[Ao y];cases hd:r.drop n with
     |nil=>grind
     |cons p r'=>
      have FU:r.drop (n+1)=r':=by rw[<-CF,hd];rfl
      have Q:r[n]?=some p:=by
       have:=Cn (xs:=r) (i:=n) (j:=0)
       grind
      have u:r.take (n+1)=r.take n++[p]:=by
       rw[Bh,Q];rfl
      rw[D,FU,u];simp
  grind [List.drop_of_length_le]
def Ir(g:Nat->Nat)(f p:Nat)(t:Int):List Nat:=if g p=117 then [Gj (Pt.EW g f p) t] else if g p=113 then List.replicate t.toNat (p+2) else []
theorem KR{σ:Type}(num:Int->Int->σ->Option (Int×σ))(IE:σ->Option σ)(g:Nat->Nat)(f p:Nat)(e:¬g p=115)(h:¬g p=97)(j:¬g p=114):
  Es num IE g (f+1) p=λx=>(num (FZ (g p)) (FD g f p) x).bind λr=>Gt (Es num IE g f) (Ir g f p r.1) r.2:=by
 funext x;simp only[Es,Ao e,Ao h,Ao j,Ir];congr 1;funext r;split
 ·simp only[Gt]
  grind
 ·split
  ·rfl
  ·rfl
theorem tv(g:Nat->Nat):∀f p,kE (Hg g f p) (Es Fx Jf g f p) (Es Fx Il g f p):=by
 intro f;induction f with
 |zero=>intro p l it;exact⟨λ_=>rfl,λ_ _ h=>by simp[Es]at h⟩
 |succ f ih=>
  intro p;have m:=λB=>tF (E:=Hg g f) (F:=Es Fx Jf g f) (G:=Es Fx Il g f) B (λq _=>ih q)
  by_cases e:g p=115
  ·have e1:Es Fx Jf g (f+1) p=Jf:=by funext x;simp[Es,e]
   have e2:Es Fx Il g (f+1) p=Il:=by funext x;simp[Es,e]
   rw[e1,e2];refine tG _ λx rest u j=>?_
   have hh:EO g f p (x :: rest)=some ([true],[],rest):=by simp[EO,e,u,j]
   rw[H9 hh];rfl
  ·by_cases ha:g p=97
   ·have e1:∀IE,Es Fx IE g (f+1) p=Gt (Es Fx IE g f) (List.replicate (g (p+1)-48) (p+2)):=by intro IE;funext x;simp[Es,ha]
    have e2:Hg g (f+1) p=E6 (Hg g f) (List.replicate (g (p+1)-48) (p+2)):=by
     exact abN
    rw[e1,e1,e2];exact m _
   ·by_cases hr:g p=114
    ·have e1:∀IE,Es Fx IE g (f+1) p=Gt (Es Fx IE g f) (Pt.EW g f p):=by intro IE;funext x;simp[Es,hr]
     have e2:Hg g (f+1) p=E6 (Hg g f) (Pt.EW g f p):=by
      exact ab3
     rw[e1,e1,e2];exact m _
    ·rw[KR _ _ _ _ _ e ha hr,KR _ _ _ _ _ e ha hr];refine tC _ (λt=>E6 (Hg g f) (Ir g f p t)) _ _ (λt rest w y=>?_) λt _ _=>m _
     have hh:EO g f p ((t,⟨#[]⟩) :: rest)=some ([false],Ir g f p t,rest):=by
      simp only[EO,Ao ha,Ao hr,Ao e,Ir];rw[Ay ⟨rfl,w,y⟩]
     rw[H9 hh]
def Ret(E:List It->GB)(G:OJ->Option OJ):Prop:=∀v ks r,E v=some (ks,r)->IK ks v->∀e it,G (Et ks v++e,it)=some (e,it++v.take ks.length)
theorem eP(h:IK (k1++k2) v):IK k1 v:=by grind [IK]
theorem Za(h:IK (k1++k2) v):IK k2 (v.drop k1.length):=by grind [IK]
theorem zV{G:Nat->OJ->Option OJ}:∀f:List Nat,(∀q∈f,Mk (E q))->(∀q∈f,Ret (E q) (G q))->Ret (E6 E f) (Gt G f):=by
 intro f;induction f with
 |nil=>grind [Ret,E6,Gt,Et]
 |cons q f ih=>
  intro j u v w r h m e it;simp only[E6]at h;cases hE:E q v with
  |none=>rw[hE]at h;cases h
  |some a=>
   have⟨k1,g⟩:=a;rw[hE]at h;simp only at h;cases hS:E6 E f g with
   |none=>rw[hS]at h;cases h
   |some a=>
    have⟨k2,y⟩:=a;rw[hS]at h;simp only[Gu,Option.some.injEq,Prod.mk.injEq]at h
    grind [Mk,Ret,Gt,LM,eP,Za]
theorem VY(n:Int):∃a c:UInt8,EU n=[a,c]/\(E5 a c:Int)=n % 65536:=by
 refine⟨_,_,rfl,?_⟩
 grind [FP,E5]
theorem zW(E:List It->GB)(u:∀v f r,E v=some (f,r)->∃x,v=x :: r/\f=[true]/\x.1=0/\x.2.size<=14):Ret E Il:=by
 intro v f r h _ e it;obtain⟨x,rfl,rfl,j,m⟩:=u v f r h;have⟨a,c,w,hn⟩:=VY (x.2.size:Int);have g:E5 a c=x.2.size:=U;have y:Et [true] (x :: r)=a :: c :: (x.2.data.toList++(if x.2.size % 2=1 then [0] else [])):=by grind [Et,KL]
 have hl:x.2.data.toList.length=x.2.size:=Ev;have B:(0,str x.2.data.toList)=x:=by
  have⟨D,x1⟩:=x;simp only at j;subst j;simp
 rw[y];simp only[BB,Il,g]
 grind
theorem zU(aa:lo=0\/(lo=-32768/\hi=32767))(E:List It->GB)(M:Int->List It->GB)(G:Int->OJ->Option OJ)
  (Q:∀v m r,E v=some (m,r)->∃x g f,v=x :: g/\m=false :: f/\x.2.size=0/\lo<=x.1/\x.1<=hi/\M x.1 g=some (f,r)) (h:∀t,Ret (M t) (G t)):
  Ret E (λx=>(Fx lo hi x).bind λr=>G r.1 r.2):=by
 intro v m r w O e it;obtain⟨x,g,f,rfl,rfl,j,ab,X,u⟩:=Q v m r w;have⟨a,c,D,hn⟩:=VY x.1;have hr:=(O 0 false x rfl rfl).2 rfl;have ht:Ht lo hi (E5 a c)=x.1:=by grind [Ht]
 have T:Et (false :: f) (x :: g)=a :: c :: Et f g:=by
  simp[Et,KL,D]
 have hx:(x.1,(⟨#[]⟩:Ab))=x:=by
  have⟨x0,x1⟩:=x;simp only at j;have:x1=⟨#[]⟩:=by
   apply CJ;apply Array.eq_empty_of_size_eq_zero;exact j
  rw[this]
 rw[T];simp only[BB,Fx,ht];rw[Ao U,hx];simp only[Di];have B:IK f g:=λi k y hk hy=>O (i+1) k y (by simpa using hk) (by simpa using hy)
 rw[h x.1 g f r u B e (it++[x])];simp
theorem zT(g:Nat->Nat):∀f p,Ret (Hg g f p) (Es Fx Il g f p):=by
 intro f;induction f with
 |zero=>intro p v u r h;simp[Hg]at h
 |succ f ih=>
  intro p;have j:=λy=>zV (E:=Hg g f) (G:=Es Fx Il g f) y (λq _=>Hs g f q) (λq _=>ih q)
  by_cases ha:g p=97
  ·have e1:Es Fx Il g (f+1) p=Gt (Es Fx Il g f) (List.replicate (g (p+1)-48) (p+2)):=by funext x;simp[Es,ha]
   have e2:Hg g (f+1) p=E6 (Hg g f) (List.replicate (g (p+1)-48) (p+2)):=by
    exact abN
   rw[e1,e2];exact j _
  ·by_cases hr:g p=114
   ·have e1:Es Fx Il g (f+1) p=Gt (Es Fx Il g f) (Pt.EW g f p):=by funext x;simp[Es,hr]
    have e2:Hg g (f+1) p=E6 (Hg g f) (Pt.EW g f p):=by
     exact ab3
    rw[e1,e2];exact j _
   ·by_cases m:g p=115
    ·have e1:Es Fx Il g (f+1) p=Il:=by funext x;simp[Es,m]
     rw[e1];refine zW _ λv u r h=>?_
     cases v with
     |nil=>simp[Hg,EO,ha,hr]at h
     |cons x v=>grind [Hg,E6,EO,Gu]
    ·rw[KR _ _ _ _ _ m ha hr];have e:FZ (g p)=0\/(FZ (g p)=-32768/\FD g f p=32767):=by grind [FZ,FD]
     refine zU e _ (λt=>E6 (Hg g f) (Ir g f p t)) (λt=>Gt (Es Fx Il g f) (Ir g f p t)) (λv u r h=>?_) λt=>j _
     cases v with
     |nil=>simp[Hg,EO,ha,hr]at h
     |cons x v=>
      by_cases w:x.2.size=0/\FZ (g p)<=x.1/\x.1<=FD g f p
      ·have hh:EO g f p (x :: v)=some ([false],Ir g f p x.1,v):=by grind [EO,Ir]
       rw[H9 hh]at h;cases hS:E6 (Hg g f) (Ir g f p x.1) v with
       |none=>rw[hS]at h;cases h
       |some a=>grind [Gu]
      grind [EO,La]
def Ext(G:OJ->Option OJ):Prop:=∀l it l' it',G (l,it)=some (l',it')->∀e,G (l++e,it)=some (l'++e,it')
theorem jC{G:Nat->OJ->Option OJ}:∀g:List Nat,(∀q∈g,Ext (G q))->Ext (Gt G g):=by
 intro g;induction g with
 |nil=>grind [Ext,Gt]
 |cons q g ih=>
  intro m l it w j h e;simp only[Gt]at h ⊢;cases hG:G q (l,it) with
  |none=>rw[hG]at h;cases h
  |some a=>
   have⟨l1,f⟩:=a;rw[hG]at h;rw[m q (Co ..) l it l1 f hG e];exact ih (λy u=>m y (BQ _ u)) l1 f w j h e
theorem yW(G:Int->OJ->Option OJ)(h:∀t,Ext (G t)):Ext (λx=>(Fx lo hi x).bind λr=>G r.1 r.2):=by
 intro l it j g f e;match l with
 |[]=>simp[Fx]at f
 |[a]=>simp[Fx]at f
 |a :: c :: r=>grind [Ext,Fx]
theorem yX:Ext Il:=by
 intro l it h g f e;match l with
 |[]=>simp[Il]at f
 |[a]=>simp[Il]at f
 |a :: c :: r=>
  simp only[Il,BB]at f ⊢
  grind
theorem yV(g:Nat->Nat):∀f p,Ext (Es Fx Il g f p):=by
 intro f;induction f with
 |zero=>intro p l it B u h;simp[Es]at h
 |succ f ih=>
  intro p;have y:=λw=>jC (G:=Es Fx Il g f) w (λq _=>ih q)
  by_cases m:g p=115
  ·exact wF
  ·by_cases e:g p=97
   ·exact wF
   ·by_cases j:g p=114
    ·exact wF
    ·rw[KR _ _ _ _ _ m e j];exact yW _ λt=>y _
theorem aaV(s:Ab)(v:List It)(f:List Bool)(hc:(Pt.O7 (nx s) s.size).1=0)(M:Hg (nx s) (s.size+1) 0 v=some (f,[]))(y:Vz f v)(hl:(Et f v).length<=70):
  I8 s (Et f v)=(0,v)/\(∀l b,Et f v=l++[b]->I8 s l=(6,[]))/\I8 s (Et f v++[0])=(if (Et f v).length=70 then 5 else 6,[]):=by
 have g:=λe=>zT (nx s) (s.size+1) 0 v f [] M y.2 e []
 have u:v.take f.length=v:=A7 (by rw[y.1];exact Ar _);simp only[u,Cc]at g;have D:=yV (nx s) (s.size+1) 0;have X:¬70<(Et f v).length:=U;refine⟨?_,λl b j=>?_,?_⟩
 ·have h:=g []
  grind [I8,MO]
 ·have m:¬70<l.length:=by grind
  simp only[I8,hc,CQ,MO,Ao m];cases hr:Es Fx Il (nx s) (s.size+1) 0 (l,[]) with
  |none=>rfl
  |some a=>
   have⟨O,Q⟩:=a;by_cases w:O=[]
   ·subst w;have B:=D l [] [] Q hr [b];rw[<-j]at B;have T:=g []
    grind
   ·simp[w]
 grind [I8,MO]
end Go.Proofs.YtblomippkddgiaaGreatDoor.V
