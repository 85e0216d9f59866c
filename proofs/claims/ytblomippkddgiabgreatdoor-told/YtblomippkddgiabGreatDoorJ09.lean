import Derived.Test.YtblomippkddgiabGreatDoorJ08
set_option maxRecDepth 100000
set_option maxHeartbeats 1000000
namespace Go.Proofs.YtblomippkddgiabGreatDoor.V
open Go.RowKit
theorem EU{w:World}{B B' n size:Nat}{e:TypeId}{v:Value}{xs:List Value}(h:w.ownsRow B e size v n xs)(hB:B'<=B):w.ownsRow B' e size v n xs:=by
 obtain⟨hl,h⟩:=h;refine⟨hl,?_⟩;rcases h with h|⟨g,cap,aa,hv,hg,r⟩
 ·exact afJ h
 ·exact afM ⟨g,cap,aa,hv,by omega,r⟩
def Row(w:World)(B:Nat)(O:Value)(v:List It):Prop:=w.ownsRow B 73 2 O v.length (flat v)
theorem Zq(w:World)(x0 x1:Int)(ea:Option Addr)(en ec:Nat)(S:ByteArray)(hn:70<S.size):
  Calls Tryz.prog 181 #[.agg #[.int .u8 x0,.int .i64 x1,.slice ea en ec],.string S] w fun e w'=>e=Az 5 0/\Below w.heap.size w w':=by
 have HB:=Ac (fun w=>Fz S.size w);rw[show decide (70<S.size)=true by simp[hn]]at HB;clear hn;go_enter Tryz.func181,Tryz.ntmps181;go_wp2_with fail
 refine((Aa HB) _).mono ?_;rintro e w1 ⟨rfl,rfl⟩;go_wp2;exact⟨rfl,rfl,(Below.refl _ _).alloc (afI _) _⟩
theorem KH(w:World)(x0 x1:Int)(ea:Option Addr)(en ec:Nat)(l:List UInt8)(hn:¬70<l.length)
  (HK:Calls Tryz.prog 225 #[.agg #[.int .u8 x0,.int .i64 x1,.slice ea en ec],.iface 307 (.pointer (some ⟨w.heap.size+1,0,none⟩))] ((w.alloc (Bf x0 x1 ea en ec)).alloc (.cells #[.string (str l),.int .i64 6,.slice none 0 0] 306)) fun e w'=>e=Az 6 0/\Below w.heap.size w w'):
  Calls Tryz.prog 181 #[.agg #[.int .u8 x0,.int .i64 x1,.slice ea en ec],.string (str l)] w fun e w'=>e=Az 6 0/\Below w.heap.size w w':=by
 have aa:=Ac HK;have HB:=Ac (fun w=>Fz (str l).size w);rw[show decide (70<(str l).size)=false by rw[Ax];simp;omega]at HB;clear HK hn;generalize str l=S at *;go_enter Tryz.func181,Tryz.ntmps181;go_wp2_with fail
 refine((Aa HB) _).mono ?_;rintro e w1 ⟨rfl,rfl⟩;go_wp2_with fail
 refine(Aa aa).mono ?_;rintro e w1 ⟨rfl,hb⟩;go_wp2;exact⟨rfl,rfl,hb⟩
theorem aaI(b:Nat)(w:World)(h:w.cell? ⟨b,0,none⟩=some (.string (str []))):Calls Tryz.prog 155 #[.pointer (some ⟨b,0,none⟩)] w fun e w'=>e=.returned (.tuple #[])/\w=w':=by
 go_enter Tryz.func155,Tryz.ntmps155;go_wp2
 go_end0
 exact⟨rfl,rfl⟩
theorem acf(b:Nat)(l:List UInt8)(w:World)(h:w.cell? ⟨b,0,none⟩=some (.string (str l)))(h1:w.cell? ⟨b,1,none⟩=some (.int .i64 6))(hl:¬l=[]):Calls Tryz.prog 155 #[.pointer (some ⟨b,0,none⟩)] w fun e w'=>e=Az 6 0/\w=w':=by
 have aa:(0:Int)<((str l).size:Int):=by
  rw[Ax];have:=agN.2 hl;omega
 have HR:=Ac (Lq b w h1);clear hl h1;generalize str l=S at *;go_enter Tryz.func155,Tryz.ntmps155;go_wp2_with fail
 refine(Aa HR).mono ?_;rintro e w1 ⟨rfl,rfl⟩;go_wp2;exact⟨rfl,rfl,rfl⟩
structure abH(w w':World)(l:List UInt8)(O:Value)(v:List It):Prop where
 left:w'.cell? ⟨w.heap.size+1,0,none⟩=some (.string (str l))
 wrong:w'.cell? ⟨w.heap.size+1,1,none⟩=some (.int .i64 6)
 out:w'.cell? ⟨w.heap.size+1,2,none⟩=some O
 row:Row w' (w.heap.size+2) O v
 below:Below w.heap.size w w'
theorem Ww(w:World)(x0 x1:Int)(ea:Option Addr)(en ec:Nat)(l l':List UInt8)(v:List It)(hn:¬70<l.length)
  (HK:Calls Tryz.prog 225 #[.agg #[.int .u8 x0,.int .i64 x1,.slice ea en ec],.iface 307 (.pointer (some ⟨w.heap.size+1,0,none⟩))] ((w.alloc (Bf x0 x1 ea en ec)).alloc (.cells #[.string (str l),.int .i64 6,.slice none 0 0] 306)) fun e w'=>e=.returned (.tuple #[])/\∃O,abH w w' l' O v):
  Calls Tryz.prog 181 #[.agg #[.int .u8 x0,.int .i64 x1,.slice ea en ec],.string (str l)] w fun e w'=>(if l'=[] then ∃O,e=.returned O/\Row w' (w.heap.size+2) O v else e=Az 6 0)/\Below w.heap.size w w':=by
 have ab:=Ac HK;have HB:=Ac (fun w=>Fz (str l).size w);rw[show decide (70<(str l).size)=false by rw[Ax];simp;omega]at HB;clear HK hn;generalize str l=S at *;by_cases h0:l'=[]
 ·subst h0;simp only[if_true];go_enter Tryz.func181,Tryz.ntmps181;go_wp2_with fail
  refine((Aa HB) _).mono ?_;rintro e w1 ⟨rfl,rfl⟩;go_wp2_with fail
  refine(Aa ab).mono ?_;rintro e w1 ⟨rfl,O,hL⟩;have c1:=hL.out;obtain⟨oa,on,oc,ac⟩:=Ar hL.row;subst ac;have HE:=Ac (aaI (w.heap.size+1) w1 hL.left);have HL:=Ac hL;clear hL;go_wp2_with fail
  refine(Aa HE).mono ?_;rintro e w2 ⟨rfl,aa⟩;subst aa;go_wp2
  go_ret
  exact⟨⟨_,rfl,(Aa HL).row⟩,(Aa HL).below⟩
 ·simp only[h0,if_false];go_enter Tryz.func181,Tryz.ntmps181;go_wp2_with fail
  refine((Aa HB) _).mono ?_;rintro e w1 ⟨rfl,rfl⟩;go_wp2_with fail
  refine(Aa ab).mono ?_;rintro e w1 ⟨rfl,O,hL⟩;have hb:=hL.below;have HE:=Ac (acf (w.heap.size+1) l' w1 hL.left hL.wrong h0);clear hL;generalize str l'=S' at *;go_wp2_with fail
  refine(Aa HE).mono ?_;rintro e w2 ⟨rfl,aa⟩;subst aa;go_wp2;exact⟨rfl,rfl,hb⟩
def KP(r:Option Qa)(l:List UInt8):Nat×List It:=if 70<l.length then (5,[]) else match r with
 |none=>(6,[])
 |some (l',v)=>if l'=[] then (0,v) else (6,[])
def Xx(B:Nat)(res:Nat×List It)(e:Ending)(w':World):Prop:=if res.1=0 then ∃O,e=.returned O/\Row w' B O res.2 else e=Az res.1 0
theorem Xj(s:ByteArray)(S:Nat->Prop)(c0 c1 c2:Value)(l:List UInt8)(w:World)(hR:Fe w S (nx s) (s.size+1) 0 c0 c1 c2)(hO:NM s (s.size+1) 0)(hd:Pt.EC (nx s) (s.size+1) 0<=4):
  Calls Tryz.prog 181 #[.agg #[c0,c1,c2],.string (str l)] w fun e w'=>Xx w.heap.size (KP (Aw Dz Df (nx s) (s.size+1) 0 (l,[])) l) e w'/\Below w.heap.size w w':=by
 obtain⟨⟨x0,rfl⟩,⟨x1,rfl⟩,⟨ea,en,ec,rfl⟩⟩:=Bz hR;by_cases aa:70<l.length
 ·refine(Zq w x0 x1 ea en ec (str l) (by rw[Ax];exact aa)).mono ?_;rintro e w' ⟨rfl,hb⟩;refine⟨?_,hb⟩;simp[Xx,KP,aa]
 ·have ab:Below w.heap.size w (w.alloc (Bf x0 x1 ea en ec)):=(Below.refl w.heap.size w).alloc (afI _) _;have af:Fe (w.alloc (Bf x0 x1 ea en ec)) S (nx s) (s.size+1) 0 (.int .u8 x0) (.int .i64 x1) (.slice ea en ec):=Bw ⟨ab.size,fun k _ hl=>ab.block k hl⟩ hR;have hz:(w.alloc (Bf x0 x1 ea en ec)).heap.size=w.heap.size+1:=by simp
  have ag:RS (w.alloc (Bf x0 x1 ea en ec)) ((w.alloc (Bf x0 x1 ea en ec)).alloc (.cells #[.string (str l),.int .i64 6,.slice none 0 0] 306)) l (.slice none 0 0) []:=by
   refine⟨?_,(Below.refl _ _).alloc (afI _) _,World.ownsRow_nil _ _ _ _⟩;unfold Rd;show ((w.alloc (Bf x0 x1 ea en ec)).heap.push _)[(w.alloc (Bf x0 x1 ea en ec)).heap.size]?=_;rw[agJ]
  have hM:10 ^ Pt.EC (nx s) (s.size+1) 0<=10 ^ 4:=ag7 (by decide) hd;have HK:=Od (Nj (w.alloc (Bf x0 x1 ea en ec))) s (s.size+1) 0 S _ _ _ af hO _ 0 (l,[]) _ ⟨_,ag,rfl,by simp only;omega,afI _⟩ (by omega);have ac:(reader (w.alloc (Bf x0 x1 ea en ec))).I=.iface 307 (.pointer (some ⟨w.heap.size+1,0,none⟩)):=by
   show Value.iface 307 (.pointer (some ⟨(w.alloc (Bf x0 x1 ea en ec)).heap.size,0,none⟩))=_;rw[hz]
  rw[ac]at HK;rw[show Aw (reader (w.alloc (Bf x0 x1 ea en ec))).num (reader (w.alloc (Bf x0 x1 ea en ec))).txt (nx s) (s.size+1) 0 (l,[])=Aw Dz Df (nx s) (s.size+1) 0 (l,[]) from rfl]at HK;have ae:∀w',Below (w.alloc (Bf x0 x1 ea en ec)).heap.size (w.alloc (Bf x0 x1 ea en ec)) w'->Below w.heap.size w w':=fun w' h=>ab.trans (h.mono (by omega))
  cases hr:Aw Dz Df (nx s) (s.size+1) 0 (l,[]) with
  |none=>
   rw[hr]at HK;refine(KH w x0 x1 ea en ec l aa (HK.mono ?_)).mono ?_
   ·rintro e w' (⟨rfl,_,hb⟩|⟨rfl,x',hx,_⟩)
    ·exact⟨rfl,ae w' hb⟩
    ·cases hx
   ·rintro e w' ⟨rfl,hb⟩;refine⟨?_,hb⟩;simp[Xx,KP,aa]
  |some a=>
   obtain⟨l',v⟩:=a;rw[hr]at HK;have HL:Calls Tryz.prog 225 #[.agg #[.int .u8 x0,.int .i64 x1,.slice ea en ec],.iface 307 (.pointer (some ⟨w.heap.size+1,0,none⟩))] ((w.alloc (Bf x0 x1 ea en ec)).alloc (.cells #[.string (str l),.int .i64 6,.slice none 0 0] 306)) fun e w'=>e=.returned (.tuple #[])/\∃O,abH w w' l' O v:=by
    refine HK.mono ?_;rintro e w' (⟨rfl,hx,_⟩|⟨rfl,x',hx,c',O',_,⟨Ov,hw2,_⟩,_⟩)
    ·cases hx
    ·cases hx;have h1:=hw2.rd.left;have h2:=hw2.rd.items;have h4:=hw2.rd.wrong;have h3:=hw2.own;rw[hz]at h1 h2 h3 h4;exact⟨rfl,Ov,h1,h4,h2,h3,ae w' hw2.below⟩
   refine(Ww w x0 x1 ea en ec l l' v aa HL).mono ?_;rintro e w' ⟨he,hb⟩;refine⟨?_,hb⟩;by_cases h0:l'=[]
   ·rw[if_pos h0]at he;obtain⟨O,rfl,ad⟩:=he;have:KP (some (l',v)) l=(0,v):=by simp[KP,aa,h0]
    rw[this];exact⟨O,rfl,EU ad (by omega)⟩
   ·rw[if_neg h0]at he;subst he;have:KP (some (l',v)) l=(6,[]):=by simp[KP,aa,h0]
    rw[this];rfl
def D5(s:ByteArray)(l:List UInt8):Nat×List It:=if (Pt.IZ (nx s) s.size).1=0 then KP (Aw Dz Df (nx s) (s.size+1) 0 (l,[])) l else ((Pt.IZ (nx s) s.size).1,[])
theorem PW(w:World)(B:Nat):Row w B (.slice none 0 0) []:=World.ownsRow_nil _ _ _ _
end Go.Proofs.YtblomippkddgiabGreatDoor.V
namespace Go.Proofs.YtblomippkddgiabGreatDoor.R
def ET(w:Wd)(client line:Int):Wd:=Am w client line {BH w client line with wait:=w.c.Ay,tries:=w.c.tries}
def I1(w:Wd)(client:Int)(p:Pk):Wd:=
 let l:=BH w client p.line
 Bg w (-1) ⟨6,client,FP w client,p.line,l.seq,l.uid,p.part,p.off,false,[]⟩
def Dy(w:Wd)(client:Int)(p:Pk):Wd:=
 let l:=BH w client p.line
 let n:=Ag l.message
 if l.Ao<n-1\/l.pieces<p.part then w
 else if p.part=l.pieces then
  if l.pieces+1=p.off then Am w client p.line {l with came:=l.came++p.body,pieces:=l.pieces+1,Ao:=n,result:=(V.D5 l.to (l.came++p.body)).2,state:=2}
  else ET (I1 (Am w client p.line {l with came:=l.came++p.body,pieces:=l.pieces+1,Ao:=n}) client p) client p.line
 else I1 w client p
def Ee(w:Wd)(client:Int)(p:Pk):Wd:=
 let l:=BH w client p.line
 if l.state≠1\/p.Ae≠FP w client\/p.seq≠l.seq then w
 else if p.kind=2 then
  if p.part=l.Ao then
   let w1:=Am w client p.line {l with Ao:=l.Ao+1}
   ET (if l.Ao+1<Ag l.message then AA w1 client p.line false else w1) client p.line
  else w
 else if p.kind=4 then ET w client p.line
 else if p.kind=5 then Dy w client p
 else if p.kind=7 then Am w client p.line {l with state:=4+p.part}
 else w
def C3(w:Wd)(p:Pk)(kind k of':Int):Wd:=Bg w p.client ⟨kind,p.client,p.Ae,p.line,p.seq,p.uid,k,of',false,[]⟩
def Em(w:Wd)(i:Nat):Wd:=
 let w1:=AL w i
 let r:=AY w1 i
 AB w1 i {r with timed:=decide (8*r.at'+8<(r.result.length:Int)),wait:=w.c.Ay,tries:=w.c.tries}
def Ff(w:Wd)(uid:Int):Bool:=decide (1<=uid)&&((w.Ab[(uid-1).toNat]?).map (·.alive)).getD false
def BZ(w:Wd):Nat:=(w.seen.filter fun r=>decide (0<r.seq)).length
def IX(w:Wd)(p:Pk):Wd:=if p.please=true then C3 w p 2 p.part p.off else w
def CL(w:Wd)(i:Nat)(p:Pk):Wd:=
 let r:=AY w i
 if p.part=r.pieces then
  if p.part=p.off-1 then
   if w.c.table<=(w.jobs.length:Int) then w
   else IX {AB w i {r with state:=2,message:=r.message++p.body,pieces:=r.pieces+1} with jobs:=w.jobs++[⟨p.client,p.line,p.Ae,p.seq,p.uid⟩]} p
  else IX (AB w i {r with message:=r.message++p.body,pieces:=r.pieces+1}) p
 else IX w p
def Dq(w:Wd)(i:Nat)(p:Pk):Wd:=
 let r:=AY w i
 if r.state=1 then (if p.kind=1/\p.part<=r.pieces then CL w i p else w)
 else if r.state=4 then C3 w p 7 0 2
 else if p.please=false then w
 else if r.state=3 then Em w i
 else if p.kind=3 then C3 w p 4 0 1
 else C3 w p 2 p.part p.off
def Dr(w:Wd)(p:Pk):Wd:=
 if (w.Aj.getD p.client.toNat 0)<p.Ae then {w with Aj:=w.Aj.set p.client.toNat p.Ae,seen:=((w.seen.set (3*p.client.toNat) Cs).set (3*p.client.toNat+1) Cs).set (3*p.client.toNat+2) Cs} else w
def JI(w:Wd)(i:Nat)(p:Pk):Wd:=
 let r:=AY w i
 if p.kind=6 then
  if r.seq=p.seq/\r.state=3/\p.off=Ag r.result/\p.part=r.at'/\r.at'<Ag r.result-1 then Em (AB w i {r with at':=r.at'+1}) i else w
 else if r.seq=p.seq then Dq w i p
 else if p.seq<r.seq then w
 else if Ff w p.uid=false then C3 w p 7 0 2
 else if p.kind=3\/p.part≠0 then w
 else if r.seq=0/\w.c.table<=(BZ w:Int) then C3 w p 7 1 2
 else Dq (AB w i {Cs with seq:=p.seq,uid:=p.uid,state:=1}) i p
def Er(w:Wd)(p:Pk):Wd:=
 if p.Ae<w.Aj.getD p.client.toNat 0 then w else JI (Dr w p) (3*p.client.toNat+p.line.toNat) p
def Bc(w:Wd)(i:Int):Int×Wd:=if off w i then (9,w) else match w.Ak[i.toNat]? with
 |none=>(9,w)
 |some f=>
  let w1:={w with Ak:=w.Ak.eraseIdx i.toNat}
  (0,if f.Hy=true then w1 else match CO f.s with
   |none=>w1
   |some p=>if f.to=-1 then Er w1 p else Ee w1 f.to p)
def IY(v:List It)(k:Nat):Int:=((v[k]?).map (·.1)).getD 0
def Vp(v:List It)(k:Nat):ByteArray:=((v[k]?).map (·.2)).getD ⟨#[]⟩
def BA:List En->Int->Int
 |[],n=>n
 |e :: es,n=>BA es (if e.proc=0 then (n+IY e.arg 0+65536) % 65536 else if IY e.arg 0=1 then 0 else n)
def BG(l:List En):List ByteArray:=
 let out:=(l.filter fun e=>decide (e.proc=0)).map fun e=>Vp e.arg 0
 out.drop (out.length-4)
def Fq:List En->Int->List It->List It
 |[],_,was=>was
 |e :: es,d,was=>Fq es d (if IY e.arg 0=d then e.arg.drop 2 else was)
def num(n:Int):It:=(n,⟨#[]⟩)
def Cu(kind:Int)(l:List En)(proc:Int)(arg:List It):List It:=
 if kind=0 then [num (if proc=0 then (BA l 0+IY arg 0+65536) % 65536 else BA l 0)]
 else if kind=1 then
  if proc=0 then [num (min 4 (((BG l).length:Int)+1))]
  else let b:=(BG l).take (IY arg 0).toNat;num b.length :: b.map fun s=>(0,s)
 else
  let was:=Fq l (IY arg 0) []
  if was.length=0 then [num 0,num 0] else num 1 :: num was.length :: was
def Gm(w:Wd)(i:Nat):Wd:=
 let r:=AY w i
 let k:=(r.uid-1).toNat
 let s:=(w.Ab[k]?).getD ⟨0,false,[]⟩
 let proc:=256*((r.message.getD 0 0).toNat:Int)+((r.message.getD 1 0).toNat:Int)
 let t:=(C6 s.kind proc).getD (⟨#[]⟩,⟨#[]⟩)
 let arg:=(V.D5 t.1 (r.message.drop 2)).2
 let out:=Cu s.kind s.log proc arg
 let w1:={w with Ab:=w.Ab.set k {s with log:=s.log++[⟨((i / 3:Nat):Int),w.Aj.getD (i / 3) 0,((i % 3:Nat):Int),r.seq,proc,arg,out⟩]}}
 Em (AB w1 i {r with state:=3,result:=(Ba t.2 out).getD [],at':=0}) i
def FC(w:Wd)(j:Jb):Prop:=(AY w (3*j.client.toNat+j.line.toNat)).state=2/\(AY w (3*j.client.toNat+j.line.toNat)).seq=j.seq/\w.Aj.getD j.client.toNat 0=j.Ae
instance (w:Wd) (j:Jb):Decidable (FC w j):=by unfold FC;infer_instance
def Br(w:Wd):List Jb->Int×Wd
 |[]=>(19,{w with jobs:=[]})
 |j :: js=>if FC w j then (0,Gm {w with jobs:=js} (3*j.client.toNat+j.line.toNat)) else Br w js
def BV(w:Wd):Int×Wd:=Br w w.jobs
def Ip(w:Wd)(uid:Int):Prop:=1<=uid/\uid<=(w.Ab.length:Int)
instance (w:Wd) (uid:Int):Decidable (Ip w uid):=by unfold Ip;infer_instance
def Ho(w:Wd)(uid:Int):List En:=((w.Ab[(uid-1).toNat]?).map (·.log)).getD []
def I4(w:Wd)(uid:Int):Int×Int:=if Ip w uid then ((Ho w uid).length,0) else (0,9)
def DJ(w:Wd)(uid k:Int):Option En:=if Ip w uid/\0<=k then (Ho w uid)[k.toNat]? else none
def Bb(w:Wd)(host:Int):Int×Wd:=
 if host=-1 then (0,{w with Ab:=w.Ab.map fun s=>{s with alive:=false},Aj:=[0,0,0],seen:=List.replicate 9 Cs,jobs:=[]})
 else if host<0\/(w.Ad.length:Int)<=host then (13,w)
 else if FP w host=255 then (11,w)
 else (0,{w with Ad:=w.Ad.set host.toNat (FF (FP w host+1) w.c.lines)})
end Go.Proofs.YtblomippkddgiabGreatDoor.R
namespace Go.Proofs.YtblomippkddgiabGreatDoor.V
open Go.RowKit
variable {k1 k2:List Bool}{v:List It}
def Fg(g:Nat->Nat)(f p:Nat)(t:Int):List Nat:=if g p=117 then [partOf (Pt.kids g f p) t] else if g p=113 then List.replicate t.toNat (p+2) else []
theorem Mx{σ:Type}(num:Int->Int->σ->Option (Int×σ))(txt:σ->Option σ)(g:Nat->Nat)(f p:Nat)(h1:¬g p=115)(h2:¬g p=97)(h3:¬g p=114):
  Aw num txt g (f+1) p=fun x=>(num (CG (g p)) (Ci g f p) x).bind fun r=>C5 (Aw num txt g f) (Fg g f p r.1) r.2:=by
 funext x;simp only[Aw,if_neg h1,if_neg h2,if_neg h3,Fg];congr 1;funext r;split
 ·simp only[C5];cases Aw num txt g f (partOf (Pt.kids g f p) r.1) r.2<;>rfl
 ·split
  ·rfl
  ·rfl
def Ret(E:List It->DZ)(G:Qa->Option Qa):Prop:=∀v ks r,E v=some (ks,r)->DU ks v->∀e it,G (bytesOf ks v++e,it)=some (e,it++v.take ks.length)
theorem TD(h:DU (k1++k2) v):DU k1 v:=fun i k x hk hx=>h i k x (by rw[af4 (afG.1 hk).1];exact hk) hx
theorem QS(h:DU (k1++k2) v):DU k2 (v.drop k1.length):=fun i k x hk hx=>h (k1.length+i) k x (by rw[agh (by omega),Nat.add_sub_cancel_left];exact hk) (by rw[agP]at hx;exact hx)
theorem abn{E:Nat->List It->DZ}{G:Nat->Qa->Option Qa}:∀qs:List Nat,(∀q∈qs,N7 (E q))->(∀q∈qs,Ret (E q) (G q))->Ret (BU E qs) (C5 G qs):=by
 intro qs;induction qs with
 |nil=>
  intro _ _ v ks r h _ e it;simp only[BU,Option.some.injEq,Prod.mk.injEq]at h;obtain⟨rfl,rfl⟩:=h;simp[C5,bytesOf]
 |cons q qs ih=>
  intro hH hR v ks r h hK e it;simp only[BU]at h;cases hE:E q v with
  |none=>rw[hE]at h;cases h
  |some a=>
   obtain⟨k1,r1⟩:=a;rw[hE]at h;simp only at h;cases hS:BU E qs r1 with
   |none=>rw[hS]at h;cases h
   |some a=>
    obtain⟨k2,r2⟩:=a;rw[hS]at h;simp only[Ck,Option.some.injEq,Prod.mk.injEq]at h;obtain⟨rfl,rfl⟩:=h;obtain⟨h1,h2⟩:=hH q (agQ ..) v k1 r1 hE;subst h1;rw[Ia k1 k2 v h2,agk];simp only[C5];rw[hR q (agQ ..) v k1 _ hE (TD hK)];show C5 G qs _=_;rw[ih (fun q' h'=>hH q' (agC _ h')) (fun q' h'=>hR q' (agC _ h')) _ k2 r2 hS (QS hK)];rw[afS,List.take_add,agk]
theorem Ow(n:Int):∃a c:UInt8,A5 n=[a,c]/\(Cc a c:Int)=n % 65536:=by
 refine⟨_,_,rfl,?_⟩;have h1:(0:Int)<=n % 65536 / 256:=by omega
 have h2:n % 65536 / 256<=255:=by omega
 have h3:(0:Int)<=n % 256:=by omega
 have h4:n % 256<=255:=by omega
 have b1:=Bj h1 h2;have b2:=Bj h3 h4;unfold Cc;omega
theorem abo(E:List It->DZ)(hE:∀v ks r,E v=some (ks,r)->∃x,v=x :: r/\ks=[true]/\x.1=0/\x.2.size<=14):Ret E Df:=by
 intro v ks r h _ e it;obtain⟨x,rfl,rfl,h0,aa⟩:=hE v ks r h;obtain⟨a,c,ab,hn⟩:=Ow (x.2.size:Int);have ad:Cc a c=x.2.size:=by omega
 have hb:bytesOf [true] (x :: r)=a :: c :: (x.2.data.toList++(if x.2.size % 2=1 then [0] else [])):=by
  simp only[bytesOf,EE,if_true,ab];simp
 have hl:x.2.data.toList.length=x.2.size:=by simp
 have hx:(0,str x.2.data.toList)=x:=by
  obtain⟨x0,x1⟩:=x;simp only at h0;subst h0;simp
 rw[hb];simp only[agz,Df,ad];rw[if_pos ⟨aa,by simp only[afS,hl];omega⟩];have ae:(x.2.data.toList++(if x.2.size % 2=1 then [0] else [])++e).take x.2.size=x.2.data.toList:=by
  rw[agk,<-hl,List.take_left]
 have ac:(x.2.data.toList++(if x.2.size % 2=1 then [0] else [])++e).drop x.2.size=(if x.2.size % 2=1 then [0] else [])++e:=by
  rw[agk,<-hl,List.drop_left]
 rw[ae,ac,hx];by_cases h2:x.2.size % 2=0
 ·rw[if_pos h2,if_neg (by omega)];simp
 ·rw[if_neg h2,if_pos (by omega)];simp
theorem abm(lo hi:Int)(af:lo=0\/(lo=-32768/\hi=32767))(E:List It->DZ)(E':Int->List It->DZ)(G:Int->Qa->Option Qa)
  (hE:∀v ks r,E v=some (ks,r)->∃x r' k',v=x :: r'/\ks=false :: k'/\x.2.size=0/\lo<=x.1/\x.1<=hi/\E' x.1 r'=some (k',r)) (h:∀t,Ret (E' t) (G t)):
  Ret E (fun x=>(Dz lo hi x).bind fun r=>G r.1 r.2):=by
 intro v ks r ac hK e it;obtain⟨x,r',k',rfl,rfl,aa,ah,ag,ab⟩:=hE v ks r ac;obtain⟨a,c,ae,hn⟩:=Ow x.1;have hr:=(hK 0 false x rfl rfl).2 rfl;have ht:turned lo hi (Cc a c)=x.1:=by
  unfold turned;rcases af with h0|⟨h0,h1⟩
  ·rw[if_neg (by omega)];omega
  ·split<;>omega
 have hb:bytesOf (false :: k') (x :: r')=a :: c :: bytesOf k' r':=by
  simp[bytesOf,EE,ae]
 have hx:(x.1,(⟨#[]⟩:ByteArray))=x:=by
  obtain⟨x0,x1⟩:=x;simp only at aa;have:x1=⟨#[]⟩:=by
   apply ByteArray.ext;apply Array.eq_empty_of_size_eq_zero;exact aa
  rw[this]
 rw[hb];simp only[agz,Dz,ht];rw[if_neg (by omega),hx];simp only[Option.bind_some];have ad:DU k' r':=fun i k y hk hy=>hK (i+1) k y (by simpa using hk) (by simpa using hy)
 rw[h x.1 r' k' r ab ad e (it++[x])];simp
theorem abl(g:Nat->Nat):∀f p,Ret (CF g f p) (Aw Dz Df g f p):=by
 intro f;induction f with
 |zero=>intro p v ks r h;simp[CF]at h
 |succ f ih=>
  intro p;have sq:=fun qs=>abn (E:=CF g f) (G:=Aw Dz Df g f) qs (fun q _=>Gp g f q) (fun q _=>ih q)
  by_cases ha:g p=97
  ·have e1:Aw Dz Df g (f+1) p=C5 (Aw Dz Df g f) (List.replicate (g (p+1)-48) (p+2)):=by funext x;simp[Aw,ha]
   have e2:CF g (f+1) p=BU (CF g f) (List.replicate (g (p+1)-48) (p+2)):=by
    funext v;have hh:AO g f p v=some ([],List.replicate (g (p+1)-48) (p+2),v):=by simp[AO,ha]
    rw[Eu hh,II]
   rw[e1,e2];exact sq _
  ·by_cases hr:g p=114
   ·have e1:Aw Dz Df g (f+1) p=C5 (Aw Dz Df g f) (Pt.kids g f p):=by funext x;simp[Aw,hr]
    have e2:CF g (f+1) p=BU (CF g f) (Pt.kids g f p):=by
     funext v;have hh:AO g f p v=some ([],Pt.kids g f p,v):=by simp[AO,hr]
     rw[Eu hh,II]
    rw[e1,e2];exact sq _
   ·by_cases hs:g p=115
    ·have e1:Aw Dz Df g (f+1) p=Df:=by funext x;simp[Aw,hs]
     rw[e1];refine abo _ fun v ks r h=>?_
     cases v with
     |nil=>simp[CF,AO,ha,hr]at h
     |cons x v=>
      by_cases aa:x.1=0/\x.2.size<=14
      ·have hh:AO g f p (x :: v)=some ([true],[],v):=by simp[AO,hs,aa]
       rw[Eu hh]at h;simp only[BU,Ck,agv,Option.some.injEq,Prod.mk.injEq]at h;obtain⟨rfl,rfl⟩:=h;exact⟨x,rfl,rfl,aa.1,aa.2⟩
      ·have hh:AO g f p (x :: v)=none:=by
        simp only[AO,hs];simp;omega
       rw[Gq hh]at h;cases h
    ·rw[Mx _ _ _ _ _ hs ha hr];have ab:CG (g p)=0\/(CG (g p)=-32768/\Ci g f p=32767):=by
      by_cases h5:g p=105
      ·exact afM ⟨by simp[CG,h5],by simp[Ci,h5]⟩
      ·exact afJ (by simp[CG,h5])
     refine abm _ _ ab _ (fun t=>BU (CF g f) (Fg g f p t)) (fun t=>C5 (Aw Dz Df g f) (Fg g f p t)) (fun v ks r h=>?_) fun t=>sq _
     cases v with
     |nil=>simp[CF,AO,ha,hr]at h
     |cons x v=>
      by_cases aa:x.2.size=0/\CG (g p)<=x.1/\x.1<=Ci g f p
      ·have hh:AO g f p (x :: v)=some ([false],Fg g f p x.1,v):=by
        simp only[AO,if_neg ha,if_neg hr,if_neg hs,Fg];rw[if_pos aa]
       rw[Eu hh]at h;cases hS:BU (CF g f) (Fg g f p x.1) v with
       |none=>rw[hS]at h;cases h
       |some a=>
        obtain⟨k',r'⟩:=a;rw[hS]at h;simp only[Ck,Option.some.injEq,Prod.mk.injEq]at h;obtain⟨rfl,rfl⟩:=h;exact⟨x,v,k',rfl,rfl,aa.1,aa.2.1,aa.2.2,hS⟩
      ·have hh:AO g f p (x :: v)=none:=by
        simp only[AO,if_neg ha,if_neg hr,if_neg hs];rw[if_neg aa]
       rw[Gq hh]at h;cases h
def Ext(G:Qa->Option Qa):Prop:=∀l it l' it',G (l,it)=some (l',it')->∀e,G (l++e,it)=some (l'++e,it')
theorem aaM{G:Nat->Qa->Option Qa}:∀qs:List Nat,(∀q∈qs,Ext (G q))->Ext (C5 G qs):=by
 intro qs;induction qs with
 |nil=>
  intro _ l it l' aa h e;simp only[C5,Option.some.injEq,Prod.mk.injEq]at h ⊢;exact⟨by rw[h.1],h.2⟩
 |cons q qs ih=>
  intro hq l it l' aa h e;simp only[C5]at h ⊢;cases hG:G q (l,it) with
  |none=>rw[hG]at h;cases h
  |some a=>
   obtain⟨l1,ab⟩:=a;rw[hG]at h;rw[hq q (agQ ..) l it l1 ab hG e];exact ih (fun q' h'=>hq q' (agC _ h')) l1 ab l' aa h e
theorem aaL(lo hi:Int)(G:Int->Qa->Option Qa)(h:∀t,Ext (G t)):Ext (fun x=>(Dz lo hi x).bind fun r=>G r.1 r.2):=by
 intro l it l' aa hx e;match l with
 |[]=>simp[Dz]at hx
 |[a]=>simp[Dz]at hx
 |a :: c :: r=>
  simp only[Dz,agz]at hx ⊢;split at hx
  ·cases hx
  ·rename_i hb;rw[if_neg hb];exact h _ _ _ _ _ hx e
theorem aaN:Ext Df:=by
 intro l it l' aa hx e;match l with
 |[]=>simp[Df]at hx
 |[a]=>simp[Df]at hx
 |a :: c :: r=>
  simp only[Df,agz]at hx ⊢;generalize Cc a c=n at hx ⊢;split at hx
  ·rename_i hb;rw[if_pos ⟨hb.1,by rw[afS];omega⟩,agp hb.2,agT hb.2];split at hx
   ·rename_i h2;rw[if_pos h2];cases hx;rfl
   ·rename_i h2;rw[if_neg h2];cases hd:r.drop n with
    |nil=>rw[hd]at hx;cases hx
    |cons p r'=>
     rw[hd]at hx;simp only[agz]at hx ⊢;split at hx
     ·rename_i hp;rw[if_pos hp];cases hx;rfl
     ·cases hx
  ·cases hx
theorem aaK(g:Nat->Nat):∀f p,Ext (Aw Dz Df g f p):=by
 intro f;induction f with
 |zero=>intro p l it l' aa h;simp[Aw]at h
 |succ f ih=>
  intro p;have sq:=fun qs=>aaM (G:=Aw Dz Df g f) qs (fun q _=>ih q)
  by_cases hs:g p=115
  ·rw[show Aw Dz Df g (f+1) p=Df by funext x;simp[Aw,hs]];exact aaN
  ·by_cases ha:g p=97
   ·rw[show Aw Dz Df g (f+1) p=C5 (Aw Dz Df g f) (List.replicate (g (p+1)-48) (p+2)) by funext x;simp[Aw,ha]];exact sq _
   ·by_cases hr:g p=114
    ·rw[show Aw Dz Df g (f+1) p=C5 (Aw Dz Df g f) (Pt.kids g f p) by funext x;simp[Aw,hr]];exact sq _
    ·rw[Mx _ _ _ _ _ hs ha hr];exact aaL _ _ _ fun t=>sq _
theorem abD(s:ByteArray)(v:List It)(ks:List Bool)(hc:(Pt.IZ (nx s) s.size).1=0)(he:CF (nx s) (s.size+1) 0 v=some (ks,[]))(hK:abG ks v)(hl:(bytesOf ks v).length<=70):
  D5 s (bytesOf ks v)=(0,v)/\(∀l b,bytesOf ks v=l++[b]->D5 s l=(6,[]))/\D5 s (bytesOf ks v++[0])=(if (bytesOf ks v).length=70 then 5 else 6,[]):=by
 have hR:=fun e=>abl (nx s) (s.size+1) 0 v ks [] he hK.2 e []
 have ad:v.take ks.length=v:=af6 (by rw[hK.1];exact afI _);simp only[ad,agO]at hR;have hE:=aaK (nx s) (s.size+1) 0;have hb:¬70<(bytesOf ks v).length:=by omega
 refine⟨?_,fun l b ab=>?_,?_⟩
 ·have h:=hR [];rw[agv]at h;simp[D5,hc,KP,hb,h]
 ·have ac:¬70<l.length:=by
   have:=congrArg List.length ab;rw[afS]at this;omega
  simp only[D5,hc,if_true,KP,if_neg ac];cases hr:Aw Dz Df (nx s) (s.size+1) 0 (l,[]) with
  |none=>rfl
  |some a=>
   obtain⟨l',v'⟩:=a;by_cases h0:l'=[]
   ·subst h0;have h1:=hE l [] [] v' hr [b];rw[<-ab]at h1;have h2:=hR [];rw[agv,h1]at h2;cases h2
   ·simp[h0]
 ·have h:=hR [0];by_cases aa:(bytesOf ks v).length=70
  ·rw[if_pos aa];simp[D5,hc,KP,aa]
  ·rw[if_neg aa];have:¬70<(bytesOf ks v++[0]).length:=by simp;omega
   simp only[D5,hc,if_true,KP,if_neg this,h];simp
end Go.Proofs.YtblomippkddgiabGreatDoor.V
