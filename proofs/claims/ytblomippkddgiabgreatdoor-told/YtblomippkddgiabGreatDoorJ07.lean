import Derived.Test.YtblomippkddgiabGreatDoorJ06
import Derived.Laws.IdiomStrings
import Derived.Lib.BufferRead
import Derived.ProofKit
import Derived.OpenShut
import Derived.ShutString
import Derived.ChangeOld
import Derived.Below
import Derived.Lib.BufferWrite
import Derived.Lib.UnsafeStr
import Derived.Laws.MakeOwn
import Derived.Laws.CopyOwn
set_option maxRecDepth 100000
set_option maxHeartbeats 1000000
namespace Go.Proofs.YtblomippkddgiabGreatDoor.V
open Go.RowKit
theorem ZD{w:World}{B:Nat}{O:Value}{out:List UInt8}(h:w.ownsRow B 5 1 O out.length (DT out)):(convert 281 9 O).run Tryz.prog w=.ok (.string ⟨out.toArray⟩) w:=by
 have aa:=fun g=>h.cells (g:=g)
 rcases h.2 with ⟨hv,h0⟩|⟨g,cap,ab,hv,_⟩
 ·have:out=[]:=agl h0;subst this;rw[hv];exact Lib.run_convert_nil_bytes w 281 9 5 0 Tryz.underlying281 (by kernel_rfl) Tryz.underlying9
 ·rw[hv];refine run_convert_bytes_back w 281 9 5 ⟨g,0,none⟩ cap out Tryz.underlying281 (by kernel_rfl) Tryz.underlying9 fun j hj=>?_
  refine aa g (by rw[hv];rfl) j _ ?_;unfold DT;rw[afW,afH hj];rfl
def NG(e:DZ)(v:List It):Nat×List UInt8:=match e with
 |none=>(4,[])
 |some (ks,r)=>if r=[] then (if 70<(bytesOf ks v).length then (5,[]) else (0,bytesOf ks v)) else (4,[])
def UE(res:Nat×List UInt8)(e:Ending):Prop:=if res.1=0 then e=.returned (.string ⟨res.2.toArray⟩) else e=Az res.1 0
theorem Fz(n:Nat)(w:World):Calls Tryz.prog 227 #[.int .i64 n] w fun e w'=>e=.returned (.bool (decide (70<n)))/\w'=w:=by
 have e:(decide (70<n))=(decide ((70:Int)<(n:Int))):=by
  rw[Bool.eq_iff_iff];simp;omega
 rw[e];go_enter Tryz.func227,Tryz.ntmps227;go_wp2
 go_ret
 exact⟨rfl,rfl⟩
abbrev Xq(V:Value):Obj:=.cells #[V,.slice none 0 0] 300
theorem UB(w:World)(x0 x1:Int)(ea va:Option Addr)(en ec vn vc:Nat)
  (HK:Calls Tryz.prog 225 #[.agg #[.int .u8 x0,.int .i64 x1,.slice ea en ec],.iface 302 (.pointer (some ⟨w.heap.size+1,0,none⟩))] ((w.alloc (Bf x0 x1 ea en ec)).alloc (Xq (.slice va vn vc))) fun e w'=>e=Az 4 0/\Below w.heap.size w w'):
  Calls Tryz.prog 177 #[.agg #[.int .u8 x0,.int .i64 x1,.slice ea en ec],.slice va vn vc] w fun e w'=>e=Az 4 0/\Below w.heap.size w w':=by
 have aa:=Ac HK;clear HK;go_enter Tryz.func177,Tryz.ntmps177;go_wp2_with fail
 refine(Aa aa).mono ?_;rintro e w1 ⟨rfl,hb⟩;go_wp2;exact⟨rfl,rfl,hb⟩
structure UD(w w':World)(n:Nat)(out:List UInt8)(a:Option Addr)(cap:Nat)(O:Value):Prop where
 left:w'.cell? ⟨w.heap.size+1,0,none⟩=some (.slice a n cap)
 adX:w'.cell? ⟨w.heap.size+1,1,none⟩=some O
 own:w'.ownsRow (w.heap.size+2) 5 1 O out.length (DT out)
 below:Below w.heap.size w w'
theorem UA(w:World)(x0 x1:Int)(ea va:Option Addr)(en ec vn vc:Nat)(n:Nat)(out:List UInt8)(hn:0<n)
  (HK:Calls Tryz.prog 225 #[.agg #[.int .u8 x0,.int .i64 x1,.slice ea en ec],.iface 302 (.pointer (some ⟨w.heap.size+1,0,none⟩))] ((w.alloc (Bf x0 x1 ea en ec)).alloc (Xq (.slice va vn vc))) fun e w'=>e=.returned (.tuple #[])/\∃a cap O,UD w w' n out a cap O):
  Calls Tryz.prog 177 #[.agg #[.int .u8 x0,.int .i64 x1,.slice ea en ec],.slice va vn vc] w fun e w'=>e=Az 4 0/\Below w.heap.size w w':=by
 have aa:=Ac HK;have HN:=Ac DL;clear HK;go_enter Tryz.func177,Tryz.ntmps177;go_wp2_with fail
 refine(Aa aa).mono ?_;rintro e w1 ⟨rfl,a,cap,O,hL⟩;have c0:=hL.left;have hb:=hL.below;have ac:=hb.size;clear hL;go_wp2_with fail
 refine((Aa HN) _).mono ?_;rintro e w2 ⟨rfl,ab⟩;go_wp2;exact⟨rfl,rfl,hb.trans (ab.mono ac)⟩
theorem Xr(w:World)(x0 x1:Int)(ea va:Option Addr)(en ec vn vc:Nat)(out:List UInt8)(hn:70<out.length)
  (HK:Calls Tryz.prog 225 #[.agg #[.int .u8 x0,.int .i64 x1,.slice ea en ec],.iface 302 (.pointer (some ⟨w.heap.size+1,0,none⟩))] ((w.alloc (Bf x0 x1 ea en ec)).alloc (Xq (.slice va vn vc))) fun e w'=>e=.returned (.tuple #[])/\∃a cap O,UD w w' 0 out a cap O):
  Calls Tryz.prog 177 #[.agg #[.int .u8 x0,.int .i64 x1,.slice ea en ec],.slice va vn vc] w fun e w'=>e=Az 5 0/\Below w.heap.size w w':=by
 have aa:=Ac HK;have HB:=Ac (fun w=>Fz out.length w);rw[show decide (70<out.length)=true by simp[hn]]at HB;clear HK hn;go_enter Tryz.func177,Tryz.ntmps177;go_wp2_with fail
 refine(Aa aa).mono ?_;rintro e w1 ⟨rfl,a,cap,O,hL⟩;have c0:=hL.left;have c1:=hL.adX;have hb:=hL.below;obtain⟨oa,oc,rfl⟩:∃a c,O=.slice a out.length c:=by
  rcases hL.own.2 with ⟨hv,h0⟩|⟨g,cap,ab,hv,_⟩
  ·exact⟨none,0,by rw[hv,h0]⟩
  ·exact⟨_,_,hv⟩
 clear hL;go_wp2_with fail
 refine((Aa HB) _).mono ?_;rintro e w2 ⟨rfl,rfl⟩;go_wp2;exact⟨rfl,rfl,hb⟩
theorem aab(w:World)(x0 x1:Int)(ea va:Option Addr)(en ec vn vc:Nat)(out:List UInt8)(hn:¬70<out.length)
  (HK:Calls Tryz.prog 225 #[.agg #[.int .u8 x0,.int .i64 x1,.slice ea en ec],.iface 302 (.pointer (some ⟨w.heap.size+1,0,none⟩))] ((w.alloc (Bf x0 x1 ea en ec)).alloc (Xq (.slice va vn vc))) fun e w'=>e=.returned (.tuple #[])/\∃a cap O,UD w w' 0 out a cap O):
  Calls Tryz.prog 177 #[.agg #[.int .u8 x0,.int .i64 x1,.slice ea en ec],.slice va vn vc] w fun e w'=>e=.returned (.string ⟨out.toArray⟩)/\Below w.heap.size w w':=by
 have aa:=Ac HK;have HB:=Ac (fun w=>Fz out.length w);rw[show decide (70<out.length)=false by simp;omega]at HB;clear HK hn;go_enter Tryz.func177,Tryz.ntmps177;go_wp2_with fail
 refine(Aa aa).mono ?_;rintro e w1 ⟨rfl,a,cap,O,hL⟩;have c0:=hL.left;have c1:=hL.adX;have hb:=hL.below;have ac:=ZD hL.own;obtain⟨oa,oc,rfl⟩:∃a c,O=.slice a out.length c:=by
  rcases hL.own.2 with ⟨hv,h0⟩|⟨g,cap,ab,hv,_⟩
  ·exact⟨none,0,by rw[hv,h0]⟩
  ·exact⟨_,_,hv⟩
 clear hL;go_wp2_with fail
 refine((Aa HB) _).mono ?_;rintro e w2 ⟨rfl,rfl⟩;go_wp2
 go_ret
 exact⟨rfl,hb⟩
theorem KU(s:ByteArray)(S:Nat->Prop)(c0 c1 c2 V:Value)(v:List It)(w:World)(hR:Fe w S (nx s) (s.size+1) 0 c0 c1 c2)(hO:NM s (s.size+1) 0)(hd:Pt.EC (nx s) (s.size+1) 0<=4)(hI:Items w V v)(hn:v.length<=9000000000000):
  Calls Tryz.prog 177 #[.agg #[c0,c1,c2],V] w fun e w'=>UE (NG (CF (nx s) (s.size+1) 0 v) v) e/\Below w.heap.size w w':=by
 obtain⟨⟨x0,rfl⟩,⟨x1,rfl⟩,⟨ea,en,ec,rfl⟩⟩:=Bz hR;obtain⟨va,vc,rfl⟩:∃a c,V=.slice a v.length c:=by
  obtain⟨a,c,h,_⟩:=hI;exact⟨a,c,h⟩
 have ab:Below w.heap.size w (w.alloc (Bf x0 x1 ea en ec)):=(Below.refl w.heap.size w).alloc (afI _) _;have af:Fe (w.alloc (Bf x0 x1 ea en ec)) S (nx s) (s.size+1) 0 (.int .u8 x0) (.int .i64 x1) (.slice ea en ec):=Bw ⟨ab.size,fun k _ hl=>ab.block k hl⟩ hR;have hz:(w.alloc (Bf x0 x1 ea en ec)).heap.size=w.heap.size+1:=by simp
 have ah:WS (w.alloc (Bf x0 x1 ea en ec)) ((w.alloc (Bf x0 x1 ea en ec)).alloc (Xq (.slice va v.length vc))) (.slice va v.length vc) v (.slice none 0 0) []:=by
  refine⟨?_,hI.below ab,(Below.refl _ _).alloc (afI _) _,World.ownsRow_nil _ _ _ _⟩;unfold Wr;show ((w.alloc (Bf x0 x1 ea en ec)).heap.push _)[(w.alloc (Bf x0 x1 ea en ec)).heap.size]?=_;rw[agJ]
 have hM:10 ^ Pt.EC (nx s) (s.size+1) 0<=10 ^ 4:=ag7 (by decide) hd;have HK:=Od (NK (w.alloc (Bf x0 x1 ea en ec))) s (s.size+1) 0 S _ _ _ af hO _ 0 (v,[]) _ ⟨_,_,ah,rfl,hn,afI _⟩ (by omega);have ac:(writer (w.alloc (Bf x0 x1 ea en ec))).I=.iface 302 (.pointer (some ⟨w.heap.size+1,0,none⟩)):=by
  show Value.iface 302 (.pointer (some ⟨(w.alloc (Bf x0 x1 ea en ec)).heap.size,0,none⟩))=_;rw[hz]
 rw[ac]at HK;have ag:=Vz (nx s) (s.size+1) 0 v [];rw[show Aw (writer (w.alloc (Bf x0 x1 ea en ec))).num (writer (w.alloc (Bf x0 x1 ea en ec))).txt (nx s) (s.size+1) 0 (v,[])=Aw I6 KQ (nx s) (s.size+1) 0 (v,[]) from rfl,ag]at HK;have ad:∀w',Below (w.alloc (Bf x0 x1 ea en ec)).heap.size (w.alloc (Bf x0 x1 ea en ec)) w'->Below w.heap.size w w':=fun w' h=>ab.trans (h.mono (by omega))
 cases he:CF (nx s) (s.size+1) 0 v with
 |none=>
  rw[he]at HK;refine(UB w x0 x1 ea va en ec v.length vc (HK.mono ?_)).mono ?_
  ·rintro e w' (⟨rfl,_,hb⟩|⟨rfl,x',hx,_⟩)
   ·exact⟨rfl,ad w' hb⟩
   ·cases hx
  ·rintro e w' ⟨rfl,hb⟩;exact⟨rfl,hb⟩
 |some a=>
  obtain⟨ks,r⟩:=a;rw[he]at HK;have HL:Calls Tryz.prog 225 #[.agg #[.int .u8 x0,.int .i64 x1,.slice ea en ec],.iface 302 (.pointer (some ⟨w.heap.size+1,0,none⟩))] ((w.alloc (Bf x0 x1 ea en ec)).alloc (Xq (.slice va v.length vc))) fun e w'=>e=.returned (.tuple #[])/\∃a cap O,UD w w' r.length (bytesOf ks v) a cap O:=by
   refine HK.mono ?_;rintro e w' (⟨rfl,hx,_⟩|⟨rfl,x',hx,c',O',_,⟨L,Ov,hw2,_⟩,_⟩)
   ·cases hx
   ·cases hx;simp only[agO]at hw2;obtain⟨la,lc,ae,_⟩:=hw2.items;subst ae;have h1:=hw2.wr.left;have h2:=hw2.wr.out;have h3:=hw2.own;rw[hz]at h1 h2 h3;exact⟨rfl,la,lc,Ov,h1,h2,h3,ad w' hw2.below⟩
  cases r with
  |cons y r=>
   refine(UA w x0 x1 ea va en ec v.length vc _ _ (by simp) HL).mono ?_;rintro e w' ⟨rfl,hb⟩;exact⟨rfl,hb⟩
  |nil=>
   by_cases aa:70<(bytesOf ks v).length
   ·refine(Xr w x0 x1 ea va en ec v.length vc _ aa HL).mono ?_;rintro e w' ⟨rfl,hb⟩;refine⟨?_,hb⟩;simp[UE,NG,aa]
   ·refine(aab w x0 x1 ea va en ec v.length vc _ aa HL).mono ?_;rintro e w' ⟨rfl,hb⟩;refine⟨?_,hb⟩;simp[UE,NG,aa]
theorem Ii(n q:Nat)(w:World):(Instr.field 161 (Bq n q) 0).run Tryz.prog w=.ok (.int .i64 n) w:=by kernel_rfl
structure Good(s:ByteArray):Prop where
 size:s.size<=40
 ok:NM s (s.size+1) 0
 EC:Pt.EC (nx s) (s.size+1) 0<=4
theorem Py{s:ByteArray}(h:(Pt.IZ (nx s) s.size).1=0):Good s:=by
 unfold Pt.IZ at h;split at h
 ·cases h
 ·split at h
  ·rename_i h1 h2;split at h
   ·cases h
   ·split at h
    ·cases h
    ·exact⟨by omega,⟨af8 _,by omega,h2⟩,by omega⟩
  ·cases h
def Qf(s:ByteArray)(w:World)(e:Ending)(w':World):Prop:=
 (if (Pt.IZ (nx s) s.size).1=0 then ∃c0 c1 c2,e=.returned (.agg #[c0,c1,c2])/\Fe w' (fun k=>w.heap.size<=k) (nx s) (s.size+1) 0 c0 c1 c2 else e=Az (Pt.IZ (nx s) s.size).1 (Pt.IZ (nx s) s.size).2)/\Below w.heap.size w w'
theorem WX(s:ByteArray)(w:World):Calls Tryz.prog 173 #[.string s] w (Qf s w):=by
 unfold Qf;by_cases hs:s.size<=40
 ·have hn:¬40<s.size:=by omega
  cases hT:(Pt.ty (nx s) (s.size+1) 0).1 with
  |false=>
   have e1:Pt.IZ (nx s) s.size=(2,(Pt.ty (nx s) (s.size+1) 0).2):=by simp[Pt.IZ,hn,hT]
   rw[e1];exact TU s w hs hT
  |true=>
   obtain⟨_,hb,_⟩:=Pt.agree (g:=nx s) (n:=s.size) (fun p hp=>KB hp) (s.size+1) 0 0 1 0 [] (by omega) (by omega);obtain⟨q1,q2⟩:=hb hT;by_cases hq:(Pt.ty (nx s) (s.size+1) 0).2<s.size
   ·have e1:Pt.IZ (nx s) s.size=(2,(Pt.ty (nx s) (s.size+1) 0).2):=by simp[Pt.IZ,hn,hT,hq]
    rw[e1];exact Wv s w hs hT hq
   ·have H:=Zr s w hs hT (by omega);by_cases h4:4<Pt.EC (nx s) (s.size+1) 0
    ·have e1:Pt.IZ (nx s) s.size=(3,0):=by simp[Pt.IZ,hn,hT,hq,h4]
     rw[e1];simp only[h4,if_true]at H;exact H
    ·have e1:Pt.IZ (nx s) s.size=(0,0):=by simp[Pt.IZ,hn,hT,hq,h4]
     rw[e1];simp only[h4,if_false]at H;exact H
 ·have e1:Pt.IZ (nx s) s.size=(1,0):=by
   have:40<s.size:=by omega
   simp[Pt.IZ,this]
  rw[e1];exact Wu s w hs
def CW(s:ByteArray)(v:List It):Nat×List UInt8:=if (Pt.IZ (nx s) s.size).1=0 then NG (CF (nx s) (s.size+1) 0 v) v else ((Pt.IZ (nx s) s.size).1,[])
theorem Yp{ks:List Bool}{v:List It}(h:DU ks v)(hl:ks.length=v.length):abG ks v:=⟨hl,h⟩
end Go.Proofs.YtblomippkddgiabGreatDoor.V
namespace Go.Proofs.YtblomippkddgiabGreatDoor.R
variable {s:List UInt8}{i k:Nat}{p:Pk}
abbrev It:=Int×ByteArray
structure Cf where
 Ad:Int
 lines:Int
 Ay:Int
 tries:Int
 table:Int
structure En where
 client:Int
 Ae:Int
 line:Int
 seq:Int
 proc:Int
 arg:List It
 result:List It
structure Fl where
 to:Int
 s:List UInt8
 Hy:Bool
structure Sv where
 kind:Int
 alive:Bool
 log:List En
structure Ln where
 seq:Int
 state:Int
 result:List It
 uid:Int
 to:ByteArray
 message:List UInt8
 Ao:Int
 came:List UInt8
 pieces:Int
 wait:Int
 tries:Int
structure Cl where
 Ae:Int
 bound:List Int
 lines:List Ln
structure Sn where
 seq:Int
 uid:Int
 message:List UInt8
 pieces:Int
 state:Int
 result:List UInt8
 at':Int
 timed:Bool
 wait:Int
 tries:Int
structure Jb where
 client:Int
 line:Int
 Ae:Int
 seq:Int
 uid:Int
structure Wd where
 c:Cf
 names:List (List UInt8)
 stands:List Int
 Ab:List Sv
 Ak:List Fl
 Ad:List Cl
 Aj:List Int
 seen:List Sn
 jobs:List Jb
def JC:Ln:=⟨0,0,[],0,⟨#[]⟩,[],0,[],0,0,0⟩
def Cs:Sn:=⟨0,0,[],0,0,[],0,false,0,0⟩
def FF(Ae:Int)(lines:Int):Cl:=⟨Ae,[],List.replicate lines.toNat JC⟩
def BD(c:Cf):Prop:=(1<=c.Ad/\c.Ad<=3)/\(1<=c.lines/\c.lines<=3)/\(1<=c.Ay/\c.Ay<=8)/\(1<=c.tries/\c.tries<=6)/\(1<=c.table/\c.table<=9)
instance (c:Cf):Decidable (BD c):=by unfold BD;infer_instance
def Wj(c:Cf):Option Wd:=if BD c then some ⟨c,[],[],[],[],List.replicate c.Ad.toNat (FF 1 c.lines),[0,0,0],List.replicate 9 Cs,[]⟩ else none
def CZ(s:List UInt8):Bool:=decide (1<=s.length)&&decide (s.length<=8)&&s.all fun b=>decide (97<=b.toNat)&&decide (b.toNat<=122)
def BI(w:Wd)(name:List UInt8):Option Nat:=w.names.findIdx? (·==name)
def Ch(w:Wd)(uid:Int):Wd:=
 {w with
  Ab:=w.Ab.modify (uid-1).toNat fun s=>{s with alive:=false}
  seen:=w.seen.map fun r=>if r.uid=uid/\r.state<3 then {r with state:=4} else r}
def Bd(w:Wd)(name:List UInt8)(kind:Int):(Int×Int)×Wd:=
 if CZ name=false then ((0,10),w)
 else if kind<0\/2<kind then ((0,9),w)
 else match BI w name with
  |none=>
   if w.names.length=6 then ((0,12),w)
   else if w.Ab.length=255 then ((0,11),w)
   else (((w.Ab.length:Int)+1,0),{w with names:=w.names++[name],stands:=w.stands++[(w.Ab.length:Int)+1],Ab:=w.Ab++[⟨kind,true,[]⟩]})
  |some k=>
   if w.Ab.length=255 then ((0,11),w)
   else
    let w1:=Ch w (w.stands.getD k 0)
    (((w.Ab.length:Int)+1,0),{w1 with stands:=w1.stands.set k ((w.Ab.length:Int)+1),Ab:=w1.Ab++[⟨kind,true,[]⟩]})
def E4(w:Wd)(client:Int)(name:List UInt8):(Int×Int×Int)×Wd:=
 if client<0\/(w.Ad.length:Int)<=client then ((0,0,13),w)
 else match BI w name with
  |none=>((0,0,10),w)
  |some k=>
   let uid:=w.stands.getD k 0
   ((uid,((w.Ab[(uid-1).toNat]?).map (·.kind)).getD 0,0),{w with Ad:=w.Ad.modify client.toNat fun c=>{c with bound:=c.bound++[uid]}})
def Ag(s:List UInt8):Int:=(((s.length+7) / 8:Nat):Int)
def Be(s:List UInt8)(k:Int):List UInt8:=(s.drop (8*k.toNat)).take 8
def Bg(w:Wd)(to:Int)(p:Pk):Wd:=if w.Ak.length<40 then {w with Ak:=w.Ak++[⟨to,Bm p,false⟩]} else w
def BH(w:Wd)(client line:Int):Ln:=((w.Ad[client.toNat]?).bind fun c=>c.lines[line.toNat]?).getD JC
def FP(w:Wd)(client:Int):Int:=((w.Ad[client.toNat]?).map (·.Ae)).getD 0
def Am(w:Wd)(client line:Int)(l:Ln):Wd:={w with Ad:=w.Ad.modify client.toNat fun c=>{c with lines:=c.lines.set line.toNat l}}
def AA(w:Wd)(client line:Int)(again:Bool):Wd:=
 let l:=BH w client line
 Bg w (-1) ⟨1,client,FP w client,line,l.seq,l.uid,l.Ao,Ag l.message,again || decide (l.Ao<Ag l.message-1),Be l.message l.Ao⟩
def Fw(w:Wd)(client line:Int):Wd:=
 let l:=BH w client line
 Bg w (-1) ⟨3,client,FP w client,line,l.seq,l.uid,0,1,true,[]⟩
def txt(l:List UInt8):ByteArray:=⟨l.toArray⟩
def C6(kind proc:Int):Option (ByteArray×ByteArray):=
 if kind=0/\proc=0 then some (txt [105],txt [99])
 else if kind=0/\proc=1 then some (txt [98],txt [99])
 else if kind=1/\proc=0 then some (txt [115],txt [99])
 else if kind=1/\proc=1 then some (txt [99],txt [113,52,115])
 else if kind=2/\proc=0 then some (txt [114,40,101,51,113,51,105,41],txt [117,40,98,113,51,105,41])
 else none
def Ba(t:ByteArray)(v:List It):Option (List UInt8):=if (V.CW t v).1=0 then some (V.CW t v).2 else none
def Cw(w:Wd)(client line uid proc:Int)(arg:List It):(Int×Int)×Wd:=
 if client<0\/(w.Ad.length:Int)<=client then ((0,13),w)
 else if line<0\/w.c.lines<=line then ((0,14),w)
 else if ¬uid∈((w.Ad[client.toNat]?).map (·.bound)).getD [] then ((0,15),w)
 else match C6 (((w.Ab[(uid-1).toNat]?).map (·.kind)).getD 0) proc with
  |none=>((0,16),w)
  |some (from',to)=>match Ba from' arg with
   |none=>((0,4),w)
   |some bs=>
    let l:=BH w client line
    if l.state=1 then ((0,17),w)
    else if l.seq=999 then ((0,11),w)
    else ((l.seq+1,0),AA (Am w client line ⟨l.seq+1,1,[],uid,to,A5 proc++bs,0,[],0,w.c.Ay,w.c.tries⟩) client line false)
def Kg(w:Wd)(client line:Int):Int×Int×List It×Int:=
 if client<0\/(w.Ad.length:Int)<=client then (0,0,[],13)
 else if line<0\/w.c.lines<=line then (0,0,[],14)
 else ((BH w client line).state,(BH w client line).seq,(BH w client line).result,0)
def AU(w:Wd)(client line:Int):Wd:=
 let l:=BH w client line
 if l.state≠1 then w
 else if 1<l.wait then Am w client line {l with wait:=l.wait-1}
 else if l.tries=0 then Am w client line {l with wait:=l.wait-1,state:=3}
 else
  let w1:=Am w client line {l with wait:=w.c.Ay,tries:=l.tries-1}
  if 8*l.Ao<(l.message.length:Int) then AA w1 client line true else Fw w1 client line
def AY(w:Wd)(i:Nat):Sn:=(w.seen[i]?).getD Cs
def AB(w:Wd)(i:Nat)(r:Sn):Wd:={w with seen:=w.seen.set i r}
def AL(w:Wd)(i:Nat):Wd:=
 let r:=AY w i
 Bg w ((i / 3:Nat):Int) ⟨5,((i / 3:Nat):Int),(w.Aj[i / 3]?).getD 0,((i % 3:Nat):Int),r.seq,r.uid,r.at',Ag r.result,false,Be r.result r.at'⟩
def AJ(w:Wd)(i:Nat):Wd:=
 let r:=AY w i
 if r.timed=false then w
 else if 1<r.wait then AB w i {r with wait:=r.wait-1}
 else if r.tries=0 then AB w i {r with wait:=r.wait-1,timed:=false}
 else AL (AB w i {r with wait:=w.c.Ay,tries:=r.tries-1}) i
def EG(w:Wd):Wd:=(List.range w.Ad.length).foldl (fun w (i:Nat)=>(List.range w.c.lines.toNat).foldl (fun w (k:Nat)=>AU w (i:Int) (k:Int)) w) w
def IB(w:Wd):Wd:=(List.range 9).foldl AJ (EG w)
def off(w:Wd)(i:Int):Prop:=i<0\/(w.Ak.length:Int)<=i
instance (w:Wd) (i:Int):Decidable (off w i):=by unfold off;infer_instance
def aeK(w:Wd)(i:Int):Int×List UInt8×Int:=if off w i then (0,[],9) else match w.Ak[i.toNat]? with
 |none=>(0,[],9)
 |some f=>(f.to,f.s,0)
def Ej(w:Wd)(i:Int):Int×Wd:=if off w i then (9,w) else (0,{w with Ak:=w.Ak.eraseIdx i.toNat})
def DG(w:Wd)(i:Int):Int×Wd:=if off w i then (9,w) else if 40<=w.Ak.length then (12,w) else match w.Ak[i.toNat]? with
 |none=>(9,w)
 |some f=>(0,{w with Ak:=w.Ak++[f]})
def Dt(w:Wd)(i at' by':Int):Int×Wd:=if off w i then (9,w) else match w.Ak[i.toNat]? with
 |none=>(9,w)
 |some f=>
  if at'<0\/(f.s.length:Int)<=at'\/by'<1\/255<by' then (9,w)
  else if f.Hy=true then (18,w)
  else (0,{w with Ak:=w.Ak.set i.toNat ⟨f.to,f.s.set at'.toNat ((f.s.getD at'.toNat 0) ^^^ b8 by'),true⟩})
structure Mc(l:Ln):Prop where
 seq:0<=l.seq/\l.seq<=999
 one:l.state=1->1<=l.seq/\(1<=l.uid/\l.uid<=255)/\(1<=l.message.length/\l.message.length<=72)/\(0<=l.Ao/\l.Ao<=Ag l.message)/\(1<=l.wait/\l.wait<=8)/\(0<=l.tries/\l.tries<=6)
structure aen(G:Wd)(c:Cl):Prop where
 lines:(c.lines.length:Int)=G.c.lines
 Ae:1<=c.Ae/\c.Ae<=255
 bound:∀u∈c.bound,1<=u/\u<=(G.Ab.length:Int)
 line:∀(k:Nat) (l:Ln),c.lines[k]?=some l->Mc l
structure Wf(G:Wd):Prop where
 cf:BD G.c
 Gt:(G.Ad.length:Int)=G.c.Ad
 cl:∀(i:Nat) (c:Cl),G.Ad[i]?=some c->aen G c
 E3:G.Ak.length<=40
 Eo:∀f∈G.Ak,f.s.length<=21
 sv:G.Ab.length<=255
 Kh:∀s∈G.Ab,0<=s.kind/\s.kind<=2
 nm:G.names.length<=6
 st:G.stands.length=G.names.length
 nd:G.names.Nodup
 I5:∀u∈G.stands,1<=u/\u<=(G.Ab.length:Int)
theorem CR{G:Wd}{c:Cl}{l:Ln}(hc:G.Ad[i]?=some c)(hl:c.lines[k]?=some l):BH G i k=l:=by
 simp[BH,hc,hl]
theorem Co{G:Wd}{c:Cl}(hc:G.Ad[i]?=some c):FP G i=c.Ae:=by
 simp[FP,hc]
theorem ac9(G:Wd)(i k:Int)(l:Ln):(Am G i k l).c=G.c:=rfl
theorem ZJ(G:Wd)(i k:Int)(l:Ln):(Am G i k l).Ak=G.Ak:=rfl
theorem WV(G:Wd)(i k:Int)(l:Ln):(Am G i k l).Ab=G.Ab:=rfl
theorem Bo{G:Wd}{l:Ln}{j:Nat}:(Am G i k l).Ad[j]?=(G.Ad[j]?).map fun c=>if i=j then {c with lines:=c.lines.set k l} else c:=by
 simp only[Am,afY,agm];by_cases h:i=j
 ·simp[h]
 ·simp[h]
theorem Wf.Am{G:Wd}(h:Wf G){l':Ln}(hl:Mc l'):Wf (Am G i k l'):=by
 refine⟨h.cf,by simpa [R.Am] using h.Gt,fun j c hc=>?_,h.E3,h.Eo,h.sv,h.Kh,h.nm,h.st,h.nd,h.I5⟩;rw[Bo]at hc;cases hj:G.Ad[j]? with
 |none=>rw[hj]at hc;cases hc
 |some c0=>
  rw[hj]at hc;have h0:=h.cl j c0 hj;simp only[af9,Option.some.injEq]at hc;subst hc;split
  ·refine⟨by simpa [R.Am] using h0.lines,h0.Ae,h0.bound,fun m x hx=>?_⟩;simp only[afV]at hx;split at hx
   ·split at hx
    ·cases hx;exact hl
    ·cases hx
   ·exact h0.line m x hx
  ·exact⟨h0.lines,h0.Ae,h0.bound,h0.line⟩
theorem abq(h:AR p):(Bm p).length<=21:=by
 have:=LO h;simp[Bm,Bv,nums,A5];omega
theorem Wf.Bg{G:Wd}(h:Wf G){to:Int}(hr:AR p):Wf (Bg G to p):=by
 unfold R.Bg;split
 ·rename_i hl;refine⟨h.cf,h.Gt,fun j c hc=>?_,by simp;omega,fun f hf=>?_,h.sv,h.Kh,h.nm,h.st,h.nd,h.I5⟩
  ·have h0:=h.cl j c hc;exact⟨h0.lines,h0.Ae,h0.bound,h0.line⟩
  ·rcases agb.1 hf with hf|hf
   ·exact h.Eo f hf
   ·simp only[af3]at hf;subst hf;exact abq hr
 ·exact h
theorem De(h:1<=s.length):1<=Ag s:=by unfold Ag;omega
theorem El(h:s.length<=72):Ag s<=9:=by unfold Ag;omega
theorem G0{k:Int}:(Be s k).length=min 8 (s.length-8*k.toNat):=by simp[Be]
theorem GZ{k:Int}(h0:0<=k):if k<Ag s-1 then (Be s k).length=8 else (Be s k).length<=8:=by
 rw[G0];unfold Ag at *;split<;>omega
theorem Gg{a:Int}:8*a<(s.length:Int)↔a<Ag s:=by unfold Ag;omega
def Dn(G:Wd)(i k:Nat)(l:Ln)(again:Bool):Pk:=⟨1,i,FP G i,k,l.seq,l.uid,l.Ao,Ag l.message,again || decide (l.Ao<Ag l.message-1),Be l.message l.Ao⟩
def Dw(G:Wd)(i k:Nat)(l:Ln):Pk:=⟨3,i,FP G i,k,l.seq,l.uid,0,1,true,[]⟩
theorem Mw{G:Wd}(h:Wf G){c:Cl}{l:Ln}(hc:G.Ad[i]?=some c)(hl:c.lines[k]?=some l)(h1:l.state=1)(ha:l.Ao<Ag l.message)(aa:Bool):AR (Dn G i k l aa):=by
 have hi:=(afG.1 hc).1;have hk:=(afG.1 hl).1;have h0:=h.cl i c hc;obtain⟨q1,q2,q3,q4,q5,q6⟩:=(h0.line k l hl).one h1;have hs:=(h0.line k l hl).seq;have hn:=h.Gt;have ab:=h.cf;have ad:=h0.lines;have ac:=h0.Ae;have hp:=El q3.2;have hb:=GZ (s:=l.message) q4.1;have e:=Co hc;unfold BD at ab;refine⟨by simp[Dn],by simp[Dn];omega,by simp only[Dn,e];omega,by simp[Dn];omega,by simp[Dn];omega,by simp[Dn];omega,by simp[Dn];omega,by simp[Dn];omega,?_⟩;show Dm (Dn G i k l aa);unfold Dm;rw[if_pos (show (Dn G i k l aa).kind=1\/(Dn G i k l aa).kind=5 from afJ rfl)];exact hb
theorem Lm{G:Wd}(h:Wf G){c:Cl}{l:Ln}(hc:G.Ad[i]?=some c)(hl:c.lines[k]?=some l)(h1:l.state=1):AR (Dw G i k l):=by
 have hi:=(afG.1 hc).1;have hk:=(afG.1 hl).1;have h0:=h.cl i c hc;obtain⟨q1,q2,q3,q4,q5,q6⟩:=(h0.line k l hl).one h1;have hs:=(h0.line k l hl).seq;have hn:=h.Gt;have aa:=h.cf;have ac:=h0.lines;have ab:=h0.Ae;have e:=Co hc;unfold BD at aa;refine⟨by simp[Dw],by simp[Dw];omega,by simp only[Dw,e];omega,by simp[Dw];omega,by simp[Dw];omega,by simp[Dw];omega,by simp[Dw],by simp[Dw],?_⟩;simp[Dm,Dw]
theorem Je{G:Wd}{l:Ln}(hl:BH G i k=l)(aa:Bool):AA G i k aa=Bg G (-1) (Dn G i k l aa):=by
 unfold AA;rw[hl];rfl
theorem Oz{G:Wd}{l:Ln}(hl:BH G i k=l):Fw G i k=Bg G (-1) (Dw G i k l):=by
 unfold Fw;rw[hl];rfl
end Go.Proofs.YtblomippkddgiabGreatDoor.R
namespace Go.Proofs.YtblomippkddgiabGreatDoor.V
open Go.RowKit
variable {l:List UInt8}{b:Nat}{O:Value}{w:World}
abbrev str(l:List UInt8):ByteArray:=⟨l.toArray⟩
theorem Ax(l:List UInt8):(str l).size=l.length:=by simp[ByteArray.size]
theorem CP(l:List UInt8)(a b:Nat):(str l).extract a b=str ((l.drop a).take (b-a)):=by
 apply ByteArray.ext;simp[ByteArray.data_extract,List.extract_eq_take_drop]
theorem Jw(w:World)(l:List UInt8)(M:Array Value)(hM:M.size=l.length):
  (Builtin.copy_ #[281,9] 3 #[.slice (some ⟨w.heap.size,0,none⟩) l.length l.length,.string (str l)]).run Tryz.prog (w.alloc (.cells M 5))=.ok (goInt l.length) ((w.alloc (.cells M 5)).setRow w.heap.size (DT l).toArray):=by
 have h:=Lib.run_copy_row_string (P:=Tryz.prog) (w.alloc (.cells M 5)) 281 9 3 5 w.heap.size 0 l.length l.length (str l) M 5 Tryz.underlying281 (by kernel_rfl) (heap_alloc_new w _) (by rw[Ax];exact afI _) (by rw[Ax];omega);rw[Ax]at h;have e:M.toList.drop (0+l.length)=[]:=List.drop_of_length_le (by rw[agG];omega);have e2:M.toList.take 0++Lib.byteCells (str l).data.toList++M.toList.drop (0+l.length)=DT l:=by
  rw[e,List.take_zero,agO,agv];rfl
 rw[e2]at h;exact h
theorem Jh(w:World)(M:Array Value)(Y:Array Value)(n:Nat):Below w.heap.size w (((w.alloc (.cells M 5)).setRow w.heap.size Y).freeze ⟨w.heap.size,0,none⟩ n):=by
 refine Lib.below_freeze (p:=⟨w.heap.size,0,none⟩) ?_ (afI _) _;exact((Below.refl w.heap.size w).alloc (afI _) _).trans ⟨rfl,rfl,rfl,by simp[World.setRow],fun k hk=>setRow_other _ _ _ _ (by omega)⟩
theorem Jx(w:World)(l:List UInt8)(M:Array Value)(h0:l≠[])(hl:l.length<=1000):
  (Builtin.unsafeString_ #[330,3] 9 #[.pointer (some ⟨w.heap.size,0,none⟩),.int .i64 l.length]).run Tryz.prog ((w.alloc (.cells M 5)).setRow w.heap.size (DT l).toArray)=.ok (.string (str l)) (((w.alloc (.cells M 5)).setRow w.heap.size (DT l).toArray).freeze ⟨w.heap.size,0,none⟩ l.length):=by
 have hg:=setRow_heap (w.alloc (.cells M 5)) w.heap.size M (DT l).toArray 5 (0,0) (heap_alloc_new w _);have aa:(DT l).toArray.size=l.length:=by simp[DT]
 refine Lib.run_unsafeString_row (P:=Tryz.prog) _ 330 3 9 5 Tryz.underlying330 (by kernel_rfl) w.heap.size l.length ?_ l h0 (afI _) (by omega) fun j x hx=>?_
 ·unfold World.shape?;rw[hg];simp[DT]
 ·refine Lib.cells_of_row hg l.length j _ ?_;rw[List.toList_toArray,af6 (by simp[DT])];unfold DT;rw[afW,hx];rfl
theorem Ks(l:List UInt8)(w:World)(hl:l.length<=1000):Calls Tryz.prog 200 #[.string (str l)] w fun e w'=>e=.returned (.string (str l))/\Below w.heap.size w w':=by
 have ac:=Ax l;by_cases h0:l=[]
 ·subst h0;go_enter Tryz.func200,Tryz.ntmps200;go_wp2
  go_ret
  exact⟨rfl,Below.refl _ _⟩
 ·obtain⟨i0,hi,ad,ae,af⟩:=info_parts info5;have ab:0<l.length:=agN.2 h0;obtain⟨M,hM⟩:∃M,M=madeCells (Value.int .u8 0).cells (l.length*1):=⟨_,rfl⟩;have aa:M.size=l.length:=by rw[hM,size_madeCells];omega
  have ah:∀W:World,(Instr.makeSlice 281 (.int .i64 (l.length:Int)) (.int .i64 (l.length:Int))).run Tryz.prog W=.ok (.slice (some ⟨W.heap.size,0,none⟩) l.length l.length) (W.alloc (.cells M 5)):=fun W=>by
   have h:=run_make (P:=Tryz.prog) W 281 5 i0 (.int .u8 0) Tryz.underlying281 hi ad .i64 .i64 (l.length:Int) (l.length:Int) (by omega) (agt _) (by rw[af];omega) (by omega);rw[ae,afY,<-hM]at h;exact h
  have ag:=Jw w l M aa;have aj:=Jx w l M h0 hl;have HB:=Ac (Jh w M (DT l).toArray l.length);have ai:((l.length:Int)==0)=false:=by simp;omega
  generalize hY:(DT l).toArray=Y at *;generalize hS:str l=S at *;clear hM hY h0 hS;generalize l.length=n at *;subst ac;go_enter Tryz.func200,Tryz.ntmps200;go_wp2
  go_ret
  exact⟨rfl,Aa HB⟩
theorem Ei(l:List UInt8)(w:World)(hl:l.length<=1000):Calls Tryz.prog 146 #[.string (str l)] w fun e w'=>e=.returned (.string (str l))/\Below w.heap.size w w':=by
 have H:=Ac (Ks l w hl);generalize hS:str l=S at *;clear hS;go_enter Tryz.func146,Tryz.ntmps146;go_wp2_with fail
 refine(Aa H).mono ?_;rintro e w1 ⟨rfl,hb⟩;go_wp2
 go_ret
 exact⟨rfl,hb⟩
def Rd(w:World)(b:Nat)(l:List UInt8)(O:Value):Prop:=w.heap[b]?=some (.cells #[.string (str l),.int .i64 6,O] 306 (0,0))
theorem Rd.left(h:Rd w b l O):w.cell? ⟨b,0,none⟩=some (.string (str l)):=by
 unfold Rd at h;simp[World.cell?,h]
theorem Rd.wrong(h:Rd w b l O):w.cell? ⟨b,1,none⟩=some (.int .i64 6):=by
 unfold Rd at h;simp[World.cell?,h]
theorem Rd.items(h:Rd w b l O):w.cell? ⟨b,2,none⟩=some O:=by
 unfold Rd at h;simp[World.cell?,h]
theorem Rd.thaw(h:Rd w b l O)(o:Nat):w.frozen? ⟨b,o,none⟩=false:=by
 unfold Rd at h;simp[World.frozen?,h]
theorem Rd.lt(h:Rd w b l O):b<w.heap.size:=lt_of_block h
theorem Rd.set0(h:Rd w b l O)(l':List UInt8):Rd (w.setCell ⟨b,0,none⟩ (.string (str l'))) b l' O:=by
 unfold Rd at h ⊢;simp only[World.setCell,agi,h];simp
theorem Rd.set1(h:Rd w b l O)(x:Value):Rd (w.setCell ⟨b,2,none⟩ x) b l x:=by
 unfold Rd at h ⊢;simp only[World.setCell,agi,h];simp
theorem Rd.below{w':World}(h:Rd w b l O)(hb:Below w.heap.size w w'):Rd w' b l O:=by
 have hl:=h.lt;unfold Rd at h ⊢;rw[hb.block b hl];exact h
theorem Lq(b:Nat)(w:World)(h1:w.cell? ⟨b,1,none⟩=some (.int .i64 6)):Calls Tryz.prog 213 #[.pointer (some ⟨b,0,none⟩)] w fun e w'=>e=Az 6 0/\w'=w:=by
 go_enter Tryz.func213,Tryz.ntmps213;go_wp2;exact⟨rfl,rfl,rfl⟩
theorem Cp(b:Nat)(l:List UInt8)(O:Value)(w:World)(h:Rd w b l O):Calls Tryz.prog 213 #[.pointer (some ⟨b,0,none⟩)] w fun e w'=>e=Az 6 0/\w'=w:=Lq b w h.wrong
theorem FV(b:Nat)(l:List UInt8)(O:Value)(n:Nat)(w:World)(h:Rd w b l O)(hn:n<=l.length)(hl:l.length<=1000):
  Calls Tryz.prog 246 #[.pointer (some ⟨b,0,none⟩),.int .i64 n] w fun e w'=>e=.returned (.string (str (l.take n)))/\w'=w.setCell ⟨b,0,none⟩ (.string (str (l.drop n))):=by
 have h1:=h.left;have h2:=h.thaw 0;have aa:=Ax l;have e1:(str l).extract 0 n=str (l.take n):=by rw[CP];simp
 have e2:(str l).extract n (str l).size=str (l.drop n):=by
  rw[CP,Ax,af6 (by rw[agf];omega)]
 generalize hS:str l=S at *;generalize hA:str (l.take n)=A at *;generalize hB:str (l.drop n)=B at *;clear hS hA hB h;generalize l.length=m at *;subst aa;have ab:¬((S.size:Int)<(n:Int)):=by omega
 go_enter Tryz.func246,Tryz.ntmps246;go_wp2
 go_ret
 exact⟨rfl,rfl⟩
def flat:List It->List Value
 |[]=>[]
 |x :: v=>.int .i64 x.1 :: .string x.2 :: flat v
theorem FM:∀v:List It,(flat v).length=v.length*2
 |[]=>rfl
 |x :: v=>by simp only[flat,af1,FM v];omega
theorem flat_get:∀(v:List It) (j:Nat) (x:It),v[j]?=some x->(flat v)[j*2]?=some (.int .i64 x.1)/\(flat v)[j*2+1]?=some (.string x.2)
 |[],j,x,h=>by simp at h
 |y :: v,0,x,h=>by
  simp at h;subst h;exact⟨rfl,rfl⟩
 |y :: v,j+1,x,h=>by
  have:=flat_get v j x (by simpa using h);rw[show (j+1)*2=j*2+1+1 by omega];simpa [flat] using this
theorem JX:∀v:List It,∀u∈flat v,u.oneCell'=true
 |[],u,h=>by cases h
 |x :: v,u,h=>by
  simp only[flat,agR]at h;rcases h with rfl|rfl|h
  ·rfl
  ·rfl
  ·exact JX v u h
theorem MR:(Tryz.prog.info? 73).map (fun i=>(i.zero,i.size,i.bytes))=some (some (.agg #[.int .i64 0,.string ⟨#[]⟩]),2,24):=by kernel_rfl
end Go.Proofs.YtblomippkddgiabGreatDoor.V
