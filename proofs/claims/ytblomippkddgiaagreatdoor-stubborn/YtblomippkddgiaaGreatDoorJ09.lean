import Derived.Test.YtblomippkddgiaaGreatDoorJ08
import Derived.Laws.IdiomStrings
import Derived.Lib.BufferRead
import Derived.Test.YtblomippkddgiaaGreatDoorJ05
import Derived.Test.YtblomippkddgiaaGreatDoorJ03
import Derived.ProofKit
import Derived.OpenShut
import Derived.ShutString
import Derived.ChangeOld
import Derived.Below
import Derived.Test.YtblomippkddgiaaGreatDoorJ00
set_option maxRecDepth 100000
set_option maxHeartbeats 1000000
namespace Go.Proofs.YtblomippkddgiaaGreatDoor.V
open Go.RowKit
theorem amq{w:World}{B:Nat}{O:Value}{out:List UInt8}(h:w.ownsRow B 5 1 O out.length (u8s out)):(convert 199 9 O).run Tryz.prog w=.ok (.string ⟨out.toArray⟩) w:=by
 have hcl:=fun g=>h.cells (g:=g)
 rcases h.2 with ⟨hv,h0⟩|⟨g,cap,cur,hv,_⟩
 ·have:out=[]:=List.eq_nil_of_length_eq_zero h0
  subst this
  rw[hv]
  exact Lib.run_convert_nil_bytes w 199 9 5 0 Tryz.underlying199 (by kernel_rfl) Tryz.underlying9
 ·rw[hv]
  refine run_convert_bytes_back w 199 9 5 ⟨g,0,none⟩ cap out Tryz.underlying199 (by kernel_rfl) Tryz.underlying9 fun j hj=>?_
  refine hcl g (by rw[hv];rfl) j _ ?_
  unfold u8s
  rw[List.getElem?_map,List.getElem?_eq_getElem hj]
  rfl
def wRes(e:Eaten)(v:List It):Nat×List UInt8:=match e with
 |none=>(4,[])
 |some (ks,r)=>if r=[] then (if 70<(bytesOf ks v).length then (5,[]) else (0,bytesOf ks v)) else (4,[])
def WPost(res:Nat×List UInt8)(e:Ending):Prop:=if res.1=0 then e=.returned (.string ⟨res.2.toArray⟩) else e=aaf res.1 0
theorem abI(n:Nat)(w:World):Calls Tryz.prog 127 #[.int .i64 n] w fun e w'=>e=.returned (.bool (decide (70<n)))∧w'=w:=by
 have e:(decide (70<n))=(decide ((70:Int)<(n:Int))):=by
  rw[Bool.eq_iff_iff]
  simp
  omega
 rw[e]
 go_enter Tryz.func127,Tryz.ntmps127
 go_wp2
 go_ret
 exact⟨rfl,rfl⟩
abbrev api(V:Value):Obj:=.cells #[V,.slice none 0 0] 201
theorem aip(w:World)(x0 x1:Int)(ea va:Option Addr)(en ec vn vc:Nat)
  (HK:Calls Tryz.prog 125 #[.agg #[.int .u8 x0,.int .i64 x1,.slice ea en ec],.iface 203 (.pointer (some ⟨w.heap.size+1,0,none⟩))] ((w.alloc (aaz x0 x1 ea en ec)).alloc (api (.slice va vn vc))) fun e w'=>e=aaf 4 0∧Below w.heap.size w w') :
  Calls Tryz.prog 77 #[.agg #[.int .u8 x0,.int .i64 x1,.slice ea en ec],.slice va vn vc] w fun e w'=>e=aaf 4 0∧Below w.heap.size w w':=by
 have HKK:=aab HK
 clear HK
 go_enter Tryz.func77,Tryz.ntmps77
 go_wp2_with fail
 refine(unhide HKK).mono ?_
 rintro e w1 ⟨rfl,hb⟩
 go_wp2
 exact⟨rfl,rfl,hb⟩
structure WLeft(w w':World)(n:Nat)(out:List UInt8)(a:Option Addr)(cap:Nat)(O:Value):Prop where
 left:w'.cell? ⟨w.heap.size+1,0,none⟩=some (.slice a n cap)
 lout:w'.cell? ⟨w.heap.size+1,1,none⟩=some O
 own:w'.ownsRow (w.heap.size+2) 5 1 O out.length (u8s out)
 below:Below w.heap.size w w'
theorem aiq(w:World)(x0 x1:Int)(ea va:Option Addr)(en ec vn vc:Nat)(n:Nat)(out:List UInt8)(hn:0<n)
  (HK:Calls Tryz.prog 125 #[.agg #[.int .u8 x0,.int .i64 x1,.slice ea en ec],.iface 203 (.pointer (some ⟨w.heap.size+1,0,none⟩))] ((w.alloc (aaz x0 x1 ea en ec)).alloc (api (.slice va vn vc))) fun e w'=>e=.returned (.tuple #[])∧∃a cap O,WLeft w w' n out a cap O) :
  Calls Tryz.prog 77 #[.agg #[.int .u8 x0,.int .i64 x1,.slice ea en ec],.slice va vn vc] w fun e w'=>e=aaf 4 0∧Below w.heap.size w w':=by
 have HKK:=aab HK
 have HN:=aab aaZ
 clear HK
 go_enter Tryz.func77,Tryz.ntmps77
 go_wp2_with fail
 refine(unhide HKK).mono ?_
 rintro e w1 ⟨rfl,a,cap,O,hL⟩
 have c0:=hL.left
 have hb:=hL.below
 have hbz:=hb.size
 clear hL
 go_wp2_with fail
 refine((unhide HN) _).mono ?_
 rintro e w2 ⟨rfl,hb2⟩
 go_wp2
 exact⟨rfl,rfl,hb.trans (hb2.mono hbz)⟩
theorem ajM(w:World)(x0 x1:Int)(ea va:Option Addr)(en ec vn vc:Nat)(out:List UInt8)(hn:70<out.length)
  (HK:Calls Tryz.prog 125 #[.agg #[.int .u8 x0,.int .i64 x1,.slice ea en ec],.iface 203 (.pointer (some ⟨w.heap.size+1,0,none⟩))] ((w.alloc (aaz x0 x1 ea en ec)).alloc (api (.slice va vn vc))) fun e w'=>e=.returned (.tuple #[])∧∃a cap O,WLeft w w' 0 out a cap O) :
  Calls Tryz.prog 77 #[.agg #[.int .u8 x0,.int .i64 x1,.slice ea en ec],.slice va vn vc] w fun e w'=>e=aaf 5 0∧Below w.heap.size w w':=by
 have HKK:=aab HK
 have HB:=aab (fun w=>abI out.length w)
 rw[show decide (70<out.length)=true by simp[hn]]at HB
 clear HK hn
 go_enter Tryz.func77,Tryz.ntmps77
 go_wp2_with fail
 refine(unhide HKK).mono ?_
 rintro e w1 ⟨rfl,a,cap,O,hL⟩
 have c0:=hL.left
 have c1:=hL.lout
 have hb:=hL.below
 obtain⟨oa,oc,rfl⟩:∃a c,O=.slice a out.length c:=by
  rcases hL.own.2 with ⟨hv,h0⟩|⟨g,cap,cur,hv,_⟩
  ·exact⟨none,0,by rw[hv,h0]⟩
  ·exact⟨_,_,hv⟩
 clear hL
 go_wp2_with fail
 refine((unhide HB) _).mono ?_
 rintro e w2 ⟨rfl,rfl⟩
 go_wp2
 exact⟨rfl,rfl,hb⟩
theorem al1(w:World)(x0 x1:Int)(ea va:Option Addr)(en ec vn vc:Nat)(out:List UInt8)(hn:¬70<out.length)
  (HK:Calls Tryz.prog 125 #[.agg #[.int .u8 x0,.int .i64 x1,.slice ea en ec],.iface 203 (.pointer (some ⟨w.heap.size+1,0,none⟩))] ((w.alloc (aaz x0 x1 ea en ec)).alloc (api (.slice va vn vc))) fun e w'=>e=.returned (.tuple #[])∧∃a cap O,WLeft w w' 0 out a cap O) :
  Calls Tryz.prog 77 #[.agg #[.int .u8 x0,.int .i64 x1,.slice ea en ec],.slice va vn vc] w fun e w'=>e=.returned (.string ⟨out.toArray⟩)∧Below w.heap.size w w':=by
 have HKK:=aab HK
 have HB:=aab (fun w=>abI out.length w)
 rw[show decide (70<out.length)=false by simp;omega]at HB
 clear HK hn
 go_enter Tryz.func77,Tryz.ntmps77
 go_wp2_with fail
 refine(unhide HKK).mono ?_
 rintro e w1 ⟨rfl,a,cap,O,hL⟩
 have c0:=hL.left
 have c1:=hL.lout
 have hb:=hL.below
 have hcv:=amq hL.own
 obtain⟨oa,oc,rfl⟩:∃a c,O=.slice a out.length c:=by
  rcases hL.own.2 with ⟨hv,h0⟩|⟨g,cap,cur,hv,_⟩
  ·exact⟨none,0,by rw[hv,h0]⟩
  ·exact⟨_,_,hv⟩
 clear hL
 go_wp2_with fail
 refine((unhide HB) _).mono ?_
 rintro e w2 ⟨rfl,rfl⟩
 go_wp2
 go_ret
 exact⟨rfl,hb⟩
theorem write_any(s:ByteArray)(S:Nat→Prop)(c0 c1 c2 V:Value)(v:List It)(w:World)(hR:Rep w S (nx s) (s.size+1) 0 c0 c1 c2)(hO:Okp s (s.size+1) 0)(hd:Pt.dep (nx s) (s.size+1) 0≤4)(hI:Items w V v)(hn:v.length≤9000000000000) :
  Calls Tryz.prog 77 #[.agg #[c0,c1,c2],V] w fun e w'=>WPost (wRes (eat (nx s) (s.size+1) 0 v) v) e∧Below w.heap.size w w':=by
 obtain⟨⟨x0,rfl⟩,⟨x1,rfl⟩,⟨ea,en,ec,rfl⟩⟩:=rep_shape hR
 obtain⟨va,vc,rfl⟩:∃a c,V=.slice a v.length c:=by
  obtain⟨a,c,h,_⟩:=hI
  exact⟨a,c,h⟩
 have hb0:Below w.heap.size w (w.alloc (aaz x0 x1 ea en ec)):=(Below.refl w.heap.size w).alloc (Nat.le_refl _) _
 have hR0:Rep (w.alloc (aaz x0 x1 ea en ec)) S (nx s) (s.size+1) 0 (.int .u8 x0) (.int .i64 x1) (.slice ea en ec):=rep_above ⟨hb0.size,fun k _ hl=>hb0.block k hl⟩ hR
 have hz:(w.alloc (aaz x0 x1 ea en ec)).heap.size=w.heap.size+1:=by simp
 have hws:WS (w.alloc (aaz x0 x1 ea en ec)) ((w.alloc (aaz x0 x1 ea en ec)).alloc (api (.slice va v.length vc))) (.slice va v.length vc) v (.slice none 0 0) []:=by
  refine⟨?_,hI.below hb0,(Below.refl _ _).alloc (Nat.le_refl _) _,World.ownsRow_nil _ _ _ _⟩
  unfold Wr
  show ((w.alloc (aaz x0 x1 ea en ec)).heap.push _)[(w.alloc (aaz x0 x1 ea en ec)).heap.size]?=_
  rw[Array.getElem?_push_size]
 have hM:10 ^ Pt.dep (nx s) (s.size+1) 0≤10 ^ 4:=Nat.pow_le_pow_right (by decide) hd
 have HK:=agn (aeq (w.alloc (aaz x0 x1 ea en ec))) s (s.size+1) 0 S _ _ _ hR0 hO _ 0 (v,[]) _ ⟨_,_,hws,rfl,hn,Nat.le_refl _⟩ (by omega)
 have hptr:(aaU (w.alloc (aaz x0 x1 ea en ec))).I=.iface 203 (.pointer (some ⟨w.heap.size+1,0,none⟩)):=by
  show Value.iface 203 (.pointer (some ⟨(w.alloc (aaz x0 x1 ea en ec)).heap.size,0,none⟩))=_
  rw[hz]
 rw[hptr]at HK
 have hce:=aly (nx s) (s.size+1) 0 v []
 rw[show carryP (aaU (w.alloc (aaz x0 x1 ea en ec))).num (aaU (w.alloc (aaz x0 x1 ea en ec))).txt (nx s) (s.size+1) 0 (v,[])=carryP agy aiu (nx s) (s.size+1) 0 (v,[]) from rfl,hce]at HK
 have hbb:∀w',Below (w.alloc (aaz x0 x1 ea en ec)).heap.size (w.alloc (aaz x0 x1 ea en ec)) w'→Below w.heap.size w w':=fun w' h=>hb0.trans (h.mono (by omega))
 cases he:eat (nx s) (s.size+1) 0 v with
 |none=>
  rw[he]at HK
  refine(aip w x0 x1 ea va en ec v.length vc (HK.mono ?_)).mono ?_
  ·rintro e w' (⟨rfl,_,hb⟩|⟨rfl,x',hx,_⟩)
   ·exact⟨rfl,hbb w' hb⟩
   ·cases hx
  ·rintro e w' ⟨rfl,hb⟩
   exact⟨rfl,hb⟩
 |some a=>
  obtain⟨ks,r⟩:=a
  rw[he]at HK
  have HL:Calls Tryz.prog 125 #[.agg #[.int .u8 x0,.int .i64 x1,.slice ea en ec],.iface 203 (.pointer (some ⟨w.heap.size+1,0,none⟩))] ((w.alloc (aaz x0 x1 ea en ec)).alloc (api (.slice va v.length vc))) fun e w'=>e=.returned (.tuple #[])∧∃a cap O,WLeft w w' r.length (bytesOf ks v) a cap O:=by
   refine HK.mono ?_
   rintro e w' (⟨rfl,hx,_⟩|⟨rfl,x',hx,c',O',_,⟨L,Ov,hw2,_⟩,_⟩)
   ·cases hx
   ·cases hx
    simp only[List.nil_append]at hw2
    obtain⟨la,lc,hLs,_⟩:=hw2.items
    subst hLs
    have h1:=hw2.wr.left
    have h2:=hw2.wr.out
    have h3:=hw2.own
    rw[hz]at h1 h2 h3
    exact⟨rfl,la,lc,Ov,h1,h2,h3,hbb w' hw2.below⟩
  cases r with
  |cons y r=>
   refine(aiq w x0 x1 ea va en ec v.length vc _ _ (by simp) HL).mono ?_
   rintro e w' ⟨rfl,hb⟩
   exact⟨rfl,hb⟩
  |nil=>
   by_cases hbig:70<(bytesOf ks v).length
   ·refine(ajM w x0 x1 ea va en ec v.length vc _ hbig HL).mono ?_
    rintro e w' ⟨rfl,hb⟩
    refine⟨?_,hb⟩
    simp[WPost,wRes,hbig]
   ·refine(al1 w x0 x1 ea va en ec v.length vc _ hbig HL).mono ?_
    rintro e w' ⟨rfl,hb⟩
    refine⟨?_,hb⟩
    simp[WPost,wRes,hbig]
theorem field_fault(n q:Nat)(w:World):(Instr.field 86 (aaw n q) 0).run Tryz.prog w=.ok (.int .i64 n) w:=by kernel_rfl
structure Good(s:ByteArray):Prop where
 size:s.size≤40
 ok:Okp s (s.size+1) 0
 dep:Pt.dep (nx s) (s.size+1) 0≤4
theorem good_of{s:ByteArray}(h:(Pt.chk (nx s) s.size).1=0):Good s:=by
 unfold Pt.chk at h
 split at h
 ·cases h
 ·split at h
  ·rename_i h1 h2
   split at h
   ·cases h
   ·split at h
    ·cases h
    ·exact⟨by omega,⟨Nat.zero_le _,by omega,h2⟩,by omega⟩
  ·cases h
def aio(s:ByteArray)(w:World)(e:Ending)(w':World):Prop:=
 (if (Pt.chk (nx s) s.size).1=0 then ∃c0 c1 c2,e=.returned (.agg #[c0,c1,c2])∧Rep w' (fun k=>w.heap.size≤k) (nx s) (s.size+1) 0 c0 c1 c2 else e=aaf (Pt.chk (nx s) s.size).1 (Pt.chk (nx s) s.size).2)∧Below w.heap.size w w'
theorem shape_any(s:ByteArray)(w:World):Calls Tryz.prog 78 #[.string s] w (aio s w):=by
 unfold aio
 by_cases hs:s.size≤40
 ·have hn:¬40<s.size:=by omega
  cases hT:(Pt.ty (nx s) (s.size+1) 0).1 with
  |false=>
   have e1:Pt.chk (nx s) s.size=(2,(Pt.ty (nx s) (s.size+1) 0).2):=by simp[Pt.chk,hn,hT]
   rw[e1]
   exact aiX s w hs hT
  |true=>
   obtain⟨_,hb,_⟩:=Pt.agree (g:=nx s) (n:=s.size) (fun p hp=>aeR hp) (s.size+1) 0 0 1 0 [] (by omega) (by omega)
   obtain⟨q1,q2⟩:=hb hT
   by_cases hq:(Pt.ty (nx s) (s.size+1) 0).2<s.size
   ·have e1:Pt.chk (nx s) s.size=(2,(Pt.ty (nx s) (s.size+1) 0).2):=by simp[Pt.chk,hn,hT,hq]
    rw[e1]
    exact akw s w hs hT hq
   ·have H:=amy s w hs hT (by omega)
    by_cases h4:4<Pt.dep (nx s) (s.size+1) 0
    ·have e1:Pt.chk (nx s) s.size=(3,0):=by simp[Pt.chk,hn,hT,hq,h4]
     rw[e1]
     simp only[h4,if_true]at H
     exact H
    ·have e1:Pt.chk (nx s) s.size=(0,0):=by simp[Pt.chk,hn,hT,hq,h4]
     rw[e1]
     simp only[h4,if_false]at H
     exact H
 ·have e1:Pt.chk (nx s) s.size=(1,0):=by
   have:40<s.size:=by omega
   simp[Pt.chk,this]
  rw[e1]
  exact akx s w hs
def mRes(s:ByteArray)(v:List It):Nat×List UInt8:=if (Pt.chk (nx s) s.size).1=0 then wRes (eat (nx s) (s.size+1) 0 v) v else ((Pt.chk (nx s) s.size).1,[])
theorem anm{ks:List Bool}{v:List It}(h:abh ks v)(hl:ks.length=v.length):aql ks v:=⟨hl,h⟩
end Go.Proofs.YtblomippkddgiaaGreatDoor.V
namespace Go.Proofs.YtblomippkddgiaaGreatDoor.R
abbrev It:=Int×ByteArray
structure Cf where
 clients:Int
 lines:Int
 retry:Int
 tries:Int
 table:Int
structure En where
 client:Int
 life:Int
 line:Int
 seq:Int
 proc:Int
 arg:List It
 result:List It
structure Fl where
 to:Int
 s:List UInt8
 bent:Bool
structure Sv where
 kind:Int
 alive:Bool
 log:List En
structure Ln where
 seq:Int
 state:Int
 result:List It
 uid:Int
 to:ByteArray
 message:List UInt8
 acked:Int
 came:List UInt8
 pieces:Int
 wait:Int
 tries:Int
structure Cl where
 life:Int
 bound:List Int
 lines:List Ln
structure Sn where
 seq:Int
 uid:Int
 message:List UInt8
 pieces:Int
 state:Int
 result:List UInt8
 at':Int
 timed:Bool
 wait:Int
 tries:Int
structure Jb where
 client:Int
 line:Int
 life:Int
 seq:Int
 uid:Int
structure Wd where
 c:Cf
 names:List (List UInt8)
 stands:List Int
 services:List Sv
 flying:List Fl
 clients:List Cl
 lives:List Int
 seen:List Sn
 jobs:List Jb
def ln0:Ln:=⟨0,0,[],0,⟨#[]⟩,[],0,[],0,0,0⟩
def sn0:Sn:=⟨0,0,[],0,0,[],0,false,0,0⟩
def cl0(life:Int)(lines:Int):Cl:=⟨life,[],List.replicate lines.toNat ln0⟩
def okCf(c:Cf):Prop:=(1≤c.clients∧c.clients≤3)∧(1≤c.lines∧c.lines≤3)∧(1≤c.retry∧c.retry≤8)∧(1≤c.tries∧c.tries≤6)∧(1≤c.table∧c.table≤9)
instance (c:Cf):Decidable (okCf c):=by unfold okCf;infer_instance
def newP(c:Cf):Option Wd:=if okCf c then some ⟨c,[],[],[],[],List.replicate c.clients.toNat (cl0 1 c.lines),[0,0,0],List.replicate 9 sn0,[]⟩ else none
def namedP(s:List UInt8):Bool:=decide (1≤s.length)&&decide (s.length≤8)&&s.all fun b=>decide (97≤b.toNat)&&decide (b.toNat≤122)
def entryP(w:Wd)(name:List UInt8):Option Nat:=w.names.findIdx? (·==name)
def adu(w:Wd)(uid:Int):Wd:=
 {w with
  services:=w.services.modify (uid-1).toNat fun s=>{s with alive:=false}
  seen:=w.seen.map fun r=>if r.uid=uid∧r.state<3 then {r with state:=4} else r}
def exportP(w:Wd)(name:List UInt8)(kind:Int):(Int×Int)×Wd:=
 if namedP name=false then ((0,10),w)
 else if kind<0∨2<kind then ((0,9),w)
 else match entryP w name with
  |none=>
   if w.names.length=6 then ((0,12),w)
   else if w.services.length=255 then ((0,11),w)
   else (((w.services.length:Int)+1,0),{w with names:=w.names++[name],stands:=w.stands++[(w.services.length:Int)+1],services:=w.services++[⟨kind,true,[]⟩]})
  |some k=>
   if w.services.length=255 then ((0,11),w)
   else
    let w1:=adu w (w.stands.getD k 0)
    (((w.services.length:Int)+1,0),{w1 with stands:=w1.stands.set k ((w.services.length:Int)+1),services:=w1.services++[⟨kind,true,[]⟩]})
def importP(w:Wd)(client:Int)(name:List UInt8):(Int×Int×Int)×Wd:=
 if client<0∨(w.clients.length:Int)≤client then ((0,0,13),w)
 else match entryP w name with
  |none=>((0,0,10),w)
  |some k=>
   let uid:=w.stands.getD k 0
   ((uid,((w.services[(uid-1).toNat]?).map (·.kind)).getD 0,0),{w with clients:=w.clients.modify client.toNat fun c=>{c with bound:=c.bound++[uid]}})
def piecesP(s:List UInt8):Int:=(((s.length+7) / 8:Nat):Int)
def pieceP(s:List UInt8)(k:Int):List UInt8:=(s.drop (8*k.toNat)).take 8
def sendP(w:Wd)(to:Int)(p:Pk):Wd:=if w.flying.length<40 then {w with flying:=w.flying++[⟨to,aa3 p,false⟩]} else w
def lineP(w:Wd)(client line:Int):Ln:=((w.clients[client.toNat]?).bind fun c=>c.lines[line.toNat]?).getD ln0
def lifeP(w:Wd)(client:Int):Int:=((w.clients[client.toNat]?).map (·.life)).getD 0
def setLine(w:Wd)(client line:Int)(l:Ln):Wd:={w with clients:=w.clients.modify client.toNat fun c=>{c with lines:=c.lines.set line.toNat l}}
def sendPieceP(w:Wd)(client line:Int)(again:Bool):Wd:=
 let l:=lineP w client line
 sendP w (-1) ⟨1,client,lifeP w client,line,l.seq,l.uid,l.acked,piecesP l.message,again || decide (l.acked<piecesP l.message-1),pieceP l.message l.acked⟩
def probeP(w:Wd)(client line:Int):Wd:=
 let l:=lineP w client line
 sendP w (-1) ⟨3,client,lifeP w client,line,l.seq,l.uid,0,1,true,[]⟩
def txt(l:List UInt8):ByteArray:=⟨l.toArray⟩
def sigP(kind proc:Int):Option (ByteArray×ByteArray):=
 if kind=0∧proc=0 then some (txt [105],txt [99])
 else if kind=0∧proc=1 then some (txt [98],txt [99])
 else if kind=1∧proc=0 then some (txt [115],txt [99])
 else if kind=1∧proc=1 then some (txt [99],txt [113,52,115])
 else if kind=2∧proc=0 then some (txt [114,40,101,51,113,51,105,41],txt [117,40,98,113,51,105,41])
 else none
def bytesP(t:ByteArray)(v:List It):Option (List UInt8):=if (V.mRes t v).1=0 then some (V.mRes t v).2 else none
def callP(w:Wd)(client line uid proc:Int)(arg:List It):(Int×Int)×Wd:=
 if client<0∨(w.clients.length:Int)≤client then ((0,13),w)
 else if line<0∨w.c.lines≤line then ((0,14),w)
 else if ¬uid∈((w.clients[client.toNat]?).map (·.bound)).getD [] then ((0,15),w)
 else match sigP (((w.services[(uid-1).toNat]?).map (·.kind)).getD 0) proc with
  |none=>((0,16),w)
  |some (from',to)=>match bytesP from' arg with
   |none=>((0,4),w)
   |some bs=>
    let l:=lineP w client line
    if l.state=1 then ((0,17),w)
    else if l.seq=999 then ((0,11),w)
    else ((l.seq+1,0),sendPieceP (setLine w client line ⟨l.seq+1,1,[],uid,to,two8 proc++bs,0,[],0,w.c.retry,w.c.tries⟩) client line false)
def statusP(w:Wd)(client line:Int):Int×Int×List It×Int:=
 if client<0∨(w.clients.length:Int)≤client then (0,0,[],13)
 else if line<0∨w.c.lines≤line then (0,0,[],14)
 else ((lineP w client line).state,(lineP w client line).seq,(lineP w client line).result,0)
def tickLine(w:Wd)(client line:Int):Wd:=
 let l:=lineP w client line
 if l.state≠1 then w
 else if 1<l.wait then setLine w client line {l with wait:=l.wait-1}
 else if l.tries=0 then setLine w client line {l with wait:=l.wait-1,state:=3}
 else
  let w1:=setLine w client line {l with wait:=w.c.retry,tries:=l.tries-1}
  if 8*l.acked<(l.message.length:Int) then sendPieceP w1 client line true else probeP w1 client line
def seenP(w:Wd)(i:Nat):Sn:=(w.seen[i]?).getD sn0
def setSeen(w:Wd)(i:Nat)(r:Sn):Wd:={w with seen:=w.seen.set i r}
def sendResultP(w:Wd)(i:Nat):Wd:=
 let r:=seenP w i
 sendP w ((i / 3:Nat):Int) ⟨5,((i / 3:Nat):Int),(w.lives[i / 3]?).getD 0,((i % 3:Nat):Int),r.seq,r.uid,r.at',piecesP r.result,false,pieceP r.result r.at'⟩
def tickSeen(w:Wd)(i:Nat):Wd:=
 let r:=seenP w i
 if r.timed=false then w
 else if 1<r.wait then setSeen w i {r with wait:=r.wait-1}
 else if r.tries=0 then setSeen w i {r with wait:=r.wait-1,timed:=false}
 else sendResultP (setSeen w i {r with wait:=w.c.retry,tries:=r.tries-1}) i
def tickLines(w:Wd):Wd:=(List.range w.clients.length).foldl (fun w (i:Nat)=>(List.range w.c.lines.toNat).foldl (fun w (k:Nat)=>tickLine w (i:Int) (k:Int)) w) w
def tickP(w:Wd):Wd:=(List.range 9).foldl tickSeen (tickLines w)
def off(w:Wd)(i:Int):Prop:=i<0∨(w.flying.length:Int)≤i
instance (w:Wd) (i:Int):Decidable (off w i):=by unfold off;infer_instance
def dropP(w:Wd)(i:Int):Int×Wd:=if off w i then (9,w) else (0,{w with flying:=w.flying.eraseIdx i.toNat})
end Go.Proofs.YtblomippkddgiaaGreatDoor.R
namespace Go.Proofs.YtblomippkddgiaaGreatDoor
open Go.RowKit
def aa2(w:World)(F:aai)(V:Value)(l:List R.It):Prop:=(l=[]∧V=.slice none 0 0)∨∃b off cap cur,l≠[]∧V=.slice (some ⟨b,off,none⟩) l.length cap∧l.length≤cap∧F b∧w.heap[b]?=some (.cells cur 106 (0,0))∧∀j x,l[j]?=some x→cur[off+j*2]?=some (.int .i64 x.1)∧cur[off+j*2+1]?=some (.string x.2)
theorem aa2.items{w:World}{F:aai}{V:Value}{l:List R.It}(h:aa2 w F V l):Go.Proofs.YtblomippkddgiaaGreatDoor.V.Items w V l:=by
 rcases h with ⟨rfl,rfl⟩|⟨b,off,cap,cur,_,h1,h2,h3,h4,h5⟩
 ·exact⟨none,0,rfl,Nat.le_refl _,Or.inl rfl⟩
 ·refine⟨_,cap,h1,h2,Or.inr ⟨b,off,rfl,(Array.getElem?_eq_some_iff.1 h4).1,fun j x hx=>?_⟩⟩
  obtain⟨r1,r2⟩:=h5 j x hx
  exact⟨by simp[World.cell?,h4,r1],by simp[World.cell?,h4,r2]⟩
theorem aa2.nil(w:World)(F:aai):aa2 w F (.slice none 0 0) []:=Or.inl ⟨rfl,rfl⟩
theorem aa2.keep{w w':World}{F E F':aai}{V:Value}{l:List R.It}(h:aa2 w F V l)(hk:Keeps E w w')(hE:∀b cur,F b→w.heap[b]?=some (.cells cur 106 (0,0))→¬E b)(hF:∀k,F k→F' k):aa2 w' F' V l:=by
 rcases h with h|⟨b,off,cap,cur,h0,h1,h2,h3,h4,h5⟩
 ·exact Or.inl h
 ·exact Or.inr ⟨b,off,cap,cur,h0,h1,h2,hF _ h3,hk.at h4 (hE b cur h3 h4),h5⟩
def agz(w:World)(F:aai)(V:Value)(l:List R.It):Prop:=(l=[]∧∃a,V=.slice a 0 0)∨aa2 w F V l
theorem agz.keep{w w':World}{F E F':aai}{V:Value}{l:List R.It}(h:agz w F V l)(hk:Keeps E w w')(hE:∀b cur,F b→w.heap[b]?=some (.cells cur 106 (0,0))→¬E b)(hF:∀k,F k→F' k):agz w' F' V l:=by
 rcases h with h|h
 ·exact Or.inl h
 ·exact Or.inr (h.keep hk hE hF)
end Go.Proofs.YtblomippkddgiaaGreatDoor
namespace Go.Proofs.YtblomippkddgiaaGreatDoor.R
structure LnOk(l:Ln):Prop where
 seq:0≤l.seq∧l.seq≤999
 one:l.state=1→1≤l.seq∧(1≤l.uid∧l.uid≤255)∧(1≤l.message.length∧l.message.length≤72)∧(0≤l.acked∧l.acked≤piecesP l.message)∧(1≤l.wait∧l.wait≤8)∧(0≤l.tries∧l.tries≤6)
structure ClOk(G:Wd)(c:Cl):Prop where
 lines:(c.lines.length:Int)=G.c.lines
 life:1≤c.life∧c.life≤255
 bound:∀u∈c.bound,1≤u∧u≤(G.services.length:Int)
 line:∀(k:Nat) (l:Ln),c.lines[k]?=some l→LnOk l
structure Wf(G:Wd):Prop where
 cf:okCf G.c
 ncl:(G.clients.length:Int)=G.c.clients
 cl:∀(i:Nat) (c:Cl),G.clients[i]?=some c→ClOk G c
 fly:G.flying.length≤40
 flys:∀f∈G.flying,f.s.length≤21
 sv:G.services.length≤255
 svk:∀s∈G.services,0≤s.kind∧s.kind≤2
 nm:G.names.length≤6
 st:G.stands.length=G.names.length
 nd:G.names.Nodup
 sts:∀u∈G.stands,1≤u∧u≤(G.services.length:Int)
theorem lineP_some{G:Wd}{i k:Nat}{c:Cl}{l:Ln}(hc:G.clients[i]?=some c)(hl:c.lines[k]?=some l):lineP G i k=l:=by
 simp[lineP,hc,hl]
theorem lifeP_some{G:Wd}{i:Nat}{c:Cl}(hc:G.clients[i]?=some c):lifeP G i=c.life:=by
 simp[lifeP,hc]
theorem setLine_flying(G:Wd)(i k:Int)(l:Ln):(setLine G i k l).flying=G.flying:=rfl
theorem setLine_client{G:Wd}{i k:Nat}{l:Ln}{j:Nat}:(setLine G i k l).clients[j]?=(G.clients[j]?).map fun c=>if i=j then {c with lines:=c.lines.set k l} else c:=by
 simp only[setLine,Int.toNat_natCast,List.getElem?_modify]
 by_cases h:i=j
 ·simp[h]
 ·simp[h]
theorem Wf.setLine{G:Wd}(h:Wf G){i k:Nat}{l':Ln}(hl:LnOk l'):Wf (setLine G i k l'):=by
 refine⟨h.cf,by simpa [R.setLine] using h.ncl,fun j c hc=>?_,h.fly,h.flys,h.sv,h.svk,h.nm,h.st,h.nd,h.sts⟩
 rw[setLine_client]at hc
 cases hj:G.clients[j]? with
 |none=>rw[hj]at hc;cases hc
 |some c0=>
  rw[hj]at hc
  have h0:=h.cl j c0 hj
  simp only[Option.map_some,Option.some.injEq]at hc
  subst hc
  split
  ·refine⟨by simpa [R.setLine] using h0.lines,h0.life,h0.bound,fun m x hx=>?_⟩
   simp only[List.getElem?_set]at hx
   split at hx
   ·split at hx
    ·cases hx;exact hl
    ·cases hx
   ·exact h0.line m x hx
  ·exact⟨h0.lines,h0.life,h0.bound,h0.line⟩
theorem aoj{p:Pk}(h:aaj p):(aa3 p).length≤21:=by
 have:=afA h
 simp[aa3,abl,apU,two8]
 omega
theorem Wf.sendP{G:Wd}(h:Wf G){to:Int}{p:Pk}(hr:aaj p):Wf (sendP G to p):=by
 unfold R.sendP
 split
 ·rename_i hl
  refine⟨h.cf,h.ncl,fun j c hc=>?_,by simp;omega,fun f hf=>?_,h.sv,h.svk,h.nm,h.st,h.nd,h.sts⟩
  ·have h0:=h.cl j c hc
   exact⟨h0.lines,h0.life,h0.bound,h0.line⟩
  ·rcases List.mem_append.1 hf with hf|hf
   ·exact h.flys f hf
   ·simp only[List.mem_singleton]at hf
    subst hf
    exact aoj hr
 ·exact h
theorem pieces_pos{s:List UInt8}(h:1≤s.length):1≤piecesP s:=by unfold piecesP;omega
theorem pieces_le{s:List UInt8}(h:s.length≤72):piecesP s≤9:=by unfold piecesP;omega
theorem piece_length{s:List UInt8}{k:Int}:(pieceP s k).length=min 8 (s.length-8*k.toNat):=by simp[pieceP]
theorem piece_body{s:List UInt8}{k:Int}(h0:0≤k):if k<piecesP s-1 then (pieceP s k).length=8 else (pieceP s k).length≤8:=by
 rw[piece_length]
 unfold piecesP at *
 split <;> omega
theorem acked_iff{s:List UInt8}{a:Int}:8*a<(s.length:Int)↔a<piecesP s:=by unfold piecesP;omega
def callPk(G:Wd)(i k:Nat)(l:Ln)(again:Bool):Pk:=⟨1,i,lifeP G i,k,l.seq,l.uid,l.acked,piecesP l.message,again || decide (l.acked<piecesP l.message-1),pieceP l.message l.acked⟩
def probePk(G:Wd)(i k:Nat)(l:Ln):Pk:=⟨3,i,lifeP G i,k,l.seq,l.uid,0,1,true,[]⟩
theorem call_right{G:Wd}(h:Wf G){i k:Nat}{c:Cl}{l:Ln}(hc:G.clients[i]?=some c)(hl:c.lines[k]?=some l)(h1:l.state=1)(ha:l.acked<piecesP l.message)(again:Bool):aaj (callPk G i k l again):=by
 have hi:=(List.getElem?_eq_some_iff.1 hc).1
 have hk:=(List.getElem?_eq_some_iff.1 hl).1
 have h0:=h.cl i c hc
 obtain⟨q1,q2,q3,q4,q5,q6⟩:=(h0.line k l hl).one h1
 have hs:=(h0.line k l hl).seq
 have hn:=h.ncl
 have hcf:=h.cf
 have hln:=h0.lines
 have hlf:=h0.life
 have hp:=pieces_le q3.2
 have hb:=piece_body (s:=l.message) q4.1
 have e:=lifeP_some hc
 unfold okCf at hcf
 refine⟨by simp[callPk],by simp[callPk];omega,by simp only[callPk,e];omega,by simp[callPk];omega,by simp[callPk];omega,by simp[callPk];omega,by simp[callPk];omega,by simp[callPk];omega,?_⟩
 show bodyOk (callPk G i k l again)
 unfold bodyOk
 rw[if_pos (show (callPk G i k l again).kind=1∨(callPk G i k l again).kind=5 from Or.inl rfl)]
 exact hb
theorem probe_right{G:Wd}(h:Wf G){i k:Nat}{c:Cl}{l:Ln}(hc:G.clients[i]?=some c)(hl:c.lines[k]?=some l)(h1:l.state=1):aaj (probePk G i k l):=by
 have hi:=(List.getElem?_eq_some_iff.1 hc).1
 have hk:=(List.getElem?_eq_some_iff.1 hl).1
 have h0:=h.cl i c hc
 obtain⟨q1,q2,q3,q4,q5,q6⟩:=(h0.line k l hl).one h1
 have hs:=(h0.line k l hl).seq
 have hn:=h.ncl
 have hcf:=h.cf
 have hln:=h0.lines
 have hlf:=h0.life
 have e:=lifeP_some hc
 unfold okCf at hcf
 refine⟨by simp[probePk],by simp[probePk];omega,by simp only[probePk,e];omega,by simp[probePk];omega,by simp[probePk];omega,by simp[probePk];omega,by simp[probePk],by simp[probePk],?_⟩
 simp[bodyOk,probePk]
theorem sendPieceP_eq{G:Wd}{i k:Nat}{l:Ln}(hl:lineP G i k=l)(again:Bool):sendPieceP G i k again=sendP G (-1) (callPk G i k l again):=by
 unfold sendPieceP
 rw[hl]
 rfl
theorem probeP_eq{G:Wd}{i k:Nat}{l:Ln}(hl:lineP G i k=l):probeP G i k=sendP G (-1) (probePk G i k l):=by
 unfold probeP
 rw[hl]
 rfl
end Go.Proofs.YtblomippkddgiaaGreatDoor.R
