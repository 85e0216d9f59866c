import Derived.Lib.SliceRun
import Derived.Test.YtblomippkddgiabGreatDoorJ47
set_option maxRecDepth 100000
set_option maxHeartbeats 40000000
namespace Go.Proofs.YtblomippkddgiabGreatDoor
open Go.RowKit
variable {F:Aq}{Ae n0 u u0:Int}{uid:List Int}{a:List R.Sv}{name:List UInt8}{b i j k kd n:Nat}{p:Pl}{M:R.Bk}{c:R.Cf}{cl x:R.Cl}{G G':R.Wd}{s:RS}{W w w' w0:World}
theorem V9(w:World)(r x mb mc db dc:Nat)(mk:List (Mk×Value))(dead:List Int)(sv:List R.Sv)(M:R.Bk)(G:R.Wd)(hI:R.Inv M G)(bQ:G.Ab=sv)(aw:CY (mk.map (·.1)) M)(h:Jg w r x mb mc db dc mk dead (sv.length:Int))(bf:mk.length<=3000000)(ct:sv.length<=255)(aN:∀s∈sv,s.log.length<=3000000)(bZ:dead.length=sv.length)(b9:∀y∈A9 sv,y.arg.length<=1000)
  (ae:∀(u:Nat) (n:Int) (s:R.Sv),dead[u]?=some n->sv[u]?=some s->0<=n->(s.log.length:Int)=n)
  (aR:∀wr (u:Nat) (s:R.Sv),Below w.heap.size w wr->sv[u]?=some s->Calls Tryz.prog 9 #[ptr x,.int .i64 ((u:Int)+1)] wr fun e w'=>e=.returned (.tuple #[.int .i64 (s.log.length:Int),.int .i64 0])/\Below wr.heap.size wr w')
  (aS:∀wr (u i:Nat) (s:R.Sv) (y:R.En),Below w.heap.size w wr->sv[u]?=some s->s.log[i]?=some y->Calls Tryz.prog 10 #[ptr x,.int .i64 ((u:Int)+1),.int .i64 (i:Int)] wr fun e w'=>(∃xa xn xc ya yn yc,e=.returned (.tuple #[.agg #[.int .i64 y.client,.int .i64 y.Ae,.int .i64 y.line,.int .i64 y.seq,.int .i64 y.proc,.slice xa xn xc,.slice ya yn yc],.int .i64 0])/\V.Items w' (.slice xa xn xc) y.arg)/\Below wr.heap.size wr w'):
  Calls Tryz.prog 7 #[ptr r] w fun e w'=>e=.returned (.int .i64 ((A9 sv).length:Int))/\Below w.heap.size w w':=by
 have HL:Hid (∀wr (u:Nat) (s:R.Sv),Below w.heap.size w wr->sv[u]?=some s->Calls Tryz.prog 9 #[ptr x,.int .i64 ((u:Int)+1)] wr fun e w'=>e=.returned (.tuple #[.int .i64 (s.log.length:Int),.int .i64 0])/\Below wr.heap.size wr w'):=aR;have HE:Hid (∀wr (u i:Nat) (s:R.Sv) (y:R.En),Below w.heap.size w wr->sv[u]?=some s->s.log[i]?=some y->Calls Tryz.prog 10 #[ptr x,.int .i64 ((u:Int)+1),.int .i64 (i:Int)] wr fun e w'=>(∃xa xn xc ya yn yc,e=.returned (.tuple #[.agg #[.int .i64 y.client,.int .i64 y.Ae,.int .i64 y.line,.int .i64 y.seq,.int .i64 y.proc,.slice xa xn xc,.slice ya yn yc],.int .i64 0])/\V.Items w' (.slice xa xn xc) y.arg)/\Below wr.heap.size wr w'):=aS;have bM:=UF sv aN;have bX:=Sp mk.length bf;have af:Hid (∀wr,Below w.heap.size w wr->Jg wr r x mb mc db dc mk dead (sv.length:Int)):=fun wr hb=>h.below hb
 have bF:Hid (KY w (mk.map (·.1)) [] (w.alloc (.cells (bools (List.replicate mk.length false)).toArray 4))):=⟨(Below.refl _ _).alloc (Nat.le_refl _) _,by
  rw[T9,List.length_map];exact heap_alloc_new w _⟩
 have bw:Hid (∀(u:Nat) (n:Int) (s:R.Sv),dead[u]?=some n->sv[u]?=some s->0<=n->(s.log.length:Int)=n):=ae;have bA:Hid (∀s∈sv,s.log.length<=3000000):=aN;have br:Hid (∀y∈A9 sv,y.arg.length<=1000):=b9;have bt:Hid (∀(u i:Nat) (s:R.Sv) (y:R.En),sv[u]?=some s->s.log[i]?=some y->∃(k:Nat) (z:Mk×Value),mk[k]?=some z/\z.1.key=R.Bl y/\z.1.uid=(u:Int)+1/\z.1.proc=y.proc/\z.1.arg=y.arg/\(∀j z',j<k->mk[j]?=some z'->z'.1.key≠R.Bl y)/\(Dg (mk.map (·.1)) (CH sv u i))[k]?=some false/\Dg (mk.map (·.1)) (CH sv u (i+1))=(Dg (mk.map (·.1)) (CH sv u i)).set k true/\∀(j:Nat) (z':Mk×Value),k<j->mk[j]?=some z'->∃b,(Dg (mk.map (·.1)) (CH sv u (i+1)))[j]?=some b/\¬(b=true/\z'.1.uid=(u:Int)+1/\z'.1.client=y.client/\z'.1.Ae=y.Ae/\z'.1.line=y.line)):=fun u i s y hs hy=>by
  subst bQ;obtain⟨d,d1,d2,d3,d4⟩:=JU hI hs (List.mem_of_getElem? hy);obtain⟨k,m,b1,b2,b3,b4,b5⟩:=aw.at d1;have ar:=b1;rw[List.getElem?_map]at ar;cases hz:mk[k]? with
  |none=>rw[hz]at ar;cases ar
  |some z=>
   rw[hz]at ar;obtain rfl:z.1=m:=Option.some.inj ar;have bH:=Uv hI hs hy;have ao:=RD aw b1 b2 (CH G.Ab u i);rw[<-IV hs hy]at ao;have aJ:∀{j:Nat} {z':Mk×Value},mk[j]?=some z'->(mk.map (·.1))[j]?=some z'.1:=fun al=>by simp[al]
   refine⟨k,z,hz,b2,by omega,by rw[b4,d3],by rw[b5,d4],fun j z' hj al e=>?_,WL b1 b2 bH,ao,fun j z' aM al=>?_⟩
   ·have:=aw.uniq (aJ al) b1 (e.trans b2.symm);omega
   ·have bd:=(List.getElem?_eq_some_iff.1 al).1;have hb:=List.getElem?_eq_getElem (l:=Dg (mk.map (·.1)) (CH G.Ab u (i+1))) (i:=j) (by rw[Nq,List.length_map];exact bd);refine⟨_,hb,fun q=>?_⟩;rw[q.1,ao,List.getElem?_set,if_neg (by omega)]at hb;obtain⟨x',bU,bV⟩:=Ua (aJ al) hb;exact Zf hI aw hs hy b1 b2 (aJ al) aM bU bV q.2.1 q.2.2.1 q.2.2.2.1 q.2.2.2.2
 obtain⟨r0,r9,KG,Zn,-,-,-⟩:=h;have ci:=lt_of_cell r0;clear aR aS ae aN hI aw b9;go_enter Tryz.func7,Tryz.ntmps7;go_wp2;generalize w.alloc (.cells (bools (List.replicate mk.length false)).toArray 4)=W0 at *;clear r0 r9 KG Zn;go_loopw [4,5] (fun av uv wr=>∃u:Nat,u<=sv.length/\uv=.int .i64 ((u:Int)+1)/\av=.int .i64 ((CH sv u 0).length:Int)/\KY w (mk.map (·.1)) (CH sv u 0) wr) (fun _ uv _=>sv.length+1-(intOf uv).toNat)
 case atStart=>exact⟨0,Nat.zero_le _,rfl,rfl,Aa bF⟩
 case round=>
  obtain⟨u,hu,rfl,rfl,hS⟩:=hrel;obtain⟨r0,r9,KG,Zn,-,hD,-⟩:=(Aa af) _ hS.below;have bN:=lt_of_cell r0;by_cases be:u<sv.length
  ·have hs:sv[u]?=some sv[u]:=List.getElem?_eq_getElem be;have aC:=(Aa bA) sv[u] (List.getElem_mem be);generalize sv[u]=s at hs aC;have aG:dead[u]?=some (dead[u]'(by omega)):=List.getElem?_eq_getElem _;generalize dead[u]'(by omega)=dv at aG;have an:=hD u dv aG;have bc:=(Aa bw) u dv s aG hs;have cg:((u:Int)+1<=(sv.length:Int)):=by omega
   have cw:IntKind.i64.wrap ((u:Int)+1-1)=(u:Int):=by rw[IntKind.wrap_i64];omega
   have ck:(0:Int)<=(u:Int):=by omega
   have cm:(u:Int)<(dead.length:Int):=by omega
   have co:u<dead.length:=by omega
   have HC:=Ac ((Aa HL) _ u s hS.below hs);have ap:=Ac hs;have bY:=Ac hS;have ay:dv=(s.log.length:Int)\/¬0<=dv:=by
    by_cases q:0<=dv
    ·exact Or.inl (bc q).symm
    ·exact Or.inr q
   have g0:(0:Int)<=(s.log.length:Int):=by omega
   have aW:Hid (∀w2,Below wr.heap.size wr w2->KY w (mk.map (·.1)) (CH sv u 0) w2):=fun w2 hb=>⟨hS.below.trans (hb.mono hS.below.size),(hb.block _ (lt_of_block hS.seen)).trans hS.seen⟩
   have bv:Hid (∀w2,Below wr.heap.size wr w2->w2.cell? ⟨db,u,none⟩=some (.int .i64 dv)):=fun w2 hb=>(hb.cell (p:=⟨db,u,none⟩) (lt_of_cell an)).trans an
   clear hS bc hs aG hD;rcases ay with rfl|g1;all_goals
    go_wp2_with (go_at_call 9;refine(Aa HC).mono ?_;rintro e w2 ⟨rfl,ai⟩;have bC:=Ac ((Aa aW) w2 ai);have ax:=(Aa af) _ ((Aa aW) w2 ai).below;clear r0 r9 KG Zn an;have r0:=ax.r0;have r9:=ax.r9;have KG:=ax.KG;have Zn:=ax.Zn;have an:=(Aa bv) w2 ai;have aO:=lt_of_cell r0;have ce:=lt_of_cell an;clear ax ai HC)
    go_loopw [4,8] (fun av iv wr=>∃i:Nat,i<=s.log.length/\iv=.int .i64 (i:Int)/\av=.int .i64 ((CH sv u i).length:Int)/\KY w (mk.map (·.1)) (CH sv u i) wr) (fun _ iv _=>s.log.length-(intOf iv).toNat)
    case atStart=>exact⟨0,Nat.zero_le _,rfl,rfl,Aa bC⟩
    case round=>
     obtain⟨i,hi,rfl,rfl,hS⟩:=hrel;clear r0 r9 KG Zn an;have au:=(Aa af) _ hS.below;have r0:=au.r0;have r9:=au.r9;have KG:=au.KG;have aO:=lt_of_cell r0;by_cases aP:i<s.log.length
     ·have hy:s.log[i]?=some s.log[i]:=List.getElem?_eq_getElem aP;generalize s.log[i]=y at hy;obtain⟨k,z,hz,az,bq,bo,bl,bg,bh,ao,aB⟩:=(Aa bt) u i s y (Aa ap) hy;have bI:=(List.getElem?_eq_some_iff.1 hz).1;have cp:(i:Int)<(s.log.length:Int):=by omega
      have bW:=(Aa br) y ((FX (i:=i+1) hu).subset (by rw[IV (Aa ap) hy];simp));have bS:(CH sv u (i+1)).length=(CH sv u i).length+1:=by rw[IV (Aa ap) hy];simp
      have bR:(CH sv u (i+1)).length<=(A9 sv).length:=(FX (i:=i+1) hu).length_le;have cu:IntKind.i64.wrap (((CH sv u i).length:Int)+1)=((CH sv u (i+1)).length:Int):=by rw[IntKind.wrap_i64];omega
      have bT:IntKind.i64.wrap ((i:Int)+1)=(i:Int)+1:=by rw[IntKind.wrap_i64];omega
      have cy:IntKind.i64.wrap ((k:Int)+1)=((k+1:Nat):Int):=by rw[IntKind.wrap_i64];omega
      have c8:(0:Int)<=(k:Int):=by omega
      have ca:(k:Int)<(mk.length:Int):=by omega
      have cc:¬(k:Int)<0:=by omega
      have HC:=Ac ((Aa HE) _ u i s y hS.below (Aa ap) hy);have ag:=Ac hS;have aU:Hid (∀W xa xn xc ya yn yc,Below w.heap.size w W->V.Items W (.slice xa xn xc) y.arg->Calls Tryz.prog 11 #[ptr r,.int .i64 ((u:Int)+1),.agg #[.int .i64 y.client,.int .i64 y.Ae,.int .i64 y.line,.int .i64 y.seq,.int .i64 y.proc,.slice xa xn xc,.slice ya yn yc]] W fun e w'=>e=.returned (.int .i64 (k:Int))/\Below W.heap.size W w'):=fun W xa xn xc ya yn yc hb hI=>Tp W r x mb mc db dc k mk dead (sv.length:Int) ((u:Int)+1) y xa ya xn xc yn yc z ((Aa af) W hb) hI bf bW hz az bq bo bl bg
      have bE:=Ac ao;have bB:=Ac bh;have aH:Hid (∀(j:Nat) (z':Mk×Value),k<j->mk[j]?=some z'->∃b,(Dg (mk.map (·.1)) (CH sv u (i+1)))[j]?=some b/\¬(b=true/\z'.1.uid=(u:Int)+1/\z'.1.client=y.client/\z'.1.Ae=y.Ae/\z'.1.line=y.line)):=aB;clear hS au az bq bo bl bg bh ao aB hy hz bS bR;go_wp2_with (go_at_call 10;refine(Aa HC).mono ?_;rintro e w3 ⟨⟨xa,xn,xc,ya,yn,yc,rfl,b7⟩,bb⟩;have aV:=Ac b7;have aD:=Ac bb;clear b7 bb HC)
      clear r0 r9 KG;obtain⟨W3,aE⟩:∃W3,w3.alloc (.cells #[.int .i64 y.client,.int .i64 y.Ae,.int .i64 y.line,.int .i64 y.seq,.int .i64 y.proc,.slice xa xn xc,.slice ya yn yc] 45)=W3:=⟨_,rfl⟩;have aL:W3.heap[w3.heap.size]?=some (.cells #[.int .i64 y.client,.int .i64 y.Ae,.int .i64 y.line,.int .i64 y.seq,.int .i64 y.proc,.slice xa xn xc,.slice ya yn yc] 45 (0,0)):=by rw[<-aE];exact heap_alloc_new w3 _
      have ab:Below w3.heap.size w3 W3:=by rw[<-aE];exact(Below.refl _ _).alloc (Nat.le_refl _) _
      rw[aE];have aK:=(Aa ag).below;have aj:=aK.trans ((Aa aD).mono aK.size);have aF:=aj.trans (ab.mono aj.size);have bK:=lt_of_block aL;have aT:=Ac ((Aa aU) W3 xa xn xc ya yn yc aF ((Aa aV).below ab));have aZ:Hid (∀w4,Below W3.heap.size W3 w4->KY w (mk.map (·.1)) (CH sv u i) w4/\w4.heap[w3.heap.size]?=some (.cells #[.int .i64 y.client,.int .i64 y.Ae,.int .i64 y.line,.int .i64 y.seq,.int .i64 y.proc,.slice xa xn xc,.slice ya yn yc] 45 (0,0))/\w.heap.size<w3.heap.size):=fun w4 am=>by
       have bi:=Aa ag;have bJ:=lt_of_block bi.seen;have cq:=(Aa aD).size;have cr:=ab.size;refine⟨⟨aF.trans (am.mono aF.size),?_⟩,(am.block _ bK).trans aL,by omega⟩;exact(am.block _ (by omega)).trans ((ab.block _ (by omega)).trans (((Aa aD).block _ bJ).trans bi.seen))
      clear aL ab aK aj aF aV aD aU ag aE;refine(Aa aT).mono ?_;rintro e w4 ⟨rfl,am⟩;obtain⟨ah,bj,aA⟩:=(Aa aZ) w4 am
      (have s0:w4.cell? ⟨w.heap.size,k,none⟩=some (.bool false):=AP ah.seen (Ob (Aa bB));have sz:w4.frozen? ⟨w.heap.size,k,none⟩=false:=open_list ah.seen;have bL:=lt_of_block ah.seen;have aI:=Ac ah;have b6:=Ac bj;have r0:=((Aa af) _ ah.below).r0;have r9:=((Aa af) _ ah.below).r9;have bO:=lt_of_cell r0;have bz:=Ac aA;clear am ah bj aA)
      go_wp2_with fail
      have aq:Hid (KY w (mk.map (·.1)) (CH sv u (i+1)) (w4.setCell ⟨w.heap.size,k,none⟩ (.bool true))/\(w4.setCell ⟨w.heap.size,k,none⟩ (.bool true)).heap[w3.heap.size]?=some (.cells #[.int .i64 y.client,.int .i64 y.Ae,.int .i64 y.line,.int .i64 y.seq,.int .i64 y.proc,.slice xa xn xc,.slice ya yn yc] 45 (0,0))):=by
       refine⟨⟨(Aa aI).below.trans (((Below.refl w.heap.size w4).setCell (Nat.le_refl _) _).mono (Nat.le_refl _)),?_⟩,?_⟩
       ·rw[Aa bE,<-Vv];exact Ai (Aa aI).seen _
       ·rw[Below.heap_setCell _ _ _ _ (show w3.heap.size≠w.heap.size by have:=Aa bz;omega)];exact Aa b6
      generalize w4.setCell ⟨w.heap.size,k,none⟩ (.bool true)=W4 at *;clear r0 r9 s0 sz bL aI b6 aZ aT;go_loopw [12] (fun jv wr=>∃j:Nat,k+1<=j/\j<=mk.length/\jv=.int .i64 (j:Int)/\KY w (mk.map (·.1)) (CH sv u (i+1)) wr/\wr.heap[w3.heap.size]?=some (.cells #[.int .i64 y.client,.int .i64 y.Ae,.int .i64 y.line,.int .i64 y.seq,.int .i64 y.proc,.slice xa xn xc,.slice ya yn yc] 45 (0,0))) (fun jv _=>mk.length-(intOf jv).toNat)
      case atStart=>exact⟨k+1,Nat.le_refl _,bI,rfl,(Aa aq).1,(Aa aq).2⟩
      case round=>
       obtain⟨j,aM,bd,rfl,ad,ak⟩:=hrel;have aa:=(Aa af) _ ad.below;have r0:=aa.r0;have r9:=aa.r9;have bP:=lt_of_cell r0;by_cases aQ:j<mk.length
       ·have ac:mk[j]?=some mk[j]:=List.getElem?_eq_getElem aQ;generalize mk[j]=z' at ac;obtain⟨b,ba,ai⟩:=(Aa aH) j z' aM ac;obtain⟨za,zn,zc,bp⟩:=EP (aa.it z' (List.mem_of_getElem? ac));have m0:wr.cell? ⟨mb,j*7,none⟩=some (.int .i64 z'.1.client):=aa.m j z' ac 0 _ rfl;have m1:wr.cell? ⟨mb,j*7+1,none⟩=some (.int .i64 z'.1.Ae):=aa.m j z' ac 1 _ rfl;have m2:wr.cell? ⟨mb,j*7+2,none⟩=some (.int .i64 z'.1.line):=aa.m j z' ac 2 _ rfl;have m3:wr.cell? ⟨mb,j*7+3,none⟩=some (.int .i64 z'.1.seq):=aa.m j z' ac 3 _ rfl;have m4:wr.cell? ⟨mb,j*7+4,none⟩=some (.int .i64 z'.1.uid):=aa.m j z' ac 4 _ rfl;have m5:wr.cell? ⟨mb,j*7+5,none⟩=some (.int .i64 z'.1.proc):=aa.m j z' ac 5 _ rfl;have m6:wr.cell? ⟨mb,j*7+6,none⟩=some (.slice za zn zc):=by
         rw[<-bp];exact aa.m j z' ac 6 _ rfl
        have ch:=lt_of_cell m0;have p0:(0:Int)<=(j:Int):=by omega
        have p1:(j:Int)<(mk.length:Int):=by omega
        have p2:IntKind.i64.wrap ((j:Int)+1)=(j:Int)+1:=by rw[IntKind.wrap_i64];omega
        have y0:wr.cell? ⟨w3.heap.size,0,none⟩=some (.int .i64 y.client):=cell_of ak 0 _ rfl;have y1:wr.cell? ⟨w3.heap.size,1,none⟩=some (.int .i64 y.Ae):=cell_of ak 1 _ rfl;have y2:wr.cell? ⟨w3.heap.size,2,none⟩=some (.int .i64 y.line):=cell_of ak 2 _ rfl;have s0:wr.cell? ⟨w.heap.size,j,none⟩=some (.bool b):=AP ad.seen (Ob ba);have l2:=lt_of_block ak;have l3:=lt_of_block ad.seen;have aY:Hid (KY w (mk.map (·.1)) (CH sv u (i+1)) (wr.alloc (.cells #[.int .i64 z'.1.client,.int .i64 z'.1.Ae,.int .i64 z'.1.line,.int .i64 z'.1.seq,.int .i64 z'.1.uid,.int .i64 z'.1.proc,.slice za zn zc] 62))/\(wr.alloc (.cells #[.int .i64 z'.1.client,.int .i64 z'.1.Ae,.int .i64 z'.1.line,.int .i64 z'.1.seq,.int .i64 z'.1.uid,.int .i64 z'.1.proc,.slice za zn zc] 62)).heap[w3.heap.size]?=some (.cells #[.int .i64 y.client,.int .i64 y.Ae,.int .i64 y.line,.int .i64 y.seq,.int .i64 y.proc,.slice xa xn xc,.slice ya yn yc] 45 (0,0))):=⟨⟨ad.below.alloc ad.below.size _,(Below.heap_alloc _ _ _ l3).trans ad.seen⟩,(Below.heap_alloc _ _ _ l2).trans ak⟩;have h5:b=false\/(b=true/\(z'.1.uid==(u:Int)+1)=false)\/(b=true/\(z'.1.uid==(u:Int)+1)=true/\(z'.1.client==y.client)=false)\/(b=true/\(z'.1.uid==(u:Int)+1)=true/\(z'.1.client==y.client)=true/\(z'.1.Ae==y.Ae)=false)\/(b=true/\(z'.1.uid==(u:Int)+1)=true/\(z'.1.client==y.client)=true/\(z'.1.Ae==y.Ae)=true/\(z'.1.line==y.line)=false):=by
         cases b
         ·simp
         ·by_cases a1:z'.1.uid=(u:Int)+1
          ·by_cases a2:z'.1.client=y.client
           ·by_cases a3:z'.1.Ae=y.Ae
            ·by_cases a4:z'.1.line=y.line
             ·exact absurd ⟨rfl,a1,a2,a3,a4⟩ ai
             ·simp[a1,a2,a3,a4]
            ·simp[a1,a2,a3]
           ·simp[a1,a2]
          ·simp[a1]
        clear ad ak aa ac ba ai bp;rcases h5 with rfl|⟨rfl,c1⟩|⟨rfl,c1,c2⟩|⟨rfl,c1,c2,c3⟩|⟨rfl,c1,c2,c3,c4⟩;all_goals
         go_wp2_with fail
         go_roundw
         case rel=>exact⟨j+1,by omega,by omega,by go_num,(Aa aY).1,(Aa aY).2⟩
         case measure=>simp[intOf];omega
       ·obtain rfl:j=mk.length:=by omega
        have bD:=Ac ad;clear ad ak aa;go_wp2;go_roundw
        case rel=>exact⟨i+1,by omega,by go_num,rfl,Aa bD⟩
        case measure=>simp[intOf];omega
     ·obtain rfl:i=s.log.length:=by omega
      have bT:IntKind.i64.wrap ((u:Int)+1+1)=(u:Int)+1+1:=by rw[IntKind.wrap_i64];omega
      have bG:=Ac hS;have aX:=Ac (OP (Aa ap));clear hS au;go_wp2;go_roundw
      case rel=>exact⟨u+1,by omega,by go_num,by rw[<-Aa aX],by rw[<-Aa aX];exact Aa bG⟩
      case measure=>simp[intOf];omega
  ·obtain rfl:u=sv.length:=by omega
   have c7:¬((sv.length:Int)+1<=(sv.length:Int)):=by omega
   rw[R0];have bu:=Ac hS.below;clear hS hD;go_wp2;go_returns;exact⟨rfl,Aa bu⟩
def DI(G:R.Wd):Nat->R.Wd
 |0=>G
 |k+1=>R.Ch (DI G k) ((k:Int)+1)
theorem JS(G:R.Wd):∀k,(DI G k).c=G.c/\(DI G k).names=G.names/\(DI G k).stands=G.stands/\(DI G k).Ak=G.Ak/\(DI G k).Ad=G.Ad
 |0=>⟨rfl,rfl,rfl,rfl,rfl⟩
 |k+1=>JS G k
theorem Ya(G:R.Wd)(k:Nat)(sv:List R.Sv)(Aj:List Int)(seen:List R.Sn)(jobs:List R.Jb):Bs (DI G k) sv Aj seen jobs=Bs G sv Aj seen jobs:=by
 obtain⟨h1,h2,h3,h4,h5⟩:=JS G k;unfold Bs;rw[h1,h2,h3,h4,h5]
theorem MK(G:R.Wd):∀(k u:Nat),(DI G k).Ab[u]?=(G.Ab[u]?).map fun s=>if u<k then {s with alive:=false} else s
 |0,u=>by simp[DI]
 |k+1,u=>by
  show (R.Ch (DI G k) ((k:Int)+1)).Ab[u]?=_;rw[R.Kv,MK G k u];rw[show ((k:Int)+1-1).toNat=k by omega];cases G.Ab[u]? with
  |none=>rfl
  |some s=>
   simp only[Option.map_some,Option.some.injEq];by_cases h1:k=u
   ·subst h1;simp
   ·by_cases h2:u<k
    ·simp[h1,h2,show u<k+1 by omega]
    ·simp[h1,h2,show ¬u<k+1 by omega]
theorem VO(G:R.Wd):(DI G G.Ab.length).Ab=G.Ab.map fun s=>{s with alive:=false}:=by
 refine List.ext_getElem? (fun u=>?_);rw[MK,List.getElem?_map];by_cases h:u<G.Ab.length
 ·simp[h]
 ·rw[List.getElem?_eq_none (by omega)];rfl
theorem VP(G:R.Wd)(k:Nat):(DI G k).Ab.length=G.Ab.length:=by
 induction k with
 |zero=>rfl
 |succ k ih=>
  show (R.Ch (DI G k) ((k:Int)+1)).Ab.length=_;rw[<-ih];simp[R.Ch]
theorem LW.anew{w1:World}(h:LW p F G w)(af:Below w.heap.size w w1)(ai:w.heap.size<=j)(hj:w1.heap[j]?=some (.chan G.c.table.toNat #[] false 0 0 false))(hk:Af (fun k=>k=p.s) w1 W)
  (ag:W.heap[p.s]?=some (.cells (Ce p.n p.nm {p.t with jc:=j} G.c [0,0,0] (List.replicate 9 R.Cs)).toArray 144 (0,0))):
  LW {p with t:={p.t with jc:=j}} (fun k=>F k\/k=j) (Bs G G.Ab [0,0,0] (List.replicate 9 R.Cs) []) W/\Ap F (fun k=>F k\/k=j) w W:=by
 obtain⟨f1,f2,f3⟩:=h.BN.BP;have aa:=h.BN.bs;have am:=lt_of_block aa;have ab:Af (fun k=>k=p.s) w W:=(Af.Al af _).trans hk;have ak:j≠p.s:=by omega
 have ae:JD w F (fun k=>k=p.s):=JD.one aa (by decide);have ad:=(Array.getElem?_eq_some_iff.1 hj).1;have hs:Cg p.s p.n p.nm {p.t with jc:=j} (fun k=>F k\/k=j) G.c G.Ab [0,0,0] (List.replicate 9 R.Cs) [] W:=by
  refine⟨ag,h.BN.zs,ab.row h.BN.made (fun k hk e=>AV h.BN.made aa (by decide) (e ▸ hk)),fun z hz=>(h.BN.each z hz).keep ab ae (fun _ q=>Or.inl q),h.BN.dns,h.BN.Z8,fun i r hr ac=>absurd (LY hr) ac,fun i j r r' hr _ ac _ _=>absurd (LY hr) ac,⟨0,0,?_⟩,Or.inl f1,Or.inr rfl,fun k hk=>Or.inl (f3 k hk)⟩;exact(hk.block j ad ak).trans hj
 have al:=ab.size;have aj:j<W.heap.size:=Nat.lt_of_lt_of_le ad hk.size;have ah:=h.wf.cf;refine⟨h.Ha hs ab (Ca.one aa (by decide)) (fun _ q=>Or.inl q) (fun k hk=>?_) ⟨h.wf.cf,h.wf.Gt,fun i c hc=>⟨(h.wf.cl i c hc).lines,(h.wf.cl i c hc).Ae,(h.wf.cl i c hc).bound,(h.wf.cl i c hc).line⟩,h.wf.E3,h.wf.Eo,h.wf.sv,h.wf.Kh,h.wf.nm,h.wf.st,h.wf.nd,h.wf.I5⟩ (R.ws0 G.c ah) (fun _ _ _ _=>rfl),ab.mono (fun k _ e=>by rw[e];exact f1),fun k hk=>?_⟩
 ·rcases hk with hk|rfl
  ·exact Nat.lt_of_lt_of_le (h.lt k hk) al
  ·exact aj
 ·rcases hk with hk|rfl
  ·exact Or.inl hk
  ·exact Or.inr ai
theorem LW.ME(h:LW p F G w):
  Calls Tryz.prog 101 #[ptr p.s] w fun e w'=>e=.returned (.tuple #[])/\E8 p F w (R.Bb G (-1)).2 w':=by
 have al:p.t.zs.length=G.Ab.length:=by rw[<-h.BN.zs,List.length_map]
 have au:=h.wf.sv;obtain⟨a,cc,hK⟩:=AX h.BN.made;have h6:w.cell? ⟨p.s,6,none⟩=some (.slice a G.Ab.length cc):=by
  have:=cell_of h.BN.bs 6 p.t.K rfl;rw[hK,al]at this;exact this
 have aL:=lt_of_cell h6;obtain⟨n,hn⟩:∃n,n=G.Ab.length:=⟨_,rfl⟩;rw[<-hn]at h6;have HN:=Ac hn;have aj:n<=255:=by omega
 have av:=h.wf.cf;unfold R.BD at av;obtain⟨tb,ad⟩:∃tb:Nat,G.c.table=(tb:Int):=⟨G.c.table.toNat,by omega⟩;have ag:tb<=9:=by omega
 have aA:=Ac ad;have an:Hid (∀(k:Nat) (wr:World),k<n->(∃t,LW {p with t:=t} F (DI G k) wr/\Ap F F w wr)->Calls Tryz.prog 144 #[ptr p.s,.int .i64 ((k:Int)+1)] wr fun e w'=>e=.returned (.tuple #[])/\∃t,LW {p with t:=t} F (DI G (k+1)) w'/\Ap F F w w'):=fun k wr hk ⟨t,hL,hW⟩=>by
  have aw:k<(DI G k).Ab.length:=by rw[VP,<-hn];exact hk
  refine(hL.ends (List.getElem?_eq_getElem aw)).mono ?_;rintro e w' ⟨rfl,t',h1,h2⟩;exact⟨rfl,t',h1,hW.trans h2⟩
 have ae:Hid (∀(wr w1 W:World) (j:Nat),(∃t,LW {p with t:=t} F (DI G n) wr/\Ap F F w wr)->Below wr.heap.size wr w1->wr.heap.size<=j->w1.heap[j]?=some (.chan tb #[] false 0 0 false)->W=((((((((((((w1.setCell ⟨p.s,7,none⟩ (.int .i64 0)).setCell ⟨p.s,8,none⟩ (.int .i64 0)).setCell ⟨p.s,9,none⟩ (.int .i64 0)).setCell ⟨p.s,10,none⟩ (.pointer none)).setCell ⟨p.s,11,none⟩ (.pointer none)).setCell ⟨p.s,12,none⟩ (.pointer none)).setCell ⟨p.s,13,none⟩ (.pointer none)).setCell ⟨p.s,14,none⟩ (.pointer none)).setCell ⟨p.s,15,none⟩ (.pointer none)).setCell ⟨p.s,16,none⟩ (.pointer none)).setCell ⟨p.s,17,none⟩ (.pointer none)).setCell ⟨p.s,18,none⟩ (.pointer none)).setCell ⟨p.s,19,none⟩ (.chan (some j))->E8 p F w (R.Bb G (-1)).2 W):=fun wr w1 W j ⟨t,hL,hW⟩ hb hj0 hj hWe=>by
  have hc:=(JS G n).1;have ac:=(hb.block _ (lt_of_block hL.BN.bs)).trans hL.BN.bs;have ax:Af (fun k=>k=p.s) w1 W:=by
   rw[hWe];exact((((((((((((Ah _).trans (Ah _)).trans (Ah _)).trans (Ah _)).trans (Ah _)).trans (Ah _)).trans (Ah _)).trans (Ah _)).trans (Ah _)).trans (Ah _)).trans (Ah _)).trans (Ah _)).trans (Ah _)
  have ab:W.heap[p.s]?=some (.cells (Ce p.n p.nm {t with jc:=j} (DI G n).c [0,0,0] (List.replicate 9 R.Cs)).toArray 144 (0,0)):=by
   rw[hWe];exact Ai (Ai (Ai (Ai (Ai (Ai (Ai (Ai (Ai (Ai (Ai (Ai (Ai ac _) _) _) _) _) _) _) _) _) _) _) _) _
  obtain⟨g1,g2⟩:=hL.anew hb hj0 (by rw[hc,ad];simpa using hj) ax ab;rw[Ya,hn,VO]at g1;exact⟨_,_,g1,hW.trans g2⟩
 have HM:=Ac (fun w=>U3 w tb ag);simp only[aa4]at HM;have ap:Hid (∀wr,(∃t,LW {p with t:=t} F (DI G n) wr/\Ap F F w wr)->wr.cell? ⟨p.s,4,none⟩=some (.int .i64 (tb:Int))/\∀w1,Below wr.heap.size wr w1->p.s<w1.heap.size/\(∀o,w1.frozen? ⟨p.s,o,none⟩=false)/\∀o,o<21->∃v,w1.cell? ⟨p.s,o,none⟩=some v):=fun wr ⟨t,hL,hW⟩=>by
  have ac:=hL.BN.bs;rw[(JS G n).1]at ac;refine⟨?_,fun w1 hb=>?_⟩
  ·have:=cell_of ac 4 (.int .i64 G.c.table) rfl;rw[ad]at this;exact this
  ·have aa:=(hb.block _ (lt_of_block ac)).trans ac;refine⟨lt_of_block aa,fun o=>open_list aa,fun o ho=>?_⟩;obtain⟨v,hv⟩:∃v,(Ce p.n p.nm t G.c (DI G n).Aj (DI G n).seen)[o]?=some v:=⟨_,List.getElem?_eq_getElem (by simp[Ce];omega)⟩;exact⟨v,AP aa hv⟩
 have aq:Hid (∃t,LW {p with t:=t} F (DI G 0) w/\Ap F F w w):=⟨p.t,h,Ap.refl F w⟩;clear h hn hK al ad;go_enter Tryz.func101,Tryz.ntmps101;go_wp2;go_loopw [2,8] (fun _ kv wr=>∃k:Nat,k<=n/\kv=.int .i64 (k:Int)/\∃t,LW {p with t:=t} F (DI G k) wr/\Ap F F w wr) (fun _ kv _=>n-(intOf kv).toNat)
 case atStart=>exact⟨0,Nat.zero_le _,rfl,Aa aq⟩
 case round=>
  obtain⟨k,hk,rfl,hL⟩:=hrel;by_cases ay:k<n
  ·have HC:=Ac ((Aa an) k wr ay hL);have ah:IntKind.i64.wrap ((k:Int)+1)=(k:Int)+1:=by rw[IntKind.wrap_i64];omega
   have hq:(k:Int)<(n:Int):=by omega
   clear hL;go_wp2_with (go_at_call 144;refine(Aa HC).mono ?_;rintro e w1 ⟨rfl,ah⟩;have ar:=Ac ah;clear ah)
   go_roundw
   case rel=>exact⟨k+1,by omega,by go_num,Aa ar⟩
   case measure=>simp[intOf];omega
  ·obtain rfl:k=n:=by omega
   obtain⟨s4,ak⟩:=(Aa ap) wr hL;have af:Hid (∀w1,Below wr.heap.size wr w1->p.s<w1.heap.size/\(∀o,w1.frozen? ⟨p.s,o,none⟩=false)/\∀o,o<21->∃v,w1.cell? ⟨p.s,o,none⟩=some v):=ak;have HL:=Ac hL;have hq:¬(k:Int)<(k:Int):=by omega
   have aM:=lt_of_cell s4;clear hL ak;go_wp2_with (go_at_call 82;refine((Aa HM) _).mono ?_;rintro e w1 ⟨rfl,aa,az,ai⟩;obtain⟨l1,z1,c1⟩:=(Aa af) w1 aa;obtain⟨v7,c7⟩:=c1 7 (by omega);obtain⟨v8,c8⟩:=c1 8 (by omega);obtain⟨v9,c9⟩:=c1 9 (by omega);obtain⟨aN,aB⟩:=c1 10 (by omega);obtain⟨aO,aC⟩:=c1 11 (by omega);obtain⟨aP,aD⟩:=c1 12 (by omega);obtain⟨aQ,aE⟩:=c1 13 (by omega);obtain⟨aR,aF⟩:=c1 14 (by omega);obtain⟨aS,aG⟩:=c1 15 (by omega);obtain⟨aT,aH⟩:=c1 16 (by omega);obtain⟨aU,aI⟩:=c1 17 (by omega);obtain⟨aV,aJ⟩:=c1 18 (by omega);obtain⟨aW,aK⟩:=c1 19 (by omega);have am:=Ac aa;have ao:=Ac ai;clear aa az ai c1)
   go_returns;exact⟨rfl,(Aa ae) wr w1 _ _ (Aa HL) (Aa am) (by omega) (Aa ao) rfl⟩
abbrev ED(w:World)(b:Nat)(o:Obj):World:={w with heap:=w.heap.setIfInBounds b o}
theorem Z7{o o':Obj}(h:w.heap[b]?=some o'):(ED w b o).heap[b]?=some o:=by
 have:=(Array.getElem?_eq_some_iff.1 h).1;simp[this]
theorem JA(w:World)(b:Nat)(o:Obj):Af (fun k=>k=b) w (ED w b o):=⟨rfl,rfl,rfl,by simp,fun k _ aa=>by
 have:¬b=k:=fun e=>aa e.symm
 simp[this]⟩
theorem VB(w:World)(b:Nat)(es:Array MapEntry)(cl:Nat)(ty:TypeId)(h:w.heap[b]?=some (.map es cl)):(Builtin.clear_ #[130] ty #[.map (some b)]).run Tryz.prog w=.ok (.tuple #[]) (ED w b (.map #[] cl)):=by
 simp[Builtin.clear_,run_underlying Tryz.underlying130,MapKept.run_getObj_map h,MapKept.run_setObj_map _ h,Result.andThen]
theorem Mp.ED{α:Type}{cl:Nat}{k:TypeId}(lit:α->Lit)(h:w.heap[b]?=some (.map #[] cl)):Mp w k b lit (fun _=>none) 0:=
 ⟨.map [],⟨#[],cl,h,⟨by simp,MapKept.stamped_empty cl,by simp⟩,Nat.le_refl _,rfl⟩,rfl,fun _=>⟨rfl,fun _ h=>by cases h⟩⟩
theorem Ke{t:TypeId}{fz:Nat×Nat}:∀(vs:List Value) (o:Nat) (w:World) (cs:List Value),w.heap[b]?=some (.cells cs.toArray t fz)->o+vs.length=cs.length->(w.setCells b o vs).heap[b]?=some (.cells (cs.take o++vs).toArray t fz)/\Af (fun k=>k=b) w (w.setCells b o vs)
 |[],o,w,cs,h,hl=>by
  refine⟨?_,Af.refl _ _⟩;show w.heap[b]?=_;rw[h,List.take_of_length_le (by simp at hl;omega),List.append_nil]
 |v :: vs,o,w,cs,h,hl=>by
  have h1:=Ai (off:=o) h v;obtain⟨q1,q2⟩:=Ke vs (o+1) (w.setCell ⟨b,o,none⟩ v) (cs.set o v) h1 (by simp at hl ⊢;omega);refine⟨?_,(Ah v).trans q2⟩;show ((w.setCell ⟨b,o,none⟩ v).setCells b (o+1) vs).heap[b]?=_;rw[q1];congr 3;rw[List.take_add_one,List.take_set_of_le (by omega)];simp at hl;simp[show o<cs.length by omega]
theorem Qo(w:World)(b n:Nat)(hn:1<=n/\n<=3)(ty:TypeId)(xs:List CU)(hx:xs.length=n)(h:w.heap[b]?=some (.cells (tab CU.cells xs).toArray 129 (0,0))):(Builtin.clear_ #[131] ty #[.slice (some ⟨b,0,none⟩) n n]).run Tryz.prog w=.ok (.tuple #[]) (w.setCells b 0 (tab CU.cells (List.replicate n Qc))):=by
 have hl:(tab CU.cells xs).length=10*n:=by rw[Dh CU.len,hx]
 have aa:(tab CU.cells (List.replicate n Qc)).length=10*n:=by rw[Dh CU.len,List.length_replicate]
 have ac:(Builtin.zeroCells (Value.agg Qc.cells.toArray).cells n).toList=tab CU.cells (List.replicate n Qc):=by
  have h3:n=1\/n=2\/n=3:=by omega
  rcases h3 with rfl|rfl|rfl<;>(show _=_;kernel_rfl)
 have ab:=run_storeCells_cells (P:=Tryz.prog) b 0 (tab CU.cells (List.replicate n Qc)) 0 w (fun j hj=>by
  rw[aa,<-hl]at hj;simp[World.cell?,h,List.getElem?_eq_getElem hj]) (fun j _=>open_list h) (fun v hv=>by
  obtain⟨y,hy,hv⟩:=List.mem_flatMap.1 hv;rw[(List.mem_replicate.1 hy).2]at hv;simp[Qc,CU.cells]at hv;rcases hv with rfl|rfl|rfl|rfl|rfl|rfl|rfl|rfl|rfl|rfl<;>rfl)
 obtain⟨m,rfl⟩:∃m,n=m+1:=⟨n-1,by omega⟩;simp[Builtin.clear_,run_underlying Tryz.underlying131];show ((storeCells ⟨b,0,none⟩ (Builtin.zeroCells (Value.agg Qc.cells.toArray).cells (m+1)).toList).run Tryz.prog w).andThen _=_;rw[ac,ab];rfl
def EM(G:R.Wd)(i:Nat)(Ae:Int):R.Wd:={G with Ad:=G.Ad.set i (R.FF Ae G.c.lines)}
theorem FL(h:(EM G i Ae).Ad[j]?=some x):(i=j/\x=R.FF Ae G.c.lines)\/(i≠j/\G.Ad[j]?=some x):=by
 unfold EM at h;simp only[List.getElem?_set]at h;split at h
 ·rename_i e;split at h
  ·cases h;exact Or.inl ⟨e,rfl⟩
  ·cases h
 ·rename_i e;exact Or.inr ⟨e,h⟩
theorem LW.aat(h:LW p F G w){c:R.Cl}(hc:G.Ad[i]?=some c)(ae:1<=Ae/\Ae<=255)(hk:Af (fun k=>k=p.cb i\/k=p.bm i\/k=p.lb i) w W)
  (h1:W.heap[p.cb i]?=some (.cells (Jn p G i (R.FF Ae G.c.lines)) 133 (0,0))) (h2:Mp W 3 (p.bm i) Kz (fun _=>none) 0) (h3:W.heap[p.lb i]?=some (.cells (tab CU.cells (List.replicate G.c.lines.toNat Qc)).toArray 129 (0,0))):
  LW p F (EM G i Ae) W/\Ap F F w W:=by
 obtain⟨hx,hn,au,av⟩:=h.BP;have hi:=(List.getElem?_eq_some_iff.1 hc).1;have aa:(EM G i Ae).Ad.length=G.Ad.length:=by simp[EM]
 obtain⟨xs,hL,aq,ar⟩:=h.ln i c hc;have ad:=h.cl i c hc;obtain⟨es,cl,ag⟩:=(h.bound i c hc).block;have at':∀{b:Nat} {ab:Array Value} {t:TypeId} {z:Nat×Nat},w.heap[b]?=some (.cells ab t z)->b≠p.cb i->b≠p.lb i->W.heap[b]?=some (.cells ab t z):=fun hb n1 n2=>hk.at hb (fun e=>by
  rcases e with e|e|e
  ·exact n1 e
  ·subst e;rw[hb]at ag;cases ag
  ·exact n2 e)
 have ah:∀{b:Nat} {ab:Array Value} {t:TypeId} {z:Nat×Nat},w.heap[b]?=some (.cells ab t z)->t≠133->t≠129->W.heap[b]?=some (.cells ab t z):=fun hb n1 n2=>at' hb (AZ hb ad n1) (AZ hb hL n2)
 have ai:Avoid w F (fun k=>k=p.cb i\/k=p.bm i\/k=p.lb i):=Avoid.tags (fun b e=>by
  rcases e with rfl|rfl|rfl
  ·exact Or.inl ⟨_,_,_,ad,by decide⟩
  ·exact Or.inr ⟨es,cl,ag⟩
  ·exact Or.inl ⟨_,_,_,hL,by decide⟩)
 obtain⟨an,ao,ap,aj⟩:=h.FG i hi;have af:∀{α:Type} {k:TypeId} {b:Nat} {lit:α->Lit} {g:α->Option Int} {n:Nat},Mp w k b lit g n->b≠p.bm i->Mp W k b lit g n:=fun hm ac=>by
  obtain⟨am,al,hq⟩:=hm.block;refine hm.keep hk (fun e=>?_);rcases e with rfl|e|rfl
  ·rw[hq]at ad;cases ad
  ·exact ac e
  ·rw[hq]at hL;cases hL
 have ak:=h.wf.cf;unfold R.BD at ak;refine⟨⟨⟨h.wf.cf,by rw[aa];exact h.wf.Gt,fun j x hj=>?_,h.wf.E3,h.wf.Eo,h.wf.sv,h.wf.Kh,h.wf.nm,h.wf.st,h.wf.nd,h.wf.I5⟩,h.Db,?_,?_,?_,h.BN.keep hk ai (fun _ q=>q),af h.names (fun e=>aj e.symm),fun j x hj=>?_,fun j x hj=>?_,fun j x hj=>?_,h.BP,by rw[aa];exact h.FG,by rw[aa];exact h.inj,fun k hf=>Nat.lt_of_lt_of_le (h.lt k hf) hk.size⟩,hk.mono (fun k _ e=>by rcases e with rfl|rfl|rfl<;>assumption),fun _ q=>Or.inl q⟩
 ·rcases FL hj with ⟨_,rfl⟩|⟨_,h0⟩
  ·exact⟨by simp[R.FF,EM];omega,ae,(fun u hu=>by cases hu),fun k l hl=>by
    rw[R.Es hl];exact R.M3⟩
  ·exact⟨(h.wf.cl j x h0).lines,(h.wf.cl j x h0).Ae,(h.wf.cl j x h0).bound,(h.wf.cl j x h0).line⟩
 ·rw[aa];exact ah h.bx (by decide) (by decide)
 ·obtain⟨ab,g1,g2⟩:=h.XH;rw[aa];exact⟨ab,ah g1 (by decide) (by decide),g2⟩
 ·obtain⟨K,g1,g2,g3⟩:=h.bn;refine⟨K,ah g1 (by decide) (by decide),hk.row g2 (fun j hj e=>?_),g3⟩;rcases g2.2 with ⟨rfl,_⟩|⟨g,cap,ab,rfl,_,hg,_⟩
  ·cases hj
  ·cases hj;rcases e with e|e|e
   ·exact AZ hg ad (by decide) e
   ·exact Fv hg ag e
   ·exact AZ hg hL (by decide) e
 ·rcases FL hj with ⟨rfl,rfl⟩|⟨ac,h0⟩
  ·exact h1
  ·exact at' (h.cl j x h0) (h.inj j i (List.getElem?_eq_some_iff.1 h0).1 hi (fun e=>ac e.symm)).2.2 (AZ (h.cl j x h0) hL (by decide))
 ·rcases FL hj with ⟨rfl,rfl⟩|⟨ac,h0⟩
  ·refine⟨_,h3,⟨by simp[R.FF],fun k l y hl hy=>?_⟩,fun k l y hl hy=>?_⟩
   ·rw[R.Es hl];rw[List.getElem?_replicate]at hy;split at hy
    ·cases hy;exact⟨rfl,rfl,fun _=>rfl,by simp[R.JC],by simp[R.JC]⟩
    ·cases hy
   ·rw[R.Es hl];rw[List.getElem?_replicate]at hy;split at hy
    ·cases hy;exact BF.nil W F
    ·cases hy
  ·obtain⟨ys,g1,g2,g3⟩:=h.ln j x h0;exact⟨ys,at' g1 (AZ g1 ad (by decide)) (h.inj j i (List.getElem?_eq_some_iff.1 h0).1 hi (fun e=>ac e.symm)).1,g2,g3.Eg hk ai.sv (fun _ q=>q)⟩
 ·rcases FL hj with ⟨rfl,rfl⟩|⟨ac,h0⟩
  ·have:Mp W 3 (p.bm i) Kz (fun _=>none) 0:=h2;exact this.congr (fun a=>by simp[BL,R.FF])
  ·exact af (h.bound j x h0) (h.inj j i (List.getElem?_eq_some_iff.1 h0).1 hi (fun e=>ac e.symm)).2.1
theorem LW.MD(h:LW p F G w){c:R.Cl}(hc:G.Ad[i]?=some c):
  Calls Tryz.prog 102 #[ptr (p.cb i)] w fun e w'=>e=.returned (.int .i64 (R.Bb G i).1)/\E8 p F w (R.Bb G i).2 w':=by
 have hi:=(List.getElem?_eq_some_iff.1 hc).1;have ax:=(h.wf.cl i c hc).Ae;have ay:=(h.wf.cl i c hc).lines;have ar:=h.wf.cf;unfold R.BD at ar;obtain⟨xs,hL,ao,_⟩:=h.ln i c hc;obtain⟨es,cl,ah⟩:=(h.bound i c hc).block;have ae:=h.cl i c hc;have a1:=(Ic h hc).a1;have a2:=(Ic h hc).a2;have a3:=(Ic h hc).a3;have z1:w.frozen? ⟨p.cb i,1,none⟩=false:=open_list ae;have aA:=lt_of_block ae;have al:R.Bb G i=if c.Ae=255 then (11,G) else (0,EM G i (c.Ae+1)):=by
  unfold R.Bb;rw[if_neg (by omega),if_neg (by omega),R.Co hc];rfl
 rw[al];by_cases aa:c.Ae=255
 ·rw[if_pos aa];have e1:(c.Ae==255)=true:=by simpa using aa
  have HW:=Ac (⟨p.t,F,h,Ap.refl F w⟩:E8 p F w G w);clear h al aa;go_enter Tryz.func102,Tryz.ntmps102;go_wp2;go_returns;exact⟨rfl,Aa HW⟩
 ·rw[if_neg aa];have e1:(c.Ae==255)=false:=by simpa using aa
  have az:IntKind.i64.wrap (c.Ae+1)=c.Ae+1:=by rw[IntKind.wrap_i64];omega
  obtain⟨n,hn⟩:∃n,n=c.lines.length:=⟨_,rfl⟩;rw[<-hn]at a3;have au:1<=n/\n<=3:=by omega
  have am:xs.length=n:=by rw[ao.len,hn]
  have ab:p.bm i≠p.cb i:=(Fv ae ah).symm;have ac:p.lb i≠p.cb i:=AZ hL ae (by decide);have ad:p.lb i≠p.bm i:=Fv hL ah;have b1:(w.setCell ⟨p.cb i,1,none⟩ (.int .i64 (c.Ae+1))).heap[p.bm i]?=some (.map es cl):=(Below.heap_setCell _ _ _ _ ab).trans ah;have ai:=VB (w.setCell ⟨p.cb i,1,none⟩ (.int .i64 (c.Ae+1))) (p.bm i) es cl;have l1:(ED (w.setCell ⟨p.cb i,1,none⟩ (.int .i64 (c.Ae+1))) (p.bm i) (.map #[] cl)).heap[p.lb i]?=some (.cells (tab CU.cells xs).toArray 129 (0,0)):=(JA _ _ _).at ((Below.heap_setCell _ _ _ _ ac).trans hL) ad;have k1:(w.setCell ⟨p.cb i,1,none⟩ (.int .i64 (c.Ae+1))).heap[p.cb i]?=some (.cells ((Jn p G i c).toList.set 1 (.int .i64 (c.Ae+1))).toArray 133 (0,0)):=Ai (cs:=(Jn p G i c).toList) (off:=1) ae _;have k2:(ED (w.setCell ⟨p.cb i,1,none⟩ (.int .i64 (c.Ae+1))) (p.bm i) (.map #[] cl)).heap[p.cb i]?=some (.cells ((Jn p G i c).toList.set 1 (.int .i64 (c.Ae+1))).toArray 133 (0,0)):=(JA _ _ _).at k1 (fun e=>ab e.symm);have av:(w.setCell ⟨p.cb i,1,none⟩ (.int .i64 (c.Ae+1))).cell? ⟨p.cb i,2,none⟩=some (.map (some (p.bm i))):=AP k1 rfl;have aw:(ED (w.setCell ⟨p.cb i,1,none⟩ (.int .i64 (c.Ae+1))) (p.bm i) (.map #[] cl)).cell? ⟨p.cb i,3,none⟩=some (.slice (some ⟨p.lb i,0,none⟩) n n):=by
   rw[hn];exact AP k2 rfl
  have HF:Hid (E8 p F w (EM G i (c.Ae+1)) ((ED (w.setCell ⟨p.cb i,1,none⟩ (.int .i64 (c.Ae+1))) (p.bm i) (.map #[] cl)).setCells (p.lb i) 0 (tab CU.cells (List.replicate n Qc)))):=by
   have ap:n=G.c.lines.toNat:=by omega
   obtain⟨q1,q2⟩:=Ke (tab CU.cells (List.replicate n Qc)) 0 _ _ l1 (by rw[Dh CU.len,Dh CU.len,List.length_replicate,am];omega);have hk:Af (fun k=>k=p.cb i\/k=p.bm i\/k=p.lb i) w ((ED (w.setCell ⟨p.cb i,1,none⟩ (.int .i64 (c.Ae+1))) (p.bm i) (.map #[] cl)).setCells (p.lb i) 0 (tab CU.cells (List.replicate n Qc))):=
    (((Ah (.int .i64 (c.Ae+1))).mono (fun k _ e=>Or.inl e)).trans ((JA _ _ _).mono (fun k _ e=>Or.inr (Or.inl e)))).trans (q2.mono (fun k _ e=>Or.inr (Or.inr e)))
   obtain⟨g1,g2⟩:=h.aat hc (Ae:=c.Ae+1) (by omega) hk (by
    refine(q2.at k2 (fun e=>ac e.symm)).trans ?_;rw[show (R.FF (c.Ae+1) G.c.lines)=⟨c.Ae+1,[],List.replicate n R.JC⟩ by rw[ap];rfl];simp[Jn,hn]) (Mp.ED Kz (q2.at (Z7 b1) (fun e=>ad e.symm))) (by
    rw[<-ap,q1];simp)
   exact⟨p.t,F,g1,g2⟩
  have aq:=ai;have an:=Qo (ED (w.setCell ⟨p.cb i,1,none⟩ (.int .i64 (c.Ae+1))) (p.bm i) (.map #[] cl)) (p.lb i) n au;have af:∀ty,(Builtin.clear_ #[130] ty #[.map (some (p.bm i))]).run Tryz.prog (w.setCell ⟨p.cb i,1,none⟩ (.int .i64 (c.Ae+1)))=.ok (.tuple #[]) (ED (w.setCell ⟨p.cb i,1,none⟩ (.int .i64 (c.Ae+1))) (p.bm i) (.map #[] cl)):=fun ty=>ai ty b1
  have ag:∀ty,(Builtin.clear_ #[131] ty #[.slice (some ⟨p.lb i,0,none⟩) n n]).run Tryz.prog (ED (w.setCell ⟨p.cb i,1,none⟩ (.int .i64 (c.Ae+1))) (p.bm i) (.map #[] cl))=.ok (.tuple #[]) _:=fun ty=>an ty xs am l1
  have ak:Hid (∀ty,(Builtin.clear_ #[131] ty #[.slice (some ⟨p.lb i,0,none⟩) n n]).run Tryz.prog (ED (w.setCell ⟨p.cb i,1,none⟩ (.int .i64 (c.Ae+1))) (p.bm i) (.map #[] cl))=.ok (.tuple #[]) ((ED (w.setCell ⟨p.cb i,1,none⟩ (.int .i64 (c.Ae+1))) (p.bm i) (.map #[] cl)).setCells (p.lb i) 0 (tab CU.cells (List.replicate n Qc)))):=ag;have aj:Hid (∀ty,(Builtin.clear_ #[130] ty #[.map (some (p.bm i))]).run Tryz.prog (w.setCell ⟨p.cb i,1,none⟩ (.int .i64 (c.Ae+1)))=.ok (.tuple #[]) (ED (w.setCell ⟨p.cb i,1,none⟩ (.int .i64 (c.Ae+1))) (p.bm i) (.map #[] cl))):=af;have lw:p.cb i<(ED (w.setCell ⟨p.cb i,1,none⟩ (.int .i64 (c.Ae+1))) (p.bm i) (.map #[] cl)).heap.size:=lt_of_block k2;clear h al aa ai an aq hL ao ah ae b1 l1 k1 k2 af ag ab ac ad hn am;go_enter Tryz.func102,Tryz.ntmps102;go_wp2_with fail
  rw[Aa aj];generalize ED (w.setCell ⟨p.cb i,1,none⟩ (.int .i64 (c.Ae+1))) (p.bm i) (.map #[] cl)=W1 at *;go_wp2_with fail
  rw[Aa ak];go_wp2_with fail
  go_returns;exact⟨rfl,Aa HF⟩
theorem LW.Gk(h:LW p F G w)(aa:Int):
  Calls Tryz.prog 60 #[ptr p.x,.int .i64 aa] w fun e w'=>e=.returned (.int .i64 (R.Bb G aa).1)/\E8 p F w (R.Bb G aa).2 w':=by
 have x1:w.cell? ⟨p.x,1,none⟩=some (ptr p.s):=cell_of h.bx 1 _ rfl;have x2:w.cell? ⟨p.x,2,none⟩=some (.slice (some ⟨p.cs,0,none⟩) G.Ad.length p.cap):=cell_of h.bx 2 _ rfl;have hl:=lt_of_cell x1;by_cases h1:aa=-1
 ·subst h1;have HS:=Ac h.ME;have e1:(R.Bb G (-1)).1=0:=by unfold R.Bb;rw[if_pos rfl]
  rw[e1];generalize (R.Bb G (-1)).2=G' at *;clear h e1;go_enter Tryz.func60,Tryz.ntmps60;go_wp2_with (go_at_call 101;refine(Aa HS).mono ?_;rintro e w1 ⟨rfl,ab⟩;have HW:=Ac ab;clear ab)
  go_returns;exact⟨rfl,Aa HW⟩
 ·have n1:(aa==-1)=false:=by simpa using h1
  by_cases h2:aa<0\/(G.Ad.length:Int)<=aa
  ·have e1:R.Bb G aa=(13,G):=by unfold R.Bb;rw[if_neg h1,if_pos h2]
   rw[e1];have HW:=Ac (⟨p.t,F,h,Ap.refl F w⟩:E8 p F w G w);generalize G.Ad.length=n at *;clear h e1 h1;by_cases h0:aa<0
   ·have q1:¬0<=aa:=by omega
    clear h2;go_enter Tryz.func60,Tryz.ntmps60;go_wp2_with (first|(go_at_call 35;go_in))
    go_returns;exact⟨rfl,Aa HW⟩
   ·have q1:0<=aa:=by omega
    have q2:¬aa<(n:Int):=by omega
    clear h2;go_enter Tryz.func60,Tryz.ntmps60;go_wp2_with (first|(go_at_call 35;go_in))
    go_returns;exact⟨rfl,Aa HW⟩
  ·obtain⟨i,rfl⟩:∃i:Nat,aa=(i:Int):=⟨aa.toNat,by omega⟩;have hi:i<G.Ad.length:=by omega
   have ac:=h.SQ hi;have HS:=Ac (h.MD (List.getElem?_eq_getElem hi));have q1:(0:Int)<=(i:Int):=by omega
   have q2:(i:Int)<(G.Ad.length:Int):=by omega
   have ad:=lt_of_cell ac;generalize R.Bb G (i:Int)=Z at *;generalize G.Ad.length=n at *;clear h h1 h2;go_enter Tryz.func60,Tryz.ntmps60;go_wp2_with (first|(go_at_call 35;go_in)|(go_at_call 102;refine(Aa HS).mono ?_;rintro e w1 ⟨rfl,ab⟩;have HW:=Ac ab;clear ab))
   go_returns;exact⟨rfl,Aa HW⟩
theorem Pq(w:World)(s nm m c:Nat)(a:Option Addr)(name:List UInt8)(kind u u0:Int)(B A C:World->Prop)(ac:R.CZ name=true)(hk:0<=kind/\kind<=2)(c5:w.cell? ⟨s,5,none⟩=some (.map (some nm)))(c6:w.cell? ⟨s,6,none⟩=some (.slice a m c))(hm:m<255)
  (aa:(Instr.lookup 134 (.map (some nm)) (.string (str name)) true).run Tryz.prog w=.ok (.tuple #[.int .i64 u0,.bool true]) w)
  (ah:Hid (Calls Tryz.prog 144 #[ptr s,.int .i64 u0] w fun e w'=>e=.returned (.tuple #[])/\B w'))
  (ag:Hid (∀w',B w'->Calls Tryz.prog 145 #[ptr s,.int .i64 kind] w' fun e w'=>e=.returned (.int .i64 u)/\A w'))
  (HA:Hid (∀w',A w'->w'.cell? ⟨s,5,none⟩=some (.map (some nm))))
  (ae:Hid (∀w1 w2,A w1->Below w1.heap.size w1 w2->∃w3,(Instr.mapUpdate 134 (.map (some nm)) (.string (str name)) (.int .i64 u)).run Tryz.prog w2=.ok () w3/\C w3)):
  Calls Tryz.prog 83 #[ptr s,.string (str name),.int .i64 kind] w fun e w'=>e=.returned (.tuple #[.int .i64 u,.int .i64 0])/\C w':=by
 have ak:=Ac (fun w=>Js name ac w);have ai:name.length<=1000:=by
  unfold R.CZ at ac;simp only[Bool.and_eq_true,decide_eq_true_eq]at ac;omega
 have al:=Ac (fun w=>Ei name w ai);have aj:Hid (∀w,Calls Tryz.prog 143 #[.int .i64 kind] w fun e w'=>e=.returned (.bool true)/\w'=w):=fun w=>by
  refine(Cm kind w).mono ?_;rintro e w' ⟨rfl,rfl⟩;refine⟨?_,rfl⟩;have:(kind==0 || kind==1 || kind==2)=true:=by simp;omega
  rw[this]
 have e2:((m:Int)==255)=false:=by simp;omega
 generalize str name=SN at *;clear ac hm ai;go_enter Tryz.func83,Tryz.ntmps83;go_wp2_with (first|(go_at_call 142;refine((Aa ak) _).mono ?_;rintro e w' ⟨rfl,ab⟩;rw[ab];clear ab)|(go_at_call 143;refine((Aa aj) _).mono ?_;rintro e w' ⟨rfl,ab⟩;rw[ab];clear ab))
 refine(Aa ah).mono ?_;rintro e w0 ⟨rfl,hB⟩;have ad:=Ac ((Aa ag) w0 hB);clear hB ah ag aa c5 c6;go_wp2_with fail
 refine(Aa ad).mono ?_;rintro e w1 ⟨rfl,hA⟩;have d0:=(Aa HA) w1 hA;have an:=lt_of_cell d0;have am:=Ac hA;clear hA;go_wp2;go_region_law (refine Av rfl 146 #[.tmp 53] #[9] rfl adt #[.string SN] rfl _ ((Aa al) _) ?_;rintro e w2 ⟨rfl,hb⟩;have f0:w2.cell? ⟨s,5,none⟩=some (.map (some nm)):=(hb.cell (p:=⟨s,5,none⟩) an).trans d0;have af:=(Aa ae) w1 w2 (Aa am) (D7 hb);obtain⟨w3,ao,hC⟩:=af;have HC:=Ac hC;clear hC hb;refine⟨_,rfl,?_⟩)
 all_goals
  go_wp2;go_returns;exact⟨rfl,Aa HC⟩
theorem Pp(w:World)(s nm c:Nat)(a:Option Addr)(name:List UInt8)(kind u0:Int)(ac:R.CZ name=true)(hk:0<=kind/\kind<=2)(c5:w.cell? ⟨s,5,none⟩=some (.map (some nm)))(c6:w.cell? ⟨s,6,none⟩=some (.slice a 255 c))
  (ab:(Instr.lookup 134 (.map (some nm)) (.string (str name)) true).run Tryz.prog w=.ok (.tuple #[.int .i64 u0,.bool true]) w):
  Calls Tryz.prog 83 #[ptr s,.string (str name),.int .i64 kind] w fun e w'=>e=.returned (.tuple #[.int .i64 0,.int .i64 11])/\w'=w:=by
 have ae:=Ac (fun w=>Js name ac w);have ad:Hid (∀w,Calls Tryz.prog 143 #[.int .i64 kind] w fun e w'=>e=.returned (.bool true)/\w'=w):=fun w=>by
  refine(Cm kind w).mono ?_;rintro e w' ⟨rfl,rfl⟩;refine⟨?_,rfl⟩;have:(kind==0 || kind==1 || kind==2)=true:=by simp;omega
  rw[this]
 generalize str name=SN at *;clear ac;go_enter Tryz.func83,Tryz.ntmps83;go_wp2_with (first|(go_at_call 142;refine((Aa ae) _).mono ?_;rintro e w' ⟨rfl,aa⟩;rw[aa];clear aa)|(go_at_call 143;refine((Aa ad) _).mono ?_;rintro e w' ⟨rfl,aa⟩;rw[aa];clear aa))
 go_returns;exact⟨rfl,rfl⟩
theorem Hd(ad:G.stands.length=G.names.length)(he:R.BI G name=some k)(v:Int)(x:List UInt8):(x=name->AF {G with stands:=G.stands.set k v} x=some v)/\(¬x=name->AF {G with stands:=G.stands.set k v} x=AF G x):=by
 have hk:=R.Ek he;have ac:=(List.getElem?_eq_some_iff.1 hk).1;constructor
 ·rintro rfl;have aa:R.BI {G with stands:=G.stands.set k v} x=some k:=he;unfold AF;rw[aa];simp[List.getElem?_set,show k<G.stands.length by omega]
 ·intro hx;unfold AF;have aa:R.BI {G with stands:=G.stands.set k v} x=R.BI G x:=rfl;rw[aa];cases hj:R.BI G x with
  |none=>rfl
  |some j=>
   have ab:=R.Ek hj;have:¬k=j:=fun e=>hx (by
    subst e;rw[hk]at ab;exact(Option.some.inj ab).symm)
   simp[List.getElem?_set,this]
theorem LW.QC(h:LW p F G w){kind:Int}(ab:R.CZ name=true)(hk:0<=kind/\kind<=2)(he:R.BI G name=some k):
  Calls Tryz.prog 83 #[ptr p.s,.string (str name),.int .i64 kind] w fun e w'=>e=.returned (.tuple #[.int .i64 (R.Bd G name kind).1.1,.int .i64 (R.Bd G name kind).1.2])/\E8 p F w (R.Bd G name kind).2 w':=by
 obtain⟨a,c,hK⟩:=AX h.BN.made;have aq:name.length<=8:=by
  unfold R.CZ at ab;simp only[Bool.and_eq_true,decide_eq_true_eq]at ab;omega
 have ap:p.t.zs.length=G.Ab.length:=by rw[<-h.BN.zs,List.length_map]
 have ai:AF G name=some (G.stands.getD k 0):=by
  unfold AF;rw[he];rfl
 have aa:=M4 h.names (s:=name) (by unfold maxLen;omega);rw[ai]at aa;have ak:=(List.getElem?_eq_some_iff.1 (R.Ek he)).1;have ah:k<G.stands.length:=by rw[h.wf.st];exact ak
 have hu:=h.wf.I5 (G.stands.getD k 0) (by
  rw[List.getD_eq_getElem?_getD,List.getElem?_eq_getElem ah];exact List.getElem_mem ah)
 generalize hu0:G.stands.getD k 0=u0 at *;have ad:R.Bd G name kind=if G.Ab.length=255 then ((0,11),G) else (((G.Ab.length:Int)+1,0),{R.Ch G u0 with stands:=G.stands.set k ((G.Ab.length:Int)+1),Ab:=(R.Ch G u0).Ab++[⟨kind,true,[]⟩]}):=by
  unfold R.Bd;rw[ab,if_neg (by simp),if_neg (by omega),he];simp only[hu0];rfl
 have aj:=h.wf.sv;by_cases hs:G.Ab.length=255
 ·rw[ad,if_pos hs];refine(Pp w p.s p.nm c a name kind u0 ab hk (cell_of h.BN.bs 5 _ rfl) (cell_of h.BN.bs 6 _ (by rw[<-hs,<-ap,<-hK];rfl)) aa).mono ?_;rintro e w' ⟨rfl,rfl⟩;exact⟨rfl,p.t,F,h,Ap.refl F _⟩
 ·rw[ad,if_neg hs];obtain⟨u,rfl⟩:∃u:Nat,u0=(u:Int)+1:=⟨(u0-1).toNat,by omega⟩;have an:G.Ab[u]?=some (G.Ab[u]'(by omega)):=List.getElem?_eq_getElem _;have ae:(R.Ch G ((u:Int)+1)).Ab.length=G.Ab.length:=by simp[R.Ch]
  have ac:=h.wf.export name kind;rw[ad,if_neg hs]at ac;refine Pq w p.s p.nm p.t.zs.length c a name kind _ _ (fun w'=>∃t,LW {p with t:=t} F (R.Ch G ((u:Int)+1)) w'/\Ap F F w w') (fun w'=>∃t F',LW {p with t:=t} F' {R.Ch G ((u:Int)+1) with Ab:=(R.Ch G ((u:Int)+1)).Ab++[⟨kind,true,[]⟩]} w'/\Ap F F' w w') _ ab hk (cell_of h.BN.bs 5 _ rfl) (cell_of h.BN.bs 6 _ (by rw[<-hK];rfl)) (by omega) aa (h.ends an) ?_ ?_ ?_
  ·rintro w' ⟨t,hL,hW⟩;have:=hL.begun hk (by omega);rw[ae]at this;refine this.mono ?_;rintro e ar ⟨rfl,t',F',q1,q2⟩;exact⟨rfl,t',F',q1,hW.trans q2⟩
  ·rintro w' ⟨t,F',hL,_⟩;exact cell_of hL.BN.bs 5 _ rfl
  ·rintro w1 w2 ⟨t,F',hL,hW⟩ hb;have ag:=hL.below hb;have am:AF {R.Ch G ((u:Int)+1) with Ab:=(R.Ch G ((u:Int)+1)).Ab++[⟨kind,true,[]⟩]} name=some ((u:Int)+1):=ai;obtain⟨w3,af,hm,ao⟩:=Vb ag.names (by have:=h.wf.nm;show G.names.length<1000;omega) (s:=name) (by unfold maxLen;omega) (v:=(G.Ab.length:Int)+1) (by omega) (AF {G with stands:=G.stands.set k ((G.Ab.length:Int)+1)}) (Hd h.wf.st he _);refine⟨w3,af,t,F',?_⟩;rw[am]at hm;have al:Mp w3 9 p.nm NU (AF {G with stands:=G.stands.set k ((G.Ab.length:Int)+1)}) G.names.length:=hm;have q:=ag.Q0 (N:=G.names) (S:=G.stands.set k ((G.Ab.length:Int)+1)) (Hf ao) (al.congr (fun _=>rfl)) ac;exact⟨q.1,(hW.trans (Ap.Al F' hb)).trans q.2⟩
theorem Uq(w:World)(s:List UInt8)(k:Nat)(b:UInt8)(hk:k<s.length):
  Calls Tryz.prog 171 #[.string (str s),.int .i64 (k:Int),.int .u8 (b.toNat:Int)] w fun e w'=>e=.returned (.string (str (s.set k (s.getD k 0 ^^^ b))))/\Below w.heap.size w w':=by
 obtain⟨cap,W,hc,hR,hb⟩:=aar w s;have hx:s[k]?=some (s.getD k 0):=by rw[List.getD_eq_getElem?_getD,List.getElem?_eq_getElem hk];rfl
 generalize s.getD k 0=a at hx ⊢;obtain⟨c1,z1⟩:=hR.2 k a hx;have aa:=hR.set k (a ^^^ b);have ab:=aa.conv cap;rw[List.length_set]at ab;have ac:=ac8 a b;have HB:Hid (Below w.heap.size w (W.setCell ⟨w.heap.size,k,none⟩ (.int .u8 ((a ^^^ b).toNat:Int)))):=hb.setCell (by simp) _;have q1:(0:Int)<=(k:Int):=by omega
 have q2:(k:Int)<(s.length:Int):=by omega
 have ad:=hR.1;obtain⟨X,hX⟩:∃X:Int,X=((a ^^^ b).toNat:Int):=⟨_,rfl⟩;rw[<-hX]at ab ac HB;clear hX;generalize str (s.set k (a ^^^ b))=S2 at *;generalize str s=S1 at *;generalize s.length=n at *;clear hR aa hb hx hk;go_enter Tryz.func171,Tryz.ntmps171;go_wp2
 go_ret
 exact⟨rfl,Aa HB⟩
theorem UO(w:World)(n:Nat)(a:Option Addr)(m c:Nat)(i e0:Int)(hK:w.heap[n]?=some (.cells #[.slice a m c] 110 (0,0)))(h:((i<0\/(m:Int)<=i)/\e0=9)\/(0<=i/\i<(m:Int)/\m=40/\e0=12)):
  Calls Tryz.prog 104 #[ptr n,.int .i64 i] w fun e w'=>e=.returned (.int .i64 e0)/\w'=w:=by
 have H:=Ac (FN w n a m c i hK);have H2:=Ac (JZ w n a m c hK);clear hK;rcases h with ⟨hi,rfl⟩|⟨h1,h2,rfl,rfl⟩
 ·rw[show decide (0<=i/\i<(m:Int))=false by simp;omega]at H;clear hi;go_enter Tryz.func104,Tryz.ntmps104;go_wp2_with (first|(go_at_call 151;refine(Aa H).mono ?_;rintro e w1 ⟨rfl,aa⟩;rw[aa];clear aa))
  go_ret
  exact⟨rfl,rfl⟩
 ·rw[show decide (0<=i/\i<((40:Nat):Int))=true by simp;omega]at H;rw[show decide ((40:Nat)=40)=true by simp]at H2;clear h1 h2;go_enter Tryz.func104,Tryz.ntmps104;go_wp2_with (first|(go_at_call 151;refine(Aa H).mono ?_;rintro e w1 ⟨rfl,aa⟩;rw[aa];clear aa)|(go_at_call 170;refine(Aa H2).mono ?_;rintro e w1 ⟨rfl,aa⟩;rw[aa];clear aa))
  go_ret
  exact⟨rfl,rfl⟩
theorem PQ(w:World)(aa:Int)(S:ByteArray)(b:Bool)(j:Nat)(u:Value)(h:([.int .i64 aa,.string S,.bool b]:List Value)[j]?=some u):(w.alloc (.cells #[.int .i64 aa,.string S,.bool b] 166)).cell? ((⟨w.heap.size,0,none⟩:Addr).add j)=some u:=by
 rw[Addr.add_lit,Nat.zero_add,World.cell?_alloc_new w _ _ j,<-List.getElem?_toArray]at *;exact h
theorem aa5{wz:World}{m:Nat}{K K':Value}{aa:List R.Fl}{xs:List Value}{j0:Nat}(hK:w.heap[n]?=some (.cells #[K] 110 (0,0)))(ad:w.ownsRow 0 166 3 K m xs)(hb:Below w.heap.size w W)(hg:W.grownBy wz K.ownBlock)(ac:wz.ownsRow 0 166 3 K' aa.length (tab BB aa))(ae:K'.ownBlock=K.ownBlock\/K'.ownBlock=some j0)(hj:w.heap.size<=j0):wz.heap[n]?=some (.cells #[K] 110 (0,0))/\Ea w n K aa (wz.setCell ⟨n,0,none⟩ K'):=by
 have ag:K.ownBlock≠some n:=AV ad hK (by decide);have af:=(Array.getElem?_eq_some_iff.1 hK).1;have ah:wz.heap[n]?=some (.cells #[K] 110 (0,0)):=by
  rw[hg.block n (Nat.lt_of_lt_of_le af hb.size) (fun e=>ag e.symm),hb.block n af];exact hK
 have ab:K'.ownBlock≠some n:=by
  rcases ae with e|e
  ·rw[e];exact ag
  ·rw[e];intro q;cases q;omega
 refine⟨ah,⟨⟨K',?_,?_,?_⟩,?_⟩⟩
 ·exact Ai (cs:=[K]) (off:=0) ah K'
 ·exact Fy ac (fun g hg=>Below.heap_setCell _ _ _ _ (fun e=>ab (by rw[hg];exact congrArg some e)))
 ·rcases ae with e|e
  ·exact Or.inl e
  ·exact Or.inr ⟨j0,e,hj⟩
 ·have ai:Af (fun k=>k=n\/K.ownBlock=some k) w W:=Af.Al hb _;exact(ai.grown hg (fun k hk=>Or.inl (Or.inr hk))).setCell (p:=⟨n,0,none⟩) (Or.inl (Or.inl rfl)) _
theorem aas(w:World)(n:Nat)(K:Value)(fl:List R.Fl)(i:Nat)(f:R.Fl)(hK:w.heap[n]?=some (.cells #[K] 110 (0,0)))(ab:w.ownsRow 0 166 3 K fl.length (tab BB fl))(hf:fl[i]?=some f)(aw:fl.length<40):
  Calls Tryz.prog 104 #[ptr n,.int .i64 (i:Int)] w fun e w'=>e=.returned (.int .i64 0)/\Ea w n K (fl++[f]) w':=by
 have hi:=(List.getElem?_eq_some_iff.1 hf).1;rcases id ab.2 with ⟨_,h0⟩|⟨g,cap,aj,rfl,_,hg,ak,an,ap,ah⟩
 ·omega
 have q:∀j,j<3->aj[i*3+j]?=(BB f)[j]?:=fun j hj=>by
  rw[<-E7 DK fl i j f hf hj,<-ah,List.getElem?_take,if_pos (by omega)];simp
 have v0:w.cell? ⟨g,i*3,none⟩=some (.int .i64 f.to):=by
  have:=q 0 (by omega);simp[World.cell?,hg];simpa [BB] using this
 have v1:w.cell? ⟨g,i*3+1,none⟩=some (.string (str f.s)):=by
  have:=q 1 (by omega);simp[World.cell?,hg];simpa [BB] using this
 have v2:w.cell? ⟨g,i*3+2,none⟩=some (.bool f.Hy):=by
  have:=q 2 (by omega);simp[World.cell?,hg];simpa [BB] using this
 have H:=Ac (FN w n (some ⟨g,0,none⟩) fl.length cap i hK);rw[show decide (0<=(i:Int)/\(i:Int)<(fl.length:Int))=true by simp;omega]at H;have H2:=Ac (JZ w n (some ⟨g,0,none⟩) fl.length cap hK);rw[show decide (fl.length=40)=false by simp;omega]at H2;have HN:Hid (∀(wz:World) (K':Value),wz.ownsRow 0 166 3 K' (fl.length+1) (tab BB fl++[.int .i64 f.to,.string (str f.s),.bool f.Hy])->(w.drew.alloc (.cells #[.int .i64 f.to,.string (str f.s),.bool f.Hy] 166)).grownBy wz (Value.slice (some ⟨g,0,none⟩) fl.length cap).ownBlock->(K'.ownBlock=(Value.slice (some ⟨g,0,none⟩) fl.length cap).ownBlock\/K'.ownBlock=some (w.heap.size+1))->wz.heap[n]?=some (.cells #[.slice (some ⟨g,0,none⟩) fl.length cap] 110 (0,0))/\Ea w n (.slice (some ⟨g,0,none⟩) fl.length cap) (fl++[f]) (wz.setCell ⟨n,0,none⟩ K')):=fun wz K' how al af=>by
  refine aa5 hK ab ((Below.refl _ _).drew.alloc (Nat.le_refl _) _) al ?_ af (by omega);rw[List.length_append,EV];exact how
 obtain⟨i0,am,ar,au,av⟩:=info_parts Tx;have ai:=Ac ab;have c1:w.cell? ⟨n,0,none⟩=some (.slice (some ⟨g,0,none⟩) fl.length cap):=cell_of hK 0 _ rfl;have ay:=lt_of_block hK;have ax:=(Array.getElem?_eq_some_iff.1 hg).1;have q1:(0:Int)<=(i:Int):=by omega
 have q2:(i:Int)<(fl.length:Int):=by omega
 generalize Ea w n (.slice (some ⟨g,0,none⟩) fl.length cap) (fl++[f])=Post at *;generalize str f.s=SF at *;generalize tab BB fl=TF at *;generalize fl.length=L0 at *;clear q hK ab hf hg ap ah;go_enter Tryz.func104,Tryz.ntmps104;go_wp2_with (first|(go_at_call 151;refine(Aa H).mono ?_;rintro e w1 ⟨rfl,ae⟩;rw[ae];clear ae)|(go_at_call 170;refine(Aa H2).mono ?_;rintro e w1 ⟨rfl,ae⟩;rw[ae];clear ae))
 go_region_law (refine Bp rfl (.tmp 15) (.tmp 23) 108 rfl 0 166 i0 (.agg #[.int .i64 0,.string ⟨#[]⟩,.bool false]) 3 32 Tryz.underlying108 am ar au av rfl (by decide) (.slice (some ⟨g,0,none⟩) L0 cap) L0 TF rfl (by exact(Bu (Aa ai) ((Below.refl _ _).drew)).alloc _) ⟨w.heap.size,0,none⟩ 1 1 [.int .i64 f.to,.string SF,.bool f.Hy] rfl rfl (by exact PQ w.drew f.to SF f.Hy) (by simp[Value.oneCell']) (by unfold maxLen;omega) (by omega) (by omega) ?_;intro v' wz aa ac af;obtain⟨va,vn,vc,aq⟩:=Ar aa;subst aq;have ao:=(Aa HN) wz _ aa ac (by simpa using af);obtain⟨ag,ad⟩:=ao;have HP:=Ac ad;have d1:wz.cell? ⟨n,0,none⟩=some (.slice (some ⟨g,0,none⟩) L0 cap):=cell_of ag 0 _ rfl;have z1:wz.frozen? ⟨n,0,none⟩=false:=open_list ag;have az:=lt_of_block ag;clear aa ac af ag ad)
 all_goals
  go_wp2
  go_ret
  exact⟨rfl,Aa HP⟩
theorem LW.copy(h:LW p F G w)(i:Int):Calls Tryz.prog 62 #[ptr p.x,.int .i64 i] w fun e w'=>e=.returned (.int .i64 (R.DG G i).1)/\∃F',LW p F' (R.DG G i).2 w'/\Ap F F' w w':=by
 have c0:w.cell? ⟨p.x,0,none⟩=some (ptr p.n):=cell_of h.bx 0 _ rfl;obtain⟨K,hK,aa,hF⟩:=h.bn;have ab:=h.wf.E3;have H:Calls Tryz.prog 104 #[ptr p.n,.int .i64 i] w fun e w'=>e=.returned (.int .i64 (R.DG G i).1)/\∃F',LW p F' (R.DG G i).2 w'/\Ap F F' w w':=by
  obtain⟨a,c,rfl⟩:=AX aa;unfold R.DG;by_cases hi:R.off G i
  ·rw[if_pos hi];refine(UO w p.n a G.Ak.length c i 9 hK (Or.inl ⟨hi,rfl⟩)).mono ?_;rintro e w' ⟨rfl,rfl⟩;exact⟨rfl,F,h,Ap.refl F w'⟩
  ·rw[if_neg hi];obtain⟨k,f,rfl,hf⟩:=R.YZ hi;have hk:=(List.getElem?_eq_some_iff.1 hf).1;by_cases h2:40<=G.Ak.length
   ·rw[if_pos h2];refine(UO w p.n a G.Ak.length c k 12 hK (Or.inr ⟨by omega,by omega,by omega,rfl⟩)).mono ?_;rintro e w' ⟨rfl,rfl⟩;exact⟨rfl,F,h,Ap.refl F w'⟩
   ·rw[if_neg h2,Int.toNat_natCast,hf];refine(aas w p.n _ G.Ak k f hK aa hf (by omega)).mono ?_;rintro e w' ⟨rfl,hn⟩;refine⟨rfl,h.net hK aa hn hF (R.Wf.Pw h.wf (by simp;omega) (fun g hg=>?_))⟩;rcases List.mem_append.1 hg with q|q
    ·exact h.wf.Eo g q
    ·rw[List.mem_singleton.1 q];exact h.wf.Eo f (List.mem_of_getElem? hf)
 have HH:=Ac H;clear H h hK aa hF ab;generalize R.DG G i=r at *;go_enter Tryz.func62,Tryz.ntmps62;go_wp2_with (first|(go_at_call 104;refine(Aa HH).mono ?_;rintro e w1 ⟨rfl,ac⟩))
 go_returns;exact⟨rfl,ac⟩
theorem XL(w:World)(n:Nat)(a:Option Addr)(m c:Nat)(i at' ab:Int)(hK:w.heap[n]?=some (.cells #[.slice a m c] 110 (0,0)))(hi:i<0\/(m:Int)<=i):
  Calls Tryz.prog 105 #[ptr n,.int .i64 i,.int .i64 at',.int .i64 ab] w fun e w'=>e=.returned (.int .i64 9)/\w'=w:=by
 have H:=Ac (FN w n a m c i hK);rw[show decide (0<=i/\i<(m:Int))=false by simp;omega]at H;clear hK hi;go_enter Tryz.func105,Tryz.ntmps105;go_wp2_with (first|(go_at_call 151;refine(Aa H).mono ?_;rintro e w1 ⟨rfl,aa⟩;rw[aa];clear aa))
 go_ret
 exact⟨rfl,rfl⟩
theorem XJ(w:World)(n g m cap i:Nat)(at' ab:Int)(S:ByteArray)(hK:w.heap[n]?=some (.cells #[.slice (some ⟨g,0,none⟩) m cap] 110 (0,0)))(hi:i<m)(h1:w.cell? ⟨g,i*3+1,none⟩=some (.string S))(hx:at'<0\/(S.size:Int)<=at'\/ab<1\/255<ab):
  Calls Tryz.prog 105 #[ptr n,.int .i64 (i:Int),.int .i64 at',.int .i64 ab] w fun e w'=>e=.returned (.int .i64 9)/\w'=w:=by
 have H:=Ac (FN w n (some ⟨g,0,none⟩) m cap i hK);rw[show decide (0<=(i:Int)/\(i:Int)<(m:Int))=true by simp;omega]at H;have c1:w.cell? ⟨n,0,none⟩=some (.slice (some ⟨g,0,none⟩) m cap):=cell_of hK 0 _ rfl;have q1:(0:Int)<=(i:Int):=by omega
 have q2:(i:Int)<(m:Int):=by omega
 have HX:=Ac hx;clear hK hx;by_cases a0:at'<0
 ·go_enter Tryz.func105,Tryz.ntmps105;go_wp2_with (first|(go_at_call 151;refine(Aa H).mono ?_;rintro e w1 ⟨rfl,aa⟩;rw[aa];clear aa))
  go_ret
  exact⟨rfl,rfl⟩
 ·by_cases a1:(S.size:Int)<=at'
  ·go_enter Tryz.func105,Tryz.ntmps105;go_wp2_with (first|(go_at_call 151;refine(Aa H).mono ?_;rintro e w1 ⟨rfl,aa⟩;rw[aa];clear aa))
   go_ret
   exact⟨rfl,rfl⟩
  ·by_cases a2:ab<1
   ·go_enter Tryz.func105,Tryz.ntmps105;go_wp2_with (first|(go_at_call 151;refine(Aa H).mono ?_;rintro e w1 ⟨rfl,aa⟩;rw[aa];clear aa))
    go_ret
    exact⟨rfl,rfl⟩
   ·have a3:255<ab:=by have:=Aa HX;omega
    go_enter Tryz.func105,Tryz.ntmps105;go_wp2_with (first|(go_at_call 151;refine(Aa H).mono ?_;rintro e w1 ⟨rfl,aa⟩;rw[aa];clear aa))
    go_ret
    exact⟨rfl,rfl⟩
theorem Vu(w:World)(n g m cap i:Nat)(at' aa:Int)(S:ByteArray)(hK:w.heap[n]?=some (.cells #[.slice (some ⟨g,0,none⟩) m cap] 110 (0,0)))(hi:i<m)(h1:w.cell? ⟨g,i*3+1,none⟩=some (.string S))(h2:w.cell? ⟨g,i*3+2,none⟩=some (.bool true))(a0:¬at'<0)(a1:¬(S.size:Int)<=at')(a2:¬aa<1)(a3:¬255<aa):
  Calls Tryz.prog 105 #[ptr n,.int .i64 (i:Int),.int .i64 at',.int .i64 aa] w fun e w'=>e=.returned (.int .i64 18)/\w'=w:=by
 have H:=Ac (FN w n (some ⟨g,0,none⟩) m cap i hK);rw[show decide (0<=(i:Int)/\(i:Int)<(m:Int))=true by simp;omega]at H;have c1:w.cell? ⟨n,0,none⟩=some (.slice (some ⟨g,0,none⟩) m cap):=cell_of hK 0 _ rfl;have q1:(0:Int)<=(i:Int):=by omega
 have q2:(i:Int)<(m:Int):=by omega
 clear hK;go_enter Tryz.func105,Tryz.ntmps105;go_wp2_with (first|(go_at_call 151;refine(Aa H).mono ?_;rintro e w1 ⟨rfl,ab⟩;rw[ab];clear ab))
 go_ret
 exact⟨rfl,rfl⟩
theorem aai(w:World)(n g m cap i k:Nat)(s:List UInt8)(b:UInt8)(aa:World->Prop)(hK:w.heap[n]?=some (.cells #[.slice (some ⟨g,0,none⟩) m cap] 110 (0,0)))(hi:i<m)(hg:∃ad,w.heap[g]?=some (.cells ad 166 (0,0)))(h1:w.cell? ⟨g,i*3+1,none⟩=some (.string (str s)))(h2:w.cell? ⟨g,i*3+2,none⟩=some (.bool false))(hk:k<s.length)(ag:1<=b.toNat)
  (HP:Hid (∀w',Below w.heap.size w w'->aa ((w'.setCell ⟨g,i*3+1,none⟩ (.string (str (s.set k (s.getD k 0 ^^^ b))))).setCell ⟨g,i*3+2,none⟩ (.bool true)))):
  Calls Tryz.prog 105 #[ptr n,.int .i64 (i:Int),.int .i64 (k:Int),.int .i64 (b.toNat:Int)] w fun e w'=>e=.returned (.int .i64 0)/\aa w':=by
 have H:=Ac (FN w n (some ⟨g,0,none⟩) m cap i hK);rw[show decide (0<=(i:Int)/\(i:Int)<(m:Int))=true by simp;omega]at H;have HT:=Ac (Uq w s k b hk);have c1:w.cell? ⟨n,0,none⟩=some (.slice (some ⟨g,0,none⟩) m cap):=cell_of hK 0 _ rfl;have q1:(0:Int)<=(i:Int):=by omega
 have q2:(i:Int)<(m:Int):=by omega
 have ae:=Ax s;have a0:¬(k:Int)<0:=by omega
 have a1:¬((str s).size:Int)<=(k:Int):=by rw[ae];omega
 have ah:=b.toNat_lt;have a2:¬(b.toNat:Int)<1:=by omega
 have a3:¬255<(b.toNat:Int):=by omega
 have aj:IntKind.u8.wrap (b.toNat:Int)=(b.toNat:Int):=by rw[wrap_u8];omega
 obtain⟨ad,hg⟩:=hg;have ac:=(Array.getElem?_eq_some_iff.1 hg).1;have HG:=Ac hg;generalize str (s.set k (s.getD k 0 ^^^ b))=S2 at *;generalize str s=S1 at *;generalize (b.toNat:Int)=B at *;clear hK ae hk ag ah hg;go_enter Tryz.func105,Tryz.ntmps105;go_wp2_with (first|(go_at_call 151;refine(Aa H).mono ?_;rintro e w1 ⟨rfl,af⟩;rw[af];clear af))
 refine(Aa HT).mono ?_;rintro e w2 ⟨rfl,hb⟩;have ab:=(hb.block g ac).trans (Aa HG);have d1:w2.cell? ⟨g,i*3+1,none⟩=some (.string S1):=(hb.cell (p:=⟨g,i*3+1,none⟩) ac).trans h1;have d2:w2.cell? ⟨g,i*3+2,none⟩=some (.bool false):=(hb.cell (p:=⟨g,i*3+2,none⟩) ac).trans h2;have z1:w2.frozen? ⟨g,i*3+1,none⟩=false:=open_list ab;have z2:w2.frozen? ⟨g,i*3+2,none⟩=false:=open_list ab;have ai:=lt_of_block ab;have HQ:=Ac ((Aa HP) w2 hb);clear hb ab;go_wp2
 go_ret
 exact⟨rfl,Aa HQ⟩
theorem take_set(l:List Value)(n i:Nat)(v:Value):(l.set i v).take n=(l.take n).set i v:=by
 apply List.ext_getElem?;intro j;simp only[List.getElem?_take,List.getElem?_set,List.length_take];by_cases hj:j<n
 ·by_cases e:i=j
  ·subst e;have:i<min n l.length↔i<l.length:=by omega
   simp[hj,this]
  ·simp[hj,e]
 ·by_cases e:i=j
  ·subst e;simp[hj];omega
  ·simp[hj,e]
theorem aaO{fl:List R.Fl}{f:R.Fl}(hf:fl[i]?=some f)(s':List UInt8):((tab BB fl).set (i*3+1) (.string (str s'))).set (i*3+2) (.bool true)=tab BB (fl.set i ⟨f.to,s',true⟩):=by
 have hl:=(List.getElem?_eq_some_iff.1 hf).1;rw[IU DK fl i 1 f ⟨f.to,s',f.Hy⟩ _ hf (by omega) rfl];rw[IU DK (fl.set i ⟨f.to,s',f.Hy⟩) i 2 ⟨f.to,s',f.Hy⟩ ⟨f.to,s',true⟩ _ (by simp[hl]) (by omega) rfl];rw[List.set_set]
theorem LW.Ji(h:LW p F G w)(i at' aa:Int):Calls Tryz.prog 63 #[ptr p.x,.int .i64 i,.int .i64 at',.int .i64 aa] w fun e w'=>e=.returned (.int .i64 (R.Dt G i at' aa).1)/\∃F',LW p F' (R.Dt G i at' aa).2 w'/\Ap F F' w w':=by
 have c0:w.cell? ⟨p.x,0,none⟩=some (ptr p.n):=cell_of h.bx 0 _ rfl;obtain⟨K,hK,ac,hF⟩:=h.bn;have H:Calls Tryz.prog 105 #[ptr p.n,.int .i64 i,.int .i64 at',.int .i64 aa] w fun e w'=>e=.returned (.int .i64 (R.Dt G i at' aa).1)/\∃F',LW p F' (R.Dt G i at' aa).2 w'/\Ap F F' w w':=by
  unfold R.Dt;by_cases hi:R.off G i
  ·rw[if_pos hi];obtain⟨a,c,rfl⟩:=AX ac;refine(XL w p.n a G.Ak.length c i at' aa hK hi).mono ?_;rintro e w' ⟨rfl,rfl⟩;exact⟨rfl,F,h,Ap.refl F w'⟩
  ·rw[if_neg hi];obtain⟨k,f,rfl,hf⟩:=R.YZ hi;have hk:=(List.getElem?_eq_some_iff.1 hf).1;rw[Int.toNat_natCast,hf];rcases id ac.2 with ⟨_,h0⟩|⟨g,cap,ae,rfl,_,hg,af,ag,ap,aj⟩
   ·omega
   have q:∀j,j<3->ae[k*3+j]?=(BB f)[j]?:=fun j hj=>by
    rw[<-E7 DK G.Ak k j f hf hj,<-aj,List.getElem?_take,if_pos (by omega)];simp
   have v1:w.cell? ⟨g,k*3+1,none⟩=some (.string (str f.s)):=by
    have:=q 1 (by omega);simp[World.cell?,hg];simpa [BB] using this
   have v2:w.cell? ⟨g,k*3+2,none⟩=some (.bool f.Hy):=by
    have:=q 2 (by omega);simp[World.cell?,hg];simpa [BB] using this
   simp only;by_cases ha:at'<0\/(f.s.length:Int)<=at'\/aa<1\/255<aa
   ·rw[if_pos ha];refine(XJ w p.n g G.Ak.length cap k at' aa (str f.s) hK hk v1 (by rw[Ax];exact ha)).mono ?_;rintro e w' ⟨rfl,rfl⟩;exact⟨rfl,F,h,Ap.refl F w'⟩
   ·rw[if_neg ha];by_cases ad:f.Hy=true
    ·rw[if_pos ad];rw[ad]at v2;refine(Vu w p.n g G.Ak.length cap k at' aa (str f.s) hK hk v1 v2 (by omega) (by rw[Ax];omega) (by omega) (by omega)).mono ?_;rintro e w' ⟨rfl,rfl⟩;exact⟨rfl,F,h,Ap.refl F w'⟩
    ·rw[if_neg ad];have al:f.Hy=false:=by simpa using ad
     rw[al]at v2;obtain⟨a,rfl⟩:∃a:Nat,at'=(a:Int):=⟨at'.toNat,by omega⟩;obtain⟨b,rfl⟩:∃b:UInt8,aa=(b.toNat:Int):=⟨b8 aa,(Bj (by omega) (by omega)).symm⟩;rw[Int.toNat_natCast,OZ];have ai:p.n≠g:=AZ hK hg (by decide);refine(aai w p.n g G.Ak.length cap k a f.s b (fun w'=>∃F',LW p F' {G with Ak:=G.Ak.set k ⟨f.to,f.s.set a (f.s.getD a 0 ^^^ b),true⟩} w'/\Ap F F' w w') hK hk ⟨ae,hg⟩ v1 v2 (by omega) (by omega) ?_);intro w' hb;have am:=(hb.block g (Array.getElem?_eq_some_iff.1 hg).1).trans hg;have ak:=(hb.block p.n (Array.getElem?_eq_some_iff.1 hK).1).trans hK;have ao:=Ai (cs:=ae.toList) (off:=k*3+1) am (.string (str (f.s.set a (f.s.getD a 0 ^^^ b))));have ah:=Ai (off:=k*3+2) ao (.bool true);have ab:(G.Ak.set k ⟨f.to,f.s.set a (f.s.getD a 0 ^^^ b),true⟩).length=G.Ak.length:=by simp
     have hn:Ea w p.n (.slice (some ⟨g,0,none⟩) G.Ak.length cap) (G.Ak.set k ⟨f.to,f.s.set a (f.s.getD a 0 ^^^ b),true⟩) ((w'.setCell ⟨g,k*3+1,none⟩ (.string (str (f.s.set a (f.s.getD a 0 ^^^ b))))).setCell ⟨g,k*3+2,none⟩ (.bool true)):=by
      refine⟨⟨.slice (some ⟨g,0,none⟩) G.Ak.length cap,?_,?_,Or.inl rfl⟩,?_⟩
      ·rw[Below.heap_setCell _ _ _ _ (fun e=>ai e),Below.heap_setCell _ _ _ _ (fun e=>ai e)];exact ak
      ·refine⟨by rw[Dh DK,Nat.mul_comm],Or.inr ⟨g,cap,_,by rw[ab],Nat.zero_le _,ah,by rw[ab];exact af,ag,by simpa using ap,?_⟩⟩;rw[ab];rw[take_set,take_set,aj,aaO hf]
      ·have an:Af (fun q=>q=p.n\/(Value.slice (some ⟨g,0,none⟩) G.Ak.length cap).ownBlock=some q) w w':=Af.Al hb _;exact(an.setCell (p:=⟨g,k*3+1,none⟩) (Or.inl (Or.inr rfl)) _).setCell (p:=⟨g,k*3+2,none⟩) (Or.inl (Or.inr rfl)) _
     refine h.net hK ac hn hF (R.Wf.Pw h.wf (by rw[ab];exact h.wf.E3) (fun q hq=>?_));rcases List.mem_or_eq_of_mem_set hq with r|r
     ·exact h.wf.Eo q r
     ·rw[r];simpa using h.wf.Eo f (List.mem_of_getElem? hf)
 have HH:=Ac H;clear H h hK ac hF;generalize R.Dt G i at' aa=r at *;go_enter Tryz.func63,Tryz.ntmps63;go_wp2_with (first|(go_at_call 105;refine(Aa HH).mono ?_;rintro e w1 ⟨rfl,aq⟩))
 go_returns;exact⟨rfl,aq⟩
theorem Au.adB{q:RP}(h:Au w0 q p c s G w)(i:Int):Calls Tryz.prog 62 #[ptr q.x,.int .i64 i] w fun e w'=>e=.returned (.int .i64 (R.DG G i).1)/\Au w0 q p c s (R.DG G i).2 w':=
 h.step (P:=fun e=>e=.returned (.int .i64 (R.DG G i).1)) (fun p' F hx hw _=>by rw[<-hx];exact(hw.copy i).mono (fun e w' q=>⟨q.1,E8.aba q.2⟩))
theorem Au.adg{q:RP}(h:Au w0 q p c s G w)(i a b:Int):Calls Tryz.prog 63 #[ptr q.x,.int .i64 i,.int .i64 a,.int .i64 b] w fun e w'=>e=.returned (.int .i64 (R.Dt G i a b).1)/\Au w0 q p c s (R.Dt G i a b).2 w':=
 h.step (P:=fun e=>e=.returned (.int .i64 (R.Dt G i a b).1)) (fun p' F hx hw _=>by rw[<-hx];exact(hw.Ji i a b).mono (fun e w' q=>⟨q.1,E8.aba q.2⟩))
theorem Au.SK{q:RP}(h:Au w0 q p c s G w)(aa:Int):Calls Tryz.prog 60 #[ptr q.x,.int .i64 aa] w fun e w'=>e=.returned (.int .i64 (R.Bb G aa).1)/\Au w0 q p c s (R.Bb G aa).2 w':=
 h.step (P:=fun e=>e=.returned (.int .i64 (R.Bb G aa).1)) (fun p' F hx hw _=>by rw[<-hx];exact hw.Gk aa)
theorem Au.UT{q:RP}(h:Au w0 q p c s G w){kind:Nat}(aa:R.CZ name=true)(hk:kind<=2)(he:R.BI G name=some j):Calls Tryz.prog 48 #[ptr q.x,.string (str name),.int .i64 (kind:Int)] w fun e w'=>e=.returned (.tuple #[.int .i64 (R.Bd G name kind).1.1,.int .i64 (R.Bd G name kind).1.2])/\Au w0 q p c s (R.Bd G name kind).2 w':=
 h.step (P:=fun e=>e=.returned (.tuple #[.int .i64 (R.Bd G name kind).1.1,.int .i64 (R.Bd G name kind).1.2])) (fun p' F hx hw _=>by
  rw[<-hx];exact Lb w p'.x p'.n p'.s p'.cs G.Ad.length p'.cap (str name) kind _ _ _ hw.bx (hw.QC aa (by omega) he))
theorem Agree.copy(h:Agree c s M G)(i:Int):Agree c s M (R.DG G i).2:=h.same (R.Sm.copy G i) (h.inv.copy i) (h.room.copy i)
theorem Agree.Ji(h:Agree c s M G)(i a b:Int):Agree c s M (R.Dt G i a b).2:=h.same (R.Sm.Ji G i a b) (h.inv.Ji i a b) (h.room.Ji i a b)
theorem Au.acv{q:RP}(h:Au w0 q p c s G w)(hA:Agree c s M G)(hm:0<s.made.length)(hd:0<s.dead.length):
  Calls Tryz.prog 7 #[ptr q.r] w fun e w'=>e=.returned (.int .i64 ((A9 G.Ab).length:Int))/\Below w.heap.size w w':=by
 have aa:=h.cells;obtain⟨tp,E,F,hr,a2,a3,a4⟩:=h.run;obtain⟨mb,mc,hM,ac⟩:=ZB hr.M hm;obtain⟨db,dc,hD,ab⟩:=ZB hr.D hd;have r9:=aa.a9;have Zn:=aa.NP;rw[hM]at r9;rw[hD]at Zn;refine V9 w q.r q.x mb mc db dc s.made s.dead G.Ab M G hA.inv rfl hA.book ⟨aa.a0,r9,by rw[<-hA.nu];exact aa.JB,Zn,fun j z hz cc v hv=>ac _ _ ?_,fun u n hn=>ab _ _ (Ew hn),fun z hz=>(hr.args z hz).items⟩ hA.ml hA.inv.wf.sv ?_ hA.dl hA.aeq (fun u n sv hn hs h0=>(hA.dead u n sv hn hs h0).2) (fun wr u sv hb hs=>(h.still hb).aa0 hs) (fun wr u j sv y hb hs hy=>?_)
 ·have ad:cc<7:=(List.getElem?_eq_some_iff.1 hv).1;rw[E7 QW s.made j cc z hz ad];exact hv
 ·intro sv hs;obtain⟨u,hu,rfl⟩:=List.getElem_of_mem hs;exact hA.inv.PG (List.getElem?_eq_getElem hu)
 ·refine((h.still hb).Yb hA.inv hs hy).mono ?_;rintro e w' ⟨⟨xa,xn,xc,ya,yn,yc,r1,r2,r3⟩,r4⟩;exact⟨⟨xa,xn,xc,ya,yn,yc,r1,r2⟩,r4⟩
structure Plain(c:R.Cf)(G:R.Wd):Prop where
 cf:G.c=c
 E3:G.Ak=[]
 BN:(G.Aj,G.seen,G.jobs)=([0,0,0],List.replicate 9 R.Cs,[])
 each:∀(j:Nat) (x:R.Cl),G.Ad[j]?=some x->x.lines=List.replicate c.lines.toNat R.JC/\x.Ae=1
theorem PS(h:Plain c G)(i:Nat)(u:Int):Plain c (A1 G i u):=by
 refine⟨h.cf,h.E3,h.BN,fun j x hx=>?_⟩;obtain⟨c0,h0,rfl⟩:=Dc hx;split<;>exact h.each j c0 h0
theorem Oy(c:R.Cf):∀k,Plain c (E1 c k)
 |0=>⟨rfl,rfl,rfl,fun j x hx=>by obtain⟨_,rfl⟩:=ER hx;exact⟨rfl,rfl⟩⟩
 |k+1=>by
  have h:=Oy c k;exact⟨h.cf,h.E3,h.BN,h.each⟩
theorem Ll(h:Plain c G)(i:Nat)(u:List Int):∀k,Plain c (BQ G i u k)
 |0=>h
 |k+1=>PS (Ll h i u k) i _
theorem KE(c:R.Cf):∀i,Plain c (Dl c i)
 |0=>Oy c 3
 |i+1=>Ll (KE c i) i _ 3
theorem K5{u:List Int}(h:G.Ad[j]?=some x)(hi:i≠j):∀k,(BQ G i u k).Ad[j]?=some x
 |0=>h
 |k+1=>by
  show (A1 (BQ G i u k) i _).Ad[j]?=_;rw[CJ,K5 h hi k];simp[hi]
theorem Oa:∀(i j:Nat) (x:R.Cl),(Dl c i).Ad[j]?=some x->j<i->(1:Int)∈x.bound/\(2:Int)∈x.bound/\(3:Int)∈x.bound
 |0,_,_,_,h=>by omega
 |i+1,j,x,hx,h=>by
  have hl:(Dl c (i+1)).Ad.length=(Dl c i).Ad.length:=by rw[Gi,Gi]
  have hj:j<(Dl c i).Ad.length:=by rw[<-hl];exact(List.getElem?_eq_some_iff.1 hx).1
  have h0:=List.getElem?_eq_getElem hj;by_cases aa:i=j
  ·subst aa;have e:(Dl c (i+1)).Ad[i]?=some {(Dl c i).Ad[i] with bound:=(((Dl c i).Ad[i].bound++[1])++[2])++[3]}:=by
    show (A1 (A1 (A1 (Dl c i) i 1) i 2) i 3).Ad[i]?=_;rw[CJ,CJ,CJ,h0];simp
   rw[e]at hx;cases hx;simp
  ·have e:(Dl c (i+1)).Ad[j]?=_:=K5 h0 aa 3;rw[e]at hx;exact Oa i j x (h0.trans hx) (by omega)
theorem GJ(c:R.Cf):∀i,(Dl c i).Ab=(E1 c 3).Ab
 |0=>rfl
 |i+1=>GJ c i
theorem QB{kind:Int}(h1:R.CZ name=true)(h2:0<=kind/\kind<=2)(h3:¬name∈G.names)(h4:¬G.names.length=6)(h5:¬G.Ab.length=255):R.Bd G name kind=(((G.Ab.length:Int)+1,0),BJ G name kind):=by
 have he:R.BI G name=none:=by
  unfold R.BI;rw[List.findIdx?_eq_none_iff];intro x hx;simp;rintro rfl;exact h3 hx
 unfold R.Bd;rw[h1,if_neg (by simp),if_neg (by omega),he];simp only;rw[if_neg h4,if_neg h5];rfl
theorem MQ(hi:i<G.Ad.length)(hs:AF G name=some u):(R.E4 G i name).2=A1 G i u:=by
 unfold R.E4;rw[if_neg (by omega)];unfold AF at hs;cases he:R.BI G name with
 |none=>rw[he]at hs;cases hs
 |some k=>
  rw[he]at hs;simp only[Option.map_some,Option.some.injEq]at hs;simp only[hs];unfold A1;simp
theorem UX(hc:R.BD c):∀k,k<=3->R.Inv (fun _=>none) (E1 c k)/\R.Room (E1 c k)
 |0,_=>by
  have hn:R.Wj c=some (newG c):=by
   unfold R.Wj;rw[if_pos hc];rfl
  exact⟨R.Inv.new hn,R.Room.new hn⟩
 |k+1,hk=>by
  obtain⟨h1,h2⟩:=UX hc k (by omega);have e:=QB (G:=E1 c k) (name:=A6 k) (kind:=(k:Int)) (M8 k) (by omega) (QA c (by omega)) (by rw[Fj];simp;omega) (by rw[CQ];simp;omega);have g1:=h1.export (A6 k) k;have g2:=h2.export (A6 k) k;rw[e]at g1 g2;exact⟨g1,g2⟩
theorem Oq(hi:i<(newG c).Ad.length)(h:R.Inv (fun _=>none) (Dl c i)/\R.Room (Dl c i)):∀k,k<=3->R.Inv (fun _=>none) (BQ (Dl c i) i (EH 3) k)/\R.Room (BQ (Dl c i) i (EH 3) k)
 |0,_=>h
 |k+1,hk=>by
  obtain⟨h1,h2⟩:=Oq hi h k (by omega);have hu:((EH 3)[k]?).getD 0=(k:Int)+1:=by
   have h3:k=0\/k=1\/k=2:=by omega
   rcases h3 with rfl|rfl|rfl<;>rfl
  have e:(R.E4 (BQ (Dl c i) i (EH 3) k) i (A6 k)).2=A1 (BQ (Dl c i) i (EH 3) k) i (((EH 3)[k]?).getD 0):=MQ (by rw[E9,Gi];exact hi) (by rw[Eh,GI,Jq c (by omega),hu]);have g1:=h1.imports i (A6 k);have g2:=h2.imports i (A6 k);rw[e]at g1 g2;exact⟨g1,g2⟩
theorem PD(hc:R.BD c):∀i,i<=(newG c).Ad.length->R.Inv (fun _=>none) (Dl c i)/\R.Room (Dl c i)
 |0,_=>UX hc 3 (Nat.le_refl _)
 |i+1,hi=>Oq (by omega) (PD hc i (by omega)) 3 (Nat.le_refl _)
theorem Q5(c:R.Cf):(newG c).Ad.length=c.Ad.toNat:=by simp[newG]
theorem agree_start(hc:R.BD c)(D K:Value):Agree c ⟨List.replicate c.Ad.toNat 1,List.replicate (3*c.Ad.toNat) 0,EH 3,3,.slice none 0 0,D,K,[],Gl 3,Hm 3⟩ (fun _=>none) (Dl c c.Ad.toNat):=by
 have hl:=Q5 c;obtain⟨h1,h2⟩:=PD hc c.Ad.toNat (by omega);have hp:=KE c c.Ad.toNat;have ab:(Dl c c.Ad.toNat).Ad.length=c.Ad.toNat:=by rw[Gi,hl]
 have ac:(Dl c c.Ad.toNat).Ab=[⟨0,true,[]⟩,⟨1,true,[]⟩,⟨2,true,[]⟩]:=by rw[GJ,CQ];rfl
 have ad:=hc;unfold R.BD at ad;refine⟨h1,h2,hp.cf,?_,by simp[ab],fun i cl k l hi hk=>?_,rfl,fun k hk=>?_,fun i cl u hi hu=>?_,by rw[ac];rfl,by rw[ac];rfl,by rw[ac];rfl,fun u n sv hn _ h0=>?_,CY.none⟩
 ·refine List.ext_getElem? (fun i=>?_);rw[List.getElem?_map];cases hi:(Dl c c.Ad.toNat).Ad[i]? with
  |none=>
   have:=List.getElem?_eq_none_iff.1 hi;rw[List.getElem?_eq_none (by simp;omega)];rfl
  |some x=>
   have:=(List.getElem?_eq_some_iff.1 hi).1;rw[List.getElem?_replicate,if_pos (by omega)];simp[(hp.each i x hi).2]
 ·have ae:=(List.getElem?_eq_some_iff.1 hi).1;have aa:=(List.getElem?_eq_some_iff.1 hk).1;obtain⟨e1,_⟩:=hp.each i cl hi;rw[e1]at hk aa;simp only[List.length_replicate]at aa;rw[List.getElem?_replicate,if_pos aa]at hk;cases hk;simp only[List.getElem?_replicate];rw[if_pos (by omega)];rfl
 ·refine⟨(k:Int)+1,?_,by rw[GI];exact Jq c hk,by rw[Kq];exact Oj c hk⟩;have h3:k=0\/k=1\/k=2:=by omega
  rcases h3 with rfl|rfl|rfl<;>rfl
 ·have ae:=(List.getElem?_eq_some_iff.1 hi).1;obtain⟨b1,b2,b3⟩:=Oa _ i cl hi (by omega);have h3:u=1\/u=2\/u=3:=by simpa [EH] using hu
  rcases h3 with rfl|rfl|rfl<;>assumption
 ·have:n=-1:=by
   simp only[Gl]at hn;rw[List.getElem?_replicate]at hn;split at hn
   ·cases hn;rfl
   ·cases hn
  omega
structure Fit(c:R.Cf)(s:RS)(M:R.Bk)(G:R.Wd):Prop where
 inv:R.Inv M G
 room:R.Room G
 cf:G.c=c
 Ae:s.Ae=G.Ad.map (·.Ae)
 sql:s.seq.length=3*G.Ad.length
 seq:∀(i:Nat) (cl:R.Cl) (k:Nat) (l:R.Ln),G.Ad[i]?=some cl->cl.lines[k]?=some l->s.seq[3*i+k]?=some l.seq
 ul:s.uid.length=3
 uid:∀k,k<3->∃u,s.uid[k]?=some u/\AF G (A6 k)=some u/\kindOf G u=(k:Int)
 nu:s.nu=(G.Ab.length:Int)
 kinds:s.kinds=G.Ab.map (·.kind)
 dl:s.dead.length=G.Ab.length
 dead:∀(u:Nat) (n:Int) (sv:R.Sv),s.dead[u]?=some n->G.Ab[u]?=some sv->0<=n->sv.alive=false/\(sv.log.length:Int)=n
 book:CY (s.made.map (·.1)) M
theorem Agree.fit(h:Agree c s M G):Fit c s M G:=⟨h.inv,h.room,h.cf,h.Ae,h.sql,h.seq,h.ul,h.uid,h.nu,h.kinds,h.dl,h.dead,h.book⟩
theorem Fit.agree(h:Fit c s M G)(hb:∀(i:Nat) (cl:R.Cl) (u:Int),G.Ad[i]?=some cl->u∈s.uid->u∈cl.bound):Agree c s M G:=⟨h.inv,h.room,h.cf,h.Ae,h.sql,h.seq,h.ul,h.uid,hb,h.nu,h.kinds,h.dl,h.dead,h.book⟩
theorem Fit.import(h:Fit c s M G)(hi:i<G.Ad.length)(hs:AF G name=some u):Fit c s M (A1 G i u):=by
 have e:=MQ hi hs;have h1:=h.inv.imports i name;have h2:=h.room.imports i name;rw[e]at h1 h2;have hg:∀(j:Nat) (x:R.Cl),(A1 G i u).Ad[j]?=some x->∃c0,G.Ad[j]?=some c0/\x.Ae=c0.Ae/\x.lines=c0.lines:=fun j x hx=>by
  obtain⟨c0,g0,rfl⟩:=Dc hx;refine⟨c0,g0,?_,?_⟩<;>split<;>rfl
 refine⟨h1,h2,h.cf,?_,?_,fun j cl k l hj hl=>?_,h.ul,h.uid,h.nu,h.kinds,h.dl,h.dead,h.book⟩
 ·rw[h.Ae];refine List.ext_getElem? (fun j=>?_);rw[List.getElem?_map,List.getElem?_map,CJ];cases G.Ad[j]? with
  |none=>rfl
  |some c0=>
   simp only[Option.map_some];split<;>rfl
 ·rw[h.sql];simp[A1]
 ·obtain⟨c0,g0,_,g2⟩:=hg j cl hj;rw[g2]at hl;exact h.seq j c0 k l g0 hl
theorem Fit.binds(h:Fit c s M G)(hi:i<G.Ad.length):∀k,k<=3->Fit c s M (BQ G i s.uid k)
 |0,_=>h
 |k+1,hk=>by
  have ih:=Fit.binds h hi k (by omega);obtain⟨u,h1,h2,_⟩:=h.uid k (by omega);show Fit c s M (A1 (BQ G i s.uid k) i ((s.uid[k]?).getD 0));rw[h1];exact ih.import (by rw[E9];exact hi) (name:=A6 k) (by rw[Eh];exact h2)
theorem Hz:∀(k j:Nat) (x:R.Cl),(BQ G i uid k).Ad[j]?=some x->∃c0,G.Ad[j]?=some c0/\(∀u,u∈c0.bound->u∈x.bound)/\(i=j->∀n,n<k->(uid[n]?).getD 0∈x.bound)
 |0,j,x,h=>⟨x,h,fun _ q=>q,fun _ n hn=>by omega⟩
 |k+1,j,x,h=>by
  obtain⟨y,h1,rfl⟩:=Dc (show (A1 (BQ G i uid k) i ((uid[k]?).getD 0)).Ad[j]?=some x from h);obtain⟨c0,g1,g2,g3⟩:=Hz k j y h1;refine⟨c0,g1,fun u hu=>?_,fun e n hn=>?_⟩
  ·have:=g2 u hu;split
   ·exact List.mem_append_left _ this
   ·exact this
  ·rw[if_pos e];by_cases hk:n=k
   ·subst hk;simp
   ·exact List.mem_append_left _ (g3 e n (by omega))
def CK(G:R.Wd)(uid:List Int):Nat->R.Wd
 |0=>G
 |i+1=>BQ (CK G uid i) i uid 3
theorem FI(G:R.Wd)(uid:List Int):∀i,(CK G uid i).Ad.length=G.Ad.length
 |0=>rfl
 |i+1=>(E9 _ _ _ 3).trans (FI G uid i)
theorem Jc(G:R.Wd)(uid:List Int)(n:List UInt8):∀i,AF (CK G uid i) n=AF G n
 |0=>rfl
 |i+1=>(Eh _ _ _ n 3).trans (Jc G uid n i)
theorem JK(G:R.Wd)(uid:List Int)(n:Int):∀i,kindOf (CK G uid i) n=kindOf G n
 |0=>rfl
 |i+1=>(GH _ _ _ n 3).trans (JK G uid n i)
theorem Fit.CK(h:Fit c s M G):∀i,i<=G.Ad.length->Fit c s M (CK G s.uid i)
 |0,_=>h
 |i+1,hi=>(Fit.CK h i (by omega)).binds (by rw[FI];omega) 3 (Nat.le_refl _)
theorem Ja(hu:uid.length=3):∀(m j:Nat) (x:R.Cl),(CK G uid m).Ad[j]?=some x->j<m->∀u∈uid,u∈x.bound
 |0,_,_,_,h=>by omega
 |m+1,j,x,hx,hj=>by
  obtain⟨c0,g1,g2,g3⟩:=Hz 3 j x hx;intro u aa;by_cases hm:m=j
  ·obtain⟨n,hn,rfl⟩:=List.getElem_of_mem aa;have:=g3 hm n (by omega);rw[List.getElem?_eq_getElem hn]at this;exact this
  ·exact g2 u (Ja hu m j c0 g1 (by omega) u aa)
theorem Fit.all(h:Fit c s M G):Agree c s M (Go.Proofs.YtblomippkddgiabGreatDoor.CK G s.uid G.Ad.length):=
 (h.CK _ (Nat.le_refl _)).agree (fun i cl u hi hu=>Ja h.ul _ i cl hi (by
  have:=(List.getElem?_eq_some_iff.1 hi).1;rw[FI]at this;exact this) u hu)
def F8(dead:List Int)(sv:List R.Sv):List Int:=(List.range dead.length).map fun (u:Nat)=>if 0<=(dead[u]?).getD 0 then (dead[u]?).getD 0 else ((((sv[u]?).map (·.log)).getD []).length:Int)
theorem SX{dead:List Int}{sv:List R.Sv}{u:Nat}{n:Int}(h:(F8 dead sv)[u]?=some n):∃d,dead[u]?=some d/\n=if 0<=d then d else ((((sv[u]?).map (·.log)).getD []).length:Int):=by
 unfold F8 at h;rw[List.getElem?_map]at h;cases hr:(List.range dead.length)[u]? with
 |none=>rw[hr]at h;cases h
 |some m=>
  rw[hr]at h;obtain⟨hm,rfl⟩:=List.getElem?_eq_some_iff.1 hr;simp only[List.length_range]at hm;simp only[List.getElem_range,Option.map_some,Option.some.injEq]at h;refine⟨dead[u],List.getElem?_eq_getElem hm,?_⟩;rw[List.getElem?_eq_getElem hm]at h;exact h.symm
theorem Agree.ME(h:Agree c s M G):Agree c {s with dead:=F8 s.dead G.Ab} M (R.Bb G (-1)).2:=by
 have hG:(R.Bb G (-1)).2=Bs G (G.Ab.map fun s=>{s with alive:=false}) [0,0,0] (List.replicate 9 R.Cs) []:=by
  unfold R.Bb;rw[if_pos rfl]
 have hI:=h.inv.Gk (-1);have hR:=h.room.Gk h.inv.wf.cf (-1);rw[hG]at hI hR ⊢;refine⟨hI,hR,h.cf,h.Ae,h.sql,h.seq,h.ul,fun k hk=>?_,h.bound,by simpa using h.nu,?_,?_,fun u n sv hn hs h0=>?_,h.book⟩
 ·obtain⟨u,h1,h2,h3⟩:=h.uid k hk;refine⟨u,h1,h2,?_⟩;rw[<-h3];unfold kindOf;simp only[List.getElem?_map];cases G.Ab[(u-1).toNat]?<;>rfl
 ·show s.kinds=_;rw[h.kinds];simp
 ·show (F8 s.dead G.Ab).length=_;simp[F8,h.dl]
 ·simp only[List.getElem?_map]at hs;cases hs0:G.Ab[u]? with
  |none=>rw[hs0]at hs;cases hs
  |some s0=>
   rw[hs0]at hs;cases hs;obtain⟨d,d1,d2⟩:=SX hn;refine⟨rfl,?_⟩;rw[hs0]at d2;simp only[Option.map_some,Option.getD_some]at d2;split at d2
   ·rename_i q;rw[d2];exact(h.dead u d s0 d1 hs0 q).2
   ·exact d2.symm
def LD(l:List Int)(i:Nat):Nat->List Int
 |0=>l
 |k+1=>(LD l i k).set (3*i+k) 0
theorem Ir(l:List Int)(i:Nat):∀k,(LD l i k).length=l.length
 |0=>rfl
 |k+1=>by
  show ((LD l i k).set (3*i+k) 0).length=_;rw[List.length_set,Ir l i k]
theorem Q6(l:List Int)(i j:Nat):∀k,(LD l i k)[j]?=if 3*i<=j/\j<3*i+k/\j<l.length then some 0 else l[j]?
 |0=>by
  rw[if_neg (by omega)];rfl
 |k+1=>by
  show ((LD l i k).set (3*i+k) 0)[j]?=_;rw[List.getElem?_set,Ir,Q6 l i j k];by_cases h1:3*i+k=j
  ·subst h1;rw[if_pos rfl];by_cases h2:3*i+k<l.length
   ·rw[if_pos h2,if_pos (by omega)]
   ·rw[if_neg h2,if_neg (by omega),List.getElem?_eq_none (by omega)]
  ·rw[if_neg h1];by_cases h2:3*i<=j/\j<3*i+k/\j<l.length
   ·rw[if_pos h2,if_pos (by omega)]
   ·rw[if_neg h2,if_neg (by omega)]
theorem Qr(hi:G.Ad[i]?=some cl)(h:cl.Ae≠255):R.Bb G (i:Int)=(0,{G with Ad:=G.Ad.set i (R.FF (cl.Ae+1) G.c.lines)}):=by
 have hl:R.FP G (i:Int)=cl.Ae:=by
  unfold R.FP;rw[Int.toNat_natCast,hi];rfl
 have:=(List.getElem?_eq_some_iff.1 hi).1;unfold R.Bb;rw[if_neg (by omega),if_neg (by omega),hl,if_neg h,Int.toNat_natCast]
theorem Qs(hi:G.Ad[i]?=some cl)(h:cl.Ae=255):R.Bb G (i:Int)=(11,G):=by
 have hl:R.FP G (i:Int)=cl.Ae:=by
  unfold R.FP;rw[Int.toNat_natCast,hi];rfl
 have:=(List.getElem?_eq_some_iff.1 hi).1;unfold R.Bb;rw[if_neg (by omega),if_neg (by omega),hl,if_pos h]
theorem Es{l n:Int}{x:R.Ln}(h:(R.FF l n).lines[k]?=some x):x=R.JC/\k<n.toNat:=by
 simp only[R.FF,List.getElem?_replicate]at h;split at h
 ·rename_i q;exact⟨(Option.some.inj h).symm,q⟩
 ·cases h
theorem Agree.MD(h:Agree c s M G)(hi:G.Ad[i]?=some cl)(hl:cl.Ae≠255):
  Agree c {s with Ae:=s.Ae.set i (cl.Ae+1),seq:=LD s.seq i 3} M (BQ (R.Bb G (i:Int)).2 i s.uid 3):=by
 have ae:=(List.getElem?_eq_some_iff.1 hi).1;have hI:=h.inv.Gk (i:Int);have hR:=h.room.Gk h.inv.wf.cf (i:Int);rw[Qr hi hl]at hI hR ⊢;have af:=h.inv.wf.cf;unfold R.BD at af;have hf:Fit c {s with Ae:=s.Ae.set i (cl.Ae+1),seq:=LD s.seq i 3} M {G with Ad:=G.Ad.set i (R.FF (cl.Ae+1) G.c.lines)}:=by
  refine⟨hI,hR,h.cf,?_,?_,fun j ac k l hj hk=>?_,h.ul,h.uid,h.nu,h.kinds,h.dl,h.dead,h.book⟩
  ·show s.Ae.set i (cl.Ae+1)=(G.Ad.set i (R.FF (cl.Ae+1) G.c.lines)).map (·.Ae);rw[h.Ae,List.map_set];rfl
  ·show (LD s.seq i 3).length=_;rw[Ir,h.sql];simp
  ·show (LD s.seq i 3)[3*j+k]?=some l.seq;rw[Q6];have aa:(G.Ad.set i (R.FF (cl.Ae+1) G.c.lines))[j]?=some ac:=hj;rw[List.getElem?_set]at aa;by_cases ab:i=j
   ·subst ab;rw[if_pos rfl,if_pos ae]at aa;cases aa;obtain⟨rfl,ai⟩:=Es hk;rw[if_pos (by rw[h.sql];omega)];rfl
   ·rw[if_neg ab]at aa;have aj:=(List.getElem?_eq_some_iff.1 hk).1;have ak:=(h.inv.wf.cl j ac aa).lines;rw[if_neg (by omega)];exact h.seq j ac k l aa hk
 have ag:=hf.binds (i:=i) (by simpa using ae) 3 (Nat.le_refl _);refine ag.agree (fun j x u hx hu=>?_);obtain⟨c0,g1,g2,g3⟩:=Hz 3 j x hx;by_cases ab:i=j
 ·obtain⟨n,hn,rfl⟩:=List.getElem_of_mem hu;have al:s.uid.length=3:=h.ul;have ah:n<s.uid.length:=hn;have:=g3 ab n (by omega);rw[List.getElem?_eq_getElem ah]at this;exact this
 ·have ad:(G.Ad.set i (R.FF (cl.Ae+1) G.c.lines))[j]?=some c0:=g1;rw[List.getElem?_set,if_neg ab]at ad;exact g2 u (h.bound j c0 u ad hu)
def EK(s:RS)(G:R.Wd)(k:Nat):List Int:=if ((s.dead[(((s.uid[k]?).getD 0)-1).toNat]?).getD 0)<0 then s.dead.set (((s.uid[k]?).getD 0)-1).toNat ((R.Ho G ((s.uid[k]?).getD 0)).length:Int) else s.dead
theorem Lh(s:RS)(G:R.Wd)(k:Nat):(EK s G k).length=s.dead.length:=by
 unfold EK;split<;>simp
theorem Wi(hj:j<3)(hk:k<3)(h:A6 j=A6 k):j=k:=by
 revert h
 obtain rfl|rfl|rfl:j=0\/j=1\/j=2:=by omega
 all_goals obtain rfl|rfl|rfl:k=0\/k=1\/k=2:=by omega
 all_goals decide
theorem Ol(hk:k<3)(hs:AF G (A6 k)=some u)(aa:G.Ab.length<255):
  ∃j,R.BI G (A6 k)=some j/\R.Bd G (A6 k) (k:Int)=(((G.Ab.length:Int)+1,0),{R.Ch G u with stands:=G.stands.set j ((G.Ab.length:Int)+1),Ab:=(R.Ch G u).Ab++[⟨(k:Int),true,[]⟩]}):=by
 unfold AF at hs;cases he:R.BI G (A6 k) with
 |none=>rw[he]at hs;cases hs
 |some j=>
  rw[he]at hs;have ac:G.stands.getD j 0=u:=Option.some.inj hs;refine⟨j,rfl,?_⟩;have ab:R.CZ (A6 k)=true:=by
   obtain rfl|rfl|rfl:k=0\/k=1\/k=2:=by omega
   all_goals decide
  unfold R.Bd;rw[ab,if_neg (by simp),if_neg (by omega),he];simp only[ac];rw[if_neg (by omega)];rfl
theorem NQ(hk:k<3)(hs:AF G (A6 k)=some u)(aa:G.Ab.length=255):R.Bd G (A6 k) (k:Int)=((0,11),G):=by
 unfold AF at hs;cases he:R.BI G (A6 k) with
 |none=>rw[he]at hs;cases hs
 |some j=>
  have ab:R.CZ (A6 k)=true:=by
   obtain rfl|rfl|rfl:k=0\/k=1\/k=2:=by omega
   all_goals decide
  unfold R.Bd;rw[ab,if_neg (by simp),if_neg (by omega),he];simp only;rw[if_pos aa]
abbrev JW(s:RS)(G:R.Wd)(k:Nat)(D K:Value):RS:={s with uid:=s.uid.set k (s.nu+1),nu:=s.nu+1,dead:=EK s G k++[-1],kinds:=s.kinds++[(k:Int)],D:=D,K:=K}
theorem Agree.exports(h:Agree c s M G)(hk:k<3)(ag:G.Ab.length<255)(D K:Value):
  Fit c (JW s G k D K) M (R.Bd G (A6 k) (k:Int)).2:=by
 obtain⟨u,av,am,ax⟩:=h.uid k hk;obtain⟨j,he,au⟩:=Ol hk am ag;have hI:=h.inv.export (A6 k) (k:Int);have hR:=h.room.export (A6 k) (k:Int);rw[au]at hI hR ⊢;have aq:=h.inv.wf.st;have aw:=(List.getElem?_eq_some_iff.1 (R.Ek he)).1;have ae:∀(n:List UInt8) (v:Int),AF G n=some v->1<=v/\v<=(G.Ab.length:Int):=fun n v hv=>by
  unfold AF at hv;cases hn:R.BI G n with
  |none=>rw[hn]at hv;cases hv
  |some m=>
   rw[hn]at hv;have hm:=(List.getElem?_eq_some_iff.1 (R.Ek hn)).1;have an:G.stands.getD m 0=v:=Option.some.inj hv;have ap:m<G.stands.length:=by omega
   rw[List.getD_eq_getElem?_getD,List.getElem?_eq_getElem ap]at an;have:=h.inv.wf.I5 G.stands[m] (List.getElem_mem ap);simp only[Option.getD_some]at an;rw[<-an];omega
 obtain⟨a,rfl⟩:∃a:Nat,u=(a:Int)+1:=⟨(u-1).toNat,by have:=ae _ _ am;omega⟩;have ha:a<G.Ab.length:=by have:=ae _ _ am;omega
 have al:∀(b:Nat),(R.Ch G ((a:Int)+1)).Ab[b]?=(G.Ab[b]?).map fun x=>if a=b then {x with alive:=false} else x:=fun b=>by
  simp only[R.Ch,List.getElem?_modify];rw[show ((a:Int)+1-1).toNat=a by omega];by_cases h:a=b<;>simp[h]
 have ab:(R.Ch G ((a:Int)+1)).Ab.length=G.Ab.length:=by simp[R.Ch]
 refine⟨hI,hR,h.cf,h.Ae,h.sql,h.seq,by simpa using h.ul,fun k' ao=>?_,?_,?_,?_,fun b n sv hn hs h0=>?_,h.book⟩
 ·by_cases aj:k=k'
  ·subst aj;refine⟨s.nu+1,?_,?_,?_⟩
   ·simp[show k<s.uid.length by rw[h.ul];exact hk]
   ·rw[h.nu];exact(Hd aq he _ _).1 rfl
   ·rw[h.nu];show kindOf _ _=_;unfold kindOf;simp[ab]
  ·obtain⟨u',g1,g2,g3⟩:=h.uid k' ao;refine⟨u',?_,?_,?_⟩
   ·simp[aj,g1]
   ·rw[<-g2];exact(Hd aq he _ _).2 (fun e=>aj (Wi hk ao e.symm))
   ·rw[<-g3];have hb:=ae _ _ g2;unfold kindOf;simp only[List.getElem?_append,ab];rw[if_pos (by omega),al];cases G.Ab[(u'-1).toNat]? with
    |none=>rfl
    |some x=>
     simp only[Option.map_some,Option.getD_some];split<;>rfl
 ·show s.nu+1=_;rw[h.nu];simp[ab]
 ·show s.kinds++[(k:Int)]=_;rw[h.kinds];simp only[List.map_append,List.map_cons,List.map_nil];congr 1;refine List.ext_getElem? (fun b=>?_);rw[List.getElem?_map,List.getElem?_map,al];cases G.Ab[b]? with
  |none=>rfl
  |some x=>
   simp only[Option.map_some];split<;>rfl
 ·show (EK s G k++[-1]).length=_;simp[Lh,ab,h.dl]
 ·have aa:(EK s G k++[-1])[b]?=some n:=hn;have ac:((R.Ch G ((a:Int)+1)).Ab++[⟨(k:Int),true,[]⟩])[b]?=some sv:=hs;rw[List.getElem?_append,Lh,h.dl]at aa;rw[List.getElem?_append,ab]at ac;by_cases hb:b<G.Ab.length
  ·rw[if_pos hb]at aa ac;rw[al]at ac;have af:G.Ab[b]?=some G.Ab[b]:=List.getElem?_eq_getElem hb;rw[af]at ac;simp only[Option.map_some,Option.some.injEq]at ac;have ai:s.dead[b]?=some (s.dead[b]'(by rw[h.dl];exact hb)):=List.getElem?_eq_getElem _;unfold EK at aa;rw[av]at aa;simp only[Option.getD_some,show ((a:Int)+1-1).toNat=a by omega]at aa;by_cases ah:a=b
   ·subst ah;rw[if_pos rfl]at ac;rw[ai]at aa;simp only[Option.getD_some]at aa;split at aa
    ·rw[List.getElem?_set,if_pos rfl,if_pos (by rw[h.dl];exact ha)]at aa;have ak:=Option.some.inj aa;rw[<-ak,<-ac];refine⟨rfl,?_⟩;unfold R.Ho;rw[show ((a:Int)+1-1).toNat=a by omega,af];rfl
    ·rw[ai]at aa;have ak:=Option.some.inj aa;have:=h.dead a n _ (by rw[ai,ak]) af h0;rw[<-ac];exact⟨rfl,this.2⟩
   ·rw[if_neg ah]at ac;have ar:s.dead[b]?=some n:=by
     split at aa
     ·rw[List.getElem?_set,if_neg ah]at aa;exact aa
     ·exact aa
    rw[<-ac];exact h.dead b n _ ar af h0
  ·rw[if_neg hb]at aa;have ad:([(-1:Int)])[b-G.Ab.length]?=some n:=aa;cases hbb:b-G.Ab.length with
   |zero=>
    rw[hbb]at ad;have:(-1:Int)=n:=Option.some.inj ad;omega
   |succ m=>
    rw[hbb]at ad;cases ad
theorem YC{sv:List R.Sv}{u:Nat}{s:R.Sv}{e:R.En}(h:sv[u]?=some s)(he:e∈s.log):e∈A9 sv:=
 List.mem_flatMap.2 ⟨s,List.mem_of_getElem? h,he⟩
def C9(a b:List R.Sv):Prop:=∀e,e∈A9 a->e∈A9 b
theorem C9.refl(a:List R.Sv):C9 a a:=fun _ h=>h
theorem C9.trans{b c:List R.Sv}(h:C9 a b)(k:C9 b c):C9 a c:=fun e he=>k e (h e he)
theorem C9.each{b:List R.Sv}(h:∀(u:Nat) (s:R.Sv),a[u]?=some s->∃s',b[u]?=some s'/\∃t,s'.log=s.log++t):C9 a b:=fun e he=>by
 obtain⟨s,h1,h2⟩:=List.mem_flatMap.1 he;obtain⟨u,hu,rfl⟩:=List.getElem_of_mem h1;obtain⟨s',g1,t,g2⟩:=h u _ (List.getElem?_eq_getElem hu);exact YC g1 (by rw[g2];exact List.mem_append_left _ h2)
theorem C9.same(h:R.Sm G G'):C9 G.Ab G'.Ab:=C9.each fun u s hs=>by
 have hu:=(List.getElem?_eq_some_iff.1 hs).1;have aa:u<G'.Ab.length:=by rw[h.sv.len];exact hu
 obtain⟨s0,g1,_,_,t,g4⟩:=h.sv.each u _ (List.getElem?_eq_getElem aa);rw[hs]at g1;cases g1;exact⟨_,List.getElem?_eq_getElem aa,t,g4⟩
theorem C9.Gk(G:R.Wd)(aa:Int):C9 G.Ab (R.Bb G aa).2.Ab:=by
 unfold R.Bb;split
 ·refine C9.each fun u s hs=>⟨{s with alive:=false},?_,[],by simp⟩
  simp[hs]
 ·split
  ·exact C9.refl _
  ·split<;>exact C9.refl _
theorem C9.Ch(G:R.Wd)(u:Int):C9 G.Ab (R.Ch G u).Ab:=by
 refine C9.each fun k s hs=>?_
 refine⟨if (u-1).toNat=k then {s with alive:=false} else s,?_,[],?_⟩
 ·simp only[R.Ch,List.getElem?_modify,hs];by_cases h:(u-1).toNat=k<;>simp[h]
 ·split<;>simp
theorem C9.app(a b:List R.Sv):C9 a (a++b):=fun e he=>by
 unfold A9 at *;rw[List.flatMap_append];exact List.mem_append_left _ he
theorem C9.export(G:R.Wd)(name:List UInt8)(kind:Int):C9 G.Ab (R.Bd G name kind).2.Ab:=by
 unfold R.Bd;split
 ·exact C9.refl _
 ·split
  ·exact C9.refl _
  ·split
   ·split
    ·exact C9.refl _
    ·split
     ·exact C9.refl _
     ·exact C9.app _ _
   ·split
    ·exact C9.refl _
    ·exact(C9.Ch _ _).trans (C9.app _ _)
theorem Mi(G:R.Wd)(i:Nat)(u:List Int):∀k,(BQ G i u k).Ab=G.Ab
 |0=>rfl
 |k+1=>Mi G i u k
theorem Mg(G:R.Wd)(u:List Int):∀i,(CK G u i).Ab=G.Ab
 |0=>rfl
 |i+1=>(Mi _ _ _ 3).trans (Mg G u i)
theorem Vy(G:R.Wd)(i k:Nat)(l:R.Ln)(d:R.Cd):(CX G i k l d).Ab=G.Ab:=by
 unfold CX R.AA R.Bg;simp only;split<;>rfl
def p7:Pk:=⟨1,0,1,0,1,1,0,1,false,[0,0,0,7]⟩
def r7:Pk:=⟨5,0,1,0,1,1,0,1,false,[0,7]⟩
theorem adC:Fh 1 0 0 [(7,e0)]=⟨1,0,[(7,e0)],R.txt [105],R.txt [99],[0,7]⟩:=by
 have:(V.CW (Hs 0 0) [(7,e0)]).2=[0,7]:=by decide +kernel
 unfold Fh;simp only[Int.natCast_zero]at *;rw[this];rfl
theorem ad7:CO (Bm p7)=some p7:=Fx (by unfold AR p7;decide)
theorem ad8:CO (Bm r7)=some r7:=Fx (by unfold AR r7;decide)
section
variable (cl li rt tr tb:Int) (names:List (List UInt8)) (stands:List Int) (b:List Int) (ls:List R.Ln) (rest:List R.Cl)
def w7(sv:List R.Sv)(fl:List R.Fl)(l:R.Ln)(Aj:List Int)(r:R.Sn)(jobs:List R.Jb):R.Wd:=⟨⟨cl,li,rt,tr,tb⟩,names,stands,sv,fl,⟨1,b,l :: ls⟩ :: rest,Aj,r :: List.replicate 8 R.Cs,jobs⟩
def Ht(log:List R.En):List R.Sv:=[⟨0,true,log⟩,⟨1,true,[]⟩,⟨2,true,[]⟩]
def l7:R.Ln:=⟨1,1,[],1,R.txt [99],[0,0,0,7],0,[],0,rt,tr⟩
def n7:R.Sn:=⟨1,1,[0,0,0,7],1,2,[],0,false,0,0⟩
def e7:R.En:=⟨0,1,0,1,0,[(7,e0)],[(7,e0)]⟩
theorem adk:CX (w7 cl li rt tr tb names stands b ls rest (Ht []) [] R.JC [0,0,0] R.Cs []) 0 0 R.JC (Fh 1 0 0 [(7,e0)])=w7 cl li rt tr tb names stands b ls rest (Ht []) [⟨-1,Bm p7,false⟩] (l7 rt tr) [0,0,0] R.Cs []:=by
 rw[adC];kernel_rfl
theorem XZ(h:1<=tb):R.Bc (w7 cl li rt tr tb names stands b ls rest (Ht []) [⟨-1,Bm p7,false⟩] (l7 rt tr) [0,0,0] R.Cs []) 0=(0,w7 cl li rt tr tb names stands b ls rest (Ht []) [] (l7 rt tr) [1,0,0] n7 [⟨0,0,1,1,1⟩]):=by
 have h0:(tb<=0)=False:=by simp;omega
 have ha:R.Er (w7 cl li rt tr tb names stands b ls rest (Ht []) [] (l7 rt tr) [0,0,0] R.Cs []) p7=w7 cl li rt tr tb names stands b ls rest (Ht []) [] (l7 rt tr) [1,0,0] n7 [⟨0,0,1,1,1⟩]:=by
  have hr:R.BZ (w7 cl li rt tr tb names stands b ls rest (Ht []) [] (l7 rt tr) [1,0,0] R.Cs [])=0:=by kernel_rfl
  have hl:R.Dr (w7 cl li rt tr tb names stands b ls rest (Ht []) [] (l7 rt tr) [0,0,0] R.Cs []) p7=w7 cl li rt tr tb names stands b ls rest (Ht []) [] (l7 rt tr) [1,0,0] R.Cs []:=by kernel_rfl
  have hk:R.Dq (R.AB (w7 cl li rt tr tb names stands b ls rest (Ht []) [] (l7 rt tr) [1,0,0] R.Cs []) 0 {R.Cs with seq:=p7.seq,uid:=p7.uid,state:=1}) 0 p7=R.CL (w7 cl li rt tr tb names stands b ls rest (Ht []) [] (l7 rt tr) [1,0,0] ⟨1,1,[],0,1,[],0,false,0,0⟩ []) 0 p7:=by kernel_rfl
  unfold R.Er;rw[if_neg (by simp[p7,w7]),hl];unfold R.JI;simp only;rw[if_neg (by simp[p7]),if_neg (by show ¬((0:Int)=1);decide),if_neg (by show ¬((1:Int)<0);decide),if_neg (by show ¬(true=false);decide),if_neg (by decide),hr,if_neg (by show ¬(_/\tb<=0);omega)];refine hk.trans ?_;unfold R.CL;simp only;rw[if_pos (by rfl),if_pos (by rfl),if_neg (by show ¬tb<=0;omega)];kernel_rfl
 unfold R.Bc;rw[if_neg (by unfold R.off w7;simp)];simp only[w7,Int.toNat_zero,List.getElem?_cons_zero,ad7,if_true,if_false,Bool.false_eq_true];exact congrArg (Prod.mk 0) ha
theorem acG:R.BV (w7 cl li rt tr tb names stands b ls rest (Ht []) [] (l7 rt tr) [1,0,0] n7 [⟨0,0,1,1,1⟩])=(0,w7 cl li rt tr tb names stands b ls rest (Ht [e7]) [⟨0,Bm r7,false⟩] (l7 rt tr) [1,0,0] ⟨1,1,[0,0,0,7],1,3,[0,7],0,false,rt,tr⟩ []):=by
 have hu:(V.D5 (R.txt [105]) [0,7]).2=[(7,e0)]:=by decide +kernel
 have hb:(R.Ba (R.txt [99]) [(7,e0)]).getD []=[0,7]:=by decide +kernel
 have hd:R.Gm (w7 cl li rt tr tb names stands b ls rest (Ht []) [] (l7 rt tr) [1,0,0] n7 []) 0=w7 cl li rt tr tb names stands b ls rest (Ht [e7]) [⟨0,Bm r7,false⟩] (l7 rt tr) [1,0,0] ⟨1,1,[0,0,0,7],1,3,[0,7],0,false,rt,tr⟩ []:=by
  unfold R.Gm;simp only;rw[show (R.AY (w7 cl li rt tr tb names stands b ls rest (Ht []) [] (l7 rt tr) [1,0,0] n7 []) 0)=n7 from rfl];rw[show (((w7 cl li rt tr tb names stands b ls rest (Ht []) [] (l7 rt tr) [1,0,0] n7 []).Ab[(n7.uid-1).toNat]?).getD ⟨0,false,[]⟩)=⟨0,true,[]⟩ from rfl];rw[show (256*((n7.message.getD 0 0).toNat:Int)+((n7.message.getD 1 0).toNat:Int))=0 by decide +kernel];rw[show ((R.C6 0 0).getD (⟨#[]⟩,⟨#[]⟩))=(R.txt [105],R.txt [99]) by decide +kernel];simp only[show n7.message.drop 2=[0,7] from rfl,hu];rw[show R.Cu 0 [] 0 [(7,e0)]=[(7,e0)] by decide +kernel,hb];kernel_rfl
 unfold R.BV;show R.Br _ [⟨0,0,1,1,1⟩]=_;unfold R.Br;rw[if_pos (by refine⟨?_,?_,?_⟩<;>rfl)];exact congrArg (Prod.mk 0) hd
theorem VG(r:R.Sn):R.Bc (w7 cl li rt tr tb names stands b ls rest (Ht [e7]) [⟨0,Bm r7,false⟩] (l7 rt tr) [1,0,0] r []) 0=(0,w7 cl li rt tr tb names stands b ls rest (Ht [e7]) [] ⟨1,2,[(7,e0)],1,R.txt [99],[0,0,0,7],1,[0,7],1,rt,tr⟩ [1,0,0] r []):=by
 have hu:(V.D5 (R.txt [99]) [0,7]).2=[(7,e0)]:=by decide +kernel
 have ha:R.Ee (w7 cl li rt tr tb names stands b ls rest (Ht [e7]) [] (l7 rt tr) [1,0,0] r []) 0 r7=w7 cl li rt tr tb names stands b ls rest (Ht [e7]) [] ⟨1,2,[(7,e0)],1,R.txt [99],[0,0,0,7],1,[0,7],1,rt,tr⟩ [1,0,0] r []:=by
  have hl:R.BH (w7 cl li rt tr tb names stands b ls rest (Ht [e7]) [] (l7 rt tr) [1,0,0] r []) 0 r7.line=l7 rt tr:=rfl;have hp:R.Ag (l7 rt tr).message=1:=by kernel_rfl
  unfold R.Ee;simp only;rw[hl];rw[if_neg (by show ¬((1:Int)≠1\/(1:Int)≠1\/(1:Int)≠1);decide),if_neg (by decide),if_neg (by decide),if_pos (by rfl)];unfold R.Dy;simp only;rw[hl,hp];rw[if_neg (by show ¬((0:Int)<1-1\/(0:Int)<0);decide),if_pos (by rfl),if_pos (by rfl)];rw[show (V.D5 (l7 rt tr).to ((l7 rt tr).came++r7.body)).2=[(7,e0)] from hu];rfl
 unfold R.Bc;rw[if_neg (by unfold R.off w7;simp)];simp only[w7,Int.toNat_zero,List.getElem?_cons_zero,ad8,if_false,Bool.false_eq_true];rw[if_neg (by decide)];exact congrArg (Prod.mk 0) ha
end
theorem acS(hc:R.BD c):∃names stands b ls rest,Dl c c.Ad.toNat=w7 c.Ad c.lines c.Ay c.tries c.table names stands b ls rest (Ht []) [] R.JC [0,0,0] R.Cs []:=by
 have hp:=KE c c.Ad.toNat;have ab:(Dl c c.Ad.toNat).Ab=Ht []:=(GJ c _).trans rfl;have aa:(Dl c c.Ad.toNat).Ad.length=c.Ad.toNat:=by
  have hI:=(PD hc c.Ad.toNat (by rw[Q5];exact Nat.le_refl _)).1;have h1:=hI.wf.Gt;rw[hp.cf]at h1;omega
 unfold R.BD at hc;generalize Dl c c.Ad.toNat=G at *;obtain⟨cf,names,stands,Ab,Ak,Ad,Aj,seen,jobs⟩:=G;obtain⟨h1,h2,h3,h4⟩:=hp;simp only[Prod.mk.injEq]at h1 h2 h3 h4 ab aa;obtain⟨g1,g2,g3⟩:=h3;subst h1 h2 g1 g2 g3 ab;cases Ad with
 |nil=>simp at aa;omega
 |cons x rest=>
  obtain⟨k1,k2⟩:=h4 0 x rfl;obtain⟨Ae,b,lines⟩:=x;simp only at k1 k2;subst k2;obtain⟨n,hn⟩:∃n,cf.lines.toNat=n+1:=⟨cf.lines.toNat-1,by omega⟩;rw[hn,List.replicate_succ]at k1;subst k1;exact⟨names,stands,b,List.replicate n R.JC,rest,rfl⟩
theorem Au.adn{q:RP}(h:Au w0 q p c s G w)(hA:Agree c s M G){l:R.Ln}(hc:G.Ad[i]?=some cl)(hl:cl.lines[k]?=some l)(ad:kd<3)(h1:l.state≠1)(h9:l.seq≠999){a b prv:Int}{pr0:Nat}(aj:∀w,Calls Tryz.prog 27 #[.int .i64 b,.int .i64 2] w fun e w'=>e=.returned (.int .i64 (pr0:Int))/\w'=w)(ac:(((kd:Int)==2)=true/\prv=0)\/(((kd:Int)==2)=false/\prv=(pr0:Int))){v:List V.It}(hF:Fits (Hs kd prv) v)(hE:KM kd prv=0)(al:∀w,Calls Tryz.prog 51 #[.int .i64 (kd:Int),.int .i64 prv,.int .i64 a,.int .i64 b] w (Cz v w))(hu:s.uid[kd]?=some u):
  Calls Tryz.prog 28 #[ptr q.r,.int .i64 (i:Int),.int .i64 (k:Int),.int .i64 (kd:Int),.int .i64 a,.int .i64 b] w fun e w'=>e=.returned (.bool true)/\∃s' M',Au w0 q p c s' (CX G i k l (Fh u kd prv v)) w'/\Agree c s' M' (CX G i k l (Fh u kd prv v)):=by
 have ai:kindOf G u=(kd:Int):=by
  obtain⟨u',h1,_,h3⟩:=hA.uid kd ad;rw[hu]at h1;cases h1;exact h3
 have ag:=hA.bound i cl u hc (List.mem_of_getElem? hu);have hi:=(List.getElem?_eq_some_iff.1 hc).1;have ax:=(List.getElem?_eq_some_iff.1 hl).1;have ao:=hA.inv.wf.cf;unfold R.BD at ao;have ar:=hA.inv.wf.Gt;have ay:=(hA.inv.wf.cl i cl hc).lines;have au:=hA.seq i cl k l hc hl;have ap:s.Ae[i]?=some cl.Ae:=by rw[hA.Ae];simp[hc]
 obtain⟨e3,e4⟩:=aaa i k (by omega) (by omega);have az:1<=u/\u<=(G.Ab.length:Int):=(hA.inv.wf.cl i cl hc).bound u ag;have an:=hA.inv.wf.sv;have av:=(hA.inv.wf.cl i cl hc).line k l hl;have ah:=Kr hA.inv.wf hc hl ag ai ad hF hE;have ak:Hid (∀w',Below w.heap.size w w'->Calls Tryz.prog 19 #[ptr q.x,.int .i64 (i:Int),.int .i64 (k:Int)] w' fun e ab=>(∃oa on oc,e=.returned (.tuple #[.agg #[.int .i64 l.state,.int .i64 l.seq,.slice oa on oc],.int .i64 0]))/\Below w'.heap.size w' ab):=fun w' hb=>by
  refine((h.still hb).RL hA hc hl).mono ?_;rintro e ab ⟨⟨oa,on,oc,r1,_⟩,r2⟩;exact⟨⟨oa,on,oc,r1⟩,r2⟩
 have am:∀(n f:Int) (G':R.Wd),R.Cw G i k u prv v=((n,f),G')->Hid (∀w' W X,Below w.heap.size w w'->Below w'.heap.size w' W->BF W (fun k=>w.heap.size<=k) X v->Calls Tryz.prog 52 #[ptr q.x,.int .i64 (i:Int),.int .i64 (k:Int),.int .i64 u,.int .i64 prv,X] W fun e ab=>e=.returned (.tuple #[.int .i64 n,.int .i64 f])/\Au w0 q p c s G' ab/\∀b,w'.heap.size<=b->b<W.heap.size->ab.heap[b]?=W.heap[b]?):=fun n f G' he w' W X af ae hX=>by
  have h':=(h.still af).still ae;obtain⟨tp,E,F,hr,hw,hd,aq⟩:=(h.still af).run;have aa:=(hw.below ae).call h'.t0 (i:Int) (k:Int) u prv (by omega) hX.items (by have:=hF.few;omega);rw[he]at aa;rw[h.x];refine aa.mono ?_;rintro e ab ⟨rfl,F',q1,q2⟩;exact⟨rfl,h'.world (hr.below ae) hd aq q1 q2,fun b h1 h2=>q2.keeps.block b h2 (fun hf=>by have:=hw.lt b hf;omega)⟩
 rw[if_neg h1,if_neg h9]at ah;have aw:=av.seq;refine(K7 w0 q p c s G _ w i k (3*i+k) kd pr0 a b prv l.seq l.state u cl.Ae v h ad hA.ul hu au ap hA.ml e3 e4 (Ac aj) ac (Ac al) ak (am _ _ _ ah) h1 (by omega)).mono ?_;rintro e w' ⟨rfl,X,Mv,hB⟩;exact⟨rfl,_,_,hB,hA.called hc hl hu ai ad hF hE h1 h9 Mv X⟩
theorem ad4(w:World):Calls Tryz.prog 27 #[.int .i64 32775,.int .i64 65536] w fun e w'=>e=.returned (.int .i64 32775)/\w'=w:=by
 go_enter Tryz.func27,Tryz.ntmps27;go_wp2
 go_ret
 exact⟨rfl,rfl⟩
theorem ad3(w:World):Calls Tryz.prog 27 #[.int .i64 0,.int .i64 2] w fun e w'=>e=.returned (.int .i64 ((0:Nat):Int))/\w'=w:=by
 go_enter Tryz.func27,Tryz.ntmps27;go_wp2
 go_ret
 exact⟨rfl,rfl⟩
theorem aep(w:World):Calls Tryz.prog 51 #[.int .i64 ((0:Nat):Int),.int .i64 0,.int .i64 32775,.int .i64 0] w (Cz [(7,e0)] w):=by
 have HI:=Ac (MU w (7,e0));unfold Cz;go_enter Tryz.func51,Tryz.ntmps51;go_wp2_with (first|(go_at_call 27;refine(ad4 _).mono ?_;rintro e w1 ⟨rfl,aa⟩;rw[aa];clear aa))
 go_returns;exact⟨_,rfl,Aa HI,(Below.refl _ _).alloc (Nat.le_refl _) _⟩
theorem L5(h:G.Ak.length=0):R.off G 0:=Or.inr (by omega)
theorem PO(h:i<G.Ak.length):¬R.off G i:=by unfold R.off;omega
theorem K9(h:G.Ak.length=0):(R.Bc G 0).1=9:=by unfold R.Bc;rw[if_pos (L5 h)]
theorem drop_nil(h:G.Ak.length=0):(R.Ej G 0).1=9:=by unfold R.Ej;rw[if_pos (L5 h)]
theorem XV(h:G.Ak.length=0):(R.DG G 0).1=9:=by unfold R.DG;rw[if_pos (L5 h)]
theorem XK(h:G.Ak.length=0)(a b:Int):(R.Dt G 0 a b).1=9:=by unfold R.Dt;rw[if_pos (L5 h)]
theorem MG(h:i<G.Ak.length):(R.Bc G i).1=0:=by
 unfold R.Bc;rw[if_neg (PO h)];simp[List.getElem?_eq_getElem h]
theorem aaC(h:i<G.Ak.length):(R.Ej G i).1=0:=by
 unfold R.Ej;rw[if_neg (PO h)]
theorem UN(h:i<G.Ak.length):(R.DG G i).1=if 40<=G.Ak.length then 12 else 0:=by
 unfold R.DG;rw[if_neg (PO h)];split
 ·rfl
 ·simp[List.getElem?_eq_getElem h]
theorem aaj(hL:R.Long G)(h:i<G.Ak.length){a b:Int}(ha:0<=a/\a<13)(hb:1<=b/\b<=255):(R.Dt G i a b).1=0\/(R.Dt G i a b).1=18:=by
 unfold R.Dt;rw[if_neg (PO h)];have aa:=hL _ (List.getElem_mem h);simp only[Int.toNat_natCast,List.getElem?_eq_getElem h];rw[if_neg (by omega)];split
 ·exact Or.inr rfl
 ·exact Or.inl rfl
structure GB(w0:World)(q:RP)(p:Pl)(c:R.Cf)(s:RS)(M:R.Bk)(G:R.Wd)(w:World):Prop where
 both:Au w0 q p c s G w
 agree:Agree c s M G
 long:R.Long G
 did:∃e,e∈A9 G.Ab
def Ge(w0:World)(q:RP)(p:Pl)(c:R.Cf)(w:World):Prop:=∃s M G,GB w0 q p c s M G w
theorem GB.same{q:RP}(h:GB w0 q p c s M G w)(hB:Au w0 q p c s G' w')(hA:Agree c s M G')(hL:R.Lo G G')(hS:R.Sm G G'):Ge w0 q p c w':=
 ⟨s,M,G',hB,hA,hL h.long,h.did.elim fun e he=>⟨e,C9.same hS e he⟩⟩
theorem GB.still{q:RP}(h:GB w0 q p c s M G w)(hb:Below w.heap.size w w'):GB w0 q p c s M G w':=⟨h.both.still hb,h.agree,h.long,h.did⟩
theorem GB.made{q:RP}(h:GB w0 q p c s M G w):0<s.made.length/\0<s.dead.length/\0<(A9 G.Ab).length:=by
 obtain⟨e,he⟩:=h.did;obtain⟨u,sv,hs,hm⟩:=PH he;obtain⟨d,h1,_⟩:=JU h.agree.inv hs hm;obtain⟨m,aa,_⟩:=h.agree.book.some _ _ h1;have hu:=(List.getElem?_eq_some_iff.1 hs).1;refine⟨?_,by rw[h.agree.dl];omega,List.length_pos_of_mem he⟩;have:=List.length_pos_of_mem aa
 rwa [List.length_map]at this
theorem GB.Cr{q:RP}(h:GB w0 q p c s M G w)(i:Int):Calls Tryz.prog 29 #[ptr q.x,.int .i64 i] w fun e w'=>e=.returned (.int .i64 (R.Bc G i).1)/\Ge w0 q p c w':=by
 refine(h.both.MF h.agree.inv h.agree.room i).mono ?_;rintro e w' ⟨rfl,hB⟩;exact⟨rfl,h.same hB (h.agree.Cr i) (R.Lo.Cr G i) (R.Sm.Cr G i)⟩
theorem GB.drop{q:RP}(h:GB w0 q p c s M G w)(i:Int):Calls Tryz.prog 61 #[ptr q.x,.int .i64 i] w fun e w'=>e=.returned (.int .i64 (R.Ej G i).1)/\Ge w0 q p c w':=by
 refine(h.both.adD i).mono ?_;rintro e w' ⟨rfl,hB⟩;exact⟨rfl,h.same hB (h.agree.drop i) (R.Lo.drop G i) (R.Sm.drop G i)⟩
theorem GB.copy{q:RP}(h:GB w0 q p c s M G w)(i:Int):Calls Tryz.prog 62 #[ptr q.x,.int .i64 i] w fun e w'=>e=.returned (.int .i64 (R.DG G i).1)/\Ge w0 q p c w':=by
 refine(h.both.adB i).mono ?_;rintro e w' ⟨rfl,hB⟩;exact⟨rfl,h.same hB (h.agree.copy i) (R.Lo.copy G i) (R.Sm.copy G i)⟩
theorem GB.Ji{q:RP}(h:GB w0 q p c s M G w)(i a b:Int):Calls Tryz.prog 63 #[ptr q.x,.int .i64 i,.int .i64 a,.int .i64 b] w fun e w'=>e=.returned (.int .i64 (R.Dt G i a b).1)/\Ge w0 q p c w':=by
 refine(h.both.adg i a b).mono ?_;rintro e w' ⟨rfl,hB⟩;exact⟨rfl,h.same hB (h.agree.Ji i a b) (R.Lo.Ji G i a b) (R.Sm.Ji G i a b)⟩
theorem GB.tick{q:RP}(h:GB w0 q p c s M G w):Calls Tryz.prog 32 #[ptr q.x] w fun e w'=>e=.returned (.tuple #[])/\Ge w0 q p c w':=by
 refine h.both.Jf.mono ?_;rintro e w' ⟨rfl,hB⟩;exact⟨rfl,h.same hB h.agree.tick (R.Lo.tick G) (R.Sm.tick G)⟩
theorem WT(G:R.Wd):(R.BV G).1=0\/(R.BV G).1=19:=by
 unfold R.BV;generalize G.jobs=js;induction js with
 |nil=>exact Or.inr rfl
 |cons j js ih=>
  unfold R.Br;split
  ·exact Or.inl rfl
  ·exact ih
theorem GB.serve{q:RP}(h:GB w0 q p c s M G w):Calls Tryz.prog 30 #[ptr q.x] w fun e w'=>(∃n,e=.returned (.int .i64 n)/\(n=0\/n=19))/\Ge w0 q p c w':=by
 refine(h.both.ZH h.agree.inv).mono ?_;rintro e w' ⟨rfl,hB⟩;exact⟨⟨_,rfl,WT G⟩,h.same hB h.agree.serve (R.Lo.serve G) (R.Sm.serve h.agree.inv)⟩
theorem GB.looked{q:RP}(h:GB w0 q p c s M G w)(hi:(i:Int)<c.Ad)(hk:(k:Int)<c.lines):Calls Tryz.prog 8 #[ptr q.r,.int .i64 (i:Int),.int .i64 (k:Int)] w fun e w'=>e=.returned (.bool true)/\GB w0 q p c s M G w'/\Below w.heap.size w w':=by
 have aa:=h.agree.inv.wf.Gt;have ab:=h.agree.cf;have ac:i<G.Ad.length:=by rw[ab]at aa;omega
 have ae:=(h.agree.inv.wf.cl i _ (List.getElem?_eq_getElem ac)).lines;have ad:k<(G.Ad[i]).lines.length:=by rw[ab]at ae;omega
 refine(h.both.aa2 h.agree (List.getElem?_eq_getElem ac) (List.getElem?_eq_getElem ad)).mono ?_;rintro e w' ⟨rfl,hB⟩;exact⟨rfl,h.still hB,hB⟩
theorem GB.aez{q:RP}(h:GB w0 q p c s M G w):Calls Tryz.prog 7 #[ptr q.r] w fun e w'=>(∃n:Int,1<=n/\e=.returned (.int .i64 n))/\GB w0 q p c s M G w'/\Below w.heap.size w w':=by
 obtain⟨h1,h2,h3⟩:=h.made;refine(h.both.acv h.agree h1 h2).mono ?_;rintro e w' ⟨rfl,hB⟩;exact⟨⟨_,by omega,rfl⟩,h.still hB,hB⟩
theorem GB.call{q:RP}(h:GB w0 q p c s M G w)(hi:(i:Int)<c.Ad)(hk:(k:Int)<c.lines)(ae:kd<3)(a b:Int)(ha:In64 a)(hb:In64 b):Calls Tryz.prog 28 #[ptr q.r,.int .i64 (i:Int),.int .i64 (k:Int),.int .i64 (kd:Int),.int .i64 a,.int .i64 b] w fun e w'=>e=.returned (.bool true)/\Ge w0 q p c w':=by
 have aa:=h.agree.inv.wf.Gt;have ab:=h.agree.cf;have ac:i<G.Ad.length:=by rw[ab]at aa;omega
 have af:=(h.agree.inv.wf.cl i _ (List.getElem?_eq_getElem ac)).lines;have ad:k<(G.Ad[i]).lines.length:=by rw[ab]at af;omega
 refine(h.both.adm h.agree (List.getElem?_eq_getElem ac) (List.getElem?_eq_getElem ad) ae a b ha hb).mono ?_;rintro e w' ⟨rfl,s',M',G',hB,hA,hT⟩;suffices R.Long G'/\∃e,e∈A9 G'.Ab from ⟨rfl,s',M',G',hB,hA,this.1,this.2⟩
 by_cases hn:(G.Ad[i]).lines[k].state=1\/(G.Ad[i]).lines[k].seq=999
 ·obtain⟨_,_,rfl⟩:=hT.no hn;exact⟨h.long,h.did⟩
 ·obtain⟨u,pr,v,X,Mv,_,_,_,_,_,_,rfl⟩:=hT.yes (fun e=>hn (Or.inl e)) (fun e=>hn (Or.inr e));refine⟨(R.Lo.line.trans (R.Lo.piece _ _ _ _)) h.long,?_⟩;rw[Vy];exact h.did
theorem Gj(w:World)(k a b d:Int):Below w.heap.size w (w.alloc (.cells #[.int .i64 k,.int .i64 a,.int .i64 b,.int .i64 d] 59))/\(w.alloc (.cells #[.int .i64 k,.int .i64 a,.int .i64 b,.int .i64 d] 59)).heap[w.heap.size]?=some (.cells #[.int .i64 k,.int .i64 a,.int .i64 b,.int .i64 d] 59 (0,0)):=⟨(Below.refl _ _).alloc (Nat.le_refl _) _,heap_alloc_new w _⟩
theorem PI(w0:World)(q:RP)(p:Pl)(c:R.Cf)(s:RS)(M:R.Bk)(G:R.Wd)(w:World)(h:GB w0 q p c s M G w)(k a b d:Int)(ha:In64 a)(af:Hid (∀w,Calls Tryz.prog 27 #[.int .i64 k,.int .i64 12] w fun e w'=>e=.returned (.int .i64 1)/\w'=w)):
  Calls Tryz.prog 34 #[ptr q.r,.agg #[.int .i64 k,.int .i64 a,.int .i64 b,.int .i64 d]] w fun e w'=>e=.returned (.bool true)/\Ge w0 q p c w':=by
 obtain⟨ae,ab⟩:=Gj w k a b d;obtain⟨W1,ad⟩:∃W1,w.alloc (.cells #[.int .i64 k,.int .i64 a,.int .i64 b,.int .i64 d] 59)=W1:=⟨_,rfl⟩;rw[ad]at ae ab;have ag:=Ac ad;have hK:=h.still ae;have a0:=hK.both.cells.a0;have lr:=hK.both.cells.EA;have ai:=h.both.cells.a0;have ak:=h.both.cells.EA;have c0:W1.cell? ⟨w.heap.size,0,none⟩=some (.int .i64 k):=cell_of ab 0 _ rfl;have c1:W1.cell? ⟨w.heap.size,1,none⟩=some (.int .i64 a):=cell_of ab 1 _ rfl;have lx:=lt_of_block ab;have HF:=Ac hK.both.VW;by_cases hn:G.Ak.length=0
 ·have HD:Hid (Calls Tryz.prog 29 #[ptr q.x,.int .i64 0] W1 fun e w'=>e=.returned (.int .i64 9)/\Ge w0 q p c w'):=by
   have:=hK.Cr 0;rw[K9 hn]at this;exact this
  rw[hn]at HF;clear h hK ae ab ad hn;go_enter Tryz.func34,Tryz.ntmps34;go_wp2_with fail
  rw[Aa ag];refine(Aa HF).mono ?_;rintro e w2 ⟨rfl,aa⟩;rw[aa];clear aa w2;go_wp2_with fail
  refine((Aa af) _).mono ?_;rintro e w3 ⟨rfl,ac⟩;rw[ac];clear ac w3;go_wp2_with fail
  refine(Aa HD).mono ?_;rintro e w4 ⟨rfl,hO⟩;have HO:=Ac hO;clear hO;go_wp2_with fail
  go_returns;exact⟨rfl,Aa HO⟩
 ·obtain⟨j,hj,HP⟩:=A4 a G.Ak.length ha (by omega) (by have:=hK.agree.inv.wf.E3;omega);have ah:=Ac HP;have aj:=hj;have HD:Hid (Calls Tryz.prog 29 #[ptr q.x,.int .i64 (j:Int)] W1 fun e w'=>e=.returned (.int .i64 0)/\Ge w0 q p c w'):=by
   have:=hK.Cr j;rw[MG hj]at this;exact this
  generalize G.Ak.length=n at *;have n0:(0:Int)<(n:Int):=by omega
  have n1:((n:Int)==0)=false:=by simp;omega
  clear h hK ae ab ad HP;go_enter Tryz.func34,Tryz.ntmps34;go_wp2_with fail
  rw[Aa ag];refine(Aa HF).mono ?_;rintro e w2 ⟨rfl,aa⟩;rw[aa];clear aa w2;go_wp2_with fail
  refine((Aa ah) _).mono ?_;rintro e w2 ⟨rfl,aa⟩;rw[aa];clear aa w2;go_wp2_with fail
  refine((Aa af) _).mono ?_;rintro e w3 ⟨rfl,ac⟩;rw[ac];clear ac w3;go_wp2_with fail
  refine(Aa HD).mono ?_;rintro e w4 ⟨rfl,hO⟩;have HO:=Ac hO;clear hO;go_wp2_with fail
  go_returns;exact⟨rfl,Aa HO⟩
theorem PK(w0:World)(q:RP)(p:Pl)(c:R.Cf)(s:RS)(M:R.Bk)(G:R.Wd)(w:World)(h:GB w0 q p c s M G w)(k a b d:Int)(ha:In64 a)(af:Hid (∀w,Calls Tryz.prog 27 #[.int .i64 k,.int .i64 12] w fun e w'=>e=.returned (.int .i64 2)/\w'=w)):
  Calls Tryz.prog 34 #[ptr q.r,.agg #[.int .i64 k,.int .i64 a,.int .i64 b,.int .i64 d]] w fun e w'=>e=.returned (.bool true)/\Ge w0 q p c w':=by
 obtain⟨ae,ab⟩:=Gj w k a b d;obtain⟨W1,ad⟩:∃W1,w.alloc (.cells #[.int .i64 k,.int .i64 a,.int .i64 b,.int .i64 d] 59)=W1:=⟨_,rfl⟩;rw[ad]at ae ab;have ag:=Ac ad;have hK:=h.still ae;have a0:=hK.both.cells.a0;have lr:=hK.both.cells.EA;have ai:=h.both.cells.a0;have ak:=h.both.cells.EA;have c0:W1.cell? ⟨w.heap.size,0,none⟩=some (.int .i64 k):=cell_of ab 0 _ rfl;have c1:W1.cell? ⟨w.heap.size,1,none⟩=some (.int .i64 a):=cell_of ab 1 _ rfl;have lx:=lt_of_block ab;have HF:=Ac hK.both.VW;by_cases hn:G.Ak.length=0
 ·have HD:Hid (Calls Tryz.prog 29 #[ptr q.x,.int .i64 0] W1 fun e w'=>e=.returned (.int .i64 9)/\Ge w0 q p c w'):=by
   have:=hK.Cr 0;rw[K9 hn]at this;exact this
  rw[hn]at HF;clear h hK ae ab ad hn;go_enter Tryz.func34,Tryz.ntmps34;go_wp2_with fail
  rw[Aa ag];refine(Aa HF).mono ?_;rintro e w2 ⟨rfl,aa⟩;rw[aa];clear aa w2;go_wp2_with fail
  refine((Aa af) _).mono ?_;rintro e w3 ⟨rfl,ac⟩;rw[ac];clear ac w3;go_wp2_with fail
  refine(Aa HD).mono ?_;rintro e w4 ⟨rfl,hO⟩;have HO:=Ac hO;clear hO;go_wp2_with fail
  go_returns;exact⟨rfl,Aa HO⟩
 ·obtain⟨j,hj,HP⟩:=A4 a G.Ak.length ha (by omega) (by have:=hK.agree.inv.wf.E3;omega);have ah:=Ac HP;have aj:=hj;have HD:Hid (Calls Tryz.prog 29 #[ptr q.x,.int .i64 (j:Int)] W1 fun e w'=>e=.returned (.int .i64 0)/\Ge w0 q p c w'):=by
   have:=hK.Cr j;rw[MG hj]at this;exact this
  generalize G.Ak.length=n at *;have n0:(0:Int)<(n:Int):=by omega
  have n1:((n:Int)==0)=false:=by simp;omega
  clear h hK ae ab ad HP;go_enter Tryz.func34,Tryz.ntmps34;go_wp2_with fail
  rw[Aa ag];refine(Aa HF).mono ?_;rintro e w2 ⟨rfl,aa⟩;rw[aa];clear aa w2;go_wp2_with fail
  refine((Aa ah) _).mono ?_;rintro e w2 ⟨rfl,aa⟩;rw[aa];clear aa w2;go_wp2_with fail
  refine((Aa af) _).mono ?_;rintro e w3 ⟨rfl,ac⟩;rw[ac];clear ac w3;go_wp2_with fail
  refine(Aa HD).mono ?_;rintro e w4 ⟨rfl,hO⟩;have HO:=Ac hO;clear hO;go_wp2_with fail
  go_returns;exact⟨rfl,Aa HO⟩
theorem YN(w0:World)(q:RP)(p:Pl)(c:R.Cf)(s:RS)(M:R.Bk)(G:R.Wd)(w:World)(h:GB w0 q p c s M G w)(k a b d:Int)(ha:In64 a)(af:Hid (∀w,Calls Tryz.prog 27 #[.int .i64 k,.int .i64 12] w fun e w'=>e=.returned (.int .i64 3)/\w'=w)):
  Calls Tryz.prog 34 #[ptr q.r,.agg #[.int .i64 k,.int .i64 a,.int .i64 b,.int .i64 d]] w fun e w'=>e=.returned (.bool true)/\Ge w0 q p c w':=by
 obtain⟨ae,ab⟩:=Gj w k a b d;obtain⟨W1,ad⟩:∃W1,w.alloc (.cells #[.int .i64 k,.int .i64 a,.int .i64 b,.int .i64 d] 59)=W1:=⟨_,rfl⟩;rw[ad]at ae ab;have ag:=Ac ad;have hK:=h.still ae;have a0:=hK.both.cells.a0;have lr:=hK.both.cells.EA;have ai:=h.both.cells.a0;have ak:=h.both.cells.EA;have c0:W1.cell? ⟨w.heap.size,0,none⟩=some (.int .i64 k):=cell_of ab 0 _ rfl;have c1:W1.cell? ⟨w.heap.size,1,none⟩=some (.int .i64 a):=cell_of ab 1 _ rfl;have lx:=lt_of_block ab;have HF:=Ac hK.both.VW;by_cases hn:G.Ak.length=0
 ·have HD:Hid (Calls Tryz.prog 61 #[ptr q.x,.int .i64 0] W1 fun e w'=>e=.returned (.int .i64 9)/\Ge w0 q p c w'):=by
   have:=hK.drop 0;rw[drop_nil hn]at this;exact this
  rw[hn]at HF;clear h hK ae ab ad hn;go_enter Tryz.func34,Tryz.ntmps34;go_wp2_with fail
  rw[Aa ag];refine(Aa HF).mono ?_;rintro e w2 ⟨rfl,aa⟩;rw[aa];clear aa w2;go_wp2_with fail
  refine((Aa af) _).mono ?_;rintro e w3 ⟨rfl,ac⟩;rw[ac];clear ac w3;go_wp2_with fail
  refine(Aa HD).mono ?_;rintro e w4 ⟨rfl,hO⟩;have HO:=Ac hO;clear hO;go_wp2_with fail
  go_returns;exact⟨rfl,Aa HO⟩
 ·obtain⟨j,hj,HP⟩:=A4 a G.Ak.length ha (by omega) (by have:=hK.agree.inv.wf.E3;omega);have ah:=Ac HP;have aj:=hj;have HD:Hid (Calls Tryz.prog 61 #[ptr q.x,.int .i64 (j:Int)] W1 fun e w'=>e=.returned (.int .i64 0)/\Ge w0 q p c w'):=by
   have:=hK.drop j;rw[aaC hj]at this;exact this
  generalize G.Ak.length=n at *;have n0:(0:Int)<(n:Int):=by omega
  have n1:((n:Int)==0)=false:=by simp;omega
  clear h hK ae ab ad HP;go_enter Tryz.func34,Tryz.ntmps34;go_wp2_with fail
  rw[Aa ag];refine(Aa HF).mono ?_;rintro e w2 ⟨rfl,aa⟩;rw[aa];clear aa w2;go_wp2_with fail
  refine((Aa ah) _).mono ?_;rintro e w2 ⟨rfl,aa⟩;rw[aa];clear aa w2;go_wp2_with fail
  refine((Aa af) _).mono ?_;rintro e w3 ⟨rfl,ac⟩;rw[ac];clear ac w3;go_wp2_with fail
  refine(Aa HD).mono ?_;rintro e w4 ⟨rfl,hO⟩;have HO:=Ac hO;clear hO;go_wp2_with fail
  go_returns;exact⟨rfl,Aa HO⟩
theorem YL(w0:World)(q:RP)(p:Pl)(c:R.Cf)(s:RS)(M:R.Bk)(G:R.Wd)(w:World)(h:GB w0 q p c s M G w)(k a b d:Int)(ha:In64 a)(ag:Hid (∀w,Calls Tryz.prog 27 #[.int .i64 k,.int .i64 12] w fun e w'=>e=.returned (.int .i64 4)/\w'=w)):
  Calls Tryz.prog 34 #[ptr q.r,.agg #[.int .i64 k,.int .i64 a,.int .i64 b,.int .i64 d]] w fun e w'=>e=.returned (.bool true)/\Ge w0 q p c w':=by
 obtain⟨ae,ac⟩:=Gj w k a b d;obtain⟨W1,ad⟩:∃W1,w.alloc (.cells #[.int .i64 k,.int .i64 a,.int .i64 b,.int .i64 d] 59)=W1:=⟨_,rfl⟩;rw[ad]at ae ac;have ah:=Ac ad;have hK:=h.still ae;have a0:=hK.both.cells.a0;have lr:=hK.both.cells.EA;have al:=h.both.cells.a0;have am:=h.both.cells.EA;have c0:W1.cell? ⟨w.heap.size,0,none⟩=some (.int .i64 k):=cell_of ac 0 _ rfl;have c1:W1.cell? ⟨w.heap.size,1,none⟩=some (.int .i64 a):=cell_of ac 1 _ rfl;have lx:=lt_of_block ac;have HF:=Ac hK.both.VW;by_cases hn:G.Ak.length=0
 ·have HD:Hid (Calls Tryz.prog 62 #[ptr q.x,.int .i64 0] W1 fun e w'=>e=.returned (.int .i64 9)/\Ge w0 q p c w'):=by
   have:=hK.copy 0;rw[XV hn]at this;exact this
  rw[hn]at HF;clear h hK ae ac ad hn;go_enter Tryz.func34,Tryz.ntmps34;go_wp2_with fail
  rw[Aa ah];refine(Aa HF).mono ?_;rintro e w2 ⟨rfl,aa⟩;rw[aa];clear aa w2;go_wp2_with fail
  refine((Aa ag) _).mono ?_;rintro e w3 ⟨rfl,ab⟩;rw[ab];clear ab w3;go_wp2_with fail
  refine(Aa HD).mono ?_;rintro e w4 ⟨rfl,hO⟩;have HO:=Ac hO;clear hO;go_wp2_with fail
  go_returns;exact⟨rfl,Aa HO⟩
 by_cases ai:40<=G.Ak.length
 ·obtain⟨j,hj,HP⟩:=A4 a G.Ak.length ha (by omega) (by have:=hK.agree.inv.wf.E3;omega);have af:=Ac HP;have ak:=hj;have HD:Hid (Calls Tryz.prog 62 #[ptr q.x,.int .i64 (j:Int)] W1 fun e w'=>e=.returned (.int .i64 12)/\Ge w0 q p c w'):=by
   have:=hK.copy j;rw[UN hj,if_pos ai]at this;exact this
  have aj:(G.Ak.length:Int)=40:=by have:=hK.agree.inv.wf.E3;omega
  rw[aj]at HF af;clear h hK ae ac ad HP;go_enter Tryz.func34,Tryz.ntmps34;go_wp2_with fail
  rw[Aa ah];refine(Aa HF).mono ?_;rintro e w2 ⟨rfl,aa⟩;rw[aa];clear aa w2;go_wp2_with fail
  refine((Aa af) _).mono ?_;rintro e w2 ⟨rfl,aa⟩;rw[aa];clear aa w2;go_wp2_with fail
  refine((Aa ag) _).mono ?_;rintro e w3 ⟨rfl,ab⟩;rw[ab];clear ab w3;go_wp2_with fail
  refine(Aa HD).mono ?_;rintro e w4 ⟨rfl,hO⟩;have HO:=Ac hO;clear hO;go_wp2_with fail
  go_returns;exact⟨rfl,Aa HO⟩
 ·obtain⟨j,hj,HP⟩:=A4 a G.Ak.length ha (by omega) (by have:=hK.agree.inv.wf.E3;omega);have af:=Ac HP;have ak:=hj;have HD:Hid (Calls Tryz.prog 62 #[ptr q.x,.int .i64 (j:Int)] W1 fun e w'=>e=.returned (.int .i64 0)/\Ge w0 q p c w'):=by
   have:=hK.copy j;rw[UN hj,if_neg ai]at this;exact this
  generalize G.Ak.length=n at *;have n0:(0:Int)<(n:Int):=by omega
  have n1:((n:Int)==0)=false:=by simp;omega
  have aj:((n:Int)==40)=false:=by simp;omega
  clear h hK ae ac ad HP;go_enter Tryz.func34,Tryz.ntmps34;go_wp2_with fail
  rw[Aa ah];refine(Aa HF).mono ?_;rintro e w2 ⟨rfl,aa⟩;rw[aa];clear aa w2;go_wp2_with fail
  refine((Aa af) _).mono ?_;rintro e w2 ⟨rfl,aa⟩;rw[aa];clear aa w2;go_wp2_with fail
  refine((Aa ag) _).mono ?_;rintro e w3 ⟨rfl,ab⟩;rw[ab];clear ab w3;go_wp2_with fail
  refine(Aa HD).mono ?_;rintro e w4 ⟨rfl,hO⟩;have HO:=Ac hO;clear hO;go_wp2_with fail
  go_returns;exact⟨rfl,Aa HO⟩
theorem K8:∀args w,(callFunc 27 args).run Tryz.prog w=.ok (.enter 27 args) w:=fun _ _=>rfl
theorem abM:∀args w,(callFunc 63 args).run Tryz.prog w=.ok (.enter 63 args) w:=fun _ _=>rfl
theorem YK(w0:World)(q:RP)(p:Pl)(c:R.Cf)(s:RS)(M:R.Bk)(G:R.Wd)(w:World)(h:GB w0 q p c s M G w)(k a b d:Int)(ha:In64 a)(hb:In64 b)(hd:In64 d)(ah:Hid (∀w,Calls Tryz.prog 27 #[.int .i64 k,.int .i64 12] w fun e w'=>e=.returned (.int .i64 5)/\w'=w)):
  Calls Tryz.prog 34 #[ptr q.r,.agg #[.int .i64 k,.int .i64 a,.int .i64 b,.int .i64 d]] w fun e w'=>e=.returned (.bool true)/\Ge w0 q p c w':=by
 obtain⟨af,ac⟩:=Gj w k a b d;obtain⟨W1,ae⟩:∃W1,w.alloc (.cells #[.int .i64 k,.int .i64 a,.int .i64 b,.int .i64 d] 59)=W1:=⟨_,rfl⟩;rw[ae]at af ac;have ak:=Ac ae;have hK:=h.still af;have a0:=hK.both.cells.a0;have lr:=hK.both.cells.EA;have am:=h.both.cells.a0;have ar:=h.both.cells.EA;have c0:W1.cell? ⟨w.heap.size,0,none⟩=some (.int .i64 k):=cell_of ac 0 _ rfl;have c1:W1.cell? ⟨w.heap.size,1,none⟩=some (.int .i64 a):=cell_of ac 1 _ rfl;have lx:=lt_of_block ac;have HF:=Ac hK.both.VW;have c2:W1.cell? ⟨w.heap.size,2,none⟩=some (.int .i64 b):=cell_of ac 2 _ rfl;have c3:W1.cell? ⟨w.heap.size,3,none⟩=some (.int .i64 d):=cell_of ac 3 _ rfl;obtain⟨ja,ao,HA⟩:=A4 b 13 hb (by omega) (by omega);obtain⟨jb,ap,HB⟩:=A4 d 255 hd (by omega) (by omega);have ai:=Ac HA;have aj:=Ac HB;have aq:IntKind.i64.wrap (1+(jb:Int))=1+(jb:Int):=by rw[IntKind.wrap_i64];omega
 clear HA HB;by_cases hn:G.Ak.length=0
 ·have HD:Hid (Calls Tryz.prog 63 #[ptr q.x,.int .i64 0,.int .i64 (ja:Int),.int .i64 (1+(jb:Int))] W1.drew fun e w'=>(∃an:Int,e=.returned (.int .i64 an)/\an=9)/\Ge w0 q p c w'):=by
   refine((hK.still (Below.refl _ _).drew).Ji 0 ja (1+(jb:Int))).mono ?_;rintro e w' ⟨rfl,hO⟩;exact⟨⟨_,rfl,XK hn _ _⟩,hO⟩
  rw[hn]at HF;clear h hK af ac ae hn;go_enter Tryz.func34,Tryz.ntmps34;go_wp2_with fail
  rw[Aa ak];refine(Aa HF).mono ?_;rintro e w2 ⟨rfl,ab⟩;rw[ab];clear ab w2;go_wp2_with fail
  refine((Aa ah) _).mono ?_;rintro e w3 ⟨rfl,ad⟩;rw[ad];clear ad w3;go_wp2;go_region_law (first
   |(refine Av rfl 27 #[.tmp 28,.const (.int .i64 13)] #[3,3] rfl K8 #[.int .i64 b,.int .i64 13] rfl _ ((Aa ai) _) ?_;rintro e w5 ⟨rfl,aa⟩;rw[aa];clear aa;refine⟨_,rfl,?_⟩)
   |(refine Av rfl 27 #[.tmp 31,.const (.int .i64 255)] #[3,3] rfl K8 #[.int .i64 d,.int .i64 255] rfl _ ((Aa aj) _) ?_;rintro e w5 ⟨rfl,aa⟩;rw[aa];clear aa;refine⟨_,rfl,?_⟩)
   |(refine Av rfl 63 #[.tmp 25,.tmp 26,.tmp 29,.tmp 33] #[28,3,3,3] rfl abM #[ptr q.x,.int .i64 0,.int .i64 (ja:Int),.int .i64 (1+(jb:Int))] rfl _ (Aa HD) ?_;rintro e w6 ⟨⟨an,rfl,ag⟩,hO⟩;have HO:=Ac hO;clear hO;refine⟨_,rfl,?_⟩))
  all_goals
   subst ag;go_wp2;go_returns;exact⟨rfl,Aa HO⟩
 ·obtain⟨j,hj,HP⟩:=A4 a G.Ak.length ha (by omega) (by have:=hK.agree.inv.wf.E3;omega);have al:=Ac HP;have HD:Hid (Calls Tryz.prog 63 #[ptr q.x,.int .i64 (j:Int),.int .i64 (ja:Int),.int .i64 (1+(jb:Int))] W1.drew fun e w'=>(∃an:Int,e=.returned (.int .i64 an)/\(an=0\/an=18))/\Ge w0 q p c w'):=by
   refine((hK.still (Below.refl _ _).drew).Ji j ja (1+(jb:Int))).mono ?_;rintro e w' ⟨rfl,hO⟩;exact⟨⟨_,rfl,aaj hK.long hj (by omega) (by omega)⟩,hO⟩
  generalize G.Ak.length=n at *;have n0:(0:Int)<(n:Int):=by omega
  have n1:((n:Int)==0)=false:=by simp;omega
  clear h hK af ac ae HP;go_enter Tryz.func34,Tryz.ntmps34;go_wp2_with fail
  rw[Aa ak];refine(Aa HF).mono ?_;rintro e w2 ⟨rfl,ab⟩;rw[ab];clear ab w2;go_wp2_with fail
  refine((Aa al) _).mono ?_;rintro e w2 ⟨rfl,ab⟩;rw[ab];clear ab w2;go_wp2_with fail
  refine((Aa ah) _).mono ?_;rintro e w3 ⟨rfl,ad⟩;rw[ad];clear ad w3;go_wp2;go_region_law (first
   |(refine Av rfl 27 #[.tmp 28,.const (.int .i64 13)] #[3,3] rfl K8 #[.int .i64 b,.int .i64 13] rfl _ ((Aa ai) _) ?_;rintro e w5 ⟨rfl,aa⟩;rw[aa];clear aa;refine⟨_,rfl,?_⟩)
   |(refine Av rfl 27 #[.tmp 31,.const (.int .i64 255)] #[3,3] rfl K8 #[.int .i64 d,.int .i64 255] rfl _ ((Aa aj) _) ?_;rintro e w5 ⟨rfl,aa⟩;rw[aa];clear aa;refine⟨_,rfl,?_⟩)
   |(refine Av rfl 63 #[.tmp 25,.tmp 26,.tmp 29,.tmp 33] #[28,3,3,3] rfl abM #[ptr q.x,.int .i64 (j:Int),.int .i64 (ja:Int),.int .i64 (1+(jb:Int))] rfl _ (Aa HD) ?_;rintro e w6 ⟨⟨an,rfl,ag⟩,hO⟩;have HO:=Ac hO;clear hO;refine⟨_,rfl,?_⟩))
  all_goals
   rcases ag with rfl|rfl;all_goals
    go_wp2;go_returns;exact⟨rfl,Aa HO⟩
structure DAt(w:World)(s:RS)(g cap:Nat):Prop where
 eq:s.D=.slice (some ⟨g,0,none⟩) s.dead.length cap
 open':∀o,w.frozen? ⟨g,o,none⟩=false
 get:∀(k:Nat) (v:Int),s.dead[k]?=some v->w.cell? ⟨g,k,none⟩=some (.int .i64 v)
 cap:s.dead.length<=cap
 lt:g<w.heap.size
theorem Au.dAt{q:RP}(h:Au w0 q p c s G w)(hn:0<s.dead.length):∃g cap,DAt w s g cap:=by
 obtain⟨tp,E,F,hr,hw,hd,ac⟩:=h.run;obtain⟨hl,hD⟩:=hr.D;rcases hD with ⟨_,h0⟩|⟨g,cap,ab,e,_,hb,hc,_,hs,ht⟩
 ·omega
 ·have aa:w.heap[g]?=some (.cells ab.toList.toArray 3 (0,0)):=by simpa using hb
  refine⟨g,cap,e,fun o=>open_list aa,fun k v hv=>?_,hc,lt_of_block hb⟩;refine AP aa ?_;have h1:(ints s.dead)[k]?=some (.int .i64 v):=Ew hv;rw[<-ht,List.getElem?_take]at h1;split at h1
  ·exact h1
  ·cases h1
theorem Au.ad5{q:RP}(h:Au w0 q p c s G w){g cap:Nat}(hg:s.D=.slice (some ⟨g,0,none⟩) s.dead.length cap)(k:Nat)(v:Int):Au w0 q p c {s with dead:=s.dead.set k v} G (w.setCell ⟨g,k,none⟩ (.int .i64 v)):=by
 obtain⟨tp,E,F,hr,hw,hd,ah⟩:=h.run;have ai:=hr.D;obtain⟨hl,hD⟩:=ai;have aa:s.D.ownBlock=some g:=by rw[hg];rfl
 have ae:E g:=hr.rows g (Or.inr (Or.inl aa));rcases hD with ⟨e,_⟩|⟨g',ad,ac,e,ag,hb,hc,hm,hs,ht⟩
 ·rw[hg]at e;cases e
 ·rw[hg]at e;cases e;have af:w.heap[g]?=some (.cells ac.toList.toArray 3 (0,0)):=by simpa using hb
  have sz:(w.setCell ⟨g,k,none⟩ (.int .i64 v)).heap.size=w.heap.size:=by simp[World.setCell]
  have ab:∀{b:Nat} {o:Obj},w.heap[b]?=some o->b≠g->(w.setCell ⟨g,k,none⟩ (.int .i64 v)).heap[b]?=some o:=fun hb ht=>by
   rw[Below.heap_setCell _ _ _ _ ht];exact hb
  have aj:q.lf≠g:=fun e=>hr.nD.1 (by rw[aa,e])
  have ak:q.sq≠g:=fun e=>hr.nD.2.1 (by rw[aa,e])
  have al:q.ud≠g:=fun e=>hr.nD.2.2 (by rw[aa,e])
  refine h.own (s':={s with dead:=s.dead.set k v}) hw hd ah (E':=E) ⟨?_,ab hr.lf aj,ab hr.sq ak,ab hr.ud al,?_,?_,?_,?_,hr.BP,hr.rows,hr.ne,hr.nD,hr.nK,hr.Xu,fun k hk=>by rw[sz];exact hr.lt k hk⟩ ⟨MW ae _,fun _ e=>Or.inl e⟩
  ·exact ab hr.cell (AZ hr.cell hb (by decide))
  ·exact A7 hr.M (AV hr.M hb (by decide)) _
  ·refine⟨by simp[ints],Or.inr ⟨g,cap,(ac.toList.set k (.int .i64 v)).toArray,by simpa using hg,ag,Ai af _,by simpa using hc,hm,by simpa using hs,?_⟩⟩;rw[<-ints_set,<-ht];simp only[List.length_set,Nat.mul_one];rw[List.take_set]
  ·exact A7 hr.K (hr.Xu g aa) _
  ·exact EL hr.args hb (by decide) _
theorem NS(w0:World)(q:RP)(p:Pl)(c:R.Cf)(s:RS)(G:R.Wd)(w:World)(k:Nat)(hk:k<3)(h:Au w0 q p c s G w)(aa:s.nu=255)
  (ac:Hid (∀W,Au w0 q p c s G W->Calls Tryz.prog 48 #[ptr q.x,.string (str (A6 k)),.int .i64 (k:Int)] W fun e w'=>e=.returned (.tuple #[.int .i64 0,.int .i64 11])/\Au w0 q p c s G w')):
  Calls Tryz.prog 25 #[ptr q.r,.int .i64 (k:Int)] w fun e w'=>e=.returned (.bool true)/\Au w0 q p c s G w':=by
 obtain⟨a0,a6,a7,a8,a9,JB,NP,a12,z,zu,zs,zl,fu,fs,fl,nur,nsr,EA,Yy⟩:=h.cells;have af:=Ac (Iq k hk);generalize str (A6 k)=SN at *;rw[aa]at JB;have ad:=Ac h;clear h a6 a7 a8 a9 NP a12 z zu zs zl fu fs fl aa nur nsr Yy;go_enter Tryz.func25,Tryz.ntmps25;go_wp2;go_region_law (first
  |(refine Av rfl 49 #[.tmp 22] #[3] rfl XT #[.int .i64 (k:Int)] rfl _ ((Aa af) _) ?_;rintro e w1 ⟨rfl,ab⟩;rw[ab];clear ab;refine⟨_,rfl,?_⟩)
  |(refine Av rfl 48 #[.tmp 21,.tmp 23,.tmp 24] #[28,9,3] rfl aao #[ptr q.x,.string SN,.int .i64 (k:Int)] rfl _ ((Aa ac) _ (by have hb:=(Aa ad).still (Below.refl _ _).drew;exact hb)) ?_;rintro e w2 ⟨rfl,hB⟩;have ae:=Ac hB;clear hB;refine⟨_,rfl,?_⟩))
 all_goals
  go_wp2;go_returns;exact⟨rfl,Aa ae⟩
theorem Ps(w0:World)(q:RP)(p:Pl)(c:R.Cf)(s:RS)(G G':R.Wd)(w:World)(k:Nat)(hk:k<3)(h:Au w0 q p c s G w)(be:s.uid.length=3){a:Nat}(aX:u0=(a:Int)+1)(hu:s.uid[k]?=some u0)(bd:0<=s.nu/\s.nu<255)(aM:s.dead[a]?=some n0)(ba:0<=n0)(bb:s.dead.length<=255)(bc:s.kinds.length<=255)
  (aG:Hid (∀W,Au w0 q p c s G W->Calls Tryz.prog 48 #[ptr q.x,.string (str (A6 k)),.int .i64 (k:Int)] W fun e w'=>e=.returned (.tuple #[.int .i64 (s.nu+1),.int .i64 0])/\Au w0 q p c s G' w')):
  Calls Tryz.prog 25 #[ptr q.r,.int .i64 (k:Int)] w fun e w'=>e=.returned (.bool true)/\∃D K,Au w0 q p c ⟨s.Ae,s.seq,s.uid.set k (s.nu+1),s.nu+1,s.M,D,K,s.made,s.dead++[-1],s.kinds++[(k:Int)]⟩ G' w':=by
 obtain⟨a0,a6,a7,a8,a9,JB,NP,a12,z,zu,zs,zl,fu,fs,fl,nur,nsr,EA,Yy⟩:=h.cells;have b1:=fu k u0 hu;have b7:=(List.getElem?_eq_some_iff.1 aM).1;obtain⟨g,cap,hD⟩:=h.dAt (by omega);have d1:=hD.get a n0 aM;have aR:=hD.lt;rw[hD.eq]at NP;have b9:(k:Int)<(s.uid.length:Int):=by omega
 have aS:(s.nu==255)=false:=by simp;omega
 have eu:(u0-1)=(a:Int):=by omega
 have b4:¬u0<=0:=by omega
 have b5:0<u0:=by omega
 have bg:IntKind.i64.wrap (u0-1)=(a:Int):=by rw[IntKind.wrap_i64];omega
 have aW:(a:Int)<(s.dead.length:Int):=by omega
 have b3:¬n0<0:=by omega
 have aJ:=Ac (Iq k hk);have bf:IntKind.i64.wrap (s.nu+1)=s.nu+1:=by rw[IntKind.wrap_i64];omega
 generalize str (A6 k)=SN at *;obtain⟨i0,hi,aO,aP,aQ⟩:=info_parts Yk;have aH:=Ac h;clear h a6 a7 a9 a12 z zu zs zl fu fs fl hD aX;go_enter Tryz.func25,Tryz.ntmps25;go_wp2;go_region_law (first
  |(refine Av rfl 49 #[.tmp 78] #[3] rfl XT #[.int .i64 (k:Int)] rfl _ ((Aa aJ) _) ?_;rintro e w1 ⟨rfl,aN⟩;rw[aN];clear aN;refine⟨_,rfl,?_⟩)
  |(refine Av rfl 48 #[.tmp 77,.tmp 79,.tmp 80] #[28,9,3] rfl aao #[ptr q.x,.string SN,.int .i64 (k:Int)] rfl _ ((Aa aG) _ (by have hb:=(Aa aH).still (Below.refl _ _).drew;exact hb)) ?_;rintro e w2 ⟨rfl,hB⟩;have ay:=Ac hB;clear hB;refine⟨_,rfl,?_⟩))
 all_goals
  clear a0 a8 JB NP b1 d1 aR EA Yy aG aJ aH;have ar:=(Aa ay).cells;have b2:=ar.JB;have aF:=ar.z 10;have y0:=ar.EA;have ax:=Ac ((Aa ay).Lp (s.nu+1));clear ar ay;go_wp2;generalize w2.setCell ⟨q.r,10,none⟩ (.int .i64 (s.nu+1))=W2 at *;have af:=(Aa ax).cells;have x8:=af.a8;have an:=af.JB;have xk:=af.zu k;have xu:=af.u k u0 (by assumption);simp only at x8 an;have xl:=af.Yy;have ag:=Ac (((Aa ax).acB k (s.nu+1)).still (Below.refl _ _).drew);clear af ax b2 aF y0
  go_region
  all_goals
   generalize (W2.setCell ⟨q.ud,k,none⟩ (.int .i64 (s.nu+1))).drew=W3 at *;clear x8 an xk xu xl;have au:=(Aa ag).cells;have ac:=(Aa ag).run;obtain⟨tp,E,F,hr,ai⟩:=ac;have al:=hr.D;have aD:=AX al;obtain⟨da,dc,hD⟩:=aD;have av:=au.NP;have ao:=au.z 11;have xr:=au.EA;simp only at hD al av;rw[hD]at av al;have aA:=Ac al;have HD:=Ac hD;clear au hr ai al hD;go_wp2_with (at_builtin;go_must (refine wpList_append_own_at _ rfl (.tmp 105) (.tmp 106) 29 rfl 0 3 i0 (.int .i64 0) 1 8 Tryz.underlying29 hi aO aP aQ rfl (by decide) (.slice da s.dead.length dc) s.dead.length (ints s.dead) rfl (by exact(Aa aA).alloc _) ⟨W3.heap.size,0,none⟩ 1 1 [.int .i64 (-1)] rfl rfl (by exact one_num W3 (-1)) (by simp[Value.oneCell']) (by unfold maxLen;omega) (by omega) (by omega) ?_))
   intro v' wz ab aa _ aj;obtain⟨va,vn,vc,aE⟩:=Ar ab;subst aE;have ah:=Ac ((Aa ag).Zk (o:=.cells #[.int .i64 (-1)] 3) (n:=-1) (D':=.slice va vn vc) ab (by rw[Aa HD];exact aa) (by rw[Aa HD];exact Ij (by simpa using aj)));have ae:wz.heap[q.r]?=W3.heap[q.r]?:=by
    refine(aa.block q.r (by simp;omega) (fun e=>?_)).trans (Below.heap_alloc _ _ _ xr);have ac:=(Aa ag).run;obtain⟨tp,E,F,hr,ai⟩:=ac;have ad:=hr.cell;exact AV (Aa aA) ad (by decide) e.symm
   have aK:wz.cell? ⟨q.r,11,none⟩=some (.slice da s.dead.length dc):=(World.cell?_of_block ae).trans av;have aC:wz.frozen? ⟨q.r,11,none⟩=false:=(World.frozen?_of_block ae).trans ao;have aV:q.r<wz.heap.size:=lt_of_cell aK;clear ab aa aj ae av ao aA HD ag;have ak:=(Aa ah).cells;have ac:=(Aa ah).run;obtain⟨tp,E,F,hr,ai⟩:=ac;have am:=hr.K;have aD:=AX am;obtain⟨ka,kc,aq⟩:=aD;have aw:=ak.a12;have ap:=ak.z 12;have an:=ak.JB;have aZ:=ak.EA;simp only at aq am aw an;rw[aq]at aw am;have aB:=Ac am;have az:=Ac aq;clear ak hr ai am aq;go_wp2_with (at_builtin;go_must (refine wpList_append_own_at _ rfl (.tmp 114) (.tmp 116) 29 rfl 0 3 i0 (.int .i64 0) 1 8 Tryz.underlying29 hi aO aP aQ rfl (by decide) (.slice ka s.kinds.length kc) s.kinds.length (ints s.kinds) rfl (by exact(Aa aB).alloc _) ⟨wz.heap.size,0,none⟩ 1 1 [.int .i64 (k:Int)] rfl rfl (by exact Ju _ (k:Int) (by simp)) (by simp[Value.oneCell']) (by unfold maxLen;omega) (by omega) (by omega) ?_))
   intro v2 wy ab aa _ aj;obtain⟨ua,un,uc,aE⟩:=Ar ab;subst aE;have aI:=Ac ((Aa ah).Zl (o:=.cells #[.int .i64 (k:Int)] 3) (n:=(k:Int)) (K':=.slice ua un uc) ab (by rw[Aa az];exact aa) (by rw[Aa az];exact Ij (by simpa using aj)));generalize wz.setCell ⟨q.r,11,none⟩ (.slice va vn vc)=W4 at *;have ae:wy.heap[q.r]?=W4.heap[q.r]?:=by
    refine(aa.block q.r (by simp;omega) (fun e=>?_)).trans (Below.heap_alloc _ _ _ aZ);have ac:=(Aa ah).run;obtain⟨tp,E,F,hr,ai⟩:=ac;have ad:=hr.cell;exact AV (Aa aB) ad (by decide) e.symm
   have aT:wy.cell? ⟨q.r,12,none⟩=some (.slice ka s.kinds.length kc):=(World.cell?_of_block ae).trans aw;have aU:wy.frozen? ⟨q.r,12,none⟩=false:=(World.frozen?_of_block ae).trans ap;have b6:q.r<wy.heap.size:=lt_of_cell aT;have aL:=(Aa aI).cells;have aY:=aL.JB;simp only at aY;clear ab aa aj ae aw ap an aB az ah aK aC aV aL;go_wp2;go_returns;exact⟨rfl,_,_,Aa aI⟩
theorem NR(w0:World)(q:RP)(p:Pl)(c:R.Cf)(s S:RS)(G G':R.Wd)(w:World)(k:Nat)(hk:k<3)(h:Au w0 q p c s G w)(aZ:s.uid.length=3){a:Nat}(bi:u0=(a:Int)+1)(hu:s.uid[k]?=some u0)(aY:0<=s.nu/\s.nu<255){m:Int}(ay:s.dead[a]?=some n0)(bv:n0<0)(aW:s.dead.length<=255)(aX:s.kinds.length<=255)(hS:S={s with dead:=s.dead.set a m})
  (aO:Hid (∀W,Au w0 q p c s G W->Calls Tryz.prog 9 #[ptr q.x,.int .i64 u0] W fun e w'=>e=.returned (.tuple #[.int .i64 m,.int .i64 0])/\Below W.heap.size W w'))
  (aN:Hid (∀W,Au w0 q p c S G W->Calls Tryz.prog 48 #[ptr q.x,.string (str (A6 k)),.int .i64 (k:Int)] W fun e w'=>e=.returned (.tuple #[.int .i64 (S.nu+1),.int .i64 0])/\Au w0 q p c S G' w')):
  Calls Tryz.prog 25 #[ptr q.r,.int .i64 (k:Int)] w fun e w'=>e=.returned (.bool true)/\∃D K,Au w0 q p c ⟨S.Ae,S.seq,S.uid.set k (S.nu+1),S.nu+1,S.M,D,K,S.made,S.dead++[-1],S.kinds++[(k:Int)]⟩ G' w':=by
 obtain⟨a0,a6,a7,a8,a9,JB,NP,a12,z,zu,zs,zl,fu,fs,fl,nur,nsr,EA,Yy⟩:=h.cells;have b1:=fu k u0 hu;have be:=(List.getElem?_eq_some_iff.1 ay).1;obtain⟨g,cap,hD⟩:=h.dAt (by omega);have d1:=hD.get a n0 ay;have b9:=hD.lt;have au:=hD.eq;rw[au]at NP;have aV:(k:Int)<(s.uid.length:Int):=by omega
 have ba:(s.nu==255)=false:=by simp;omega
 have br:¬u0<=0:=by omega
 have bt:0<u0:=by omega
 have bl:IntKind.i64.wrap (u0-1)=(a:Int):=by rw[IntKind.wrap_i64];omega
 have aI:(a:Int)<(s.dead.length:Int):=by omega
 have aR:=Ac (Iq k hk);have bj:S.uid.length=3:=by rw[hS];exact aZ
 have bh:0<=S.nu/\S.nu<255:=by rw[hS];exact aY
 have bz:IntKind.i64.wrap (S.nu+1)=S.nu+1:=by rw[IntKind.wrap_i64];omega
 have bf:S.dead.length<=255:=by rw[hS];simpa using aW
 have bg:S.kinds.length<=255:=by rw[hS];exact aX
 have bw:S.uid[k]?=some u0:=by rw[hS];exact hu
 have HP:Hid (∀W,Below w.heap.size w W->Au w0 q p c S G (W.setCell ⟨g,a,none⟩ (.int .i64 m))/\W.cell? ⟨q.r,11,none⟩=some (.slice (some ⟨g,0,none⟩) s.dead.length cap)/\W.cell? ⟨g,a,none⟩=some (.int .i64 n0)/\W.frozen? ⟨g,a,none⟩=false/\g<W.heap.size/\q.r<W.heap.size):=fun W hW=>by
  have hb:=h.still hW;have hc:=hb.cells;have b5:=hc.NP;obtain⟨g',b7,ar⟩:=hb.dAt (by omega);have e:=ar.eq;rw[au]at e;cases e;rw[au]at b5;exact⟨by rw[hS];exact hb.ad5 au a m,b5,ar.get a n0 ay,ar.open' a,ar.lt,hc.EA⟩
 generalize str (A6 k)=SN at *;obtain⟨i0,hi,b2,b3,b4⟩:=info_parts Yk;have aP:=Ac h;clear h a6 a7 a9 a12 z zu zs zl fu fs fl hD bi;go_enter Tryz.func25,Tryz.ntmps25;go_wp2_with (go_at_call 9;refine((Aa aO) _ (by exact Aa aP)).mono ?_;rintro e w1 ⟨rfl,al⟩;have hh:=(Aa HP) w1 al;obtain⟨aT,b6,cg,cz,cl,cr⟩:=hh;have aB:=Ac aT;clear aT al)
 generalize w1.setCell ⟨g,a,none⟩ (.int .i64 m)=W1 at *;clear a0 a8 JB NP b1 d1 b9 EA Yy b6 cg cz cl cr HP aP aO nur nsr;have aJ:=(Aa aB).cells;have a0:=aJ.a0;have EA:=aJ.EA;clear aJ ay be aI bl aZ aY aW aX hu hS aV;have aV:(k:Int)<(S.uid.length:Int):=by omega
 go_region_law (first
  |(refine Av rfl 49 #[.tmp 78] #[3] rfl XT #[.int .i64 (k:Int)] rfl _ ((Aa aR) _) ?_;rintro e w1 ⟨rfl,al⟩;rw[al];clear al;refine⟨_,rfl,?_⟩)
  |(refine Av rfl 48 #[.tmp 77,.tmp 79,.tmp 80] #[28,9,3] rfl aao #[ptr q.x,.string SN,.int .i64 (k:Int)] rfl _ ((Aa aN) _ (by have hb:=(Aa aB).still (Below.refl _ _).drew;exact hb)) ?_;rintro e w2 ⟨rfl,hB⟩;have aD:=Ac hB;clear hB;refine⟨_,rfl,?_⟩))
 all_goals
  clear a0 EA aN aR aB;have aw:=(Aa aD).cells;have bq:=aw.JB;have aM:=aw.z 10;have y0:=aw.EA;have aC:=Ac ((Aa aD).Lp (S.nu+1));clear aw aD;go_wp2;generalize w2.setCell ⟨q.r,10,none⟩ (.int .i64 (S.nu+1))=W2 at *;have af:=(Aa aC).cells;have x8:=af.a8;have ao:=af.JB;have xk:=af.zu k;have xu:=af.u k u0 (by assumption);simp only at x8 ao;have xl:=af.Yy;have ag:=Ac (((Aa aC).acB k (S.nu+1)).still (Below.refl _ _).drew);clear af aC bq aM y0
  go_region
  all_goals
   generalize (W2.setCell ⟨q.ud,k,none⟩ (.int .i64 (S.nu+1))).drew=W3 at *;clear x8 ao xk xu xl;have ax:=(Aa ag).cells;have ac:=(Aa ag).run;obtain⟨tp,E,F,hr,ai⟩:=ac;have am:=hr.D;have aK:=AX am;obtain⟨da,dc,hD⟩:=aK;have az:=ax.NP;have ap:=ax.z 11;have xr:=ax.EA;simp only at hD am az;rw[hD]at az am;have aF:=Ac am;have HD:=Ac hD;clear ax hr ai am hD;go_wp2_with (at_builtin;go_must (refine wpList_append_own_at _ rfl (.tmp 105) (.tmp 106) 29 rfl 0 3 i0 (.int .i64 0) 1 8 Tryz.underlying29 hi b2 b3 b4 rfl (by decide) (.slice da S.dead.length dc) S.dead.length (ints S.dead) rfl (by exact(Aa aF).alloc _) ⟨W3.heap.size,0,none⟩ 1 1 [.int .i64 (-1)] rfl rfl (by exact one_num W3 (-1)) (by simp[Value.oneCell']) (by unfold maxLen;omega) (by omega) (by omega) ?_))
   intro v' wz ab aa _ aj;obtain⟨va,vn,vc,aL⟩:=Ar ab;subst aL;have ah:=Ac ((Aa ag).Zk (o:=.cells #[.int .i64 (-1)] 3) (n:=-1) (D':=.slice va vn vc) ab (by rw[Aa HD];exact aa) (by rw[Aa HD];exact Ij (by simpa using aj)));have ae:wz.heap[q.r]?=W3.heap[q.r]?:=by
    refine(aa.block q.r (by simp;omega) (fun e=>?_)).trans (Below.heap_alloc _ _ _ xr);have ac:=(Aa ag).run;obtain⟨tp,E,F,hr,ai⟩:=ac;have ad:=hr.cell;exact AV (Aa aF) ad (by decide) e.symm
   have aS:wz.cell? ⟨q.r,11,none⟩=some (.slice da S.dead.length dc):=(World.cell?_of_block ae).trans az;have aH:wz.frozen? ⟨q.r,11,none⟩=false:=(World.frozen?_of_block ae).trans ap;have bd:q.r<wz.heap.size:=lt_of_cell aS;clear ab aa aj ae az ap aF HD ag;have ak:=(Aa ah).cells;have ac:=(Aa ah).run;obtain⟨tp,E,F,hr,ai⟩:=ac;have an:=hr.K;have aK:=AX an;obtain⟨ka,kc,av⟩:=aK;have aA:=ak.a12;have aq:=ak.z 12;have ao:=ak.JB;have bp:=ak.EA;simp only at av an aA ao;rw[av]at aA an;have aG:=Ac an;have aE:=Ac av;clear ak hr ai an av;go_wp2_with (at_builtin;go_must (refine wpList_append_own_at _ rfl (.tmp 114) (.tmp 116) 29 rfl 0 3 i0 (.int .i64 0) 1 8 Tryz.underlying29 hi b2 b3 b4 rfl (by decide) (.slice ka S.kinds.length kc) S.kinds.length (ints S.kinds) rfl (by exact(Aa aG).alloc _) ⟨wz.heap.size,0,none⟩ 1 1 [.int .i64 (k:Int)] rfl rfl (by exact Ju _ (k:Int) (by simp)) (by simp[Value.oneCell']) (by unfold maxLen;omega) (by omega) (by omega) ?_))
   intro v2 wy ab aa _ aj;obtain⟨ua,un,uc,aL⟩:=Ar ab;subst aL;have aQ:=Ac ((Aa ah).Zl (o:=.cells #[.int .i64 (k:Int)] 3) (n:=(k:Int)) (K':=.slice ua un uc) ab (by rw[Aa aE];exact aa) (by rw[Aa aE];exact Ij (by simpa using aj)));generalize wz.setCell ⟨q.r,11,none⟩ (.slice va vn vc)=W4 at *;have ae:wy.heap[q.r]?=W4.heap[q.r]?:=by
    refine(aa.block q.r (by simp;omega) (fun e=>?_)).trans (Below.heap_alloc _ _ _ bp);have ac:=(Aa ah).run;obtain⟨tp,E,F,hr,ai⟩:=ac;have ad:=hr.cell;exact AV (Aa aG) ad (by decide) e.symm
   have bb:wy.cell? ⟨q.r,12,none⟩=some (.slice ka S.kinds.length kc):=(World.cell?_of_block ae).trans aA;have bc:wy.frozen? ⟨q.r,12,none⟩=false:=(World.frozen?_of_block ae).trans aq;have bu:q.r<wy.heap.size:=lt_of_cell bb;have aU:=(Aa aQ).cells;have bo:=aU.JB;simp only at bo;clear ab aa aj ae aA aq ao aG aE ah aS aH bd aU;go_wp2;go_returns;exact⟨rfl,_,_,Aa aQ⟩
theorem U6(hk:k<3):R.CZ (A6 k)=true:=by
 obtain rfl|rfl|rfl:k=0\/k=1\/k=2:=by omega
 all_goals decide
theorem MN(G:R.Wd)(n:List UInt8)(k:Int):(R.Bd G n k).2.Ak=G.Ak:=by
 unfold R.Bd;split
 ·rfl
 ·split
  ·rfl
  ·split
   ·split
    ·rfl
    ·split
     ·rfl
     ·rfl
   ·split
    ·rfl
    ·rfl
theorem Au.aaJ{q:RP}(h:Au w0 q p c s G w)(hA:Agree c s M G)(hk:k<3):
  Calls Tryz.prog 25 #[ptr q.r,.int .i64 (k:Int)] w fun e w'=>e=.returned (.bool true)/\∃s' G',Au w0 q p c s' G' w'/\Fit c s' M G'/\C9 G.Ab G'.Ab/\G'.Ak=G.Ak:=by
 obtain⟨u,hu,aa,ap⟩:=hA.uid k hk;have ah:=hA.inv.wf.sv;by_cases hs:G.Ab.length=255
 ·have he:=NQ hk aa hs;obtain⟨j,hj⟩:∃j,R.BI G (A6 k)=some j:=by
   unfold AF at aa;cases hn:R.BI G (A6 k) with
   |none=>rw[hn]at aa;cases aa
   |some j=>exact⟨j,rfl⟩
  refine(NS w0 q p c s G w k hk h (by rw[hA.nu,hs];rfl) (Ac fun W hW=>?_)).mono ?_
  ·have:=hW.UT (U6 hk) (kind:=k) (by omega) hj;rw[he]at this;exact this
  ·rintro e w' ⟨rfl,hB⟩;exact⟨rfl,s,G,hB,hA.fit,C9.refl _,rfl⟩
 ·have ac:G.Ab.length<255:=by omega
  obtain⟨j,hj,aj⟩:=Ol hk aa ac;have aq:1<=u/\u<=(G.Ab.length:Int):=by
   have ao:=(List.getElem?_eq_some_iff.1 (R.Ek hj)).1;have am:=hA.inv.wf.st;have ae:j<G.stands.length:=by omega
   have:=hA.inv.wf.I5 G.stands[j] (List.getElem_mem ae);unfold AF at aa;rw[hj]at aa;have hv:G.stands.getD j 0=u:=Option.some.inj aa;rw[List.getD_eq_getElem?_getD,List.getElem?_eq_getElem ae]at hv;simp only[Option.getD_some]at hv;rw[<-hv];omega
  obtain⟨a,ha⟩:∃a:Nat,u=(a:Int)+1:=⟨(u-1).toNat,by omega⟩;have ai:a<G.Ab.length:=by omega
  have ag:G.Ab[a]?=some G.Ab[a]:=List.getElem?_eq_getElem ai;have an:=hA.dl;have ab:s.dead[a]?=some (s.dead[a]'(by omega)):=List.getElem?_eq_getElem _;have al:=hA.nu;have af:s.kinds.length<=255:=by rw[hA.kinds,List.length_map];omega
  have ad:∀(S:RS),S.nu=s.nu->∀W,Au w0 q p c S G W->Calls Tryz.prog 48 #[ptr q.x,.string (str (A6 k)),.int .i64 (k:Int)] W fun e w'=>e=.returned (.tuple #[.int .i64 (S.nu+1),.int .i64 0])/\Au w0 q p c S (R.Bd G (A6 k) (k:Int)).2 w':=fun S hS W hW=>by
   have:=hW.UT (U6 hk) (kind:=k) (by omega) hj;rw[show (R.Bd G (A6 k) (k:Int)).1=(S.nu+1,0) by rw[aj,hS,al]]at this;exact this
  have hold:((s.dead[(((s.uid[k]?).getD 0)-1).toNat]?).getD 0)=s.dead[a]'(by omega)/\(((s.uid[k]?).getD 0)-1).toNat=a/\(s.uid[k]?).getD 0=u:=by
   rw[hu];simp only[Option.getD_some];have:(u-1).toNat=a:=by omega
   rw[this,ab];exact⟨rfl,rfl,trivial⟩
  by_cases hd:s.dead[a]'(by omega)<0
  ·have ak:∀W,Au w0 q p c s G W->Calls Tryz.prog 9 #[ptr q.x,.int .i64 u] W fun e w'=>e=.returned (.tuple #[.int .i64 (G.Ab[a].log.length:Int),.int .i64 0])/\Below W.heap.size W w':=fun W hW=>by
    rw[ha];exact hW.aa0 ag
   refine(NR w0 q p c s {s with dead:=s.dead.set a (G.Ab[a].log.length:Int)} G (R.Bd G (A6 k) (k:Int)).2 w k hk h hA.ul ha hu (by omega) ab hd (by omega) af rfl (Ac ak) (Ac (ad _ rfl))).mono ?_;rintro e w' ⟨rfl,D,K,hB⟩;have ho:EK s G k=s.dead.set a (G.Ab[a].log.length:Int):=by
    unfold EK;rw[hold.1,hold.2.1,hold.2.2,if_pos hd];unfold R.Ho;rw[show (u-1).toNat=a by omega,ag];rfl
   have hf:=hA.exports hk ac D K;refine⟨rfl,JW s G k D K,_,?_,hf,C9.export _ _ _,MN _ _ _⟩;unfold JW;rw[ho];exact hB
  ·refine(Ps w0 q p c s G (R.Bd G (A6 k) (k:Int)).2 w k hk h hA.ul ha hu (by omega) ab (by omega) (by omega) af (Ac (ad _ rfl))).mono ?_;rintro e w' ⟨rfl,D,K,hB⟩;have ho:EK s G k=s.dead:=by
    unfold EK;rw[hold.1,if_neg hd]
   have hf:=hA.exports hk ac D K;refine⟨rfl,JW s G k D K,_,?_,hf,C9.export _ _ _,MN _ _ _⟩;unfold JW;rw[ho];exact hB
def Et(dead:List Int)(sv:List R.Sv)(n:Nat):List Int:=(List.range dead.length).map fun (u:Nat)=>if u<n/\(dead[u]?).getD 0<0 then ((((sv[u]?).map (·.log)).getD []).length:Int) else (dead[u]?).getD 0
theorem Cx(dead:List Int)(sv:List R.Sv)(n:Nat):(Et dead sv n).length=dead.length:=by simp[Et]
theorem Ed{dead:List Int}{sv:List R.Sv}{u:Nat}(h:u<dead.length):(Et dead sv n)[u]?=some (if u<n/\dead[u]<0 then ((((sv[u]?).map (·.log)).getD []).length:Int) else dead[u]):=by
 unfold Et;rw[List.getElem?_map,List.getElem?_range h];simp only[Option.map_some];rw[List.getElem?_eq_getElem h];rfl
theorem Qv(dead:List Int)(sv:List R.Sv):Et dead sv 0=dead:=by
 refine List.ext_getElem? (fun u=>?_);by_cases h:u<dead.length
 ·rw[Ed h,if_neg (by omega),List.getElem?_eq_getElem h]
 ·rw[List.getElem?_eq_none (by rw[Cx];omega),List.getElem?_eq_none (by omega)]
theorem SZ(dead:List Int)(sv:List R.Sv):Et dead sv dead.length=F8 dead sv:=by
 refine List.ext_getElem? (fun u=>?_);by_cases h:u<dead.length
 ·rw[Ed h];unfold F8;rw[List.getElem?_map,List.getElem?_range h];simp only[Option.map_some];rw[List.getElem?_eq_getElem h];simp only[Option.getD_some];by_cases hd:dead[u]<0
  ·rw[if_pos ⟨h,hd⟩,if_neg (by omega)]
  ·rw[if_neg (by omega),if_pos (by omega)]
 ·rw[List.getElem?_eq_none (by rw[Cx];omega),List.getElem?_eq_none (by simp[F8];omega)]
theorem Qu{dead:List Int}{sv:List R.Sv}(h:n<dead.length)(hd:¬dead[n]<0):Et dead sv (n+1)=Et dead sv n:=by
 refine List.ext_getElem? (fun u=>?_);by_cases hu:u<dead.length
 ·rw[Ed hu,Ed hu];by_cases e:u=n
  ·subst e;rw[if_neg (by omega),if_neg (by omega)]
  ·by_cases hq:u<n/\dead[u]<0
   ·rw[if_pos (by omega),if_pos hq]
   ·rw[if_neg (by omega),if_neg hq]
 ·rw[List.getElem?_eq_none (by rw[Cx];omega),List.getElem?_eq_none (by rw[Cx];omega)]
theorem S7{dead:List Int}{sv:List R.Sv}{s:R.Sv}(h:n<dead.length)(hs:sv[n]?=some s)(hd:dead[n]<0):Et dead sv (n+1)=(Et dead sv n).set n (s.log.length:Int):=by
 refine List.ext_getElem? (fun u=>?_);rw[List.getElem?_set,Cx];by_cases hu:u<dead.length
 ·rw[Ed hu,Ed hu];by_cases e:n=u
  ·subst e;rw[if_pos rfl,if_pos h,if_pos (by omega),hs];rfl
  ·rw[if_neg e];by_cases hq:u<n/\dead[u]<0
   ·rw[if_pos (by omega),if_pos hq]
   ·rw[if_neg (by omega),if_neg hq]
 ·rw[List.getElem?_eq_none (by rw[Cx];omega),List.getElem?_eq_none (by rw[Cx];omega),if_neg (by omega)]
theorem Pg(w0:World)(q:RP)(p:Pl)(c:R.Cf)(s:RS)(G:R.Wd)(w:World)(h:Au w0 q p c s G w)(ay:s.nu=(G.Ab.length:Int))(ax:s.dead.length=G.Ab.length)(aw:G.Ab.length<=255)(h0:0<G.Ab.length):
  Calls Tryz.prog 33 #[ptr q.r,.int .i64 (-1)] w fun e w'=>e=.returned (.bool true)/\Au w0 q p c {s with dead:=F8 s.dead G.Ab} (R.Bb G (-1)).2 w':=by
 obtain⟨G',al⟩:∃G',(R.Bb G (-1)).2=G':=⟨_,rfl⟩;rw[al];have ah:Hid (∀W S,Au w0 q p c S G W->Calls Tryz.prog 60 #[ptr q.x,.int .i64 (-1)] W fun e w'=>e=.returned (.int .i64 0)/\Au w0 q p c S G' w'):=fun W S hW=>by
  have:=hW.SK (-1);have e1:(R.Bb G (-1)).1=0:=by unfold R.Bb;rw[if_pos rfl]
  rw[e1,al]at this;exact this
 clear al;have ai:Hid (∀W S (u:Nat),Au w0 q p c S G W->u<G.Ab.length->Calls Tryz.prog 9 #[ptr q.x,.int .i64 ((u:Int)+1)] W fun e w'=>e=.returned (.tuple #[.int .i64 ((((G.Ab[u]?).map (·.log)).getD []).length:Int),.int .i64 0])/\Below W.heap.size W w'):=fun W S u hW hu=>by
  have au:G.Ab[u]?=some G.Ab[u]:=List.getElem?_eq_getElem hu;rw[au];exact hW.aa0 au
 have HH:=Ac h;generalize hm:G.Ab.length=m at *;have an:=h.cells.JB;clear h;go_enter Tryz.func33,Tryz.ntmps33;go_wp2;go_loopw [5] (fun kv wr=>∃k:Nat,k<=m/\kv=.int .i64 ((k:Int)+1)/\Au w0 q p c {s with dead:=Et s.dead G.Ab k} G wr) (fun kv _=>m+1-(intOf kv).toNat)
 case atStart=>exact⟨0,by omega,rfl,by rw[Qv];exact Aa HH⟩
 case round=>
  obtain⟨k,hk,rfl,hB⟩:=hrel;have ac:=hB.cells;have a0:=ac.a0;have JB:=ac.JB;have NP:=ac.NP;have EA:=ac.EA;simp only[ay]at JB;by_cases aC:k<m
  ·have am:k<s.dead.length:=by omega
   obtain⟨g,cap,hD⟩:=hB.dAt (by simp only[Cx];omega);have aa:=Ed (sv:=G.Ab) (n:=k) am;rw[if_neg (by omega)]at aa;have d1:=hD.get k _ aa;have dz:=hD.open' k;have aA:=hD.lt;have ab:=hD.eq;simp only at ab NP;rw[ab]at NP;simp only[Cx]at NP;have q1:(k:Int)+1<=(m:Int):=by omega
   have aD:IntKind.i64.wrap ((k:Int)+1-1)=(k:Int):=by rw[IntKind.wrap_i64];omega
   have aB:(k:Int)<(s.dead.length:Int):=by omega
   by_cases hd:s.dead[k]<0
   ·have HL:=Ac ((Aa ai) wr _ k hB (by omega));obtain⟨n,hn⟩:∃n:Int,((((G.Ab[k]?).map (·.log)).getD []).length:Int)=n:=⟨_,rfl⟩;rw[hn]at HL;have ap:k<G.Ab.length:=by omega
    have ad:=S7 (sv:=G.Ab) (s:=G.Ab[k]) am (List.getElem?_eq_getElem ap) hd;have aq:(G.Ab[k].log.length:Int)=n:=by
     rw[<-hn,List.getElem?_eq_getElem ap];rfl
    rw[aq]at ad;have HP:Hid (∀W,Below wr.heap.size wr W->Au w0 q p c {s with dead:=Et s.dead G.Ab (k+1)} G (W.setCell ⟨g,k,none⟩ (.int .i64 n))/\W.cell? ⟨q.r,11,none⟩=some (.slice (some ⟨g,0,none⟩) s.dead.length cap)/\W.cell? ⟨g,k,none⟩=some (.int .i64 s.dead[k])/\W.frozen? ⟨g,k,none⟩=false/\g<W.heap.size/\q.r<W.heap.size):=fun W hW=>by
     have hb:=hB.still hW;have hc:=hb.cells;have ak:=hc.NP;obtain⟨g',av,aj⟩:=hb.dAt (by simp only[Cx];omega);have e:=aj.eq;simp only at e ak;rw[ab]at e;simp only[Value.slice.injEq,Option.some.injEq,Addr.mk.injEq]at e;obtain⟨⟨rfl,_⟩,_,rfl⟩:=e;rw[ab]at ak;simp only[Cx]at ak;refine⟨?_,ak,aj.get k _ aa,aj.open' k,aj.lt,hc.EA⟩;rw[ad];exact hb.ad5 ab k n
    generalize s.dead[k]=n0 at *;clear hB ac hD aa ab ad hn aq HH ah ai an;go_wp2_with (go_at_call 9;refine(Aa HL).mono ?_;rintro e w1 ⟨rfl,ag⟩;have hh:=(Aa HP) w1 ag;obtain⟨ao,az,cg,cz,cl,cr⟩:=hh;have ae:=Ac ao;clear ao ag)
    go_roundw
    case rel=>exact⟨k+1,by omega,by go_num,Aa ae⟩
    case measure=>simp[intOf];omega
   ·have ar:=Qu (sv:=G.Ab) am hd;have ae:Hid (Au w0 q p c {s with dead:=Et s.dead G.Ab (k+1)} G wr):=by rw[ar];exact hB
    generalize s.dead[k]=n0 at *;clear hB ac hD aa ab ar HH ah ai an;go_wp2;go_roundw
    case rel=>exact⟨k+1,by omega,by go_num,Aa ae⟩
    case measure=>simp[intOf];omega
  ·obtain rfl:k=m:=by omega
   have q1:¬(k:Int)+1<=(k:Int):=by omega
   have HC:=Ac ((Aa ah) wr _ hB);have af:Et s.dead G.Ab k=F8 s.dead G.Ab:=by rw[<-ax];exact SZ _ _
   rw[af]at HC;clear hB ac HH ah ai an af;go_wp2_with (go_at_call 60;refine(Aa HC).mono ?_;rintro e w1 ⟨rfl,ag⟩;have ae:=Ac ag;clear ag)
   go_returns;exact⟨rfl,Aa ae⟩
theorem Pf(w0:World)(q:RP)(p:Pl)(c:R.Cf)(s:RS)(G:R.Wd)(w:World)(h:Au w0 q p c s G w)(hi:G.Ad[i]?=some cl)(ay:i<3)(aB:s.Ae.length=G.Ad.length)(aw:s.Ae[i]?=some cl.Ae)(aE:s.seq.length=3*G.Ad.length)(aA:0<=cl.Ae/\cl.Ae<255)(ax:s.uid.length=3)(ap:∀k,k<3->∃u,s.uid[k]?=some u/\AF G (A6 k)=some u/\kindOf G u=(k:Int)):
  Calls Tryz.prog 33 #[ptr q.r,.int .i64 (i:Int)] w fun e w'=>e=.returned (.bool true)/\Au w0 q p c {s with Ae:=s.Ae.set i (cl.Ae+1),seq:=LD s.seq i 3} (BQ (R.Bb G (i:Int)).2 i s.uid 3) w':=by
 have av:=(List.getElem?_eq_some_iff.1 hi).1;have ad:=Qr hi (by omega);have af:Hid (Calls Tryz.prog 60 #[ptr q.x,.int .i64 (i:Int)] w fun e w'=>e=.returned (.int .i64 0)/\Au w0 q p c s (R.Bb G (i:Int)).2 w'):=by
  have:=h.SK (i:Int);have e1:(R.Bb G (i:Int)).1=0:=by rw[ad]
  rw[e1]at this;exact this
 have au:∃G',(R.Bb G (i:Int)).2=G'/\i<G'.Ad.length/\∀k,k<3->∃u,s.uid[k]?=some u/\AF G' (A6 k)=some u/\kindOf G' u=(k:Int):=by
  refine⟨_,rfl,?_,?_⟩
  ·rw[ad];simpa using av
  ·rw[ad];exact ap
 obtain⟨G',al,am,an⟩:=au;rw[al]at af ⊢;obtain⟨G2,ah⟩:∃G2,BQ G' i s.uid 3=G2:=⟨_,rfl⟩;rw[ah];have aj:Hid (∀W S,Au w0 q p c S G' W->S.uid=s.uid->Calls Tryz.prog 26 #[ptr q.r,.int .i64 (i:Int)] W fun e w'=>e=.returned (.bool true)/\Au w0 q p c S G2 w'):=fun W S hW hS=>by
  have:=Mh w0 q p c S G' W i hW am (by rw[hS];exact ax) (by rw[hS];exact an);rw[hS,ah]at this;exact this
 clear ah;have a0:=h.cells.a0;have EA:=h.cells.EA;have ao:(i:Int)<(s.Ae.length:Int):=by omega
 have aD:¬((i:Int)==-1)=true:=by simp
 have aF:IntKind.i64.wrap (cl.Ae+1)=cl.Ae+1:=by rw[IntKind.wrap_i64];omega
 have aG:IntKind.i64.wrap (3*(i:Int))=3*(i:Int):=by rw[IntKind.wrap_i64];omega
 have ar:(cl.Ae==255)=false:=by simp;omega
 have ak:=Ac aw;generalize cl.Ae=lf at *;clear h hi ad al an ap am;go_enter Tryz.func33,Tryz.ntmps33;go_wp2_with (go_at_call 60;refine(Aa af).mono ?_;rintro e w1 ⟨rfl,ag⟩;have ab:=ag.cells;have b6:=ab.a6;have bl:=ab.lf i _ (Aa ak);have bz:=ab.zl i;have br:=ab.EA;have ai:=Ac (ag.ad6 i (lf+1));clear ab ag)
 generalize w1.setCell ⟨q.lf,i,none⟩ (.int .i64 (lf+1))=W1 at *;clear a0 EA b6 bl bz br af ak;go_loopw [10] (fun kv wr=>∃k:Nat,k<=3/\kv=.int .i64 (k:Int)/\Au w0 q p c {s with Ae:=s.Ae.set i (lf+1),seq:=LD s.seq i k} G' wr) (fun kv _=>3-(intOf kv).toNat)
 case atStart=>exact⟨0,by omega,rfl,Aa ai⟩
 case round=>
  obtain⟨k,hk,rfl,hB⟩:=hrel;have aa:=hB.cells;have a7:=aa.a7;have EA:=aa.EA;simp only[Ir]at a7;by_cases aC:k<3
  ·have hx:3*i+k<s.seq.length:=by omega
   have ac:∃v,(LD s.seq i k)[3*i+k]?=some v:=⟨_,List.getElem?_eq_getElem (by rw[Ir];exact hx)⟩;obtain⟨v,hv⟩:=ac;have d1:=aa.sq (3*i+k) v hv;have dz:=aa.zs (3*i+k);have aH:IntKind.i64.wrap (3*(i:Int)+(k:Int))=((3*i+k:Nat):Int):=by rw[IntKind.wrap_i64];omega
   have az:((3*i+k:Nat):Int)<(s.seq.length:Int):=by omega
   have q1:(k:Int)<3:=by omega
   have ae:=Ac (hB.acA (3*i+k) 0);generalize hz:3*i+k=z at *;clear hB aa hv hx;go_wp2;go_roundw
   case rel=>
    refine⟨k+1,by omega,by go_num,?_⟩;have:=Aa ae;subst hz;exact this
   case measure=>simp[intOf];omega
  ·obtain rfl:k=3:=by omega
   have HC:=Ac ((Aa aj) wr _ hB rfl);clear hB aa aj ai;go_wp2_with (go_at_call 26;refine(Aa HC).mono ?_;rintro e w2 ⟨rfl,aq⟩;have ae:=Ac aq;clear aq)
   go_returns;exact⟨rfl,Aa ae⟩
theorem Ph(w0:World)(q:RP)(p:Pl)(c:R.Cf)(s:RS)(G:R.Wd)(w:World)(h:Au w0 q p c s G w)(hi:G.Ad[i]?=some cl)(aj:s.Ae.length=G.Ad.length)(ac:s.Ae[i]?=some cl.Ae)(hl:cl.Ae=255):
  Calls Tryz.prog 33 #[ptr q.r,.int .i64 (i:Int)] w fun e w'=>e=.returned (.bool true)/\Au w0 q p c s G w':=by
 have ai:=(List.getElem?_eq_some_iff.1 hi).1;have ad:=Qs hi hl;have ag:Hid (Calls Tryz.prog 60 #[ptr q.x,.int .i64 (i:Int)] w fun e w'=>e=.returned (.int .i64 11)/\Au w0 q p c s G w'):=by
  have:=h.SK (i:Int);rw[ad]at this;exact this
 rw[hl]at ac;have a0:=h.cells.a0;have EA:=h.cells.EA;have ae:(i:Int)<(s.Ae.length:Int):=by omega
 have ak:¬((i:Int)==-1)=true:=by simp
 have ah:=Ac ac;clear h hi ad ac;go_enter Tryz.func33,Tryz.ntmps33;go_wp2_with (go_at_call 60;refine(Aa ag).mono ?_;rintro e w1 ⟨rfl,ab⟩;have aa:=ab.cells;have b6:=aa.a6;have bl:=aa.lf i _ (Aa ah);have br:=aa.EA;have af:=Ac ab;clear aa ab)
 go_returns;exact⟨rfl,Aa af⟩
theorem Kp(G:R.Wd)(i:Nat)(u:List Int):∀k,(BQ G i u k).Ak=G.Ak
 |0=>rfl
 |k+1=>Kp G i u k
theorem K4(G:R.Wd)(u:List Int):∀i,(CK G u i).Ak=G.Ak
 |0=>rfl
 |i+1=>(Kp _ i u 3).trans (K4 G u i)
theorem GB.ME{q:RP}(h:GB w0 q p c s M G w):Calls Tryz.prog 33 #[ptr q.r,.int .i64 (-1)] w fun e w'=>e=.returned (.bool true)/\Ge w0 q p c w':=by
 have h2:=h.made.2.1;have aa:=h.agree.dl;refine(Pg w0 q p c s G w h.both h.agree.nu aa h.agree.inv.wf.sv (by omega)).mono ?_;rintro e w' ⟨rfl,hB⟩;exact⟨rfl,_,M,_,hB,h.agree.ME,R.Lo.Gk G (-1) h.long,h.did.elim fun e he=>⟨e,C9.Gk G (-1) e he⟩⟩
theorem GB.MD{q:RP}(h:GB w0 q p c s M G w)(hi:(i:Int)<c.Ad):Calls Tryz.prog 33 #[ptr q.r,.int .i64 (i:Int)] w fun e w'=>e=.returned (.bool true)/\Ge w0 q p c w':=by
 have aa:=h.agree.inv.wf.Gt;have ad:=h.agree.cf;have af:=h.agree.inv.wf.cf;unfold R.BD at af;have ae:i<G.Ad.length:=by rw[ad]at aa;omega
 have hg:=List.getElem?_eq_getElem ae;have ag:=(h.agree.inv.wf.cl i _ hg).Ae;have ac:s.Ae.length=G.Ad.length:=by rw[h.agree.Ae];simp
 have ab:s.Ae[i]?=some G.Ad[i].Ae:=by rw[h.agree.Ae];simp[hg]
 by_cases h5:G.Ad[i].Ae=255
 ·refine(Ph w0 q p c s G w h.both hg ac ab h5).mono ?_;rintro e w' ⟨rfl,hB⟩;exact⟨rfl,s,M,G,hB,h.agree,h.long,h.did⟩
 ·refine(Pf w0 q p c s G w h.both hg (by omega) ac ab h.agree.sql (by omega) h.agree.ul h.agree.uid).mono ?_;rintro e w' ⟨rfl,hB⟩;refine⟨rfl,_,M,_,hB,h.agree.MD hg h5,?_,?_⟩
  ·exact R.Lo.same (Kp _ _ _ 3) (R.Lo.Gk G i h.long)
  ·rw[Mi];exact h.did.elim fun e he=>⟨e,C9.Gk G i e he⟩
theorem Au.conf{q:RP}(h:Au w0 q p c s G w):w.cell? ⟨q.r,1,none⟩=some (.int .i64 c.Ad)/\w.cell? ⟨q.r,2,none⟩=some (.int .i64 c.lines)/\w.cell? ⟨q.r,3,none⟩=some (.int .i64 c.Ay):=by
 obtain⟨t,E,F,hr,_⟩:=h.run;exact⟨cell_of hr.cell 1 _ rfl,cell_of hr.cell 2 _ rfl,cell_of hr.cell 3 _ rfl⟩
theorem adx:∀args w,(callFunc 28 args).run Tryz.prog w=.ok (.enter 28 args) w:=fun _ _=>rfl
theorem ady:∀args w,(callFunc 33 args).run Tryz.prog w=.ok (.enter 33 args) w:=fun _ _=>rfl
theorem aeg{d:Int}(h:In64 d):In64 (d.tdiv 3):=by
 obtain⟨h1,h2⟩:=h;by_cases h0:0<=d
 ·rw[Int.tdiv_eq_ediv_of_nonneg h0];constructor<;>omega
 ·have e:d.tdiv 3=-((-d) / 3):=by
   rw[<-Int.tdiv_eq_ediv_of_nonneg (show 0<=-d by omega),Int.neg_tdiv,Int.neg_neg]
  rw[e];constructor<;>omega
theorem Wh(w0:World)(q:RP)(p:Pl)(c:R.Cf)(s:RS)(M:R.Bk)(G:R.Wd)(w:World)(h:GB w0 q p c s M G w)(k a b d n:Int)(ha:In64 a)(hb:In64 b)(hd:In64 d)(hn:n=0\/n=1\/n=2\/n=3\/n=4\/n=5\/n=6\/n=7\/n=8\/n=9\/n=10\/n=11)(ag:Hid (∀w,Calls Tryz.prog 27 #[.int .i64 k,.int .i64 12] w fun e w'=>e=.returned (.int .i64 n)/\w'=w)):
  Calls Tryz.prog 18 #[ptr q.r,.agg #[.int .i64 k,.int .i64 a,.int .i64 b,.int .i64 d]] w fun e w'=>e=.returned (.bool true)/\Ge w0 q p c w':=by
 obtain⟨au,ah⟩:=Gj w k a b d;obtain⟨W1,ar⟩:∃W1,w.alloc (.cells #[.int .i64 k,.int .i64 a,.int .i64 b,.int .i64 d] 59)=W1:=⟨_,rfl⟩;rw[ar]at au ah;have aO:=Ac ar;have aB:=h.agree.inv.wf.cf;rw[h.agree.cf]at aB;unfold R.BD at aB;have hK:=h.still au;obtain⟨ci,aT,HC⟩:=A4 a c.Ad.toNat ha (by omega) (by omega);obtain⟨li,aW,HL⟩:=A4 b c.lines.toNat hb (by omega) (by omega);rw[show ((c.Ad.toNat:Nat):Int)=c.Ad by omega]at HC;rw[show ((c.lines.toNat:Nat):Int)=c.lines by omega]at HL;have aJ:=Ac HC;have aM:=Ac HL;have ak:(ci:Int)<c.Ad:=by omega
 have al:(li:Int)<c.lines:=by omega
 have aa:=hK.still (w':=W1.drew.drew) (Below.refl _ _).drew.drew;have af:W1.drew.drew.heap[w.heap.size]?=some (.cells #[.int .i64 k,.int .i64 a,.int .i64 b,.int .i64 d] 59 (0,0)):=ah;obtain⟨D1,ap⟩:∃D1,W1.drew=D1:=⟨_,rfl⟩;obtain⟨D2,aq⟩:∃D2,D1.drew=D2:=⟨_,rfl⟩;have am:=hK.still (w':=W1.drew) (Below.refl _ _).drew;have ad:W1.drew.heap[w.heap.size]?=some (.cells #[.int .i64 k,.int .i64 a,.int .i64 b,.int .i64 d] 59 (0,0)):=ah;rw[ap]at am aa af ad;rw[aq]at aa af;have aK:=Ac ap;have aL:=Ac aq;have a0:=hK.both.cells.a0;have lr:=hK.both.cells.EA;have aY:=h.both.cells.EA;have f0:=h.both.conf.1;have f1:=hK.both.conf.1;have c1:W1.cell? ⟨w.heap.size,1,none⟩=some (.int .i64 a):=cell_of ah 1 _ rfl;have lx:=lt_of_block ah;have aZ:=am.both.cells.EA;have f2:=am.both.conf.2.1;have c2:D1.cell? ⟨w.heap.size,2,none⟩=some (.int .i64 b):=cell_of ad 2 _ rfl;have b2:=lt_of_block ad;have aS:=aa.both.cells.a0;have b1:=aa.both.cells.EA;have b3:=lt_of_block af;have e0:D2.cell? ⟨w.heap.size,0,none⟩=some (.int .i64 k):=cell_of af 0 _ rfl;have e1:D2.cell? ⟨w.heap.size,1,none⟩=some (.int .i64 a):=cell_of af 1 _ rfl;have e2:D2.cell? ⟨w.heap.size,2,none⟩=some (.int .i64 b):=cell_of af 2 _ rfl;have e3:D2.cell? ⟨w.heap.size,3,none⟩=some (.int .i64 d):=cell_of af 3 _ rfl;have g1:=aa.both.conf.1;have g3:=aa.both.conf.2.2;have ab:=Ac aa;have HN:=Ac hn;have HD:=Ac hd;clear h hK am HC HL au ah ad af ar ap aq aa hd hn;go_enter Tryz.func18,Tryz.ntmps18;go_wp2;rw[Aa aO];go_region_law (refine Av rfl 27 #[.tmp 13,.tmp 18] #[3,3] rfl K8 #[.int .i64 a,.int .i64 c.Ad] rfl _ ((Aa aJ) _) ?_;rintro e w2 ⟨rfl,ax⟩;rw[ax];clear ax;refine⟨_,rfl,?_⟩)
 all_goals
  rw[Aa aK];go_wp2;go_region_law (refine Av rfl 27 #[.tmp 21,.tmp 26] #[3,3] rfl K8 #[.int .i64 b,.int .i64 c.lines] rfl _ ((Aa aM) _) ?_;rintro e w3 ⟨rfl,aF⟩;rw[aF];clear aF;refine⟨_,rfl,?_⟩)
  all_goals
   rw[Aa aL];go_wp2_with fail
   refine((Aa ag) _).mono ?_;rintro e w4 ⟨rfl,aG⟩;rw[aG];clear aG w4;rcases Aa HN with rfl|rfl|rfl|rfl|rfl|rfl|rfl|rfl|rfl|rfl|rfl|rfl
   ·have aa:=Aa ab;have hd:=Aa HD;obtain⟨kd,av,HP⟩:=A4 d 3 hd (by omega) (by omega);have ai:=Ac HP;have aC:In64 (d.tdiv 3):=aeg hd;have aU:IntKind.i64.wrap (d.tdiv 3)=d.tdiv 3:=by rw[IntKind.wrap_i64];obtain⟨h1,h2⟩:=aC;omega
    have HT:Hid (Calls Tryz.prog 28 #[ptr q.r,.int .i64 (ci:Int),.int .i64 (li:Int),.int .i64 (kd:Int),.int .i64 a,.int .i64 (d.tdiv 3)] D2.drew fun e w'=>e=.returned (.bool true)/\Ge w0 q p c w'):=(aa.still (Below.refl _ _).drew).call ak al av a (d.tdiv 3) ha aC;clear aa;go_wp2_with fail
    go_region_law (first
     |(refine Av rfl 27 #[.tmp 37,.const (.int .i64 3)] #[3,3] rfl K8 #[.int .i64 d,.int .i64 3] rfl _ ((Aa ai) _) ?_;rintro e w5 ⟨rfl,ae⟩;rw[ae];clear ae;refine⟨_,rfl,?_⟩)
     |(refine Av rfl 28 #[.tmp 33,.tmp 34,.tmp 35,.tmp 38,.tmp 40,.tmp 43] #[25,3,3,3,3,3] rfl adx #[ptr q.r,.int .i64 (ci:Int),.int .i64 (li:Int),.int .i64 (kd:Int),.int .i64 a,.int .i64 (d.tdiv 3)] rfl _ (Aa HT) ?_;rintro e w6 ⟨rfl,hO⟩;have HO:=Ac hO;clear hO;refine⟨_,rfl,?_⟩))
    all_goals
     go_wp2;go_returns;exact⟨rfl,Aa HO⟩
   ·have aa:=Aa ab;have HT:=Ac (PI w0 q p c s M G D2 aa k a b d ha ag);clear aa;go_wp2_with fail
    refine(Aa HT).mono ?_;rintro e w5 ⟨rfl,hO⟩;have HO:=Ac hO;clear hO;go_wp2_with fail
    go_returns;exact⟨rfl,Aa HO⟩
   ·have aa:=Aa ab;have HT:=Ac (PK w0 q p c s M G D2 aa k a b d ha ag);clear aa;go_wp2_with fail
    refine(Aa HT).mono ?_;rintro e w5 ⟨rfl,hO⟩;have HO:=Ac hO;clear hO;go_wp2_with fail
    go_returns;exact⟨rfl,Aa HO⟩
   ·have aa:=Aa ab;have HT:=Ac (YN w0 q p c s M G D2 aa k a b d ha ag);clear aa;go_wp2_with fail
    refine(Aa HT).mono ?_;rintro e w5 ⟨rfl,hO⟩;have HO:=Ac hO;clear hO;go_wp2_with fail
    go_returns;exact⟨rfl,Aa HO⟩
   ·have aa:=Aa ab;have HT:=Ac (YL w0 q p c s M G D2 aa k a b d ha ag);clear aa;go_wp2_with fail
    refine(Aa HT).mono ?_;rintro e w5 ⟨rfl,hO⟩;have HO:=Ac hO;clear hO;go_wp2_with fail
    go_returns;exact⟨rfl,Aa HO⟩
   ·have aa:=Aa ab;have hd:=Aa HD;have HT:=Ac (YK w0 q p c s M G D2 aa k a b d ha hb hd ag);clear aa;go_wp2_with fail
    refine(Aa HT).mono ?_;rintro e w5 ⟨rfl,hO⟩;have HO:=Ac hO;clear hO;go_wp2_with fail
    go_returns;exact⟨rfl,Aa HO⟩
   ·have aa:=Aa ab;have HT:=Ac aa.tick;clear aa;go_wp2_with fail
    refine(Aa HT).mono ?_;rintro e w5 ⟨rfl,hO⟩;have HO:=Ac hO;clear hO;go_wp2_with fail
    go_returns;exact⟨rfl,Aa HO⟩
   ·have aa:=Aa ab;have HT:=Ac aa.serve;clear aa;go_wp2_with fail
    refine(Aa HT).mono ?_;rintro e w5 ⟨⟨n,rfl,hn⟩,hO⟩;have HO:=Ac hO;clear hO;rcases hn with rfl|rfl;all_goals
     go_wp2_with fail
     go_returns;exact⟨rfl,Aa HO⟩
   ·have aa:=Aa ab;obtain⟨ho,aV,HP⟩:=A4 a (c.Ad.toNat+1) ha (by omega) (by omega);rw[show ((c.Ad.toNat+1:Nat):Int)=c.Ad+1 by omega]at HP;have ai:=Ac HP;have aX:IntKind.i64.wrap (c.Ad+1)=c.Ad+1:=by rw[IntKind.wrap_i64];omega
    have ax:IntKind.i64.wrap ((ho:Int)-1)=(ho:Int)-1:=by rw[IntKind.wrap_i64];omega
    have HT:Hid (Calls Tryz.prog 33 #[ptr q.r,.int .i64 ((ho:Int)-1)] D2.drew fun e w'=>e=.returned (.bool true)/\Ge w0 q p c w'):=by
     have aE:=aa.still (Below.refl D2.heap.size D2).drew;by_cases h0:ho=0
     ·subst h0;exact aE.ME
     ·obtain⟨n,rfl⟩:∃n,ho=n+1:=⟨ho-1,by omega⟩;rw[show (((n+1:Nat):Int)-1)=(n:Int) by omega];exact aE.MD (by omega)
    clear aa;go_wp2_with fail
    go_region_law (first
     |(refine Av rfl 27 #[.tmp 69,.tmp 75] #[3,3] rfl K8 #[.int .i64 a,.int .i64 (c.Ad+1)] rfl _ ((Aa ai) _) ?_;rintro e w5 ⟨rfl,ae⟩;rw[ae];clear ae;refine⟨_,rfl,?_⟩)
     |(refine Av rfl 33 #[.tmp 67,.tmp 77] #[25,3] rfl ady #[ptr q.r,.int .i64 ((ho:Int)-1)] rfl _ (Aa HT) ?_;rintro e w6 ⟨rfl,hO⟩;have HO:=Ac hO;clear hO;refine⟨_,rfl,?_⟩))
    all_goals
     go_wp2;go_returns;exact⟨rfl,Aa HO⟩
   ·have aa:=Aa ab;obtain⟨kd,av,HP⟩:=A4 a 3 ha (by omega) (by omega);have ai:=Ac HP;have HE:=Ac (aa.both.aaJ aa.agree av);have az:=Ac (And.intro aa.long aa.did);have aN:Hid (∀(s':RS) (G':R.Wd),Fit c s' M G'->C9 G.Ab G'.Ab->G'.Ak=G.Ak->(G'.Ad.length:Int)=c.Ad/\(∀(i:Nat) (W:World),(i:Int)<c.Ad->Au w0 q p c s' (CK G' s'.uid i) W->Calls Tryz.prog 26 #[ptr q.r,.int .i64 (i:Int)] W fun e w'=>e=.returned (.bool true)/\Au w0 q p c s' (CK G' s'.uid (i+1)) w')/\∀(i:Nat) (W:World),(i:Int)=c.Ad->Au w0 q p c s' (CK G' s'.uid i) W->Ge w0 q p c W):=fun s' G' hF hS an=>by
     have aw:=hF.inv.wf.Gt;rw[hF.cf]at aw;refine⟨aw,fun i W hi ac=>?_,fun i W hi ac=>?_⟩
     ·exact Mh w0 q p c s' (CK G' s'.uid i) W i ac (by rw[FI];omega) hF.ul (fun k hk=>by
       obtain⟨u,u1,u2,u3⟩:=hF.uid k hk;exact⟨u,u1,by rw[Jc];exact u2,by rw[JK];exact u3⟩)
     ·have aQ:i=G'.Ad.length:=by omega
      subst aQ;refine⟨s',M,_,ac,hF.all,R.Lo.same (G:=G) ((K4 _ _ _).trans an) (Aa az).1,?_⟩;rw[Mg];exact(Aa az).2.elim fun e he=>⟨e,hS e he⟩
    clear aa;go_wp2_with fail
    refine((Aa ai) _).mono ?_;rintro e w5 ⟨rfl,ae⟩;rw[ae];clear ae w5;go_wp2_with fail
    refine(Aa HE).mono ?_;rintro e w6 ⟨rfl,s',G',hB,hF,hS,an⟩;obtain⟨aw,ay,aA⟩:=(Aa aN) s' G' hF hS an;have aI:=Ac ay;have HZ:=Ac aA;have aH:=Ac hB;clear ay aA hB hF hS an;go_wp2_with fail
    go_loopw [8,9] (fun ov iv wr=>∃i:Nat,(i:Int)<=c.Ad/\ov=.bool true/\iv=.int .i64 (i:Int)/\Au w0 q p c s' (CK G' s'.uid i) wr) (fun _ iv _=>3-(intOf iv).toNat)
    case atStart=>exact⟨0,by omega,rfl,rfl,Aa aH⟩
    case round=>
     obtain⟨i,hi,rfl,rfl,ac⟩:=hrel;have r1:=ac.conf.1;have rl:=ac.cells.EA;by_cases aD:(i:Int)<c.Ad
     ·have HC:=Ac ((Aa aI) i wr aD ac);have aR:IntKind.i64.wrap ((i:Int)+1)=(i:Int)+1:=by rw[IntKind.wrap_i64];omega
      clear ac;go_wp2_with fail
      refine(Aa HC).mono ?_;rintro e w7 ⟨rfl,aj⟩;have ao:=Ac aj;clear aj;go_wp2_with fail
      go_roundw
      case rel=>exact⟨i+1,by omega,rfl,by go_num,Aa ao⟩
      case measure=>simp[intOf];omega
     ·have HO:=Ac ((Aa HZ) i wr (by omega) ac);clear ac;go_wp2_with fail
      go_returns;exact⟨rfl,Aa HO⟩
   ·have aa:=Aa ab;have HT:Hid (Calls Tryz.prog 8 #[ptr q.r,.int .i64 (ci:Int),.int .i64 (li:Int)] D2 fun e w'=>e=.returned (.bool true)/\Ge w0 q p c w'):=by
     refine(aa.looked ak al).mono ?_;rintro e w' ⟨r1,r2,_⟩;exact⟨r1,s,M,G,r2⟩
    clear aa;go_wp2_with fail
    refine(Aa HT).mono ?_;rintro e w5 ⟨rfl,hO⟩;have HO:=Ac hO;clear hO;go_wp2_with fail
    go_returns;exact⟨rfl,Aa HO⟩
   ·have aa:=Aa ab;have HX:Hid (Ge w0 q p c D2):=⟨s,M,G,aa⟩;clear aa;go_wp2_with fail
    go_loopw [11] (fun iv wr=>∃i:Nat,(i:Int)<=c.Ay/\iv=.int .i64 (i:Int)/\Ge w0 q p c wr) (fun iv _=>8-(intOf iv).toNat)
    case atStart=>exact⟨0,by omega,rfl,Aa HX⟩
    case round=>
     obtain⟨i,hi,rfl,aP⟩:=hrel;obtain⟨s1,M1,G1,hO⟩:=aP;have r0:=hO.both.cells.a0;have r3:=hO.both.conf.2.2;have rl:=hO.both.cells.EA;by_cases aD:(i:Int)<c.Ay
     ·have HC:=Ac hO.tick;have aR:IntKind.i64.wrap ((i:Int)+1)=(i:Int)+1:=by rw[IntKind.wrap_i64];omega
      clear hO;go_wp2_with fail
      refine(Aa HC).mono ?_;rintro e w7 ⟨rfl,aj⟩;have ao:=Ac aj;clear aj;go_wp2_with fail
      go_roundw
      case rel=>exact⟨i+1,by omega,by go_num,Aa ao⟩
      case measure=>simp[intOf];omega
     ·have HO:Hid (Ge w0 q p c wr):=⟨s1,M1,G1,hO⟩;clear hO;go_wp2_with fail
      go_returns;exact⟨rfl,Aa HO⟩
theorem YE(w0:World)(q:RP)(p:Pl)(c:R.Cf)(w:World)(h:Ge w0 q p c w)(k a b d:Int)(hk:In64 k)(ha:In64 a)(hb:In64 b)(hd:In64 d):
  Calls Tryz.prog 18 #[ptr q.r,.agg #[.int .i64 k,.int .i64 a,.int .i64 b,.int .i64 d]] w fun e w'=>e=.returned (.bool true)/\Ge w0 q p c w':=by
 obtain⟨s,M,G,hO⟩:=h;obtain⟨n,hn,H⟩:=A4 k 12 hk (by omega) (by omega);exact Wh w0 q p c s M G w hO k a b d n ha hb hd (by omega) (Ac H)
theorem adJ:Fits (Hs 0 0) [(7,e0)]:=⟨by decide +kernel,by decide +kernel,by decide +kernel,by decide⟩
structure Seven(w0:World)(q:RP)(p:Pl)(c:R.Cf)(s:RS)(M:R.Bk)(G:R.Wd)(w:World):Prop where
 both:Au w0 q p c s G w
 agree:Agree c s M G
theorem VT(w0:World)(q:RP)(p:Pl)(c:R.Cf)(hc:R.BD c)(D K:Value)(w:World)(hB:Au w0 q p c ⟨List.replicate c.Ad.toNat 1,List.replicate (3*c.Ad.toNat) 0,EH 3,3,.slice none 0 0,D,K,[],Gl 3,Hm 3⟩ (Dl c c.Ad.toNat) w):
  Calls Tryz.prog 17 #[ptr q.r] w fun e w'=>e=.returned (.bool true)/\Ge w0 q p c w':=by
 have hA:=agree_start hc D K;obtain⟨names,stands,b,ls,rest,hG⟩:=acS hc;have ar:=hc;unfold R.BD at ar;rw[hG]at hB hA;have HC:Hid (Calls Tryz.prog 28 #[ptr q.r,.int .i64 0,.int .i64 0,.int .i64 0,.int .i64 32775,.int .i64 0] w fun e w'=>e=.returned (.bool true)/\∃s M,Seven w0 q p c s M (w7 c.Ad c.lines c.Ay c.tries c.table names stands b ls rest (Ht []) [⟨-1,Bm p7,false⟩] (l7 c.Ay c.tries) [0,0,0] R.Cs []) w'):=by
  refine(hB.adn hA (i:=0) (k:=0) (kd:=0) (cl:=⟨1,b,R.JC :: ls⟩) (l:=R.JC) rfl rfl (by omega) (by simp[R.JC]) (by simp[R.JC]) (a:=32775) (b:=0) (prv:=0) (pr0:=0) ad3 (Or.inr ⟨rfl,rfl⟩) adJ rfl aep (u:=1) rfl).mono ?_;rintro e w' ⟨rfl,s,M,h1,h2⟩;rw[adk]at h1 h2;exact⟨rfl,s,M,h1,h2⟩
 have ag:Hid (∀s M W,Seven w0 q p c s M (w7 c.Ad c.lines c.Ay c.tries c.table names stands b ls rest (Ht []) [⟨-1,Bm p7,false⟩] (l7 c.Ay c.tries) [0,0,0] R.Cs []) W->Calls Tryz.prog 29 #[ptr q.x,.int .i64 0] W fun e w'=>e=.returned (.int .i64 0)/\Seven w0 q p c s M (w7 c.Ad c.lines c.Ay c.tries c.table names stands b ls rest (Ht []) [] (l7 c.Ay c.tries) [1,0,0] n7 [⟨0,0,1,1,1⟩]) w'):=fun s M W h=>by
  have h1:=h.both.MF h.agree.inv h.agree.room 0;have h2:=h.agree.Cr 0;rw[XZ _ _ _ _ _ _ _ _ _ _ (by omega)]at h1 h2;refine h1.mono ?_;rintro e w' ⟨rfl,h3⟩;exact⟨rfl,h3,h2⟩
 have HS:Hid (∀s M W,Seven w0 q p c s M (w7 c.Ad c.lines c.Ay c.tries c.table names stands b ls rest (Ht []) [] (l7 c.Ay c.tries) [1,0,0] n7 [⟨0,0,1,1,1⟩]) W->Calls Tryz.prog 30 #[ptr q.x] W fun e w'=>e=.returned (.int .i64 0)/\Seven w0 q p c s M (w7 c.Ad c.lines c.Ay c.tries c.table names stands b ls rest (Ht [e7]) [⟨0,Bm r7,false⟩] (l7 c.Ay c.tries) [1,0,0] ⟨1,1,[0,0,0,7],1,3,[0,7],0,false,c.Ay,c.tries⟩ []) w'):=fun s M W h=>by
  have h1:=h.both.ZH h.agree.inv;have h2:=h.agree.serve;rw[acG]at h1 h2;refine h1.mono ?_;rintro e w' ⟨rfl,h3⟩;exact⟨rfl,h3,h2⟩
 have ah:Hid (∀s M W,Seven w0 q p c s M (w7 c.Ad c.lines c.Ay c.tries c.table names stands b ls rest (Ht [e7]) [⟨0,Bm r7,false⟩] (l7 c.Ay c.tries) [1,0,0] ⟨1,1,[0,0,0,7],1,3,[0,7],0,false,c.Ay,c.tries⟩ []) W->Calls Tryz.prog 29 #[ptr q.x,.int .i64 0] W fun e w'=>e=.returned (.int .i64 0)/\Seven w0 q p c s M (w7 c.Ad c.lines c.Ay c.tries c.table names stands b ls rest (Ht [e7]) [] ⟨1,2,[(7,e0)],1,R.txt [99],[0,0,0,7],1,[0,7],1,c.Ay,c.tries⟩ [1,0,0] ⟨1,1,[0,0,0,7],1,3,[0,7],0,false,c.Ay,c.tries⟩ []) w'):=fun s M W h=>by
  have h1:=h.both.MF h.agree.inv h.agree.room 0;have h2:=h.agree.Cr 0;rw[VG]at h1 h2;refine h1.mono ?_;rintro e w' ⟨rfl,h3⟩;exact⟨rfl,h3,h2⟩
 have HT:Hid (∀s M W,Seven w0 q p c s M (w7 c.Ad c.lines c.Ay c.tries c.table names stands b ls rest (Ht [e7]) [] ⟨1,2,[(7,e0)],1,R.txt [99],[0,0,0,7],1,[0,7],1,c.Ay,c.tries⟩ [1,0,0] ⟨1,1,[0,0,0,7],1,3,[0,7],0,false,c.Ay,c.tries⟩ []) W->Ge w0 q p c W/\(Calls Tryz.prog 31 #[ptr q.x] W fun e w'=>e=.returned (.int .i64 0)/\w'=W)/\Calls Tryz.prog 19 #[ptr q.x,.int .i64 0,.int .i64 0] W fun e w'=>(∃g o cap,e=.returned (.tuple #[.agg #[.int .i64 2,.int .i64 1,.slice (some ⟨g,o,none⟩) 1 cap],.int .i64 0])/\w'.cell? ⟨g,o,none⟩=some (.int .i64 7)/\g<w'.heap.size)/\Below W.heap.size W w'):=fun s M W h=>by
  refine⟨⟨s,M,_,h.both,h.agree,(fun f hf=>by cases hf),⟨e7,by simp[A9,w7,Ht]⟩⟩,h.both.VW,?_⟩;refine(h.both.RL h.agree (i:=0) (k:=0) (cl:=⟨1,b,⟨1,2,[(7,e0)],1,R.txt [99],[0,0,0,7],1,[0,7],1,c.Ay,c.tries⟩ :: ls⟩) (l:=⟨1,2,[(7,e0)],1,R.txt [99],[0,0,0,7],1,[0,7],1,c.Ay,c.tries⟩) rfl rfl).mono ?_;rintro e w' ⟨⟨oa,on,oc,rfl,hI⟩,hb⟩;refine⟨?_,hb⟩;obtain⟨au,ap,hV,aq,af⟩:=hI;cases hV;rcases af with af|⟨g,o,rfl,hl,hx⟩
  ·cases af
  ·exact⟨g,o,oc,rfl,(hx 0 _ rfl).1,hl⟩
 have ab:Hid (∀s M G W,Seven w0 q p c s M G W->W.cell? ⟨q.r,0,none⟩=some (ptr q.x)/\q.r<W.heap.size):=fun s M G W h=>⟨h.both.cells.a0,h.both.cells.EA⟩
 clear hB hA hG hc;generalize w7 c.Ad c.lines c.Ay c.tries c.table names stands b ls rest (Ht []) [⟨-1,Bm p7,false⟩] (l7 c.Ay c.tries) [0,0,0] R.Cs []=G1 at *;generalize w7 c.Ad c.lines c.Ay c.tries c.table names stands b ls rest (Ht []) [] (l7 c.Ay c.tries) [1,0,0] n7 [⟨0,0,1,1,1⟩]=G2 at *;generalize w7 c.Ad c.lines c.Ay c.tries c.table names stands b ls rest (Ht [e7]) [⟨0,Bm r7,false⟩] (l7 c.Ay c.tries) [1,0,0] ⟨1,1,[0,0,0,7],1,3,[0,7],0,false,c.Ay,c.tries⟩ []=G3 at *;generalize w7 c.Ad c.lines c.Ay c.tries c.table names stands b ls rest (Ht [e7]) [] ⟨1,2,[(7,e0)],1,R.txt [99],[0,0,0,7],1,[0,7],1,c.Ay,c.tries⟩ [1,0,0] ⟨1,1,[0,0,0,7],1,3,[0,7],0,false,c.Ay,c.tries⟩ []=G4 at *;go_enter Tryz.func17,Tryz.ntmps17;go_wp2_with fail
 refine(Aa HC).mono ?_;rintro e w1 ⟨rfl,s,M,h1⟩;obtain⟨a1,l1⟩:=(Aa ab) s M _ w1 h1;have ai:=Ac ((Aa ag) s M w1 h1);clear h1 HC ag;go_wp2_with fail
 refine(Aa ai).mono ?_;rintro e w2 ⟨rfl,h2⟩;obtain⟨a2,l2⟩:=(Aa ab) s M _ w2 h2;have aj:=Ac ((Aa HS) s M w2 h2);clear h2 ai HS a1 l1;go_wp2_with fail
 refine(Aa aj).mono ?_;rintro e w3 ⟨rfl,h3⟩;obtain⟨a3,l3⟩:=(Aa ab) s M _ w3 h3;have ak:=Ac ((Aa ah) s M w3 h3);clear h3 aj ah a2 l2;go_wp2_with fail
 refine(Aa ak).mono ?_;rintro e w4 ⟨rfl,h4⟩;obtain⟨a4,l4⟩:=(Aa ab) s M _ w4 h4;have al:=Ac ((Aa HT) s M w4 h4).2.2;have H4:=Ac h4;clear h4 ak a3 l3;go_wp2_with fail
 refine(Aa al).mono ?_;rintro e w5 ⟨⟨g,o,cap,rfl,hg,am⟩,ad⟩;obtain⟨W6,ac⟩:∃W6,w5.alloc (.cells #[.int .i64 2,.int .i64 1,.slice (some ⟨g,o,none⟩) 1 cap] 64)=W6:=⟨_,rfl⟩;have ae:Below w5.heap.size w5 W6:=by rw[<-ac];exact(Below.refl _ _).alloc (Nat.le_refl _) _
 have h6:Seven w0 q p c s M G4 W6:=⟨((Aa H4).both.still ad).still ae,(Aa H4).agree⟩;have aa:W6.heap[w5.heap.size]?=some (.cells #[.int .i64 2,.int .i64 1,.slice (some ⟨g,o,none⟩) 1 cap] 64 (0,0)):=by
  rw[<-ac];exact heap_alloc_new w5 _
 have b0:W6.cell? ⟨w5.heap.size,0,none⟩=some (.int .i64 2):=cell_of aa 0 _ rfl;have b2:W6.cell? ⟨w5.heap.size,2,none⟩=some (.slice (some ⟨g,o,none⟩) 1 cap):=cell_of aa 2 _ rfl;have bg:W6.cell? ⟨g,o,none⟩=some (.int .i64 7):=(ae.cell (p:=⟨g,o,none⟩) am).trans hg;have lg:=lt_of_cell bg;have lb:=lt_of_block aa;obtain⟨a6,l6⟩:=(Aa ab) s M _ W6 h6;obtain⟨a5,l5⟩:=(Aa ab) s M _ w5 ⟨(Aa H4).both.still ad,(Aa H4).agree⟩;have hx:=(Aa HT) s M W6 h6;have HO:=Ac hx.1;have HF:=Ac hx.2.1;have ao:=Ac ac;clear hx h6 ae aa ac ad hg am H4 al HT a4 l4;go_wp2_with fail
 rw[Aa ao];refine(Aa HF).mono ?_;rintro e w7 ⟨rfl,an⟩;rw[an];clear an w7;go_wp2_with fail
 go_returns;exact⟨rfl,Aa HO⟩
def KX(w:World)(va:Option Addr)(vn:Nat):Prop:=vn=0\/∃vb off,va=some ⟨vb,off,none⟩/\∀i,i<vn->∃k a b d:Int,(In64 k/\In64 a/\In64 b/\In64 d)/\w.cell? ⟨vb,off+i*4,none⟩=some (.int .i64 k)/\w.cell? ⟨vb,off+i*4+1,none⟩=some (.int .i64 a)/\w.cell? ⟨vb,off+i*4+2,none⟩=some (.int .i64 b)/\w.cell? ⟨vb,off+i*4+3,none⟩=some (.int .i64 d)
theorem KX.below{va:Option Addr}{vn:Nat}(h:KX w va vn)(hb:Below w.heap.size w w'):KX w' va vn:=by
 rcases h with h|⟨vb,off,h1,h2⟩
 ·exact Or.inl h
 ·refine Or.inr ⟨vb,off,h1,fun i hi=>?_⟩;obtain⟨k,a,b,d,h3,c0,c1,c2,c3⟩:=h2 i hi;exact⟨k,a,b,d,h3,(hb.cell (p:=⟨vb,_,none⟩) (lt_of_cell c0)).trans c0,(hb.cell (p:=⟨vb,_,none⟩) (lt_of_cell c1)).trans c1,(hb.cell (p:=⟨vb,_,none⟩) (lt_of_cell c2)).trans c2,(hb.cell (p:=⟨vb,_,none⟩) (lt_of_cell c3)).trans c3⟩
structure ab1(w:World)(w0:World)(q:RP)(p:Pl)(c:R.Cf)(w':World):Prop where
 ok:Ge w0 q p c w'
 below:Below w.heap.size w w'
 cf:R.BD c
def aag(w:World)(e:Ending)(w':World):Prop:=∃w0 q p c,e=.returned (ptr q.r)/\ab1 w w0 q p c w'
theorem TS(cl ln rt tr tb:Int)(va:Option Addr)(vn vc:Nat)(am:In64 cl)(an:In64 ln)(ap:In64 rt)(ar:In64 tr)(aq:In64 tb)(w:World)(hV:KX w va vn)(au:vn<=maxLen)(ht:Ec w)(h0:0<w.heap.size):
  Calls Tryz.prog 6 #[UK cl ln rt tr tb,.slice va vn vc] w (aag w):=by
 have H8:=Ac (fun w=>TW cl ln rt tr tb am an ap ar aq w);have HT:=Ac ht;have HV:Hid (KX w va vn):=hV;have HN:Hid (vn<=maxLen):=au;clear am an ap ar aq ht hV au;obtain⟨BX,ac⟩:∃BX,w.alloc (.cells #[.int .i64 cl,.int .i64 ln,.int .i64 rt,.int .i64 tr,.int .i64 tb] 23)=BX:=⟨_,rfl⟩;have ae:Hid (Below w.heap.size w BX):=by
  rw[<-ac];exact(Below.refl _ _).alloc (Nat.le_refl _) _
 have al:BX.heap[w.heap.size]?=some (.cells #[.int .i64 cl,.int .i64 ln,.int .i64 rt,.int .i64 tr,.int .i64 tb] 23 (0,0)):=by
  rw[<-ac];exact heap_alloc_new w _
 have af:=Ac ac;have aA:=lt_of_block al;clear ac al;go_enter Tryz.func6,Tryz.ntmps6;go_wp2_with fail
 rw[Aa af];refine((Aa H8) _).mono ?_;rintro e w1 ⟨⟨c,hc,rfl⟩,ak⟩;have ab:=Ac ((Aa ae).trans (ak.mono (Aa ae).size));have HC:=Ac hc;have ao:0<w1.heap.size:=by have:=(Aa ab).size;omega
 have aj:=(Aa HT).below (Aa ab);clear ak H8 af;go_wp2_with fail
 refine(Vt w1 w1 c hc (Below.refl _ _) aj ao).mono ?_;rintro e w3 ⟨q,p,D,K,rfl,ag⟩;have hq:∀w,(binOp .eql 25 (ptr q.r) (.pointer none)).run Tryz.prog w=.ok (.bool false) w:=fun w=>by kernel_rfl
 have HF:=Ac (VT w1 q p c hc D K w3 ag);have HM:=Ac (fun w h=>YE w1 q p c w h);have HW:Hid (∀wr,Ge w1 q p c wr->Below w.heap.size w wr):=fun wr ⟨s,M,G,h⟩=>(Aa ab).trans (h.both.below.mono (Aa ab).size)
 clear ag aj ao;go_wp2_with fail
 refine(Aa HF).mono ?_;rintro e w4 ⟨rfl,ah⟩;have aw:=Ac ah;clear ah HF;go_wp2_with fail
 go_loopw [7] (fun iv wr=>∃i:Nat,i<=vn/\iv=.int .i64 (i:Int)/\Ge w1 q p c wr) (fun iv _=>vn-(intOf iv).toNat)
 case atStart=>exact⟨0,by omega,rfl,Aa aw⟩
 case round=>
  obtain⟨i,hi,rfl,hO⟩:=hrel;by_cases ay:i<vn
  ·rcases Aa HV with az|⟨vb,off,rfl,hx⟩
   ·omega
   ·obtain⟨k,a,b,d,⟨i1,i2,i3,i4⟩,c0,c1,c2,c3⟩:=hx i ay;have aa:=(Aa HW) wr hO;have d0:=(aa.cell (p:=⟨vb,off+i*4,none⟩) (lt_of_cell c0)).trans c0;have d1:=(aa.cell (p:=⟨vb,off+i*4+1,none⟩) (lt_of_cell c1)).trans c1;have d2:=(aa.cell (p:=⟨vb,off+i*4+2,none⟩) (lt_of_cell c2)).trans c2;have d3:=(aa.cell (p:=⟨vb,off+i*4+3,none⟩) (lt_of_cell c3)).trans c3;have dl:=lt_of_cell d0;have av:=Ac ((Aa HM) wr hO k a b d i1 i2 i3 i4);have aB:IntKind.i64.wrap ((i:Int)+1)=(i:Int)+1:=by
     have:=Aa HN;simp only[maxLen]at this;rw[IntKind.wrap_i64];omega
    have ad:(i:Int)<(vn:Int):=by omega
    clear hO aa c0 c1 c2 c3 hx;go_wp2_with fail
    refine(Aa av).mono ?_;rintro e w5 ⟨rfl,ai⟩;have ax:=Ac ai;clear ai;go_wp2_with fail
    go_roundw
    case rel=>exact⟨i+1,by omega,by go_num,Aa ax⟩
    case measure=>simp[intOf];omega
  ·have ad:¬(i:Int)<(vn:Int):=by omega
   have HO:=Ac (And.intro hO ((Aa HW) wr hO));clear hO;go_wp2_with fail
   go_returns;exact⟨w1,q,p,c,rfl,(Aa HO).1,(Aa HO).2,Aa HC⟩
theorem Y0(cl ln rt tr tb:Int)(va:Option Addr)(vn vc:Nat)(au:In64 cl)(av:In64 ln)(aw:In64 rt)(ay:In64 tr)(ax:In64 tb)(w:World)(hV:KX w va vn)(az:vn<=maxLen)(ht:Ec w)(h0:0<w.heap.size):
  Calls Tryz.prog 3 #[UK cl ln rt tr tb,.slice va vn vc] w fun e w'=>e=.returned (.bool true)/\Below w.heap.size w w':=by
 obtain⟨BX,ae⟩:∃BX,w.alloc (.cells #[.int .i64 cl,.int .i64 ln,.int .i64 rt,.int .i64 tr,.int .i64 tb] 23)=BX:=⟨_,rfl⟩;have ac:Below w.heap.size w BX:=by
  rw[<-ae];exact(Below.refl _ _).alloc (Nat.le_refl _) _
 have ar:BX.heap[w.heap.size]?=some (.cells #[.int .i64 cl,.int .i64 ln,.int .i64 rt,.int .i64 tr,.int .i64 tb] 23 (0,0)):=by
  rw[<-ae];exact heap_alloc_new w _
 have aI:=lt_of_block ar;have aB:=Ac ae;have ao:KX BX va vn:=hV.below ac;have HP:=Ac (TS cl ln rt tr tb va vn vc au av aw ay ax BX ao az (ht.below ac) (by have:=ac.size;omega));have aj:=Ac ac;clear au av aw ay ax hV az ht ae ar ao ac;go_enter Tryz.func3,Tryz.ntmps3;go_wp2_with fail
 rw[Aa aB];refine(Aa HP).mono ?_;rintro e w1 ⟨w0,q,p,c,rfl,af⟩;obtain⟨s,M,G,hO⟩:=af.ok;have aF:=af.cf;unfold R.BD at aF;have ak:Hid (Below w.heap.size w w1):=(Aa aj).trans (af.below.mono (Aa aj).size);have aC:=Ac hO.aez;have hq:∀w,(binOp .eql 25 (ptr q.r) (.pointer none)).run Tryz.prog w=.ok (.bool false) w:=fun w=>by kernel_rfl
 clear af hO;go_wp2_with fail
 refine(Aa aC).mono ?_;rintro e w2 ⟨⟨n,hn,rfl⟩,am,ap⟩;have aJ:¬n<1:=by omega
 have aA:Hid (Below w.heap.size w w2):=(Aa ak).trans (ap.mono (Aa ak).size);have aD:=Ac am;clear am ap;go_wp2_with fail
 go_loopw [7] (fun iv wr=>∃i:Nat,(i:Int)<=c.Ad/\iv=.int .i64 (i:Int)/\GB w0 q p c s M G wr/\Below w.heap.size w wr) (fun iv _=>3-(intOf iv).toNat)
 case atStart=>exact⟨0,by omega,rfl,Aa aD,Aa aA⟩
 case round=>
  obtain⟨i,hi,rfl,ad,ag⟩:=hrel;have r1:=ad.both.conf.1;have rl:=ad.both.cells.EA;by_cases aH:(i:Int)<c.Ad
  ·have aE:=Ac ad;have ai:=Ac ag;have aK:IntKind.i64.wrap ((i:Int)+1)=(i:Int)+1:=by rw[IntKind.wrap_i64];omega
   clear ad ag;go_wp2_with fail
   go_loopw [8] (fun kv wk=>∃k:Nat,(k:Int)<=c.lines/\kv=.int .i64 (k:Int)/\GB w0 q p c s M G wk/\Below w.heap.size w wk) (fun kv _=>3-(intOf kv).toNat)
   case atStart=>exact⟨0,by omega,rfl,Aa aE,Aa ai⟩
   case round=>
    obtain⟨k,hk,rfl,aa,ah⟩:=hrel;rename_i wk _;have s2:=aa.both.conf.2.1;have sl:=aa.both.cells.EA;by_cases aG:(k:Int)<c.lines
    ·have HC:=Ac (aa.looked aH aG);have al:=Ac ah;have aL:IntKind.i64.wrap ((k:Int)+1)=(k:Int)+1:=by rw[IntKind.wrap_i64];omega
     clear aa ah;go_wp2_with fail
     refine(Aa HC).mono ?_;rintro e w5 ⟨rfl,an,aq⟩;have ab:=Ac (And.intro an ((Aa al).trans (aq.mono (Aa al).size)));clear an aq;go_wp2_with fail
     go_roundw
     case rel=>exact⟨k+1,by omega,by go_num,(Aa ab).1,(Aa ab).2⟩
     case measure=>simp[intOf];omega
    ·have ab:=Ac (And.intro aa ah);clear aa ah;go_wp2_with fail
     go_roundw
     case rel=>exact⟨i+1,by omega,by go_num,(Aa ab).1,(Aa ab).2⟩
     case measure=>simp[intOf];omega
  ·have ai:=Ac ag;clear ad ag;go_wp2_with fail
   go_returns;exact⟨rfl,Aa ai⟩
end Go.Proofs.YtblomippkddgiabGreatDoor
