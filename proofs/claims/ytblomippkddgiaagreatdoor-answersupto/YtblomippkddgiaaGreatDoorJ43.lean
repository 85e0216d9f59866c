import Derived.Test.YtblomippkddgiaaGreatDoorJ31
import Derived.Test.YtblomippkddgiaaGreatDoorJ28
set_option maxRecDepth 100000
set_option maxHeartbeats 2000000
namespace Go.Proofs.YtblomippkddgiaaGreatDoor
open Go.Proofs.Tryz
open Go.RowKit
open Go.RowKit Go.Maps
variable {S:ByteArray}{F:D9}{cl u u0:Int}{name:List UInt8}{b c cap gC i k m n nm s x:Nat}{a:Option Addr}{p:Pl}{z:R.Cl×CE}{G:R.Wd}{v:RV}{K:Value}{w:World}
theorem afc:(prog.info? 72).map (·.size)=some 24:=EL
theorem abf:(prog.info? 109).map (·.size)=some 2:=EL
section
variable {ops:Array Oper} {rest:List Oper} {op:Oper} {a:Act} {w:Aa} {Q:Exit->Act->World->Prop}
theorem xS(e:op.guard=none)(x:Operand)(f:op.op=.load 72 x)(b off:Nat)(y:a.eval x=.pointer (some (Y b off)))(o:LD)(hc:∀(j:Nat) (u:Ad),o.cells[j]?=some u->EB w b (off+j) u)(h:wpList prog ops Q rest (a.put op.dst o.val) w):wpList prog ops Q (op :: rest) a w:=
 wpList_load_mid e 72 x f b off y o.cells.toList _ (λj v g=>hc j v (by simpa using g)) underlying72 rfl afc h
theorem afX(e:op.guard=none)(x:Operand)(f:op.op=.load 109 x)(b off:Nat)(g:a.eval x=.pointer (some (Y b off)))(t:Tw)(hc:∀(j:Nat) (u:Ad),(Vv t)[j]?=some u->EB w b (off+j) u)(h:wpList prog ops Q rest (a.put op.dst t.val) w):wpList prog ops Q (op :: rest) a w:=
 wpList_load_mid e 109 x f b off g (Vv t) _ hc underlying109 rfl abf h
theorem MF(e:op.guard=none)(x:Operand)(g:op.op=.move x)(v:Ad)(j:a.eval x=v)(h:wpList prog ops Q rest (a.put op.dst v) w):wpList prog ops Q (op :: rest) a w:=
 wpList_plain e λK f=>by
  unfold Oper.wp;simp only[execOp,g,j,Sem.run_pure];exact f _ _ h
theorem aZ(e:op.guard=none)(v:Ad)(g:(execOp a.eval op).run prog w=.ok (.value v) w)(h:wpList prog ops Q rest (a.put op.dst v) w):wpList prog ops Q (op :: rest) a w:=
 wpList_plain e λK f=>by
  unfold Oper.wp;rw[g];exact f _ _ h
end
structure Bl(b:Nat)(t:Tw)(o:LD)(w:Aa):Prop where
 t:∀(j:Nat) (u:Ad),(Vv t)[j]?=some u->w.cell? (Y b (0+j))=some u
 o:∀(j:Nat) (u:Ad),o.cells[j]?=some u->w.cell? ⟨b+1,0+j,none⟩=some u
theorem Bx.bl{t:Tw}{o:LD}(e:Bx b t o w):Bl b t o w:=by grind [Bx,Bl,ED,Vv]
theorem Xf{Dz:Int}(B A C:World->Prop)(hnm:R.Gf name=true)(hk:0<=Dz/\Dz<=2)(c5:EB w s 5 (.map (some nm)))(c6:EB w s 6 (.slice a m c))(X:m<255)
  (g:(Instr.lookup 159 (.map (some nm)) (.string (str name)) true).run prog w=.ok (.tuple #[Z u0,.bool true]) w)
  (y:Hid (D7 182 #[ptr s,Z u0] w Ep λf=>B f))
  (h:Hid (∀f,B f->D7 183 #[ptr s,Z Dz] f (Z u) λf=>A f))
  (T:Hid (∀f,A f->EB f s 5 (.map (some nm))))
  (HPUT:Hid (∀w1 w2,A w1->DY w1 w2->∃w3,(Instr.mapUpdate 159 (.map (some nm)) (.string (str name)) (Z u)).run prog w2=.ok () w3/\C w3)):
  D7 106 #[ptr s,.string (str name),Z Dz] w (.tuple #[Z u,Z 0]) λf=>C f:=by
 have O:=Dx (λw=>LU name hnm w);have D:name.length<=1000:=by
  exact aaL
 have H71:=Dx (λw=>Kr name w D);have M:Hid (∀w,D7 124 #[Z Dz] w (.bool true) λf=>f=w):=λw=>by
  exact adU
 have e2:((m:Int)==255)=false:=Fy;generalize str name=SN at *;clear hnm X D;go_enter func106,ntmps106;go_wp2_with (first|(go_at_call 181;refine cs (O _) ?_)|(go_at_call 124;refine cs (M _) ?_))
 refine cm y λw0 hB=>?_
 have j:=Dx (h w0 hB);clear hB y h g c5 c6;go_wp2_with fail
 refine cm j λw1 Q=>?_
 have d0:=T w1 Q;have hl1:=Gv d0;have HA1:=Dx Q;clear Q;exact afs
theorem Xe{Dz:Int}(e:R.Gf name=true)(hk:0<=Dz/\Dz<=2)(c5:EB w s 5 (.map (some nm)))(c6:EB w s 6 (.slice a 255 c))
  (f:(Instr.lookup 159 (.map (some nm)) (.string (str name)) true).run prog w=.ok (.tuple #[Z u0,.bool true]) w):
  D7 106 #[ptr s,.string (str name),Z Dz] w (.tuple #[Z 0,Z 11]) λg=>g=w:=by
 have H68:=Dx (λw=>LU name e w);have H32:Hid (∀w,D7 124 #[Z Dz] w (.bool true) λg=>g=w):=λw=>by
  exact adU
 generalize str name=SN at *;clear e;exact aaF
theorem XU(y:G.Ec.length=G.Eu.length)(f:R.Gi G name=some k){v:Int}(x:Ac):(x=name->Fu {G with Ec:=G.Ec.set k v} x=some v)/\(¬x=name->Fu {G with Ec:=G.Ec.set k v} x=Fu G x):=by
 have hk:=R.Jp f;have h:=GG hk;constructor
 ·grind [R.Gi,Fu]
 ·intro B;unfold Fu;have e:R.Gi {G with Ec:=G.Ec.set k v} x=R.Gi G x:=rfl;rw[e];cases hj:R.Gi G x with
  |none=>rfl
  |some j=>
   have g:=R.Jp hj
   grind
theorem LW.YJ(h:LW p F G w){Dz:Int}(hnm:R.Gf name=true)(hk:0<=Dz/\Dz<=2)(he:R.Gi G name=some k):
  D7 106 #[ptr p.s,.string (str name),Z Dz] w (.tuple #[Z (R.E4 G name Dz).1.1,Z (R.E4 G name Dz).1.2]) λg=>NM p F w (R.E4 G name Dz).2 g:=by
 have⟨a,c,hK⟩:=Fa h.Hd.Gw;have ak:name.length<=8:=by
  exact aaL
 have hzl:p.t.zs.length=G.Dy.length:=by rw[<-h.Hd.zs,AX]
 have X:Fu G name=some (G.Ec.getD k 0):=by
  unfold Fu;rw[he];rfl
 have f:=M6 h.Eu (s:=name) JG;rw[X]at f;have aa:=(Bi.1 (R.Jp he)).1;have O:k<G.Ec.length:=by rw[h.wf.st];exact aa
 have hu:=h.wf.Pn (G.Ec.getD k 0) (by
  rw[Bu,Ah O];exact CK O)
 generalize hu0:G.Ec.getD k 0=u0 at *;have B:R.E4 G name Dz=if G.Dy.length=255 then ((0,11),G) else (((G.Dy.length:Int)+1,0),{R.GR G u0 with Ec:=G.Ec.set k ((G.Dy.length:Int)+1),Dy:=(R.GR G u0).Dy++[⟨Dz,true,[]⟩]}):=by
  unfold R.E4;rw[hnm,Ao Ev,Ao U,he];simp only[hu0];rfl
 have Lp:=h.wf.sv;by_cases hs:G.Dy.length=255
 ·rw[B,Ay hs];refine(Xe hnm hk (EI h.Hd.bs 5) (ED h.Hd.bs 6 _ (by rw[<-hs,<-hzl,<-hK];rfl)) f).mono ?_;rintro e g ⟨rfl,rfl⟩;exact⟨rfl,p.t,F,h,D8.refl F _⟩
 ·rw[B,Ao hs];obtain⟨u,rfl⟩:∃u:Nat,u0=(u:Int)+1:=⟨(u0-1).toNat,U⟩;have ad:G.Dy[u]?=some (G.Dy[u]'U):=Ah _;have Q:(R.GR G ((u:Int)+1)).Dy.length=G.Dy.length:=by simp[R.GR]
  have y:=h.wf.export name Dz;rw[B,Ao hs]at y;refine Xf (λg=>∃t,LW {p with t:=t} F (R.GR G ((u:Int)+1)) g/\D8 F F w g) (λg=>∃t j,LW {p with t:=t} j {R.GR G ((u:Int)+1) with Dy:=(R.GR G ((u:Int)+1)).Dy++[⟨Dz,true,[]⟩]} g/\D8 F j w g) _ hnm hk (EI h.Hd.bs 5) (ED h.Hd.bs 6 _ (by rw[<-hK];rfl)) U f (h.ends ad) ?_ ?_ ?_
  ·rintro g ⟨t,D,hW⟩;have:=D.begun hk U;rw[Q]at this;refine cm this ?_;rintro ao ⟨t',j,q1,q2⟩;exact⟨rfl,t',j,q1,hW.trans q2⟩
  ·rintro g ⟨t,j,D,_⟩;exact EI D.Hd.bs 5
  ·rintro w1 w2 ⟨t,j,D,hW⟩ hb;have M:=D.DG hb;have ac:Fu {R.GR G ((u:Int)+1) with Dy:=(R.GR G ((u:Int)+1)).Dy++[⟨Dz,true,[]⟩]} name=some ((u:Int)+1):=X;obtain⟨w3,T,hm,ae⟩:=j6 M.Eu (by have:=h.wf.nm;show G.Eu.length<1000;omega) (s:=name) JG (v:=(G.Dy.length:Int)+1) U (Fu {G with Ec:=G.Ec.set k ((G.Dy.length:Int)+1)}) (XU h.wf.st he);refine⟨w3,T,t,j,?_⟩;rw[ac]at hm;have ab:=hm;have q:=M.Um (N:=G.Eu) (S:=G.Ec.set k ((G.Dy.length:Int)+1)) (LC ae) (ab.congr (λ_=>rfl)) y;exact⟨q.1,(hW.trans (D8.D6 j hb)).trans q.2⟩
theorem Mp.del{α:Type}{k t:Ag}{lit:α->Lit}{g:α->Option Int}(h:Mp w k b lit g n)(K:Keyed prog k)(ht:prog.underlying t=some (.map k 3)){key:Ad}{a:α}(j:keyOf prog k key=some (lit a))(hl:∀x y,lit x=lit y->x=y)(T:α->Option Int)(f:∀x,(x=a->T x=none)/\(¬x=a->T x=g x))(hs:(g a).isSome=true)(ty:Ag):
  ∃Q,(Builtin.delete_ #[t,k] ty #[.map (some b),key]).run prog w=.ok Ep Q/\Mp Q k b lit T (n-1)/\w.mapTurned Q b:=by
 have⟨D,h1,h2,X⟩:=h;have⟨Q,M,h4,h5⟩:=h1.drop K ht j ty;have hz:=size_del (k:=lit a) (h1.tidy K);rw[(X a).1,hs,Ay rfl,h2]at hz;have O:Maps.size (D.del (lit a))=n-1:=U;refine⟨Q,M,⟨_,?_,O,λx=>?_⟩,h5⟩
 ·have⟨es,cl,q1,q2,q3,q4⟩:=h4;refine⟨es,cl,q1,q2,?_,q4⟩;rw[<-O,q4];simp[Maps.size,length_sorted]
 ·by_cases hx:x=a
  ·subst hx;rw[(f x).1 rfl];exact⟨has_del_same,λy hy=>by cases hy⟩
  ·have B:lit x≠lit a:=λe=>hx (hl _ _ e)
   rw[(f x).2 hx,has_del_other B];refine⟨(X x).1,λy hy=>?_⟩;rw[atKey_del_other B];exact(X x).2 y hy
theorem yK{g:List UInt8->Option Int}(h:Mp w 9 b Si g n){s:Ac}(D:s.length<=maxLen)(f:List UInt8->Option Int)(j:∀x,(x=s->f x=none)/\(¬x=s->f x=g x))(hi:(g s).isSome=true){ty:Ag}:
  ∃B,(Builtin.delete_ #[159,9] ty #[.map (some b),.string (str s)]).run prog w=.ok Ep B/\Mp B 9 b Si f (n-1)/\w.mapTurned B b:=
 h.del (string_keyed underlying9) underlying159 (by rw[Dc underlying9 (by rw[Er];exact D)]) (λx y e=>by cases e;rfl) f j hi ty
theorem xQ(h:R.Wf G):R.Wf {G with Eu:=G.Eu.eraseIdx k,Ec:=G.Ec.eraseIdx k}:=by
 refine⟨h.cf,h.N5,λi c hc=>⟨(h.cl i c hc).DV,(h.cl i c hc).DR,(h.cl i c hc).Ee,(h.cl i c hc).DZ⟩,h.JC,h.JX,h.sv,h.R7,?_,?_,h.nd.sublist (List.eraseIdx_sublist ..),λu hu=>h.Pn u (Cj hu)⟩;all_goals grind [R.Wf]
theorem RI:∀{l:List (List UInt8)} {s:List Int} {k:Nat} {name x:Ac},l.Nodup->s.length=l.length->l[k]?=some name->(¬x=name->((l.eraseIdx k).findIdx? (·==x)).map (λj=>(s.eraseIdx k).getD j 0)=(l.findIdx? (·==x)).map (λj=>s.getD j 0))/\((l.eraseIdx k).findIdx? (·==name)).map (λj=>(s.eraseIdx k).getD j 0)=none
 |[],_,_,_,_,_,_,h=>by simp at h
 |a :: l,[],_,_,_,_,hl,_=>by simp at hl
 |a :: l,b :: s,0,name,x,hn,hl,h=>by
  obtain rfl:a=name:=by simpa using h
  have g:=(List.nodup_cons.1 hn).1;refine⟨λO=>?_,?_⟩
  ·have f:(a==x)=false:=by simpa using λe=>O e.symm
   simp only[List.eraseIdx_zero,List.tail_cons,Dp,f,Bool.false_eq_true,if_false,Option.map_map];congr 1
  ·simp only[List.eraseIdx_zero,List.tail_cons];rw[Dm.2 (λy T=>by simp;exact λe=>g (e ▸ T))];rfl
 |a :: l,b :: s,k+1,name,x,hn,hl,h=>by
  have⟨g,M⟩:=List.nodup_cons.1 hn;have Q:=RI (l:=l) (s:=s) (k:=k) (name:=name) (x:=x) M (by simpa using hl) (by simpa using h);have B:=Ap (by simpa using h);have D:(a==name)=false:=beq_eq_false_iff_ne.2 (λe=>g (e ▸ B));refine⟨λO=>?_,?_⟩
  ·simp only[List.eraseIdx_cons_succ,Dp];by_cases f:(a==x)=true
   ·simp[f]
   ·simp only[f,Bool.false_eq_true,if_false,Option.map_map];exact Q.1 O
  ·simp only[List.eraseIdx_cons_succ,Dp,D,Bool.false_eq_true,if_false,Option.map_map];exact Q.2
theorem pP(e:EB w s 5 (.map (some nm)))(hl:(Instr.lookup 159 (.map (some nm)) (.string (str name)) true).run prog w=.ok (.tuple #[Z 0,.bool false]) w):
  D7 218 #[ptr s,.string (str name)] w (Z 10) λf=>f=w:=by
 have g:=Gv e;go_enter func218,ntmps218;go_wp2;go_returns;exact⟨rfl,rfl⟩
theorem pQ{j:Aa}(e:World->Prop)(D:EB w s 5 (.map (some nm)))(hl:(Instr.lookup 159 (.map (some nm)) (.string (str name)) true).run prog w=.ok (.tuple #[Z u0,.bool true]) w)(hd:∀ty,(Builtin.delete_ #[159,9] ty #[.map (some nm),.string (str name)]).run prog w=.ok Ep j)(g:D7 182 #[ptr s,Z u0] j Ep λf=>e f):
  D7 218 #[ptr s,.string (str name)] w (Z 0) λf=>e f:=by
 have M:=Gv D;have y:=Dx g;clear g;go_enter func218,ntmps218;go_wp2_with fail
 refine cm y λO h=>?_
 have B:=Dx h;clear h;go_wp2_with fail
 go_returns;exact⟨rfl,B⟩
theorem LW.oW(h:LW p F G w)(name:Ac)(M:name.length<=maxLen):
  D7 218 #[ptr p.s,.string (str name)] w (Z (R.Fb G name).1) λw'=>NM p F w (R.Fb G name).2 w':=by
 have f:=M6 h.Eu (s:=name) M;cases he:R.Gi G name with
 |none=>
  have g:Fu G name=none:=by unfold Fu;rw[he];rfl
  rw[g]at f;have hw:R.Fb G name=(10,G):=by unfold R.Fb;rw[he]
  rw[hw];refine cs (pP (EI h.Hd.bs 5) f) ?_;exact⟨rfl,p.t,F,h,D8.refl F _⟩
 |some k=>
  have g:Fu G name=some (G.Ec.getD k 0):=by unfold Fu;rw[he];rfl
  rw[g]at f;have B:=(Bi.1 (R.Jp he)).1;have D:k<G.Ec.length:=by rw[h.wf.st];exact B
  have hu:=h.wf.Pn (G.Ec.getD k 0) (by
   rw[Bu,Ah D];exact CK D)
  have hw:R.Fb G name=(0,{R.GR G (G.Ec.getD k 0) with Eu:=G.Eu.eraseIdx k,Ec:=G.Ec.eraseIdx k}):=by
   unfold R.Fb;rw[he];rfl
  rw[hw];have y:=λx=>RI (l:=G.Eu) (s:=G.Ec) (k:=k) (name:=name) (x:=x) h.wf.nd h.wf.st (R.Jp he)
  have j:∀ty,∃T,(Builtin.delete_ #[159,9] ty #[.map (some p.nm),.string (str name)]).run prog w=.ok Ep T/\Mp T 9 p.nm Si (Fu {G with Eu:=G.Eu.eraseIdx k,Ec:=G.Ec.eraseIdx k}) (G.Eu.length-1)/\w.mapTurned T p.nm:=λty=>yK h.Eu M _ (λx=>⟨λe=>by subst e;exact(y x).2,λe=>(y x).1 e⟩) (by rw[g];rfl)
  have⟨T,Q,hm,aa⟩:=j 0;have ab:∀ty,(Builtin.delete_ #[159,9] ty #[.map (some p.nm),.string (str name)]).run prog w=.ok Ep T:=λty=>Q
  have O:(G.Eu.eraseIdx k).length=G.Eu.length-1:=by rw[List.length_eraseIdx,Ay B]
  rw[<-O]at hm;have q:=h.Um (N:=G.Eu.eraseIdx k) (S:=G.Ec.eraseIdx k) (LC aa) hm (xQ h.wf);obtain⟨u,ac⟩:∃u:Nat,G.Ec.getD k 0=(u:Int)+1:=⟨(G.Ec.getD k 0-1).toNat,U⟩;rw[ac]at hu f ⊢;have X:G.Dy[u]?=some (G.Dy[u]'U):=Ah _;refine pQ (NM p F w _) (EI h.Hd.bs 5) f ab ((q.1.ends (u:=u) X).mono ?_);rintro e w' ⟨rfl,t,hL,hW⟩;exact⟨rfl,t,F,hL,q.2.trans hW⟩
theorem LW.Iy(h:LW p F G w)(name:Ac)(e:name.length<=maxLen):
  D7 160 #[ptr p.x,.string (str name)] w (Z (R.Fb G name).1) λg=>NM p F w (R.Fb G name).2 g:=by
 have x1:=EI h.bx 1;have B:=Gv x1;have j:=Dx (h.oW name e);generalize R.Fb G name=Zq at *;clear h;go_enter func160,ntmps160;go_wp2_with fail
 refine cm j λg f=>?_
 have y:=Dx f;clear f;go_wp2_with fail
 go_returns;exact⟨rfl,y⟩
def bR(b:UInt8):Bool:=!(decide (97<=b.toNat)&&decide (b.toNat<=122))
theorem qI{b:UInt8}(h:bR b=true):(b.toNat:Int)<97\/122<(b.toNat:Int):=by grind [bR]
theorem yr{b:UInt8}(h:¬bR b=true):97<=(b.toNat:Int)/\(b.toNat:Int)<=122:=by grind [bR]
theorem mJ{s:Ac}(h:R.Gf s=false)(hl:1<=s.length/\s.length<=8):∃k,k<s.length/\(∀hk:k<(str s).size,(((str s)[k]'hk).toNat:Int)<97\/122<(((str s)[k]'hk).toNat:Int))/\∀j,j<k->∀D:j<(str s).size,97<=(((str s)[j]'D).toNat:Int)/\(((str s)[j]'D).toNat:Int)<=122:=by
 have f:∃x∈s,bR x=true:=by grind [R.Gf,bR]
 have hk:=List.findIdx_lt_length_of_exists f;refine⟨s.findIdx bR,hk,λy=>?_,λj D g=>?_⟩
 ·have e:=K8 s _ y;rw[Ah hk]at e;have B:=Option.some.inj e;rw[<-B];exact qI (List.findIdx_getElem (w:=hk))
 ·have e:=K8 s j g;rw[Ah U]at e;have B:=Option.some.inj e;rw[<-B];exact yr (by simpa using List.not_of_lt_findIdx D)
theorem ml(s:Ac)(h:R.Gf s=false)(w:Aa):D7 181 #[.string (str s)] w (.bool false) λO=>O=w:=by
 have hz:=Er s;by_cases hl:1<=s.length/\s.length<=8
 ·have⟨k,hk,j,y⟩:=mJ h hl;rw[<-hz]at hk hl;have⟨B,D⟩:=FU j y;generalize str s=S at *;clear h hz j y;obtain⟨n,hn⟩:∃n,S.size=n:=⟨_,rfl⟩;rw[hn]at hl hk;go_enter func181,ntmps181;go_wp2;go_loopw [14] (λiv wr=>∃i:Nat,i<=k/\iv=Z i/\wr=w) (λiv _=>n-(intOf iv).toNat)
  case atStart=>exact⟨0,AV _,rfl,rfl⟩
  case round=>
   obtain⟨i,hi,rfl,rfl⟩:=hrel;by_cases f:i<k
   ·have⟨e,g⟩:=D i f U;have M:i<n:=U;go_wp2;exact⟨⟨i+1,U,Kc,BR⟩,by simp[intOf];omega⟩
   ·obtain rfl:i=k:=U;rcases B U with e|e
    ·go_wp2;go_returns;exact⟨rfl,rfl⟩
    ·have g:¬((S[i]'U).toNat:Int)<97:=U;go_wp2;go_returns;exact⟨rfl,rfl⟩
 ·rw[<-hz]at hl;generalize str s=S at *;clear h hz;obtain⟨n,hn⟩:∃n,S.size=n:=⟨_,rfl⟩;rw[hn]at hl;have hc:(n:Int)<1\/(¬(n:Int)<1/\(8:Int)<n):=U;rcases hc with e|⟨e,g⟩
  ·go_enter func181,ntmps181;go_wp2;go_returns;exact⟨rfl,rfl⟩
  ·go_enter func181,ntmps181;go_wp2;go_returns;exact⟨rfl,rfl⟩
theorem jL(Dz:Int):Hid (∀w,D7 124 #[Z Dz] w (.bool (decide (0<=Dz/\Dz<=2))) λe=>e=w):=λw=>by
 refine cs (Nx Dz w) ?_;refine⟨?_,rfl⟩;have:(Dz==0 || Dz==1 || Dz==2)=decide (0<=Dz/\Dz<=2):=by
  rw[BH];simp;omega
 rw[this]
theorem TY{Dz:Int}(e:R.Gf name=false):
  D7 106 #[ptr s,.string (str name),Z Dz] w (.tuple #[Z 0,Z 10]) λg=>g=w:=by
 have f:=Dx (λw=>ml name e w);generalize str name=SN at *;clear e;go_enter func106,ntmps106;go_wp2_with (first|(go_at_call 181;refine cs (f _) ?_))
 go_returns;exact⟨rfl,rfl⟩
theorem TX{Dz:Int}(e:R.Gf name=true)(hk:Dz<0\/2<Dz):
  D7 106 #[ptr s,.string (str name),Z Dz] w (.tuple #[Z 0,Z 9]) λg=>g=w:=by
 have H68:=Dx (λw=>LU name e w);have H32:=jL Dz;have f:decide (0<=Dz/\Dz<=2)=false:=Fy;rw[f]at H32;generalize str name=SN at *;clear e f hk;exact aaF
theorem YL{Dz h:Int}(g:R.Gf name=true)(hk:0<=Dz/\Dz<=2)(c5:EB w s 5 (.map (some nm)))(c6:EB w s 6 (.slice a m c))
  (j:(Instr.lookup 159 (.map (some nm)) (.string (str name)) true).run prog w=.ok (.tuple #[Z u0,.bool false]) w) (B:∀ty,(Builtin.len_ #[159] ty #[.map (some nm)]).run prog w=.ok (Z h) w) (e:h=6\/(¬h=6/\m=255)):
  D7 106 #[ptr s,.string (str name),Z Dz] w (.tuple #[Z 0,Z (if h=6 then 12 else 11)]) λD=>D=w:=by
 have H68:=Dx (λw=>LU name g w);have H32:=jL Dz;have y:decide (0<=Dz/\Dz<=2)=true:=Fy;rw[y]at H32;have M:=Gv c5;generalize str name=SN at *;clear g y hk;rcases e with rfl|⟨f,rfl⟩
 ·rw[Ay rfl];exact aaF
 ·rw[Ao f];have hnb:(h==6)=false:=by simpa using f
  exact aaF
theorem LW.aal(h:LW p F G w)(name:Ac)(Dz:Int):
  D7 106 #[ptr p.s,.string (str name),Z Dz] w (.tuple #[Z (R.E4 G name Dz).1.1,Z (R.E4 G name Dz).1.2]) λM=>NM p F w (R.E4 G name Dz).2 M:=by
 by_cases e:R.Gf name=true
 ·by_cases hk:0<=Dz/\Dz<=2
  ·cases he:R.Gi G name with
   |some k=>exact h.YJ e hk he
   |none=>
    have T:name.length<=8:=by grind [R.Gf]
    have D:Fu G name=none:=by unfold Fu;rw[he];rfl
    have g:=M6 h.Eu (s:=name) JG;rw[D]at g;have hn:=R.VQ he;have h6:=h.wf.nm;have Lp:=h.wf.sv;have f:R.E4 G name Dz=if G.Eu.length=6 then ((0,12),G) else if G.Dy.length=255 then ((0,11),G) else (((G.Dy.length:Int)+1,0),Hz G name Dz):=by
     unfold R.E4;rw[e,Ao Ev,Ao U,he];rfl
    by_cases y:G.Eu.length<6/\G.Dy.length<255
    ·rw[f,Ao U,Ao U];refine cm (h.rQ e hk hn y.1 y.2) ?_;rintro M ⟨t,O,q1,q2⟩;exact⟨rfl,t,O,q1,q2⟩
    ·have⟨a,c,Q⟩:=Fa h.Hd.Gw;have hzl:p.t.zs.length=G.Dy.length:=by rw[<-h.Hd.zs,AX]
     have j:=YL e hk (EI h.Hd.bs 5) (ED h.Hd.bs 6 _ (by rw[<-Q];rfl)) g (λty=>h.Eu.len underlying159 ty) U;have X:R.E4 G name Dz=((0,if (G.Eu.length:Int)=6 then 12 else 11),G):=by grind
     rw[X];refine cs j ?_;exact⟨rfl,p.t,F,h,D8.refl F _⟩
  ·have f:R.E4 G name Dz=((0,9),G):=by grind [R.E4]
   rw[f];refine cs (TX e U) ?_;exact⟨rfl,p.t,F,h,D8.refl F _⟩
 ·have B:R.Gf name=false:=by simpa using e
  have f:R.E4 G name Dz=((0,10),G):=by
   unfold R.E4;rw[Ay B]
  rw[f];refine cs (TY B) ?_;exact⟨rfl,p.t,F,h,D8.refl F _⟩
theorem LW.export(h:LW p F G w)(name:Ac)(Dz:Int):
  D7 60 #[ptr p.x,.string (str name),Z Dz] w (.tuple #[Z (R.E4 G name Dz).1.1,Z (R.E4 G name Dz).1.2]) λe=>NM p F w (R.E4 G name Dz).2 e:=
 YK (NM p F w (R.E4 G name Dz).2) h.bx (Dx (h.aal name Dz))
theorem eB(a b r t e:Int)(h:¬R.GA ⟨a,b,r,t,e⟩)(w:Aa):D7 57 #[cfv a b r t e] w (.bool false) λw'=>DY w w':=by
 by_cases D:1<=a/\a<=3
 ·have⟨g,T⟩:=D;by_cases M:1<=b/\b<=3
  ·have⟨j,X⟩:=M;by_cases O:1<=r/\r<=8
   ·have⟨y,aa⟩:=O;by_cases Q:1<=t/\t<=6
    ·have⟨B,ab⟩:=Q;have hx:¬(1<=e/\e<=9):=λq=>h ⟨⟨g,T⟩,⟨j,X⟩,⟨y,aa⟩,⟨B,ab⟩,q⟩
     clear h;rcases(show e<1\/(1<=e/\9<e) by omega) with q4|⟨q4,ao⟩;all_goals
      try have f:¬e<=9:=U
      exact pA
    ·clear h;rcases(show t<1\/(1<=t/\6<t) by omega) with q3|⟨q3,am⟩;all_goals
      try have f:¬t<=6:=U
      exact pA
   ·clear h;rcases(show r<1\/(1<=r/\8<r) by omega) with q2|⟨q2,ak⟩;all_goals
     try have f:¬r<=8:=U
     exact pA
  ·clear h;rcases(show b<1\/(1<=b/\3<b) by omega) with q1|⟨q1,ah⟩;all_goals
    try have f:¬b<=3:=U
    exact pA
 ·clear h;rcases(show a<1\/(1<=a/\3<a) by omega) with q0|⟨q0,ad⟩;all_goals
   try have f:¬a<=3:=U
   exact pA
theorem ado(a b r t e:Int)(h:¬R.GA ⟨a,b,r,t,e⟩)(w:Aa):D7 27 #[cfv a b r t e] w (.tuple #[.pointer none,Z 8]) λO=>DY w O:=by
 obtain⟨W,j⟩:∃W,w.alloc (.cells #[Z a,Z b,Z r,Z t,Z e] 26)=W:=⟨_,rfl⟩;have B:DY w W:=by rw[<-j];exact F9
 have⟨D,M,y⟩:=Ll (eB a b r t e h W) j B;clear h j B;go_enter func27,ntmps27;go_wp2_with fail
 rw[Dw M];refine cm D λQ f=>?_
 have g:=Dx (y.trans (f.mono y.size));clear f;go_wp2_with fail
 go_returns;exact⟨rfl,g⟩
theorem RM.qP{w':Aa}(h:RM x v F G w){Q:List Int}(hz:v.zc[i]?=some z)(ad:v.C.ownBlock=some gC)(hk:DF (λk=>k=gC\/z.2.bv.ownBlock=some k) w w')(hC:w'.ownsRow 0 232 3 v.C v.zc.length (tab bD (v.zc.set i ({z.1 with Ee:=Q},{z.2 with bv:=K}))))(hr:w'.ownsRow 0 3 1 K Q.length (GK Q))(hK:∀j,K.ownBlock=some j->z.2.bv.ownBlock=some j\/w.heap.size<=j):∃v' F',RM x v' F' {G with DI:=(v.zc.set i ({z.1 with Ee:=Q},{z.2 with bv:=K})).map (·.1)} w'/\D8 F F' w w':=by
 have⟨f1,f2,f3⟩:=h.Fw;have b1:=GG hz;have⟨aN,aq⟩:=J3 h.cl ad;have az:∀k,(k=gC\/z.2.bv.ownBlock=some k)->F k:=λk hk=>by
  rcases hk with rfl|hk
  ·exact h.rows k (Am (Am (Am (Am ad))))
  ·exact((h.Gs i z hz).2 k hk).1
 have nb:∀{b:Nat} {ys:Array Value} {t:Ag},w.heap[b]?=some (.cells ys t (0,0))->t≠232->t≠3->¬(b=gC\/z.2.bv.ownBlock=some b):=λg h1 h2 e=>by
  rcases e with rfl|e
  ·exact ES g aq h1 rfl
  ·exact Fg (h.Ee i z hz) g (λq=>h2 q.symm) e
 have nr:∀{n size:Nat} {e:Ag} {M:Ad} {xs:Ae},w.ownsRow 0 e size M n xs->e≠232->e≠3->∀j,M.ownBlock=some j->¬(j=gC\/z.2.bv.ownBlock=some j):=λhr h1 h2 j hj=>by
  grind [J3]
 have nI:∀{b:Nat} {ys:Array Value},w.heap[b]?=some (.cells ys 3 (0,0))->z.2.bv.ownBlock≠some b->¬(b=gC\/z.2.bv.ownBlock=some b):=λg h1 e=>by
  grind
 have nL:¬(v.L=gC\/z.2.bv.ownBlock=some v.L):=nI h.DX (λe=>((h.Gs i z hz).2 v.L e).2.1 rfl);have nS:∀j,v.S.ownBlock=some j->¬(j=gC\/z.2.bv.ownBlock=some j):=λj hj=>by
  have⟨T,hc⟩:=J3 h.Ec hj;exact nI hc (λe=>((h.Gs i z hz).2 j e).2.2 hj)
 have B:∀(j:Nat) (y:R.Cl×CE),(v.zc.set i ({z.1 with Ee:=Q},{z.2 with bv:=K}))[j]?=some y->(i=j/\y=({z.1 with Ee:=Q},{z.2 with bv:=K}))\/(i≠j/\v.zc[j]?=some y):=λj y f=>by
  grind
 refine⟨{v with zc:=v.zc.set i ({z.1 with Ee:=Q},{z.2 with bv:=K})},λk=>F k\/K.ownBlock=some k,⟨hk.at h.bx (nb h.bx Em Em),hk.row h.Eu (nr h.Eu Em Em),hk.row h.Ec nS,h.zs,hk.row h.Iw (nr h.Iw Em Em),h.I4.keep hk (λg q=>nb g (by rcases q with rfl|rfl|rfl<;>decide) (by rcases q with rfl|rfl|rfl<;>decide)) (λ_ q=>Aj q),hk.row h.JC (nr h.JC Em Em),rfl,by rw[BG];exact hC,λj y f=>?_,λj y f=>?_,hk.at h.DX nL,hk.at h.DN (nb h.DN Em Em),⟨Aj f1,Aj f2,Aj f3⟩,λj hj=>Aj (h.rows j hj),λj y f=>?_,h.sL,λa b y y' f ah ao=>?_,λk X=>?_⟩,⟨hk.mono (λk _ X=>az k X),λk X=>?_⟩⟩
 ·rcases B j y f with ⟨_,e⟩|⟨ab,f⟩
  ·rw[e];exact hr
  ·refine hk.row (h.Ee j y f) (λb g=>?_);have⟨T,hc⟩:=J3 (h.Ee j y f) g;exact nI hc (λe=>(h.inj i j z y hz f ab).2 b e g)
 ·rcases B j y f with ⟨_,e⟩|⟨ab,f⟩
  ·rw[e];have⟨zl,l1,l2,l3⟩:=h.ln i z hz;exact⟨zl,l1,hk.at l2 (nb l2 Em Em),λy f=>(l3 y f).keep hk (λb T _ g=>nb g Em Em) (λ_ q=>Aj q)⟩
  ·have⟨zl,l1,l2,l3⟩:=h.ln j y f;exact⟨zl,l1,hk.at l2 (nb l2 Em Em),λy f=>(l3 y f).keep hk (λb T _ g=>nb g Em Em) (λ_ q=>Aj q)⟩
 ·rcases B j y f with ⟨_,e⟩|⟨ab,f⟩
  ·rw[e];refine⟨Aj (h.Gs i z hz).1,λb g=>⟨Am g,?_⟩⟩;rcases hK b g with q|q
   ·exact((h.Gs i z hz).2 b q).2
   ·refine⟨λe=>?_,λe=>?_⟩
    ·have e':b=v.L:=e;have:=h.lt v.L f2;omega
    ·have:=h.lt b (h.rows b (Am (Aj e)));omega
  ·exact⟨Aj (h.Gs j y f).1,λb g=>⟨Aj ((h.Gs j y f).2 b g).1,((h.Gs j y f).2 b g).2⟩⟩
 ·have key:∀(p q:Nat) (yp yq:R.Cl×CE),v.zc[p]?=some yp->v.zc[q]?=some yq->p≠q->∀k,K.ownBlock=some k->p=i->yq.2.bv.ownBlock≠some k:=λp q yp yq hp hq aw k D av e=>by
   subst av;rcases hK k D with r|r
   ·obtain rfl:=Option.some.inj (hz.symm.trans hp);exact(h.inj p q z yq hz hq aw).2 k r e
   ·have:=h.lt k ((h.Gs q yq hq).2 k e).1;omega
  rcases B a y f with ⟨ea,e1⟩|⟨ar,ak⟩
  ·rcases B b y' ah with ⟨eb,e2⟩|⟨aa,O⟩
   ·omega
   ·rw[e1];exact⟨(h.inj i b z y' hz O aa).1,λk D=>key i b z y' hz O aa k D rfl⟩
  ·rcases B b y' ah with ⟨eb,e2⟩|⟨aa,O⟩
   ·rw[e2];refine⟨(h.inj a i y z ak hz (λe=>ar e.symm)).1,λk D e=>?_⟩
    grind
   ·exact h.inj a b y y' ak O ao
 ·rcases X with X|X
  ·exact Ai (h.lt k X) hk.size
  grind [J3]
 grind
theorem RM.bind{W g:Aa}{B:Nat}{j0:Nat}(h:RM x v F G w)(hz:v.zc[i]?=some z)(hC:v.C=EJ gC v.zc.length B)(hb:DY w W)(hg:W.grownBy g z.2.bv.ownBlock)(D:g.ownsRow 0 3 1 K (z.1.Ee.length+1) (GK z.1.Ee++[Z u]))(ah:K.ownBlock=z.2.bv.ownBlock\/K.ownBlock=some j0)(hj:w.heap.size<=j0):g.heap[gC]?=w.heap[gC]?/\g.heap[x]?=w.heap[x]?/\∃v' F',RM x v' F' {G with DI:=G.DI.modify i λc=>{c with Ee:=c.Ee++[u]}} (g.setCell (Y gC (i*3+1)) K)/\D8 F F' w (g.setCell (Y gC (i*3+1)) K):=by
 have X:v.C.ownBlock=some gC:=by rw[hC];rfl
 have⟨aw,y⟩:=J3 h.cl X;have hl:=(AB.1 y).1;have an:=(Kd h.bx (h.Ee i z hz) Em hb hg).trans h.bx.symm;have M:=(Kd y (h.Ee i z hz) Em hb hg).trans y.symm;have f:g.ownsRow 0 232 3 v.C v.zc.length (tab bD v.zc):=by
  have h0:=h.cl;rw[hC]at h0 ⊢;refine⟨h0.1,?_⟩;rcases h0.2 with ⟨e,_⟩|⟨g',av,ad,hv,ak,am,r⟩
  ·cases e
  ·cases hv;exact Am ⟨gC,B,ad,rfl,ak,M.trans am,r⟩
 have ab:(g.setCell (Y gC (i*3+1)) K).ownsRow 0 232 3 v.C v.zc.length (tab bD (v.zc.set i ({z.1 with Ee:=z.1.Ee++[u]},{z.2 with bv:=K}))):=by
  rw[hC]at f ⊢;exact Qr P5 f hz (j:=1) U (u:=K) rfl
 have ar:=DF.setCell (F:=λk=>k=gC) (DF.refl _ g) (p:=(Y gC (i*3+1))) (Aj rfl) K;have aq:DF (λk=>k=gC\/z.2.bv.ownBlock=some k) w (g.setCell (Y gC (i*3+1)) K):=by
  have h1:DF (λk=>k=gC\/z.2.bv.ownBlock=some k) w W:=DF.D6 hb _;exact(h1.grown hg (λk hk=>Aj (Am hk))).setCell (p:=(Y gC (i*3+1))) (Aj (Aj rfl)) K
 have Q:(g.setCell (Y gC (i*3+1)) K).ownsRow 0 3 1 K (z.1.Ee++[u]).length (GK (z.1.Ee++[u])):=by
  have e:GK (z.1.Ee++[u])=GK z.1.Ee++[Z u]:=by simp[GK]
  rw[e,AJ];exact ar.row D (λj hj e=>Fg D (M.trans y) Em (e ▸ hj))
 have⟨v',F',r1,r2⟩:=h.qP hz X aq ab Q (λj O=>by
  rcases ah with q|q
  ·exact Aj (q ▸ O)
  ·rw[q]at O;cases O;exact Am hj)
 refine⟨M,an,v',F',?_,r2⟩;have T:G.DI[i]?=some z.1:=by rw[<-h.zc,BP,hz];rfl
 have e:(v.zc.set i ({z.1 with Ee:=z.1.Ee++[u]},{z.2 with bv:=K})).map (·.1)=G.DI.modify i λc=>{c with Ee:=c.Ee++[u]}:=by
  rw[C4,h.zc];apply BF;intro j;rw[Df,Bf];have hi:=GG T;by_cases aa:i=j
  ·subst aa;rw[Ay rfl,Ay hi,T];simp
  ·simp[aa]
 rw[e]at r1;exact r1
theorem ZY(x9:EB w x 9 (.slice a n cap))(h:cl<0\/(n:Int)<=cl):D7 162 #[Ey x,Z cl,.string S] w (.tuple #[Z 0,Z 0,Z 13]) λe=>e=w:=by
 have j:=Gv x9;by_cases f:cl<0
 ·go_enter func162,ntmps162;go_wp2;go_returns;exact⟨rfl,rfl⟩
 ·have g:(n:Int)<=cl:=U;go_enter func162,ntmps162;go_wp2;go_returns;exact⟨rfl,rfl⟩
theorem nW(x9:EB w x 9 (.slice a n cap))(g:¬cl<0)(h:¬(n:Int)<=cl)(e:Hid (D7 216 #[Ey x,.string S] w (Z (-1)) λf=>f=w)):D7 162 #[Ey x,Z cl,.string S] w (.tuple #[Z 0,Z 0,Z 10]) λf=>f=w:=by
 have j:=Gv x9;go_enter func162,ntmps162;go_wp2_with (go_at_call 216;refine cs e ?_)
 go_returns;exact⟨rfl,rfl⟩
theorem zY(F:D9)(h:RM x v F G w){u:Nat}{s:R.Sv}(hi:i<G.DI.length)(b4:Jv G.Eu name=(k:Int))(bj:G.Eu.length<=6)(an:G.Ec[k]?=some ((u:Int)+1))(hs:G.Dy[u]?=some s)(ca:G.Dy.length<=255)(b2:∀c,G.DI[i]?=some c->c.Ee.length<=9000000000000):
  D7 162 #[Ey x,Z i,.string (str name)] w (.tuple #[Z ((u:Int)+1),Z s.Dz,Z 0]) λw'=>∃v' X,RM x v' X {G with DI:=G.DI.modify i λc=>{c with Ee:=c.Ee++[(u:Int)+1]}} w'/\D8 F X w w':=by
 have j:=Dx (h.entry bj name);rw[b4]at j;obtain⟨c,hc⟩:∃c,G.DI[i]?=some c:=⟨_,Ah hi⟩;have⟨z,hz,bb⟩:=K4 h.zc hc;have ak:=bb;have hzl:v.zc.length=G.DI.length:=by rw[<-h.zc,AX]
 have bT:v.zs.length=G.Dy.length:=by rw[<-h.zs,AX]
 have⟨gC,ac,hC,bL,B,aw⟩:=Jx P5 U h.cl hz;have⟨gS,cS,hS,cu,_,_⟩:=h.Qv an 0;have⟨zs,be,al⟩:=K4 h.zs hs;have⟨O,y,hV,bS,f,_⟩:=Jx MD U h.Iw be;have⟨ab,cb,hB⟩:=E8 (h.Ee i z hz);have b3:=b2 c hc;rw[<-ak]at b3;have av:w.cell? (Y gC (i*3+1))=some (.slice ab z.1.Ee.length cb):=by
  have:=B 1 z.2.bv U rfl;rw[hB]at this;exact this
 have x6:w.cell? (Y x 6)=some (EJ gS G.Ec.length cS):=ED h.bx 6 _ (by rw[<-hS];rfl);have x9:w.cell? (Y x 9)=some (EJ gC v.zc.length ac):=ED h.bx 9 _ (by rw[<-hC];rfl);have x7:w.cell? (Y x 7)=some (EJ O v.zs.length y):=ED h.bx 7 _ (by rw[<-hV];rfl);have vk:w.cell? (Y O (u*3))=some (Z s.Dz):=by
  have:=f 0 (Z zs.1.Dz) U rfl;rw[show zs.1=s from al]at this;exact this
 have cc:=GG hs;have c8:=GG an;obtain⟨q0,q1,q2,p0,p1,p2,p3,r0,r1⟩:0<=(k:Int)/\(k:Int)<(G.Ec.length:Int)/\¬(k:Int)<0/\0<=(i:Int)/\(i:Int)<(v.zc.length:Int)/\¬(i:Int)<0/\¬(v.zc.length:Int)<=(i:Int)/\0<=(u:Int)/\(u:Int)<(v.zs.length:Int):=U;have e1:IntKind.i64.wrap ((u:Int)+1-1)=(u:Int):=Iz;have e2:IntKind.i64.wrap (u:Int)=u:=Iz;have ba:=aw (i*3+1);have⟨hx,c7⟩:=KM x9 cu;have⟨iI,b7,az,aN,aS⟩:=A1 Xk;have e:=h.Ee i z hz;rw[hB]at e;have ar:=Dx e;have b5:=J3 h.cl (by rw[hC];rfl);have b6:=J3 h.Iw (by rw[hV];rfl);have⟨bt,am⟩:=b5;have⟨bz,T⟩:=b6;have ae:=ES am h.bx Em;have ah:gC≠O:=ES am T Em;have aq:Hid (∀(g:Aa) (K:Ad),(w.drew.alloc (.cells #[Z ((u:Int)+1)] 3)).grownBy g (Value.slice ab z.1.Ee.length cb).ownBlock->g.ownsRow 0 3 1 K (z.1.Ee.length+1) (GK z.1.Ee++[Z ((u:Int)+1)])->(K.ownBlock=(Value.slice ab z.1.Ee.length cb).ownBlock\/K.ownBlock=some (w.heap.size+1))->g.cell? (Y gC (i*3+1))=some (.slice ab z.1.Ee.length cb)/\g.frozen? (Y gC (i*3+1))=false/\g.cell? (Y x 9)=some (EJ gC v.zc.length ac)/\(g.setCell (Y gC (i*3+1)) K).cell? (Y x 7)=some (EJ O v.zs.length y)/\(g.setCell (Y gC (i*3+1)) K).cell? (Y O (u*3))=some (Z s.Dz)/\∃v' X,RM x v' X {G with DI:=G.DI.modify i λc=>{c with Ee:=c.Ee++[(u:Int)+1]}} (g.setCell (Y gC (i*3+1)) K)/\D8 F X w (g.setCell (Y gC (i*3+1)) K)):=λg K hg ho Q=>by
  have b1:DY w (w.drew.alloc (.cells #[Z ((u:Int)+1)] 3)):=(AA w.heap.size w).drew.alloc Ev _;have⟨t1,t2,t3⟩:=h.bind hz hC b1 (by rw[hB];exact hg) ho (by rw[hB];exact Q) U;have bi:(w.drew.alloc (.cells #[Z ((u:Int)+1)] 3)).grownBy g z.2.bv.ownBlock:=by rw[hB];exact hg
  have t4:g.heap[O]?=w.heap[O]?:=(Kd T (h.Ee i z hz) Em b1 bi).trans T.symm;refine⟨(AR t1).trans av,(A8 t1).trans ba,(AR t2).trans x9,?_,?_,t3⟩
  ·rw[World.cell?_setCell_far _ _ _ _ ae];exact(AR t2).trans x7
  ·rw[World.cell?_setCell_far _ _ _ _ ah];exact(AR t4).trans vk
 clear h b4 hc bb ak hC B aw hS f hV hB e an hs b2 am T ae ah hz be al;generalize GK z.1.Ee=RB at *;generalize z.1.Ee.length=nb at *;go_enter func162,ntmps162;go_wp2_with (go_at_call 216;refine cm j λw1 b9=>?_;rw[b9];clear b9 j)
 go_region_law (first
  |(refine FM rfl (.tmp 46) (.tmp 48) 35 rfl 0 3 iI (Z 0) 1 8 underlying35 b7 az aN aS rfl Em (.slice ab nb cb) nb RB rfl (by exact(ER ar (AA _ _).drew).alloc _) (EN w 0) 1 1 [Z ((u:Int)+1)] rfl rfl (by exact LH w.drew 3 [Z ((u:Int)+1)]) Vd JG U U ?_;intro v' g M D Q;have⟨va,vn,vc,bp⟩:=Ei M;subst bp;have⟨g1,gz,g9,s7,sv,ad⟩:=aq _ _ D M (by simpa [Value.ownBlock] using Q);have aa:=Dx ad;clear M D Q ad))
 all_goals
  obtain⟨W5,aV⟩:∃W5,g.setCell (Y gC (i*3+1)) (.slice va vn vc)=W5:=⟨_,rfl⟩;rw[aV]at s7 sv aa ⊢;clear aV g1 gz g9 x6 x7 x9 av vk cu ba ar aq b7 az aN aS;have⟨cg,ce⟩:=KM s7 sv;go_wp2_with fail
  go_region_held3 (λw'=>w'.cell? (Y x 7)=some (EJ O v.zs.length y)/\w'.cell? (Y O (u*3))=some (Z s.Dz)) (go_keep) (fail)
  go_wp2;go_returns;have⟨v',X,m1,m2⟩:=Dw aa;exact⟨rfl,v',X,m1.DG (AA _ _).drew,m2.trans (D8.D6 X (AA _ _).drew)⟩
theorem RW.imports(h:RW x v F G w)(cl:Int)(name:Ac)(T:∀c∈G.DI,c.Ee.length<=9000000000000):D7 162 #[Ey x,Z cl,.string (str name)] w (.tuple #[Z (R.FV G cl name).1.1,Z (R.FV G cl name).1.2.1,Z (R.FV G cl name).1.2.2]) λw'=>∃v' D,RW x v' D (R.FV G cl name).2 w'/\D8 F D w w':=by
 have M:=h.mem;have f:=h.wf;have e:=f.imports cl name;have j:=f.nm;have⟨a,cap,hC⟩:=E8 h.cl;have B:v.zc.length=G.DI.length:=by rw[<-h.zc,AX]
 rw[B]at hC;have x9:EB w x 9 (.slice a G.DI.length cap):=ED h.bx 9 _ (by rw[<-hC];rfl);unfold R.FV at e ⊢;by_cases O:cl<0\/(G.DI.length:Int)<=cl
 ·rw[Ay O];refine cs (ZY x9 O) ?_
  grind [D8.refl]
 ·rw[Ao O]at e ⊢;cases he:R.Gi G name with
  |none=>
   have Q:Jv G.Eu name=-1:=by rw[M.Gi,he]
   have g:=M.entry j name;rw[Q]at g;refine cs (nW x9 U U (Dx g)) ?_
   grind [D8.refl]
  |some k=>
   have Q:Jv G.Eu name=(k:Int):=by rw[M.Gi,he]
   simp only[he]at e ⊢;have X:=(Bi.1 (R.Jp he)).1;have ah:k<G.Ec.length:=by rw[f.st];exact X
   have y:G.Ec[k]?=some (G.Ec.getD k 0):=by grind
   have aa:=f.Pn _ (Ap y);obtain⟨i,rfl⟩:∃i:Nat,cl=(i:Int):=⟨cl.toNat,U⟩;obtain⟨u,hu⟩:∃u:Nat,G.Ec.getD k 0=(u:Int)+1:=⟨(G.Ec.getD k 0-1).toNat,U⟩;rw[hu]at y aa e ⊢;obtain⟨s,hs⟩:∃s,G.Dy[u]?=some s:=⟨_,Ah U⟩;have eu:((u:Int)+1-1).toNat=u:=U;simp only[eu,hs,Ce,Bw,AY]at e ⊢;refine cm (zY F M U Q j y hs f.sv (λc hc=>T c (Ap hc))) ?_;rintro w' ⟨v',D,r1,r2⟩;exact⟨rfl,v',D,r1.whole e h.GQ,r2⟩
end Go.Proofs.YtblomippkddgiaaGreatDoor
