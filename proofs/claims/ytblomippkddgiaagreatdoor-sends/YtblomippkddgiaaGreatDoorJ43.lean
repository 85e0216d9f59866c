import Derived.Test.YtblomippkddgiaaGreatDoorJ42
set_option maxRecDepth 100000
set_option maxHeartbeats 1000000
namespace Go.Proofs.YtblomippkddgiaaGreatDoor
open Go.RowKit
def Nk(b:UInt8):Bool:=!(decide (97<=b.toNat)&&decide (b.toNat<=122))
theorem Tv{b:UInt8}(h:Nk b=true):(b.toNat:Int)<97\/122<(b.toNat:Int):=by
 by_cases h1:97<=b.toNat<;>by_cases h2:b.toNat<=122
 ·simp[Nk,h1,h2]at h
 all_goals omega
theorem VX{b:UInt8}(h:¬Nk b=true):97<=(b.toNat:Int)/\(b.toNat:Int)<=122:=by
 by_cases h1:97<=b.toNat<;>by_cases h2:b.toNat<=122
 ·omega
 all_goals exact absurd (by simp[Nk,h1,h2]) h
theorem Rm{s:List UInt8}(h:R.AY s=false)(hl:1<=s.length/\s.length<=8):∃k,k<s.length/\(∀hk:k<(str s).size,(((str s)[k]'hk).toNat:Int)<97\/122<(((str s)[k]'hk).toNat:Int))/\∀j,j<k->∀hj:j<(str s).size,97<=(((str s)[j]'hj).toNat:Int)/\(((str s)[j]'hj).toNat:Int)<=122:=by
 have hex:∃x∈s,Nk x=true:=by
  unfold R.AY at h;have h1:(decide (1<=s.length)&&decide (s.length<=8))=true:=by simp;omega
  rw[h1,Bool.true_and,List.all_eq_false]at h;obtain⟨x,hx,hp⟩:=h;refine⟨x,hx,?_⟩;unfold Nk;cases hb:(decide (97<=x.toNat)&&decide (x.toNat<=122)) with
  |true=>exact absurd hb hp
  |false=>rfl
 have hk:=List.findIdx_lt_length_of_exists hex;refine⟨s.findIdx Nk,hk,fun hk'=>?_,fun j hj hj'=>?_⟩
 ·have hg:=Ek s _ hk';rw[List.getElem?_eq_getElem hk]at hg;have hv:=Option.some.inj hg;rw[<-hv];exact Tv (List.findIdx_getElem (w:=hk))
 ·have hg:=Ek s j hj';rw[List.getElem?_eq_getElem (by omega)]at hg;have hv:=Option.some.inj hg;rw[<-hv];exact VX (by simpa using List.not_of_lt_findIdx hj)
theorem Ra(s:List UInt8)(h:R.AY s=false)(w:World):Calls Tryz.prog 181 #[.string (str s)] w fun e w'=>e=.returned (.bool false)/\w'=w:=by
 have hz:(str s).size=s.length:=Au s;by_cases hl:1<=s.length/\s.length<=8
 ·obtain⟨k,hk,hb,hg⟩:=Rm h hl;rw[<-hz]at hk hl;have HB:=Ab hb;have HG:=Ab hg;generalize str s=S at *;clear h hz hb hg;obtain⟨n,hn⟩:∃n,S.size=n:=⟨_,rfl⟩;rw[hn]at hl hk;go_enter Tryz.func181,Tryz.ntmps181;go_wp2;go_loopw [14] (fun iv wr=>∃i:Nat,i<=k/\iv=.int .i64 i/\wr=w) (fun iv _=>n-(intOf iv).toNat)
  case atStart=>exact⟨0,Nat.zero_le _,rfl,rfl⟩
  case round=>
   obtain⟨i,hi,rfl,rfl⟩:=hrel;by_cases hlt:i<k
   ·obtain⟨h1,h2⟩:=(Aa HG) i hlt (by omega);have hin:i<n:=by omega
    go_wp2;exact⟨⟨i+1,by omega,by go_num,trivial⟩,by simp[intOf];omega⟩
   ·obtain rfl:i=k:=by omega
    rcases(Aa HB) (by omega) with h1|h1
    ·go_wp2;go_returns;exact⟨rfl,rfl⟩
    ·have h2:¬((S[i]'(by omega)).toNat:Int)<97:=by omega
     go_wp2;go_returns;exact⟨rfl,rfl⟩
 ·rw[<-hz]at hl;generalize str s=S at *;clear h hz;obtain⟨n,hn⟩:∃n,S.size=n:=⟨_,rfl⟩;rw[hn]at hl;have hc:(n:Int)<1\/(¬(n:Int)<1/\(8:Int)<(n:Int)):=by omega
  rcases hc with h1|⟨h1,h2⟩
  ·go_enter Tryz.func181,Tryz.ntmps181;go_wp2;go_returns;exact⟨rfl,rfl⟩
  ·go_enter Tryz.func181,Tryz.ntmps181;go_wp2;go_returns;exact⟨rfl,rfl⟩
theorem P6(kind:Int):Hid (∀w,Calls Tryz.prog 124 #[.int .i64 kind] w fun e w'=>e=.returned (.bool (decide (0<=kind/\kind<=2)))/\w'=w):=fun w=>by
 refine(Bz kind w).mono ?_;rintro e w' ⟨rfl,rfl⟩;refine⟨?_,rfl⟩;have:(kind==0 || kind==1 || kind==2)=decide (0<=kind/\kind<=2):=by
  rw[Bool.eq_iff_iff];simp;omega
 rw[this]
theorem I7(w:World)(s:Nat)(name:List UInt8)(kind:Int)(hnm:R.AY name=false):
  Calls Tryz.prog 106 #[ptr s,.string (str name),.int .i64 kind] w fun e w'=>e=.returned (.tuple #[.int .i64 0,.int .i64 10])/\w'=w:=by
 have H68:=Ab (fun w=>Ra name hnm w);generalize str name=SN at *;clear hnm;go_enter Tryz.func106,Tryz.ntmps106;go_wp2_with (first|(go_at_call 181;refine((Aa H68) _).mono ?_;rintro e w' ⟨rfl,hw'⟩;rw[hw'];clear hw'))
 go_returns;exact⟨rfl,rfl⟩
theorem I6(w:World)(s:Nat)(name:List UInt8)(kind:Int)(hnm:R.AY name=true)(hk:kind<0\/2<kind):
  Calls Tryz.prog 106 #[ptr s,.string (str name),.int .i64 kind] w fun e w'=>e=.returned (.tuple #[.int .i64 0,.int .i64 9])/\w'=w:=by
 have H68:=Ab (fun w=>Eu name hnm w);have H32:=P6 kind;have hb:decide (0<=kind/\kind<=2)=false:=by simp;omega
 rw[hb]at H32;generalize str name=SN at *;clear hnm hb hk;go_enter Tryz.func106,Tryz.ntmps106;go_wp2_with (first|(go_at_call 181;refine((Aa H68) _).mono ?_;rintro e w' ⟨rfl,hw'⟩;rw[hw'];clear hw')|(go_at_call 124;refine((Aa H32) _).mono ?_;rintro e w' ⟨rfl,hw'⟩;rw[hw'];clear hw'))
 go_returns;exact⟨rfl,rfl⟩
theorem LY(w:World)(s nm c m:Nat)(a:Option Addr)(name:List UInt8)(kind u0 nn:Int)(hnm:R.AY name=true)(hk:0<=kind/\kind<=2)(c5:w.cell? ⟨s,5,none⟩=some (.map (some nm)))(c6:w.cell? ⟨s,6,none⟩=some (.slice a m c))
  (hlook:(Instr.lookup 159 (.map (some nm)) (.string (str name)) true).run Tryz.prog w=.ok (.tuple #[.int .i64 u0,.bool false]) w) (hlen:∀ty,(Builtin.len_ #[159] ty #[.map (some nm)]).run Tryz.prog w=.ok (.int .i64 nn) w) (hcase:nn=6\/(¬nn=6/\m=255)):
  Calls Tryz.prog 106 #[ptr s,.string (str name),.int .i64 kind] w fun e w'=>e=.returned (.tuple #[.int .i64 0,.int .i64 (if nn=6 then 12 else 11)])/\w'=w:=by
 have H68:=Ab (fun w=>Eu name hnm w);have H32:=P6 kind;have hb:decide (0<=kind/\kind<=2)=true:=by simp;omega
 rw[hb]at H32;have ls:=lt_of_cell c5;generalize str name=SN at *;clear hnm hb hk;rcases hcase with rfl|⟨hn6,rfl⟩
 ·rw[if_pos rfl];go_enter Tryz.func106,Tryz.ntmps106;go_wp2_with (first|(go_at_call 181;refine((Aa H68) _).mono ?_;rintro e w' ⟨rfl,hw'⟩;rw[hw'];clear hw')|(go_at_call 124;refine((Aa H32) _).mono ?_;rintro e w' ⟨rfl,hw'⟩;rw[hw'];clear hw'))
  go_returns;exact⟨rfl,rfl⟩
 ·rw[if_neg hn6];have hnb:(nn==6)=false:=by simpa using hn6
  go_enter Tryz.func106,Tryz.ntmps106;go_wp2_with (first|(go_at_call 181;refine((Aa H68) _).mono ?_;rintro e w' ⟨rfl,hw'⟩;rw[hw'];clear hw')|(go_at_call 124;refine((Aa H32) _).mono ?_;rintro e w' ⟨rfl,hw'⟩;rw[hw'];clear hw'))
  go_returns;exact⟨rfl,rfl⟩
theorem LW.Xn{p:Pl}{F:Ag}{G:R.Wd}{w:World}(h:LW p F G w)(name:List UInt8)(kind:Int):
  Calls Tryz.prog 106 #[ptr p.s,.string (str name),.int .i64 kind] w fun e w'=>e=.returned (.tuple #[.int .i64 (R.AJ G name kind).1.1,.int .i64 (R.AJ G name kind).1.2])/\XE p F w (R.AJ G name kind).2 w':=by
 by_cases hnm:R.AY name=true
 ·by_cases hk:0<=kind/\kind<=2
  ·cases he:R.Bh G name with
   |some k=>exact h.LU hnm hk he
   |none=>
    have hl8:name.length<=8:=by
     unfold R.AY at hnm;simp only[Bool.and_eq_true,decide_eq_true_eq]at hnm;omega
    have hsn:AP G name=none:=by unfold AP;rw[he];rfl
    have hlook:=EX h.names (s:=name) (by unfold maxLen;omega);rw[hsn]at hlook;have hn:¬name∈G.names:=R.J6 he;have h6:=h.wf.nm;have h255:=h.wf.sv;have hep:R.AJ G name kind=if G.names.length=6 then ((0,12),G) else if G.Ac.length=255 then ((0,11),G) else (((G.Ac.length:Int)+1,0),BL G name kind):=by
     unfold R.AJ;rw[hnm,if_neg (by simp),if_neg (by omega),he];rfl
    by_cases hgo:G.names.length<6/\G.Ac.length<255
    ·rw[hep,if_neg (by omega),if_neg (by omega)];refine(h.exported hnm hk hn hgo.1 hgo.2).mono ?_;rintro e w' ⟨rfl,t,F',q1,q2⟩;exact⟨rfl,t,F',q1,q2⟩
    ·obtain⟨a,c,hK⟩:=Bu h.Eb.made;have hzl:p.t.zs.length=G.Ac.length:=by rw[<-h.Eb.zs,List.length_map]
     have hfull:=LY w p.s p.nm c p.t.zs.length a name kind _ (G.names.length:Int) hnm hk (cell_of h.Eb.bs 5 _ rfl) (cell_of h.Eb.bs 6 _ (by rw[<-hK];rfl)) hlook (fun ty=>h.names.len Tryz.underlying159 ty) (by omega);have hr:R.AJ G name kind=((0,if (G.names.length:Int)=6 then 12 else 11),G):=by
      rw[hep];by_cases h6':G.names.length=6
      ·rw[if_pos h6',if_pos (by omega)]
      ·rw[if_neg h6',if_pos (by omega),if_neg (by omega)]
     rw[hr];refine hfull.mono ?_;rintro e w' ⟨rfl,rfl⟩;exact⟨rfl,p.t,F,h,Ah.refl F _⟩
  ·have hep:R.AJ G name kind=((0,9),G):=by
    unfold R.AJ;rw[hnm,if_neg (by simp),if_pos (by omega)]
   rw[hep];refine(I6 w p.s name kind hnm (by omega)).mono ?_;rintro e w' ⟨rfl,rfl⟩;exact⟨rfl,p.t,F,h,Ah.refl F _⟩
 ·have hnf:R.AY name=false:=by simpa using hnm
  have hep:R.AJ G name kind=((0,10),G):=by
   unfold R.AJ;rw[if_pos hnf]
  rw[hep];refine(I7 w p.s name kind hnf).mono ?_;rintro e w' ⟨rfl,rfl⟩;exact⟨rfl,p.t,F,h,Ah.refl F _⟩
theorem KP(l:List Int)(u:Int):dd (l++[u])=if u∈dd l then dd l else dd l++[u]:=by
 unfold dd;rw[List.foldl_append];rfl
theorem MS{P:List Int->Prop}(h0:P [])(hs:∀l a,P l->P (l++[a]))(l:List Int):P l:=by
 have h:∀r:List Int,P r.reverse:=fun r=>by
  induction r with
  |nil=>exact h0
  |cons a r ih=>rw[List.reverse_cons];exact hs _ _ ih
 simpa using h l.reverse
theorem NK(l:List Int):∀u,u∈dd l↔u∈l:=by
 refine MS (P:=fun l=>∀u,u∈dd l↔u∈l) ?_ ?_ l
 ·simp[dd]
 ·intro l a ih u;rw[KP];split
  ·rename_i h;rw[ih u];simp only[List.mem_append,List.mem_singleton];constructor
   ·exact Or.inl
   ·rintro (q|rfl)
    ·exact q
    ·exact(ih u).1 h
  ·simp[ih u]
theorem TJ(l:List Int):(dd l).Nodup:=by
 refine MS (P:=fun l=>(dd l).Nodup) ?_ ?_ l
 ·simp[dd]
 ·intro l a ih;rw[KP];split
  ·exact ih
  ·rename_i h;rw[List.nodup_append];exact⟨ih,by simp,fun x hx y hy e=>by simp only[List.mem_singleton]at hy;subst hy;exact h (e ▸ hx)⟩
theorem Zu:∀(N:Nat) (l:List Int),l.Nodup->(∀u∈l,1<=u/\u<=(N:Int))->l.length<=N
 |0,[],_,_=>Nat.le_refl _
 |0,u :: l,_,h=>by have:=h u (by simp);omega
 |N+1,l,hd,h=>by
  have h1:=Zu N (l.erase ((N:Int)+1)) (hd.erase _) (fun u hu=>by
   have hm:=List.mem_of_mem_erase hu;have hne:u≠(N:Int)+1:=fun e=>by subst e;exact hd.not_mem_erase hu
   have:=h u hm;omega)
  have:=List.length_erase_le (a:=(N:Int)+1) (l:=l);by_cases hm:((N:Int)+1)∈l
  ·rw[List.length_erase_of_mem hm]at h1;omega
  ·rw[List.erase_of_not_mem hm]at h1;omega
theorem Yc{l:List Int}{N:Nat}(h:∀u∈l,1<=u/\u<=(N:Int)):(dd l).length<=N:=Zu N (dd l) (TJ l) (fun u hu=>h u ((NK l u).1 hu))
theorem QX(w:World)(s nm g m c k:Nat)(S:ByteArray)(kind:Int)(c5:w.cell? ⟨s,5,none⟩=some (.map (some nm)))(c6:w.cell? ⟨s,6,none⟩=some (.slice (some ⟨g,0,none⟩) m c))(hk:k<m)(hm:m<=255)(hkd:w.cell? ⟨g,k*3,none⟩=some (.int .i64 kind))
  (hlook:(Instr.lookup 159 (.map (some nm)) (.string S) true).run Tryz.prog w=.ok (.tuple #[.int .i64 ((k:Int)+1),.bool true]) w):
  Calls Tryz.prog 107 #[ptr s,.string S] w fun e w'=>e=.returned (.tuple #[.int .i64 ((k:Int)+1),.int .i64 kind,.int .i64 0])/\Below w.heap.size w w':=by
 have H72:=Ab (MN w.drew s g k m c c6 hk hm);clear c6;go_enter Tryz.func107,Tryz.ntmps107;go_wp2;go_region_held3 (fun w'=>w'.cell? ⟨g,k*3,none⟩=some (.int .i64 kind)) (go_keep) ((go_at_call 132;refine(Aa H72).mono ?_;rintro e w1 ⟨rfl,hw1⟩;rw[hw1];clear hw1))
 go_wp2;go_returns;exact⟨rfl,(Below.refl _ _).drew⟩
theorem Wo(w:World)(s nm:Nat)(S:ByteArray)(c5:w.cell? ⟨s,5,none⟩=some (.map (some nm)))
  (hlook:(Instr.lookup 159 (.map (some nm)) (.string S) true).run Tryz.prog w=.ok (.tuple #[.int .i64 0,.bool false]) w):
  Calls Tryz.prog 107 #[ptr s,.string S] w fun e w'=>e=.returned (.tuple #[.int .i64 0,.int .i64 0,.int .i64 10])/\w'=w:=by
 go_enter Tryz.func107,Tryz.ntmps107;go_wp2;go_returns;exact⟨rfl,rfl⟩
theorem Mc(w:World)(x n s cs cn cap cb bm i:Nat)(S:ByteArray)(uid kind:Int)(C:World->Prop)(hx:w.heap[x]?=some (.cells #[ptr n,ptr s,.slice (some ⟨cs,0,none⟩) cn cap] 84 (0,0)))(hi:i<cn)(hcs:w.cell? ⟨cs,i,none⟩=some (ptr cb))(hcb:w.cell? ⟨cb,2,none⟩=some (.map (some bm)))
  (H52:Hid (Calls Tryz.prog 107 #[ptr s,.string S] w fun e w'=>e=.returned (.tuple #[.int .i64 uid,.int .i64 kind,.int .i64 0])/\Below w.heap.size w w'))
  (HPUT:Hid (∀w1,Below w.heap.size w w1->∃w2,(Instr.mapUpdate 131 (.map (some bm)) (.int .i64 uid) (.int .i64 kind)).run Tryz.prog w1=.ok () w2/\C w2)):
  Calls Tryz.prog 62 #[ptr x,.int .i64 (i:Int),.string S] w fun e w'=>e=.returned (.tuple #[.int .i64 uid,.int .i64 kind,.int .i64 0])/\C w':=by
 have q1:(0:Int)<=(i:Int):=by omega
 have q2:(i:Int)<(cn:Int):=by omega
 have c1:w.cell? ⟨x,1,none⟩=some (ptr s):=cell_of hx 1 _ rfl;have c2:w.cell? ⟨x,2,none⟩=some (.slice (some ⟨cs,0,none⟩) cn cap):=cell_of hx 2 _ rfl;have l1:=lt_of_cell c1;have l2:=lt_of_cell hcs;have l3:=lt_of_cell hcb;clear hx;go_enter Tryz.func62,Tryz.ntmps62;go_wp2_with (first|(go_at_call 38;go_in))
 refine(Aa H52).mono ?_;rintro e w1 ⟨rfl,hb⟩;have d2:w1.cell? ⟨x,2,none⟩=some (.slice (some ⟨cs,0,none⟩) cn cap):=(hb.cell (p:=⟨x,2,none⟩) l1).trans c2;have d3:w1.cell? ⟨cs,i,none⟩=some (ptr cb):=(hb.cell (p:=⟨cs,i,none⟩) l2).trans hcs;have d4:w1.cell? ⟨cb,2,none⟩=some (.map (some bm)):=(hb.cell (p:=⟨cb,2,none⟩) l3).trans hcb;obtain⟨w2,hrun,hC⟩:=(Aa HPUT) w1 hb;have HC:=Ab hC;clear hb hC c1 c2 hcs hcb;go_wp2_with (first|(go_at_call 108;go_in))
 go_returns;exact⟨rfl,Aa HC⟩
theorem LV(w:World)(x n s cs cn cap:Nat)(S:ByteArray)(kind uid er:Int)(C:World->Prop)(hx:w.heap[x]?=some (.cells #[ptr n,ptr s,.slice (some ⟨cs,0,none⟩) cn cap] 84 (0,0)))(H51:Hid (Calls Tryz.prog 106 #[ptr s,.string S,.int .i64 kind] w fun e w'=>e=.returned (.tuple #[.int .i64 uid,.int .i64 er])/\C w')):
  Calls Tryz.prog 60 #[ptr x,.string S,.int .i64 kind] w fun e w'=>e=.returned (.tuple #[.int .i64 uid,.int .i64 er])/\C w':=by
 have c1:w.cell? ⟨x,1,none⟩=some (ptr s):=cell_of hx 1 _ rfl;clear hx;go_enter Tryz.func60,Tryz.ntmps60;go_wp2_with fail
 refine(Aa H51).mono ?_;rintro e w1 ⟨rfl,hC⟩;go_wp2;go_returns;exact⟨rfl,hC⟩
theorem Kb(w:World)(x n s cs cn cap:Nat)(i:Int)(S:ByteArray)(er:Int)(hx:w.heap[x]?=some (.cells #[ptr n,ptr s,.slice (some ⟨cs,0,none⟩) cn cap] 84 (0,0)))(h:((i<0\/(cn:Int)<=i)/\er=13)\/(0<=i/\i<(cn:Int)/\er=10/\Calls Tryz.prog 107 #[ptr s,.string S] w fun e w'=>e=.returned (.tuple #[.int .i64 0,.int .i64 0,.int .i64 10])/\w'=w)):
  Calls Tryz.prog 62 #[ptr x,.int .i64 i,.string S] w fun e w'=>e=.returned (.tuple #[.int .i64 0,.int .i64 0,.int .i64 er])/\w'=w:=by
 have c1:w.cell? ⟨x,1,none⟩=some (ptr s):=cell_of hx 1 _ rfl;have c2:w.cell? ⟨x,2,none⟩=some (.slice (some ⟨cs,0,none⟩) cn cap):=cell_of hx 2 _ rfl;clear hx;rcases h with ⟨h1,rfl⟩|⟨h1,h2,rfl,h3⟩
 ·by_cases h0:i<0
  ·have e0:decide (0<=i)=false:=by simp;omega
   go_enter Tryz.func62,Tryz.ntmps62;go_wp2_with (first|(go_at_call 38;go_in))
   all_goals first
    |done
    |(go_returns
      exact⟨rfl,rfl⟩)
  ·have e1:decide (i<(cn:Int))=false:=by simp;omega
   have q1:(0:Int)<=i:=by omega
   go_enter Tryz.func62,Tryz.ntmps62;go_wp2_with (first|(go_at_call 38;go_in))
   all_goals first
    |done
    |(go_returns
      exact⟨rfl,rfl⟩)
 ·have H:=Ab h3;clear h3;go_enter Tryz.func62,Tryz.ntmps62;go_wp2_with (first|(go_at_call 38;go_in))
  refine(Aa H).mono ?_;rintro e w1 ⟨rfl,hw1⟩;rw[hw1];go_wp2;go_returns;exact⟨rfl,rfl⟩
def Cv(G:R.Wd)(i:Nat)(uid:Int):R.Wd:={G with Ad:=G.Ad.modify i fun c=>{c with bound:=c.bound++[uid]}}
theorem Io{G:R.Wd}{i:Nat}{uid:Int}{j:Nat}:(Cv G i uid).Ad[j]?=(G.Ad[j]?).map fun c=>if i=j then {c with bound:=c.bound++[uid]} else c:=by
 simp only[Cv,List.getElem?_modify];by_cases h:i=j<;>simp[h]
theorem Eh{G:R.Wd}{i:Nat}{uid:Int}{j:Nat}{c':R.Cl}(h:(Cv G i uid).Ad[j]?=some c'):∃c0,G.Ad[j]?=some c0/\c'=(if i=j then {c0 with bound:=c0.bound++[uid]} else c0):=by
 rw[Io]at h;cases h0:G.Ad[j]? with
 |none=>rw[h0]at h;cases h
 |some c0=>rw[h0]at h;exact⟨c0,rfl,(Option.some.inj h).symm⟩
theorem Md{G:R.Wd}(h:R.Wf G){i:Nat}{uid:Int}(hu:1<=uid/\uid<=(G.Ac.length:Int)):R.Wf (Cv G i uid):=by
 refine⟨h.cf,by simpa [Cv] using h.JL,fun j c hc=>?_,h.EC,h.EO,h.sv,h.Lr,h.nm,h.st,h.nd,h.IC⟩;obtain⟨c0,h0,rfl⟩:=Eh hc;have q:=h.cl j c0 h0;split
 ·refine⟨q.lines,q.Ax,fun u hu'=>?_,q.line⟩;rcases List.mem_append.1 hu' with hu'|hu'
  ·exact q.bound u hu'
  ·simp only[List.mem_singleton]at hu';subst hu';exact hu
 ·exact⟨q.lines,q.Ax,q.bound,q.line⟩
theorem LW.bind{p:Pl}{F:Ag}{G:R.Wd}{w w1 w2:World}(h:LW p F G w){i:Nat}{c:R.Cl}{uid:Int}(hc:G.Ad[i]?=some c)(hu:1<=uid/\uid<=(G.Ac.length:Int))(hb:Below w.heap.size w w1)(ht:Ae (fun k=>k=p.bm i) w1 w2)(hm:Mp w2 3 (p.bm i) KY (BU G {c with bound:=c.bound++[uid]}) (dd (c.bound++[uid])).length):
  LW p F (Cv G i uid) w2/\Ah F F w w2:=by
 have hi:=(List.getElem?_eq_some_iff.1 hc).1;obtain⟨es,q,hq⟩:=(h.bound i c hc).block;have hkA:Ae (fun k=>k=p.bm i) w w2:=(Ae.Aq hb _).trans ht;have hav:Avoid w F (fun k=>k=p.bm i):=Avoid.tags (fun b hb=>Or.inr ⟨es,q,by subst hb;exact hq⟩);have hlen:(Cv G i uid).Ad.length=G.Ad.length:=by simp[Cv]
 have at':∀{b:Nat} {ys:Array Value} {t:TypeId} {f:Nat×Nat},w.heap[b]?=some (.cells ys t f)->w2.heap[b]?=some (.cells ys t f):=fun hb=>hkA.at hb (FG hb hq)
 have rw':∀{K:Value} {e:TypeId} {size n B:Nat} {xs:List Value},w.ownsRow B e size K n xs->w2.ownsRow B e size K n xs:=fun hr=>hkA.row hr (fun j hj e=>EK hr hq (e ▸ hj))
 refine⟨⟨Md h.wf hu,h.CF,?_,?_,?_,?_,?_,fun j c' hj=>?_,fun j c' hj=>?_,fun j c' hj=>?_,h.A4,?_,?_,fun k hf=>Nat.lt_of_lt_of_le (h.lt k hf) hkA.size⟩,⟨hkA.mono (fun k _ e=>by rw[e];exact(h.Bw i hi).2.2.1),fun _ q=>Or.inl q⟩⟩
 ·rw[hlen];exact at' h.bx
 ·rw[hlen];obtain⟨cur,h1,h2⟩:=h.VY;exact⟨cur,at' h1,h2⟩
 ·obtain⟨K,h1,h2,h3⟩:=h.bn;exact⟨K,at' h1,rw' h2,h3⟩
 ·exact h.Eb.keep hkA hav (fun _ r=>r)
 ·exact h.names.keep hkA (fun e=>(h.Bw i hi).2.2.2 e.symm)
 ·obtain⟨c0,h0,rfl⟩:=Eh hj;have:=at' (h.cl j c0 h0);split<;>exact this
 ·obtain⟨c0,h0,rfl⟩:=Eh hj;obtain⟨xs,h1,h2,h3⟩:=h.ln j c0 h0;refine⟨xs,at' h1,?_⟩;have h4:=h3.Ed hkA hav.sv (fun _ r=>r);split<;>exact⟨h2,h4⟩
 ·obtain⟨c0,h0,rfl⟩:=Eh hj;by_cases hij:i=j
  ·subst hij;obtain rfl:=Option.some.inj (hc.symm.trans h0);simp only[if_true];exact hm
  ·simp only[hij,if_false];exact(h.bound j c0 h0).keep hkA (fun e=>(h.inj i j hi (List.getElem?_eq_some_iff.1 h0).1 hij).2.1 e.symm)
 ·rw[hlen];exact h.Bw
 ·rw[hlen];exact h.inj
theorem Vo{G:R.Wd}(h:R.Wf G){name:List UInt8}{uid:Int}(hs:AP G name=some uid):1<=uid/\uid<=(G.Ac.length:Int):=by
 unfold AP R.Bh at hs;cases hf:G.names.findIdx? (·==name) with
 |none=>rw[hf]at hs;cases hs
 |some k=>
  rw[hf]at hs;simp only[Option.map_some,Option.some.injEq]at hs;have hk:=(List.findIdx?_eq_some_iff_getElem.1 hf).1;have hst:=h.st;subst hs;refine h.IC _ ?_;rw[List.getD_eq_getElem?_getD,List.getElem?_eq_getElem (by omega)];simp
theorem LW.import{p:Pl}{F:Ag}{G:R.Wd}{w:World}(h:LW p F G w){i:Nat}{c:R.Cl}{name:List UInt8}{uid:Int}(hc:G.Ad[i]?=some c)(hl:name.length<=1000000000000000)(hs:AP G name=some uid):
  Calls Tryz.prog 62 #[ptr p.x,.int .i64 (i:Int),.string (str name)] w fun e w'=>e=.returned (.tuple #[.int .i64 uid,.int .i64 (kindOf G uid),.int .i64 0])/\LW p F (Cv G i uid) w'/\Ah F F w w':=by
 have hi:=(List.getElem?_eq_some_iff.1 hc).1;have hu:=Vo h.wf hs;have hsv:=h.wf.sv;obtain⟨k,hk⟩:∃k:Nat,uid=(k:Int)+1:=⟨(uid-1).toNat,by omega⟩;have hkl:k<G.Ac.length:=by omega
 have hlook:=EX h.names (s:=name) (by unfold maxLen;omega);rw[hs]at hlook;simp only[Option.getD_some,Option.isSome_some]at hlook;have hgk:G.Ac[k]?=some (G.Ac[k]'hkl):=List.getElem?_eq_getElem hkl;have hkd:kindOf G uid=(G.Ac[k]'hkl).kind:=by
  unfold kindOf;rw[show (uid-1).toNat=k by omega,hgk];rfl
 obtain⟨z,hz,hz1⟩:=VN h.Eb.zs hgk;have hzl:p.t.zs.length=G.Ac.length:=by rw[<-h.Eb.zs,List.length_map]
 obtain⟨g,cap,cur,hK,_,_,hcell,_⟩:=h.Eb.Ur hz;have hz2:z.1.kind=kindOf G uid:=by rw[hz1,hkd]
 rw[hz2]at hcell;rw[hk]at hlook ⊢;have hfd:=QX w p.s p.nm g p.t.zs.length cap k (str name) (kindOf G uid) (cell_of h.Eb.bs 5 _ rfl) (cell_of h.Eb.bs 6 _ (by rw[<-hK];rfl)) (by omega) (by omega) hcell hlook;rw[hk]at hfd;refine Mc w p.x p.n p.s p.cs G.Ad.length p.cap (p.cb i) (p.bm i) i (str name) ((k:Int)+1) (kindOf G ((k:Int)+1)) (fun w'=>LW p F (Cv G i ((k:Int)+1)) w'/\Ah F F w w') h.bx hi (h.TH hi) (KM h hc).a2 hfd ?_;intro w1 hb;have hfew:=Yc (N:=255) (fun u hu'=>by have:=(h.wf.cl i c hc).bound u hu';omega);have hmk:-9223372036854775808<=kindOf G ((k:Int)+1)/\kindOf G ((k:Int)+1)<=9223372036854775807:=by
  rw[hk]at hkd;have:=h.wf.Lr _ (List.mem_of_getElem? hgk);omega
 obtain⟨w2,hrun,hm,htn⟩:=Xa ((h.bound i c hc).keep (Ae.Aq hb (fun _=>False)) (fun e=>e)) (by omega) (u:=(k:Int)+1) (v:=kindOf G ((k:Int)+1)) (by omega) hmk (BU G {c with bound:=c.bound++[(k:Int)+1]}) (fun x=>⟨fun e=>by subst e;simp[BU],fun e=>by
  unfold BU;simp[e]⟩)
 refine⟨w2,hrun,h.bind hc (by omega) hb (El htn) ?_⟩;rw[KP];have hbo:(BU G c ((k:Int)+1)).isSome=decide (((k:Int)+1)∈c.bound):=by
  unfold BU;by_cases hq:((k:Int)+1)∈c.bound<;>simp[hq]
 rw[hbo]at hm;by_cases hq:((k:Int)+1)∈c.bound
 ·rw[if_pos ((NK _ _).2 hq)];simpa [hq] using hm
 ·rw[if_neg (fun q=>hq ((NK _ _).1 q))];simpa [hq] using hm
theorem LW.imports{p:Pl}{F:Ag}{G:R.Wd}{w:World}(h:LW p F G w)(i:Int)(name:List UInt8)(hl:name.length<=1000000000000000):
  Calls Tryz.prog 62 #[ptr p.x,.int .i64 i,.string (str name)] w fun e w'=>e=.returned (.tuple #[.int .i64 (R.Bn G i name).1.1,.int .i64 (R.Bn G i name).1.2.1,.int .i64 (R.Bn G i name).1.2.2])/\LW p F (R.Bn G i name).2 w'/\Ah F F w w':=by
 unfold R.Bn;by_cases hi:i<0\/(G.Ad.length:Int)<=i
 ·rw[if_pos hi];refine(Kb w p.x p.n p.s p.cs G.Ad.length p.cap i (str name) 13 h.bx (Or.inl ⟨hi,rfl⟩)).mono ?_;rintro e w' ⟨rfl,rfl⟩;exact⟨rfl,h,Ah.refl F w'⟩
 ·rw[if_neg hi];cases he:R.Bh G name with
  |none=>
   have hs:AP G name=none:=by unfold AP;rw[he];rfl
   have hlook:=EX h.names (s:=name) (by unfold maxLen;omega);rw[hs]at hlook;refine(Kb w p.x p.n p.s p.cs G.Ad.length p.cap i (str name) 10 h.bx (Or.inr ⟨by omega,by omega,rfl,Wo w p.s p.nm (str name) (cell_of h.Eb.bs 5 _ rfl) hlook⟩)).mono ?_;rintro e w' ⟨rfl,rfl⟩;exact⟨rfl,h,Ah.refl F w'⟩
  |some k=>
   have hs:AP G name=some (G.stands.getD k 0):=by unfold AP;rw[he];rfl
   obtain⟨j,rfl⟩:∃j:Nat,i=(j:Int):=⟨i.toNat,by omega⟩;have hj:j<G.Ad.length:=by omega
   exact h.import (List.getElem?_eq_getElem hj) hl hs
end Go.Proofs.YtblomippkddgiaaGreatDoor
