import Derived.Test.YtblomippkddgiaaGreatDoorJ08
set_option maxRecDepth 100000
set_option maxHeartbeats 1000000
namespace Go.Proofs.YtblomippkddgiaaGreatDoor.V
open Go.RowKit
theorem Ub:(Tryz.prog.info? 4).map (fun i=>(i.zero,i.size,i.bytes))=some (some (.bool false),1,1):=by kernel_rfl
structure C6(w0 w:World)(O:Value)(outs:List Bool):Prop where
 own:w.ownsRow w0.heap.size 4 1 O outs.length (outs.map Value.bool)
 below:Below w0.heap.size w0 w
theorem RS{w w':World}{B n size:Nat}{e:TypeId}{v:Value}{xs:List Value}(h:w.ownsRow B e size v n xs)(hb:Below w.heap.size w w'):w'.ownsRow B e size v n xs:=by
 obtain⟨hl,h⟩:=h;refine⟨hl,?_⟩;rcases h with h|⟨g,cap,cur,hv,hg,hh,r⟩
 ·exact Or.inl h
 ·refine Or.inr ⟨g,cap,cur,hv,hg,?_,r⟩;rw[hb.block g (lt_of_block hh)];exact hh
theorem C6.go{w0 w w':World}{O:Value}{outs:List Bool}(h:C6 w0 w O outs)(hb:Below w.heap.size w w'):C6 w0 w' O outs:=⟨RS h.own hb,h.below.trans (hb.mono h.below.size)⟩
theorem C6.shape{w0 w:World}{O:Value}{outs:List Bool}(h:C6 w0 w O outs):∃a cap,O=.slice a outs.length cap:=by
 rcases h.own.2 with ⟨hv,h0⟩|⟨g,cap,cur,hv,_⟩
 ·exact⟨none,0,by rw[hv,h0]⟩
 ·exact⟨_,_,hv⟩
def Qu(s:ByteArray)(V:Value)(v:List It)(w0:World)(f:Nat):Prop:=∀(p:Nat) (O:Value) (outs ks:List Bool) (r:List It) (w:World),GV s f p->C6 w0 w O outs->Dk (nx s) f p (v.drop outs.length)=some (ks,r) ->
 Calls Tryz.prog 240 #[.string s,.int .i64 p,V,O] w fun e w'=>∃O',e=.returned O'/\C6 w0 w' O' (outs++ks)
theorem Se{E:Nat->List It->Ck}{qs:List Nat}{v:List It}{ks:List Bool}{r:List It}(h:AX E qs v=some (ks,r))(k:Nat):∃k1 r1,AX E (qs.take k) v=some (k1,r1):=by
 cases hs:AX E (qs.take k) v with
 |none=>rw[FZ E hs]at h;cases h
 |some e=>exact⟨e.1,e.2,rfl⟩
theorem Jt{E:Nat->List It->Ck}{qs:List Nat}{v:List It}{ks:List Bool}{r:List It}(h:AX E qs v=some (ks,r)){k q:Nat}(hq:qs[k]?=some q){k1:List Bool}{r1:List It}(h1:AX E (qs.take k) v=some (k1,r1)):
  ∃k2 r2,E q r1=some (k2,r2)/\AX E (qs.take (k+1)) v=some (k1++k2,r2):=by
 obtain⟨ka,ra,h2⟩:=Se h (k+1);rw[List.take_add_one,hq,Option.toList_some,E1,h1]at h2;simp only at h2;cases hE:E q r1 with
 |none=>rw[hE]at h2;cases h2
 |some e=>
  refine⟨e.1,e.2,rfl,?_⟩;rw[List.take_add_one,hq,Option.toList_some,E1,h1];simp only[hE];rfl
theorem Xr(s:ByteArray)(p:Nat)(V O:Value)(v:List It)(E:Nat->List It->Ck)(qs:List Nat)(outs ks:List Bool)(r:List It)(w0 w:World)(hp:p<s.size)(hql:qs.length<=9)(hO:C6 w0 w O outs)(hEh:∀q∈qs,Ga (E q))(hE:AX E qs (v.drop outs.length)=some (ks,r))
  (HI:∀w,Calls Tryz.prog 241 #[.string s,.int .i64 p] w fun e w'=>e=.returned (.int .i64 (qs.length:Int))/\Below w.heap.size w w')
  (HW:∀(k q:Nat) w,qs[k]?=some q->Calls Tryz.prog 242 #[.string s,.int .i64 p,.int .i64 k] w fun e w'=>e=.returned (.int .i64 q)/\Below w.heap.size w w')
  (HV:∀(q:Nat) (O':Value) (outs' k2:List Bool) (r2:List It) w',q∈qs->C6 w0 w' O' outs'->E q (v.drop outs'.length)=some (k2,r2)->Calls Tryz.prog 240 #[.string s,.int .i64 q,V,O'] w' fun e w''=>∃O'',e=.returned O''/\C6 w0 w'' O'' (outs'++k2))
  (t1:((((s[p]).toNat:Nat):Int)==97)=true):
  Calls Tryz.prog 240 #[.string s,.int .i64 p,V,O] w fun e w'=>∃O',e=.returned O'/\C6 w0 w' O' (outs++ks):=by
 have H1:=Ab HI;have H2:=Ab HW;have H3:=Ab HV;have HEH:=Ab hEh;have HE:=Ab hE;have HOO:=Ab hO;clear HI HW HV hEh hE hO;go_enter Tryz.func240,Tryz.ntmps240;go_wp2_with fail
 refine((Aa H1) _).mono ?_;rintro e w1 ⟨rfl,hb1⟩;have I0:=Ab ((Aa HOO).go hb1);clear hb1;go_wp2;go_loopw [3,10] (fun ov kv wr=>∃(k:Nat) (k1:List Bool) (r1:List It),k<=qs.length/\kv=.int .i64 k/\C6 w0 wr ov (outs++k1)/\Hid (AX E (qs.take k) (v.drop outs.length)=some (k1,r1))) (fun _ kv _=>qs.length-(intOf kv).toNat)
 case atStart=>exact⟨0,[],_,Nat.zero_le _,rfl,by rw[List.append_nil];exact Aa I0,rfl⟩
 case round=>
  obtain⟨k,k1,r1,hk,rfl,hor,hst⟩:=hrel;have HOR:=Ab hor;clear I0 hor;by_cases hkN:k<qs.length
  ·obtain⟨q,hq⟩:∃q,qs[k]?=some q:=⟨_,List.getElem?_eq_getElem hkN⟩;have hqm:q∈qs:=List.mem_of_getElem? hq;obtain⟨k2,r2,hE2,hst2⟩:=Jt (Aa HE) hq (Aa hst);obtain⟨h1,h2⟩:=Dg (E:=E) (qs.take k) (fun q' hq'=>Aa HEH q' (List.mem_of_mem_take hq')) _ _ _ (Aa hst);rw[List.drop_drop]at h1;have HE2:Hid (E q (v.drop (outs++k1).length)=some (k2,r2)):=by rw[List.length_append,<-h1];exact hE2
   have HST2:=Ab hst2;have HQ:=Ab hq;clear h1 h2 hE2 hst2 hq hst;go_wp2_with fail
   refine((Aa H2) k q _ (Aa HQ)).mono ?_;rintro e w2 ⟨rfl,hb2⟩;have hor2:=Ab ((Aa HOR).go hb2);clear hb2;go_wp2_with fail
   refine((Aa H3) q _ _ _ _ _ hqm (Aa hor2) (Aa HE2)).mono ?_;rintro e w3 ⟨O3,rfl,ho3⟩;have HO3:=Ab ho3;clear ho3;go_wp2;go_roundw
   case rel=>exact⟨k+1,k1++k2,r2,by omega,by go_num,by rw[<-List.append_assoc];exact Aa HO3,Aa HST2⟩
   case measure=>simp[intOf];omega
  ·obtain rfl:k=qs.length:=by omega
   have e1:k1=ks:=by
    have h:=Aa hst;rw[List.take_length,Aa HE]at h;cases h;rfl
   subst e1;go_wp2
   go_ret
   exact⟨_,rfl,Aa HOR⟩
theorem Xu(s:ByteArray)(p:Nat)(V O:Value)(v:List It)(E:Nat->List It->Ck)(qs:List Nat)(outs ks:List Bool)(r:List It)(w0 w:World)(hp:p<s.size)(hql:qs.length<=9)(hO:C6 w0 w O outs)(hEh:∀q∈qs,Ga (E q))(hE:AX E qs (v.drop outs.length)=some (ks,r))
  (HI:∀w,Calls Tryz.prog 241 #[.string s,.int .i64 p] w fun e w'=>e=.returned (.int .i64 (qs.length:Int))/\Below w.heap.size w w')
  (HW:∀(k q:Nat) w,qs[k]?=some q->Calls Tryz.prog 242 #[.string s,.int .i64 p,.int .i64 k] w fun e w'=>e=.returned (.int .i64 q)/\Below w.heap.size w w')
  (HV:∀(q:Nat) (O':Value) (outs' k2:List Bool) (r2:List It) w',q∈qs->C6 w0 w' O' outs'->E q (v.drop outs'.length)=some (k2,r2)->Calls Tryz.prog 240 #[.string s,.int .i64 q,V,O'] w' fun e w''=>∃O'',e=.returned O''/\C6 w0 w'' O'' (outs'++k2))
  (t1:((((s[p]).toNat:Nat):Int)==97)=false) (t2:((((s[p]).toNat:Nat):Int)==114)=true):
  Calls Tryz.prog 240 #[.string s,.int .i64 p,V,O] w fun e w'=>∃O',e=.returned O'/\C6 w0 w' O' (outs++ks):=by
 have H1:=Ab HI;have H2:=Ab HW;have H3:=Ab HV;have HEH:=Ab hEh;have HE:=Ab hE;have HOO:=Ab hO;clear HI HW HV hEh hE hO;go_enter Tryz.func240,Tryz.ntmps240;go_wp2_with fail
 refine((Aa H1) _).mono ?_;rintro e w1 ⟨rfl,hb1⟩;have I0:=Ab ((Aa HOO).go hb1);clear hb1;go_wp2;go_loopw [3,10] (fun ov kv wr=>∃(k:Nat) (k1:List Bool) (r1:List It),k<=qs.length/\kv=.int .i64 k/\C6 w0 wr ov (outs++k1)/\Hid (AX E (qs.take k) (v.drop outs.length)=some (k1,r1))) (fun _ kv _=>qs.length-(intOf kv).toNat)
 case atStart=>exact⟨0,[],_,Nat.zero_le _,rfl,by rw[List.append_nil];exact Aa I0,rfl⟩
 case round=>
  obtain⟨k,k1,r1,hk,rfl,hor,hst⟩:=hrel;have HOR:=Ab hor;clear I0 hor;by_cases hkN:k<qs.length
  ·obtain⟨q,hq⟩:∃q,qs[k]?=some q:=⟨_,List.getElem?_eq_getElem hkN⟩;have hqm:q∈qs:=List.mem_of_getElem? hq;obtain⟨k2,r2,hE2,hst2⟩:=Jt (Aa HE) hq (Aa hst);obtain⟨h1,h2⟩:=Dg (E:=E) (qs.take k) (fun q' hq'=>Aa HEH q' (List.mem_of_mem_take hq')) _ _ _ (Aa hst);rw[List.drop_drop]at h1;have HE2:Hid (E q (v.drop (outs++k1).length)=some (k2,r2)):=by rw[List.length_append,<-h1];exact hE2
   have HST2:=Ab hst2;have HQ:=Ab hq;clear h1 h2 hE2 hst2 hq hst;go_wp2_with fail
   refine((Aa H2) k q _ (Aa HQ)).mono ?_;rintro e w2 ⟨rfl,hb2⟩;have hor2:=Ab ((Aa HOR).go hb2);clear hb2;go_wp2_with fail
   refine((Aa H3) q _ _ _ _ _ hqm (Aa hor2) (Aa HE2)).mono ?_;rintro e w3 ⟨O3,rfl,ho3⟩;have HO3:=Ab ho3;clear ho3;go_wp2;go_roundw
   case rel=>exact⟨k+1,k1++k2,r2,by omega,by go_num,by rw[<-List.append_assoc];exact Aa HO3,Aa HST2⟩
   case measure=>simp[intOf];omega
  ·obtain rfl:k=qs.length:=by omega
   have e1:k1=ks:=by
    have h:=Aa hst;rw[List.take_length,Aa HE]at h;cases h;rfl
   subst e1;go_wp2
   go_ret
   exact⟨_,rfl,Aa HOR⟩
theorem JE(s:ByteArray)(p b off cap:Nat)(O:Value)(v:List It)(outs:List Bool)(N:Int)(t:Bool)(w0 w:World)(hp:p<s.size)(hO:C6 w0 w O outs)(hol:outs.length<v.length)(hn:v.length<=9000000000000)(f0:w.cell? ⟨b,off+outs.length*2,none⟩=some (.int .i64 N))(t1:((((s[p]).toNat:Nat):Int)==97)=false)(t2:((((s[p]).toNat:Nat):Int)==114)=false)(t3:((((s[p]).toNat:Nat):Int)==115)=t)(t4:((((s[p]).toNat:Nat):Int)==117)=false)(t5:((((s[p]).toNat:Nat):Int)==113)=false):
  Calls Tryz.prog 240 #[.string s,.int .i64 p,.slice (some ⟨b,off,none⟩) v.length cap,O] w fun e w'=>∃O',e=.returned O'/\C6 w0 w' O' (outs++[t]):=by
 obtain⟨oa,ocap,rfl⟩:=hO.shape;have HOO:=Ab hO;have how:=hO.own;have hbz:=hO.below.size;clear hO;generalize hol':outs.length=m at *;have HM:=Ab hol';clear hol';obtain⟨i0,hi,hz0,hz1,hz2⟩:=info_parts Ub;go_enter Tryz.func240,Tryz.ntmps240;go_wp2_with (at_builtin;refine wpList_append_own_at _ rfl (.tmp 46) (.tmp 51) 59 rfl w0.heap.size 4 i0 (.bool false) 1 1 Tryz.underlying59 hi hz0 hz1 hz2 rfl (by decide) _ m (outs.map Value.bool) rfl (by exact how.alloc _) ⟨w.heap.size,0,none⟩ 1 1 [.bool t] rfl rfl (by exact cell_one_new _ _ _) (by intro u hu;simp at hu;subst hu;rfl) (by unfold maxLen;omega) (by omega) (by simp;omega) ?_)
 intro O1 w1 hown hgrow _ _;have HO1:Hid (C6 w0 w1 O1 (outs++[t])):=by
  refine⟨?_,((Aa HOO).below.alloc (by omega) _).grown hgrow (by simp;omega) (fun k hk=>(how.lt k hk).1)⟩;rw[List.length_append,List.map_append,Aa HM];exact hown
 clear hown hgrow how f0;go_wp2;refine wp_loop_rounds 1 ?_;rw[rounds_succ];go_wp2
 go_ret
 exact⟨_,rfl,Aa HO1⟩
theorem Xv(s:ByteArray)(p b off cap:Nat)(O:Value)(v:List It)(outs:List Bool)(N:Int)(t:Bool)(w0 w:World)(hp:p<s.size)(hO:C6 w0 w O outs)(hol:outs.length<v.length)(hn:v.length<=9000000000000)(f0:w.cell? ⟨b,off+outs.length*2,none⟩=some (.int .i64 N))(t1:((((s[p]).toNat:Nat):Int)==97)=false)(t2:((((s[p]).toNat:Nat):Int)==114)=false)(t3:((((s[p]).toNat:Nat):Int)==115)=t)(t4:((((s[p]).toNat:Nat):Int)==117)=true)(q:Nat)(k2:List Bool)(HP:∀w,Calls Tryz.prog 244 #[.string s,.int .i64 p,.int .i64 N] w fun e w'=>e=.returned (.int .i64 q)/\Below w.heap.size w w')
  (HV:∀(O':Value) w',C6 w0 w' O' (outs++[t])->Calls Tryz.prog 240 #[.string s,.int .i64 q,.slice (some ⟨b,off,none⟩) v.length cap,O'] w' fun e w''=>∃O'',e=.returned O''/\C6 w0 w'' O'' (outs++[t]++k2)):
  Calls Tryz.prog 240 #[.string s,.int .i64 p,.slice (some ⟨b,off,none⟩) v.length cap,O] w fun e w'=>∃O',e=.returned O'/\C6 w0 w' O' (outs++[t]++k2):=by
 have HPP:=Ab HP;have HVV:=Ab HV;clear HP HV;obtain⟨oa,ocap,rfl⟩:=hO.shape;have HOO:=Ab hO;have how:=hO.own;have hbz:=hO.below.size;clear hO;generalize hol':outs.length=m at *;have HM:=Ab hol';clear hol';obtain⟨i0,hi,hz0,hz1,hz2⟩:=info_parts Ub;go_enter Tryz.func240,Tryz.ntmps240;go_wp2_with (at_builtin;refine wpList_append_own_at _ rfl (.tmp 46) (.tmp 51) 59 rfl w0.heap.size 4 i0 (.bool false) 1 1 Tryz.underlying59 hi hz0 hz1 hz2 rfl (by decide) _ m (outs.map Value.bool) rfl (by exact how.alloc _) ⟨w.heap.size,0,none⟩ 1 1 [.bool t] rfl rfl (by exact cell_one_new _ _ _) (by intro u hu;simp at hu;subst hu;rfl) (by unfold maxLen;omega) (by omega) (by simp;omega) ?_)
 intro O1 w1 hown hgrow _ _;have HO1:Hid (C6 w0 w1 O1 (outs++[t])):=by
  refine⟨?_,((Aa HOO).below.alloc (by omega) _).grown hgrow (by simp;omega) (fun k hk=>(how.lt k hk).1)⟩;rw[List.length_append,List.map_append,Aa HM];exact hown
 clear hown hgrow how f0;go_wp2_with fail
 refine((Aa HPP) _).mono ?_;rintro e w2 ⟨rfl,hb2⟩;have HO2:=Ab ((Aa HO1).go hb2);clear hb2;go_wp2_with fail
 refine((Aa HVV) _ _ (Aa HO2)).mono ?_;rintro e w3 ⟨O3,rfl,ho3⟩;have HO3:=Ab ho3;clear ho3;go_wp2
 go_ret
 exact⟨_,rfl,Aa HO3⟩
theorem Xt(s:ByteArray)(p b off cap:Nat)(O:Value)(v:List It)(outs:List Bool)(N:Int)(t:Bool)(w0 w:World)(hp:p<s.size)(hO:C6 w0 w O outs)(hol:outs.length<v.length)(hn:v.length<=9000000000000)(f0:w.cell? ⟨b,off+outs.length*2,none⟩=some (.int .i64 N))(t1:((((s[p]).toNat:Nat):Int)==97)=false)(t2:((((s[p]).toNat:Nat):Int)==114)=false)(t3:((((s[p]).toNat:Nat):Int)==115)=t)(E:Nat->List It->Ck)(ks:List Bool)(r:List It)(hEh:Ga (E (p+2)))(hE:AX E (List.replicate N.toNat (p+2)) (v.drop (outs++[t]).length)=some (ks,r))(hN0:0<=N)(hN9:N<=9)(hpl:p<=40)(t4:((((s[p]).toNat:Nat):Int)==117)=false)(t5:((((s[p]).toNat:Nat):Int)==113)=true)
  (HV:∀(O':Value) (outs' k2:List Bool) (r2:List It) w',C6 w0 w' O' outs'->E (p+2) (v.drop outs'.length)=some (k2,r2)->Calls Tryz.prog 240 #[.string s,.int .i64 ((p:Int)+2),.slice (some ⟨b,off,none⟩) v.length cap,O'] w' fun e w''=>∃O'',e=.returned O''/\C6 w0 w'' O'' (outs'++k2)):
  Calls Tryz.prog 240 #[.string s,.int .i64 p,.slice (some ⟨b,off,none⟩) v.length cap,O] w fun e w'=>∃O',e=.returned O'/\C6 w0 w' O' (outs++[t]++ks):=by
 have HVV:=Ab HV;have HEH:=Ab hEh;have HE:=Ab hE;clear HV hEh hE;obtain⟨oa,ocap,rfl⟩:=hO.shape;have HOO:=Ab hO;have how:=hO.own;have hbz:=hO.below.size;clear hO;generalize hol':outs.length=m at *;have HM:=Ab hol';clear hol';obtain⟨i0,hi,hz0,hz1,hz2⟩:=info_parts Ub;go_enter Tryz.func240,Tryz.ntmps240;go_wp2_with (at_builtin;refine wpList_append_own_at _ rfl (.tmp 46) (.tmp 51) 59 rfl w0.heap.size 4 i0 (.bool false) 1 1 Tryz.underlying59 hi hz0 hz1 hz2 rfl (by decide) _ m (outs.map Value.bool) rfl (by exact how.alloc _) ⟨w.heap.size,0,none⟩ 1 1 [.bool t] rfl rfl (by exact cell_one_new _ _ _) (by intro u hu;simp at hu;subst hu;rfl) (by unfold maxLen;omega) (by omega) (by simp;omega) ?_)
 intro O1 w1 hown hgrow _ _;have HO1:Hid (C6 w0 w1 O1 (outs++[t])):=by
  refine⟨?_,((Aa HOO).below.alloc (by omega) _).grown hgrow (by simp;omega) (fun k hk=>(how.lt k hk).1)⟩;rw[List.length_append,List.map_append,Aa HM];exact hown
 clear hown hgrow how f0;go_wp2;go_loopw [3,12] (fun ov kv wr=>∃(k:Nat) (k1:List Bool) (r1:List It),k<=N.toNat/\kv=.int .i64 k/\C6 w0 wr ov (outs++[t]++k1)/\Hid (AX E (List.replicate k (p+2)) (v.drop (outs++[t]).length)=some (k1,r1))) (fun _ kv _=>N.toNat-(intOf kv).toNat)
 case atStart=>exact⟨0,[],_,Nat.zero_le _,rfl,by rw[List.append_nil];exact Aa HO1,rfl⟩
 case round=>
  obtain⟨k,k1,r1,hk,rfl,hor,hst⟩:=hrel;have HOR:=Ab hor;clear HO1 hor;by_cases hkN:k<N.toNat
  ·have hkI:(k:Int)<N:=by omega
   have hq:(List.replicate N.toNat (p+2))[k]?=some (p+2):=by rw[List.getElem?_replicate,if_pos hkN]
   have hst':AX E ((List.replicate N.toNat (p+2)).take k) (v.drop (outs++[t]).length)=some (k1,r1):=by
    rw[List.take_replicate,Nat.min_eq_left hk];exact Aa hst
   obtain⟨k2,r2,hE2,hst2⟩:=Jt (Aa HE) hq hst';rw[List.take_replicate,Nat.min_eq_left (by omega)]at hst2;obtain⟨h1,h2⟩:=Dg (E:=E) (List.replicate k (p+2)) (fun q' hq'=>by rw[(List.mem_replicate.1 hq').2];exact Aa HEH) _ _ _ (Aa hst);rw[List.drop_drop]at h1;have HE2:Hid (E (p+2) (v.drop (outs++[t]++k1).length)=some (k2,r2)):=by rw[List.length_append,<-h1];exact hE2
   have HST2:=Ab hst2;clear h1 h2 hE2 hst2 hq hst hst';go_wp2_with fail
   refine((Aa HVV) _ _ _ _ _ (Aa HOR) (Aa HE2)).mono ?_;rintro e w3 ⟨O3,rfl,ho3⟩;have HO3:=Ab ho3;clear ho3;go_wp2;go_roundw
   case rel=>exact⟨k+1,k1++k2,r2,by omega,by go_num,by rw[<-List.append_assoc];exact Aa HO3,Aa HST2⟩
   case measure=>simp[intOf];omega
  ·obtain rfl:k=N.toNat:=by omega
   have hkI:¬((N.toNat:Nat):Int)<N:=by omega
   have e1:k1=ks:=by
    have h:=Aa hst;rw[Aa HE]at h;cases h;rfl
   subst e1;go_wp2
   go_ret
   exact⟨_,rfl,by simpa using Aa HOR⟩
theorem TN{g:Nat->Nat}{f p:Nat}{v:List It}{ks:List Bool}{r:List It}(h:Dk g (f+1) p v=some (ks,r)):∃k0 qs r0 k,AA g f p v=some (k0,qs,r0)/\AX (Dk g f) qs r0=some (k,r)/\ks=k0++k:=by
 simp only[Dk]at h;cases hh:AA g f p v with
 |none=>rw[hh]at h;cases h
 |some e=>
  obtain⟨k0,qs,r0⟩:=e;rw[hh]at h;simp only at h;cases hs:AX (Dk g f) qs r0 with
  |none=>rw[hs]at h;cases h
  |some e'=>
   obtain⟨k,r'⟩:=e';rw[hs]at h;simp only[BZ,Option.some.injEq,Prod.mk.injEq]at h;obtain⟨rfl,rfl⟩:=h;exact⟨k0,qs,r0,k,rfl,hs,rfl⟩
theorem SK(s:ByteArray)(V:Value)(v:List It)(w0:World)(hs:s.size<=40)(hn:v.length<=9000000000000)(hI:Items w0 V v):∀f,Qu s V v w0 f:=by
 intro f;induction f with
 |zero=>intro p O outs ks r w ho;have:=ho.fuel;omega
 |succ f ih=>
  intro p O outs ks r w ho hO hE;have hp:=ho.lt;obtain⟨k0,qs,r0,k,hh,hs',rfl⟩:=TN hE;by_cases h97:nx s p=97
  ·have hsub:p+1<s.size/\49<=nx s (p+1)/\nx s (p+1)<=57/\GV s f (p+2):=by
    rcases Cw ho with (h|h|h|h)|⟨h,_⟩|⟨h,h1,h2,h3,h4⟩|⟨h,_⟩|h
    ·omega
    ·omega
    ·omega
    ·omega
    ·omega
    ·exact⟨h1,h2,h3,h4⟩
    ·omega
    ·have:=h.here;omega
   have hx:AA (nx s) f p (v.drop outs.length)=some ([],List.replicate (nx s (p+1)-48) (p+2),v.drop outs.length):=by simp[AA,h97]
   rw[hx]at hh;cases hh;rw[List.nil_append];refine Xr s p V O v (Dk (nx s) f) _ outs k r w0 w hp (by simp;omega) hO (fun q _=>Cu _ _ _) hs' (fun w'=>?_) (fun k q w' hq=>?_) (fun q O' outs' k2 r2 w' hq ho' he'=>?_) (by rw[A6 hp h97];rfl)
   ·have h:=P4 s p w' hsub.1 h97 (by omega) hs;rw[List.length_replicate,show ((nx s (p+1)-48:Nat):Int)=(nx s (p+1):Int)-48 by omega];exact h
   ·have h:=M1 s p k w' hp h97 hs;obtain rfl:q=p+2:=(List.mem_replicate.1 (List.mem_of_getElem? hq)).2;exact h
   ·obtain rfl:q=p+2:=(List.mem_replicate.1 hq).2;exact ih (p+2) O' outs' k2 r2 w' hsub.2.2.2 ho' he'
  by_cases h114:nx s p=114
  ·have hl:PK s f p:=⟨Or.inl h114,ho⟩;have hkl:=CK (nx s) f p;have hx:AA (nx s) f p (v.drop outs.length)=some ([],Pt.kids (nx s) f p,v.drop outs.length):=by simp[AA,h114]
   rw[hx]at hh;cases hh;rw[List.nil_append];refine Xu s p V O v (Dk (nx s) f) _ outs k r w0 w hp (by omega) hO (fun q _=>Cu _ _ _) hs' (fun w'=>P5 s f p w' hl hs) (fun k q w' hq=>?_) (fun q O' outs' k2 r2 w' hq ho' he'=>ih q O' outs' k2 r2 w' (Du hl q hq).2 ho' he') (by rw[<-Di hp];simp;omega) (by rw[A6 hp h114];rfl);have hkl2:k<(Pt.kids (nx s) f p).length:=by
    rcases Nat.lt_or_ge k (Pt.kids (nx s) f p).length with h|h
    ·exact h
    ·rw[List.getElem?_eq_none h]at hq;cases hq
   have h:=M2 s f p k w' hl hs (by omega);have hpo:partOf (Pt.kids (nx s) f p) (k:Int)=q:=by
    unfold partOf;rw[if_pos (by omega),Int.toNat_natCast,hq];rfl
   rw[hpo]at h;exact h
  have t1:((((s[p]).toNat:Nat):Int)==97)=false:=by rw[<-Di hp];simp;omega
  have t2:((((s[p]).toNat:Nat):Int)==114)=false:=by rw[<-Di hp];simp;omega
  have hol:outs.length<v.length:=by
   rcases Nat.lt_or_ge outs.length v.length with h|h
   ·exact h
   ·rw[List.drop_eq_nil_of_le h]at hh;simp[AA,h97,h114]at hh
  obtain⟨x,hx⟩:∃x,v[outs.length]?=some x:=⟨_,List.getElem?_eq_getElem hol⟩;have hdr:v.drop outs.length=x :: v.drop (outs.length+1):=by
   rw[List.drop_eq_getElem_cons hol];congr 1;rw[List.getElem?_eq_getElem hol]at hx;exact Option.some.inj hx
  obtain⟨b,off,cap,hV,hbl,f0,_⟩:=(hI.below hO.below).at hx;subst hV;rw[hdr]at hh;by_cases h115:nx s p=115
  ·simp only[AA,h115]at hh;simp at hh;obtain⟨_,rfl,rfl,rfl⟩:=hh;simp[AX]at hs';obtain⟨rfl,rfl⟩:=hs';exact JE s p b off cap O v outs x.1 true w0 w hp hO hol hn f0 t1 t2 (by rw[A6 hp h115];rfl) (by rw[A6 hp h115];rfl) (by rw[A6 hp h115];rfl)
  have t3:((((s[p]).toNat:Nat):Int)==115)=false:=by rw[<-Di hp];simp;omega
  simp only[AA,h97,h114,h115,if_false]at hh;split at hh
  ·rename_i hok;simp only[Option.some.injEq,Prod.mk.injEq]at hh;obtain⟨rfl,rfl,rfl⟩:=hh;have hlen1:(outs++[false]).length=outs.length+1:=by simp
   by_cases hu:nx s p=117
   ·rw[if_pos hu]at hs';have hl:PK s f p:=⟨Or.inr hu,ho⟩;have hlo:CL (nx s p)=0:=by rw[hu];rfl
    have hhi:BF (nx s) f p=((Pt.kids (nx s) f p).length:Int)-1:=by simp[BF,hu]
    have hkl:=CK (nx s) f p;obtain⟨q,hq⟩:∃q,(Pt.kids (nx s) f p)[x.1.toNat]?=some q:=⟨_,List.getElem?_eq_getElem (by omega)⟩;have hpo:partOf (Pt.kids (nx s) f p) x.1=q:=by
     unfold partOf;rw[if_pos (by omega),hq];rfl
    have hqo:=Du hl q (List.mem_of_getElem? hq);rw[hpo]at hs';have hs2:Dk (nx s) f q (v.drop (outs.length+1))=some (k,r):=by
     simp only[AX]at hs';cases he:Dk (nx s) f q (v.drop (outs.length+1)) with
     |none=>rw[he]at hs';cases hs'
     |some e=>rw[he]at hs';simp[BZ]at hs';obtain⟨rfl,rfl⟩:=hs';rfl
    rw[<-List.append_assoc];refine Xv s p b off cap O v outs x.1 false w0 w hp hO hol hn f0 t1 t2 t3 (by rw[A6 hp hu];rfl) q k (fun w'=>?_) (fun O' w' ho'=>?_)
    ·rw[<-hpo];exact FH s f p x.1 w' hl hs (by omega) (by omega)
    ·exact ih q O' (outs++[false]) k r w' hqo.2 ho' (by rw[hlen1];exact hs2)
   ·rw[if_neg hu]at hs';have t4:((((s[p]).toNat:Nat):Int)==117)=false:=by rw[<-Di hp];simp;omega
    by_cases hq:nx s p=113
    ·rw[if_pos hq]at hs';have hlo:CL (nx s p)=0:=by rw[hq];rfl
     have hhi:BF (nx s) f p=(nx s (p+1):Int)-48:=by simp[BF,hq]
     have hsub:48<=nx s (p+1)/\nx s (p+1)<=57/\GV s f (p+2):=by
      rcases Cw ho with (h|h|h|h)|⟨h,_⟩|⟨h,_⟩|⟨h,h1,h2,h3,h4⟩|h
      ·omega
      ·omega
      ·omega
      ·omega
      ·omega
      ·omega
      ·exact⟨h2,h3,h4⟩
      ·have:=h.here;omega
     rw[<-List.append_assoc];exact Xt s p b off cap O v outs x.1 false w0 w hp hO hol hn f0 t1 t2 t3 (Dk (nx s) f) k r (Cu _ _ _) (by rw[hlen1];exact hs') (by omega) (by omega) (by omega) t4 (by rw[A6 hp hq];rfl) (fun O' outs' k2 r2 w' ho' he'=>ih (p+2) O' outs' k2 r2 w' hsub.2.2 ho' he')
    ·rw[if_neg hq]at hs';simp[AX]at hs';obtain⟨rfl,rfl⟩:=hs';exact JE s p b off cap O v outs x.1 false w0 w hp hO hol hn f0 t1 t2 t3 t4 (by rw[<-Di hp];simp;omega)
  ·cases hh
end Go.Proofs.YtblomippkddgiaaGreatDoor.V
