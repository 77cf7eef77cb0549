import Derived.Test.YtodagkkjfipbgaaGreatDoorJ5toK3
namespace Go.Proofs.YtodagkkjfipbgaaGreatDoor
open Go.RowKit
def Ret (b c:Nat) (T:ByteArray) (names:List ByteArray) (vN vE vL:Value) (D:Nat) (q:PS × Px) (w:World) (r:Ending) (w':World):Prop :=
 ∃ v,r=.returned v/\EAt w' b c T names vN vE vL q.1/\PIn D (From w.heap.size) w' v q.2/\EChg b c w w'
def SubOk (b c:Nat) (T:ByteArray) (names:List ByteArray) (vN vE vL:Value) (D:Nat) (ok:PS->Prop) (sub:PS->PS × Px):Prop :=
 ∀ (s:PS) (w:World),EAt w b c T names vN vE vL s->ok s->Calls Tryz.prog 175 #[.pointer (some ⟨b,0,none⟩),.pointer (some ⟨c,0,none⟩)] w (Ret b c T names vN vE vL D (sub s) w)
theorem EChg.keep {b c N:Nat} {w w':World} (h:EChg b c w w') (hb:b<N) (hc:c<N):KeepPt (From N) w w':=fun k cs t m ha _ hh=>by
 have ha':N<=k:=ha
 rw [Chg.block h k (heap_lt hh) (fun e=>by rcases e with e | e <;> omega)];exact hh
theorem PIn.keep {b c N D:Nat} {w w':World} {v:Value} {x:Px} (h:PIn D (From N) w v x) (hc:EChg b c w w') (hb:b<N) (hcN:c<N):PIn D (From N) w' v x:=h.turn (hc.keep hb hcN) fun _ _ h=>h
theorem sgn_list (c:UInt8):(sgn c).toList=[c]:=by unfold sgn;rw [ByteArray.toList_eq]
theorem sgn_ne (c:UInt8):∀ x ∈ [sgn c],x.toList ≠ []:=by
 intro x hx;simp at hx;subst hx;rw [sgn_list];simp
theorem setCell_size (w:World) (a:Addr) (v:Value):(w.setCell a v).heap.size=w.heap.size:=by simp [World.setCell]
theorem nest_k (T:ByteArray) (s:PS):(s.nest T).k=s.k/\(s.nest T).a=s.a:=by unfold PS.nest;split <;> exact ⟨rfl,rfl⟩
set_option maxRecDepth 100000 in
set_option maxHeartbeats 2000000 in
theorem bracket_e (b c:Nat) (T:ByteArray) (names:List ByteArray) (vN vE vL:Value) (D:Nat) (ok:PS->Prop) (sub:PS->PS × Px) (hsub:SubOk b c T names vN vE vL D ok sub) (s:PS) (w:World) (h:EAt w b c T names vN vE vL s)
  (hk0:0<=s.k) (hk4:s.k<=4) (hok:ok (((s.nest T).need T [sgn 40]).inK)) (hsk:(sub (((s.nest T).need T [sgn 40]).inK)).1.k=s.k+1) :
  Calls Tryz.prog 248 #[.pointer (some ⟨b,0,none⟩),.pointer (some ⟨c,0,none⟩)] w (Ret b c T names vN vE vL D (s.bracket T sub) w):=by
 have HH:Hid (EAt w b c T names vN vE vL s):=h
 have HO:Hid (ok (((s.nest T).need T [sgn 40]).inK)):=hok
 have HK:Hid ((sub (((s.nest T).need T [sgn 40]).inK)).1.k=s.k+1):=hsk
 have c0:=cell_of_block h.cnt 1 _ rfl
 clear h hok hsk
 go_enter Tryz.func248,Tryz.ntmps248
 go_upto_if 10 with fail
 go_cut [] (fun wx=>Hid (EAt wx b c T names vN vE vL (s.nest T))/\EChg b c w wx)
 case first =>
  by_cases h4:s.k=4
  ·have k4:(s.k == 4)=true:=by simpa using h4
   have e:Hid (s.nest T=s.fail T 6):=by show _=_;unfold PS.nest;rw [if_pos h4]
   clear h4
   go_wp2_with fail
   refine (fail_e b c T names vN vE vL s 6 w HH.out).mono ?_
   rintro r w4 ⟨rfl,h4,c4⟩
   have H4:Hid (EAt w4 b c T names vN vE vL (s.fail T 6)):=h4
   clear h4
   go_wp2_with fail
   go_meet
   exact ⟨by rw [e.out];exact H4,c4⟩
  ·have k4:(s.k == 4)=false:=by simpa using h4
   have e:Hid (s.nest T=s):=by show _=_;unfold PS.nest;rw [if_neg h4]
   clear h4
   go_wp2_with fail
   go_meet
   exact ⟨by rw [e.out];exact HH,Chg.refl _ _⟩
 case rest =>
  obtain ⟨h1,c1⟩:=hcut
  obtain ⟨w1,hw1⟩:∃ w1,w1=wc:=⟨wc,rfl⟩
  subst hw1
  clear c0
  go_wp2_with fail
  refine (need_e b c T names vN vE vL (s.nest T) [sgn 40] w1 h1.out (by decide) (by decide) (sgn_ne _)).mono ?_
  rintro r w2 ⟨⟨x,rfl⟩,h2,c2⟩
  have H2:Hid (EAt w2 b c T names vN vE vL ((s.nest T).need T [sgn 40])):=h2
  have e2:((s.nest T).need T [sgn 40]).k=s.k:=by rw [(need_ak _ _ _).2,(nest_k T s).1]
  have d0:=cell_of_block h2.cnt 1 _ rfl
  have df:=free_of_block h2.cnt
  rw [show #[Value.int IntKind.i64 ((s.nest T).need T [sgn 40]).a,Value.int IntKind.i64 ((s.nest T).need T [sgn 40]).k][1]=Value.int IntKind.i64 s.k from by rw [<- e2];rfl] at d0
  clear h2 h1 e2
  go_wp2_with fail
  have H3:EAt (w2.setCell ⟨c,1,none⟩ (.int .i64 (s.k+1))) b c T names vN vE vL (((s.nest T).need T [sgn 40]).inK):=by
   have:=H2.out.setK (s.k+1)
   unfold PS.inK
   rw [(need_ak _ _ _).2,(nest_k T s).1]
   exact this
  refine (hsub _ _ H3 HO.out).mono ?_
  rintro r w4 ⟨v,rfl,h4,p4,c4⟩
  obtain ⟨q,hq⟩:∃ q,q=sub (((s.nest T).need T [sgn 40]).inK):=⟨_,rfl⟩
  have HB:Hid (s.bracket T sub=((q.1.outK).need T [sgn 41],q.2)):=by show _=_;unfold PS.bracket;rw [<- hq]
  rw [<- hq] at h4 p4 HK
  have H4:Hid (EAt w4 b c T names vN vE vL q.1):=h4
  have C4:Hid (EChg b c w w4):=((c1.trans c2).trans (EChg.setC b c w2 1 _)).trans c4
  have P4:Hid (PIn D (From w.heap.size) w4 v q.2):=p4.from (((c1.trans c2).trans (EChg.setC b c w2 1 _)).size)
  have f0:=cell_of_block h4.cnt 1 _ rfl
  have ff:=free_of_block h4.cnt
  rw [show #[Value.int IntKind.i64 q.1.a,Value.int IntKind.i64 q.1.k][1]=Value.int IntKind.i64 (s.k+1) from by rw [<- HK.out];rfl] at f0
  clear h4 p4 H3 hq d0 df
  go_wp2_with fail
  have H5:Hid (EAt (w4.setCell ⟨c,1,none⟩ (.int .i64 s.k)) b c T names vN vE vL q.1.outK):=by
   have:=H4.out.setK s.k
   unfold PS.outK
   rw [HK.out,show s.k+1 - 1=s.k from by omega]
   exact this
  have hneed:=need_e b c T names vN vE vL q.1.outK [sgn 41] _ H5.out (by decide) (by decide) (sgn_ne _)
  rw [setCell_size] at hneed
  refine hneed.mono ?_
  rintro r w6 ⟨⟨x,rfl⟩,h6,c6⟩
  have H6:Hid (EAt w6 b c T names vN vE vL (q.1.outK.need T [sgn 41])):=h6
  clear h6
  go_wp2_with fail
  go_ret
  unfold Ret
  rw [HB.out]
  refine ⟨v,rfl,H6.out,?_,(C4.out.trans (EChg.setC b c w4 1 _)).trans c6⟩
  exact P4.out.keep (Chg.trans (EChg.setC b c w4 1 _) c6) HH.out.rd.lt (heap_lt HH.out.cnt)
theorem Ret.before {b c:Nat} {T:ByteArray} {names:List ByteArray} {vN vE vL:Value} {D:Nat} {q:PS × Px} {w w1 w':World} {r:Ending} (h:Ret b c T names vN vE vL D q w1 r w') (hc:EChg b c w w1):Ret b c T names vN vE vL D q w r w':=by
 obtain ⟨v,h1,h2,h3,h4⟩:=h
 exact ⟨v,h1,h2,h3.from hc.size,hc.trans h4⟩
set_option maxRecDepth 100000 in
set_option maxHeartbeats 2000000 in
theorem atom_e (b c:Nat) (T:ByteArray) (names:List ByteArray) (vN vE vL:Value) (D:Nat) (sub:PS->PS × Px) (s:PS) (w:World) (h:EAt w b c T names vN vE vL s) (hD:1<=D)
  (hbr:memL [sgn 40] ((s.atomOk T).tk T)=true->∀ w,EAt w b c T names vN vE vL (s.atomOk T)->Calls Tryz.prog 248 #[.pointer (some ⟨b,0,none⟩),.pointer (some ⟨c,0,none⟩)] w (Ret b c T names vN vE vL D ((s.atomOk T).bracket T sub) w)) :
  Calls Tryz.prog 241 #[.pointer (some ⟨b,0,none⟩),.pointer (some ⟨c,0,none⟩)] w (Ret b c T names vN vE vL D (s.atom T names sub) w):=by
 have HH:Hid (EAt w b c T names vN vE vL s):=h
 have HB:Hid (memL [sgn 40] ((s.atomOk T).tk T)=true->∀ w,EAt w b c T names vN vE vL (s.atomOk T)->Calls Tryz.prog 248 #[.pointer (some ⟨b,0,none⟩),.pointer (some ⟨c,0,none⟩)] w (Ret b c T names vN vE vL D ((s.atomOk T).bracket T sub) w)):=hbr
 clear h hbr
 go_enter Tryz.func241,Tryz.ntmps241
 go_wp2_with fail
 refine (isAtom_any b T vN vE vL s w HH.out.rd).mono ?_
 rintro r w1 ⟨rfl,hb1⟩
 have H1:Hid (EAt w1 b c T names vN vE vL s):=HH.out.later hb1
 go_upto_if 7 with fail
 go_cut [] (fun wx=>Hid (EAt wx b c T names vN vE vL (s.atomOk T))/\EChg b c w wx)
 case first =>
  cases hm:s.isAtom T
  ·have e:Hid (s.atomOk T=s.fail T 2):=by show _=_;unfold PS.atomOk;rw [hm];rfl
   go_wp2_with fail
   refine (fail_e b c T names vN vE vL s 2 w1 H1.out).mono ?_
   rintro r w4 ⟨rfl,h4,c4⟩
   have H4:Hid (EAt w4 b c T names vN vE vL (s.fail T 2)):=h4
   clear h4
   go_wp2_with fail
   go_meet
   exact ⟨by rw [e.out];exact H4,(EChg.below hb1).trans c4⟩
  ·have e:Hid (s.atomOk T=s):=by show _=_;unfold PS.atomOk;rw [hm];rfl
   go_wp2_with fail
   go_meet
   exact ⟨by rw [e.out];exact H1,EChg.below hb1⟩
 case rest =>
  obtain ⟨h2,c2⟩:=hcut
  obtain ⟨w2,hw2⟩:∃ w2,w2=wc:=⟨wc,rfl⟩
  subst hw2
  obtain ⟨s2,hs2⟩:∃ s2,s2=s.atomOk T:=⟨_,rfl⟩
  rw [<- hs2] at h2 HB
  have HE:Hid (s.atom T names sub=if memL [sgn 40] (s2.tk T)=true then s2.bracket T sub else s2.one T names):=by show _=_;unfold PS.atom;rw [<- hs2]
  clear H1 hb1 hs2
  go_wp2_with fail
  refine (is_new b T vN vE vL s2 [sgn 40] w2 h2.out.rd (by decide) (by decide)).mono ?_
  rintro r w3 ⟨rfl,hb3⟩
  have H3:Hid (EAt w3 b c T names vN vE vL s2):=h2.out.later hb3
  have C3:Hid (EChg b c w w3):=c2.trans (EChg.below hb3)
  cases hm:memL [sgn 40] (s2.tk T)
  ·rw [hm] at HE
   go_wp2_with fail
   refine (one_e b c T names vN vE vL s2 w3 H3.out).mono ?_
   rintro r w4 ⟨v,rfl,h4,p4,c4⟩
   have H4:Hid (EAt w4 b c T names vN vE vL (s2.one T names).1):=h4
   have P4:Hid (PIn 1 (From w3.heap.size) w4 v (s2.one T names).2):=p4
   clear h4 p4
   go_wp2_with fail
   go_ret
   rw [HE.out]
   exact Ret.before (w1:=w3) ⟨v,rfl,H4.out,P4.out.deeper hD,c4⟩ C3.out
  ·rw [hm] at HE
   go_wp2_with fail
   refine (HB.out hm w3 H3.out).mono ?_
   rintro r w4 hr
   obtain ⟨v,rfl,h4⟩:=hr
   have H4:Hid (EAt w4 b c T names vN vE vL (s2.bracket T sub).1/\PIn D (From w3.heap.size) w4 v (s2.bracket T sub).2/\EChg b c w3 w4):=h4
   clear h4
   go_wp2_with fail
   go_ret
   rw [HE.out]
   exact Ret.before (w1:=w3) ⟨v,rfl,H4.out⟩ C3.out
theorem memL_iff (L:List ByteArray) (l:List UInt8):memL L l=true↔∃ x ∈ L,x.toList=l:=by
 unfold memL clsIx
 cases hf:L.findIdx? (fun x=>x.toList == l) with
 | none =>
  simp
  rw [List.findIdx?_eq_none_iff] at hf
  intro x hx e
  have:=hf x hx
  simp [e] at this
 | some i =>
  obtain ⟨hi,he,_⟩:=List.findIdx?_eq_some_iff_getElem.1 hf
  simp at he
  simp
  exact ⟨L[i],List.getElem_mem hi,he⟩
theorem memL_sgn (c:UInt8) (l:List UInt8):memL [sgn c] l=decide (l=[c]):=by
 rw [Bool.eq_iff_iff,memL_iff]
 simp [sgn_list]
 exact ⟨fun h=>h.symm,fun h=>h.symm⟩
theorem memL_three (a b c:UInt8) (l:List UInt8):memL [sgn a,sgn b,sgn c] l=(decide (l=[a]) || decide (l=[b]) || decide (l=[c])):=by
 rw [Bool.eq_iff_iff,memL_iff]
 simp [sgn_list]
 constructor
 ·rintro (h | h | h) <;> simp [h.symm]
 ·rintro ((h | h) | h) <;> simp [h]
def PS.partF (T:ByteArray) (q:PS × Px):PS × Px :=
 if q.1.tk T=[42] then (q.1.step T,starP q.2) else if q.1.tk T=[43] then (q.1.step T,plusP q.2) else if q.1.tk T=[63] then (q.1.step T,maybeP q.2) else q
theorem suf_mem (T:ByteArray) (s:PS) (ch:UInt8) (hc:ch=42\/ch=43\/ch=63) (h:s.tk T=[ch]):takenOf T [sgn 42,sgn 43,sgn 63] s.p=tokp T s.p/\s.take T [sgn 42,sgn 43,sgn 63]=s.step T:=by
 have hm:memL [sgn 42,sgn 43,sgn 63] (s.tk T)=true:=by rw [memL_three,h];rcases hc with rfl | rfl | rfl <;> decide
 constructor
 ·unfold takenOf;rw [show memL _ (tokp T s.p).toList=true from hm];rfl
 ·unfold PS.take;rw [hm];rfl
theorem suf_no (T:ByteArray) (s:PS) (h1:s.tk T ≠ [42]) (h2:s.tk T ≠ [43]) (h3:s.tk T ≠ [63]):takenOf T [sgn 42,sgn 43,sgn 63] s.p=⟨#[]⟩/\s.take T [sgn 42,sgn 43,sgn 63]=s:=by
 have hm:memL [sgn 42,sgn 43,sgn 63] (s.tk T)=false:=by rw [memL_three];simp [h1,h2,h3]
 constructor
 ·unfold takenOf;rw [show memL _ (tokp T s.p).toList=false from hm];rfl
 ·unfold PS.take;rw [hm];rfl
set_option maxRecDepth 100000 in
set_option maxHeartbeats 2000000 in
theorem part_e (b c:Nat) (T:ByteArray) (names:List ByteArray) (vN vE vL:Value) (D:Nat) (s:PS) (q:PS × Px) (w:World) (h:EAt w b c T names vN vE vL s)
  (hat:Calls Tryz.prog 241 #[.pointer (some ⟨b,0,none⟩),.pointer (some ⟨c,0,none⟩)] w (Ret b c T names vN vE vL (D+1) q w)) :
  Calls Tryz.prog 223 #[.pointer (some ⟨b,0,none⟩),.pointer (some ⟨c,0,none⟩)] w (Ret b c T names vN vE vL (D+2) (PS.partF T q) w):=by
 have HH:Hid (EAt w b c T names vN vE vL s):=h
 have HA:Hid (Calls Tryz.prog 241 #[.pointer (some ⟨b,0,none⟩),.pointer (some ⟨c,0,none⟩)] w (Ret b c T names vN vE vL (D+1) q w)):=hat
 clear h hat
 go_enter Tryz.func223,Tryz.ntmps223
 go_wp2_with fail
 refine HA.out.mono ?_
 rintro r w1 hr
 obtain ⟨v,rfl,h1,p1,c1⟩:=hr
 have H1:Hid (EAt w1 b c T names vN vE vL q.1):=h1
 have P1:Hid (PIn (D+1) (From w.heap.size) w1 v q.2):=p1
 clear h1 p1
 go_wp2_with fail
 refine (take_e b c T names vN vE vL q.1 [sgn 42,sgn 43,sgn 63] w1 H1.out (by decide) (by decide)).mono ?_
 rintro r w2 ⟨rfl,h2,c2⟩
 have P2:Hid (PIn (D+1) (From w.heap.size) w2 v q.2):=P1.out.keep c2 HH.out.rd.lt (heap_lt HH.out.cnt)
 have S2:Hid (w.heap.size<=w2.heap.size):=(EChg.trans c1 c2).size
 have C2:Hid (EChg b c w w2):=EChg.trans c1 c2
 clear c1 c2 P1 H1
 by_cases e1:q.1.tk T=[42]
 ·obtain ⟨f1,f2⟩:=suf_mem T q.1 42 (by decide) e1
  have HE:Hid (PS.partF T q=(q.1.step T,starP q.2)):=by show _=_;unfold PS.partF;rw [if_pos e1]
  rw [f2] at h2
  rw [f1]
  have k1:((tokp T q.1.p).toList == [42])=true:=by rw [beq_iff_eq];exact e1
  have H2:Hid (EAt w2 b c T names vN vE vL (q.1.step T)):=h2
  clear e1 f1 f2 h2
  go_wp2_with fail
  refine (star_any w.heap.size (D+1) q.2 v w2 P2.out S2.out).mono ?_
  rintro r w3 ⟨u,rfl,p3,b3⟩
  have P3:Hid (PIn (D+2) (From w.heap.size) w3 u (starP q.2)):=p3
  clear p3
  go_wp2_with fail
  go_ret
  rw [HE.out]
  exact ⟨u,rfl,H2.out.later b3,P3.out,C2.out.trans (EChg.below b3)⟩
 ·have k1:((tokp T q.1.p).toList == [42])=false:=by rw [beq_eq_false_iff_ne];exact e1
  by_cases e2:q.1.tk T=[43]
  ·obtain ⟨f1,f2⟩:=suf_mem T q.1 43 (by decide) e2
   have HE:Hid (PS.partF T q=(q.1.step T,plusP q.2)):=by show _=_;unfold PS.partF;rw [if_neg e1,if_pos e2]
   rw [f2] at h2
   rw [f1]
   have k2:((tokp T q.1.p).toList == [43])=true:=by rw [beq_iff_eq];exact e2
   have H2:Hid (EAt w2 b c T names vN vE vL (q.1.step T)):=h2
   clear e1 e2 f1 f2 h2
   go_wp2_with fail
   refine (plus_any w.heap.size (D+1) q.2 v w2 P2.out S2.out).mono ?_
   rintro r w3 ⟨u,rfl,p3,b3⟩
   have P3:Hid (PIn (D+2) (From w.heap.size) w3 u (plusP q.2)):=p3
   clear p3
   go_wp2_with fail
   go_ret
   rw [HE.out]
   exact ⟨u,rfl,H2.out.later b3,P3.out,C2.out.trans (EChg.below b3)⟩
  ·have k2:((tokp T q.1.p).toList == [43])=false:=by rw [beq_eq_false_iff_ne];exact e2
   by_cases e3:q.1.tk T=[63]
   ·obtain ⟨f1,f2⟩:=suf_mem T q.1 63 (by decide) e3
    have HE:Hid (PS.partF T q=(q.1.step T,maybeP q.2)):=by show _=_;unfold PS.partF;rw [if_neg e1,if_neg e2,if_pos e3]
    rw [f2] at h2
    rw [f1]
    have k3:((tokp T q.1.p).toList == [63])=true:=by rw [beq_iff_eq];exact e3
    have H2:Hid (EAt w2 b c T names vN vE vL (q.1.step T)):=h2
    clear e1 e2 e3 f1 f2 h2
    go_wp2_with fail
    refine (maybe_any w.heap.size D q.2 v w2 P2.out S2.out).mono ?_
    rintro r w3 ⟨u,rfl,p3,b3⟩
    have P3:Hid (PIn (D+2) (From w.heap.size) w3 u (maybeP q.2)):=p3
    clear p3
    go_wp2_with fail
    go_ret
    rw [HE.out]
    exact ⟨u,rfl,H2.out.later b3,P3.out,C2.out.trans (EChg.below b3)⟩
   ·obtain ⟨f1,f2⟩:=suf_no T q.1 e1 e2 e3
    have HE:Hid (PS.partF T q=q):=by show _=_;unfold PS.partF;rw [if_neg e1,if_neg e2,if_neg e3]
    rw [f2] at h2
    rw [f1]
    have H2:Hid (EAt w2 b c T names vN vE vL q.1):=h2
    clear e1 e2 e3 f1 f2 h2 k1 k2
    go_wp2_with fail
    go_ret
    rw [HE.out]
    exact ⟨v,rfl,H2.out,P2.out.deeper (by omega),C2.out⟩
theorem Tryz.infoPart:(Tryz.prog.info? 224).map (fun i=>(i.zero,i.size,i.bytes))=some (some .nilFunc,1,8):=by kernel_rfl
theorem Tryz.undPart:Tryz.prog.underlying 337=some (.slice 224):=by kernel_rfl
def PGood (T:ByteArray) (P:PS->PS × Px):Prop:=∀ s:PS,s.p<=T.size->(P s).1.k=s.k/\s.p<=(P s).1.p/\(P s).1.p<=T.size/\(s.p<T.size->s.p<(P s).1.p)
def okN (n:Nat) (T:ByteArray) (s:PS):Prop:=s.p=T.size\/(s.k+n=5/\0<=s.k/\s.k<=4)
theorem okN.on {n:Nat} {T:ByteArray} {s s':PS} (h:okN n T s) (hk:s'.k=s.k) (h1:s.p<=s'.p) (h2:s'.p<=T.size):okN n T s':=by
 rcases h with h | h
 ·left;omega
 ·right;rw [hk];exact h
theorem tokp_end (T:ByteArray):(tokp T T.size).toList=[]:=by
 unfold tokp
 rw [tokEnd_size,ByteArray.toList_eq]
 simp
theorem isAtom_lt {T:ByteArray} {s:PS} (hp:s.p<=T.size) (h:s.isAtom T=true):s.p<T.size:=by
 rcases Nat.lt_or_ge s.p T.size with h1 | h1
 ·exact h1
 ·have e:s.p=T.size:=by omega
  unfold PS.isAtom PS.tk wordp at h
  rw [e,tokp_end,memL_sgn] at h
  simp at h
theorem tk_lt {T:ByteArray} {s:PS} {c:UInt8} (hp:s.p<=T.size) (h:s.tk T=[c]):s.p<T.size:=by
 rcases Nat.lt_or_ge s.p T.size with h1 | h1
 ·exact h1
 ·have e:s.p=T.size:=by omega
  unfold PS.tk at h
  rw [e,tokp_end] at h
  simp at h
namespace PS
def rowL (T:ByteArray) (P:PS->PS × Px):Nat->PS->List Px->PS × List Px
 | 0,s,l=>(s,l)
 | g+1,s,l=>if s.isAtom T=true then rowL T P g (P s).1 (l++[(P s).2]) else (s,l)
def rowR (T:ByteArray) (P:PS->PS × Px) (s:PS):PS × Px:=((rowL T P (T.size+1) (P s).1 [(P s).2]).1,rowP (rowL T P (T.size+1) (P s).1 [(P s).2]).2)
def exprL (T:ByteArray) (R:PS->PS × Px):Nat->PS->List Px->PS × List Px
 | 0,s,l=>(s,l)
 | g+1,s,l=>if s.tk T=[47] then exprL T R g (R (s.step T)).1 (l++[(R (s.step T)).2]) else (s,l)
def exprR (T:ByteArray) (R:PS->PS × Px) (s:PS):PS × Px:=((exprL T R (T.size+1) (R s).1 [(R s).2]).1,eitherP (exprL T R (T.size+1) (R s).1 [(R s).2]).2)
end PS
def Making (D N:Nat) (w:World) (v:Value) (l:List Px):Prop :=
 ∃ us:List Value,us.length=l.length/\w.ownsRow N 224 1 v l.length us/\∀ (i:Nat) (u:Value) (x:Px),us[i]?=some u->l[i]?=some x->PIn D (fun k=>N<=k/\v.ownBlock ≠ some k) w u x
theorem Making.keep {D N b c:Nat} {w w':World} {v:Value} {l:List Px} (h:Making D N w v l) (hc:EChg b c w w') (hb:b<N) (hcN:c<N):Making D N w' v l:=by
 obtain ⟨us,h1,h2,h3⟩:=h
 have hk:∀ k,k<w.heap.size->N<=k->w'.heap[k]?=w.heap[k]?:=fun k hk hn=>Chg.block hc k hk (fun e=>by rcases e with e | e <;> omega)
 refine ⟨us,h1,row_on h2 fun k e=>hk k (h2.lt k e).2 (h2.lt k e).1,fun i u x hu hx=>(h3 i u x hu hx).turn (fun k cs t m ha _ hh=>?_) fun _ _ h=>h⟩
 rw [hk k (heap_lt hh) ha.1];exact hh
theorem Making.later {D N:Nat} {w w':World} {v:Value} {l:List Px} (h:Making D N w v l) (hb:Below w.heap.size w w'):Making D N w' v l:=by
 obtain ⟨us,h1,h2,h3⟩:=h
 exact ⟨us,h1,row_kp h2 (Kp.below hb),fun i u x hu hx=>(h3 i u x hu hx).turn (KeepPt.below hb fun _ hk _=>hk) fun _ _ h=>h⟩
theorem Making.new {D N:Nat} {w:World} {u:Value} {x:Px} (h:PIn D (From N) w u x) (hN:N<=w.heap.size):Making D N (w.alloc (.cells #[u] 224)) (.slice (some ⟨w.heap.size,0,none⟩) 1 1) [x]:=by
 refine ⟨[u],rfl,⟨rfl,Or.inr ⟨w.heap.size,1,#[u],rfl,hN,heap_alloc_new _ _,Nat.le_refl _,by decide,rfl,rfl⟩⟩,fun i y z hy hz=>?_⟩
 cases i with
 | zero =>
  simp at hy hz
  subst hy;subst hz
  exact h.turn (KeepPt.below (below_alloc w _) fun _ hk _=>hk) fun k hk ha=>⟨ha,by simp [Value.ownBlock];omega⟩
 | succ i=>simp at hy
theorem Making.push {D N:Nat} {w w':World} {v v' u:Value} {l:List Px} {x:Px} {us:List Value} (h1:us.length=l.length)
  (h3:∀ (i:Nat) (u:Value) (x:Px),us[i]?=some u->l[i]?=some x->PIn D (fun k=>N<=k/\v.ownBlock ≠ some k) w u x) (hu:PIn D (fun k=>N<=k/\v.ownBlock ≠ some k) w u x)
  (hown:w'.ownsRow N 224 1 v' (l.length+1) (us++[u])) (hg:w.grownBy w' v.ownBlock) (hsn:SameOrNew w v v'):Making D N w' v' (l++[x]):=by
 have turn:∀ y z,PIn D (fun k=>N<=k/\v.ownBlock ≠ some k) w y z->PIn D (fun k=>N<=k/\v'.ownBlock ≠ some k) w' y z:=by
  intro y z h
  refine h.turn (fun k cs t m ha _ hh=>?_) fun k hk ha=>⟨ha.1,?_⟩
  ·rw [hg.block k (heap_lt hh) (fun e=>ha.2 e.symm)];exact hh
  ·rcases hsn with e | e
   ·rw [e];exact ha.2
   ·rw [e];simp;omega
 refine ⟨us++[u],by simp [h1],by rw [List.length_append];exact hown,fun i y z hy hz=>?_⟩
 rcases snoc_at hy with ⟨a1,a2⟩ | ⟨a1,rfl⟩
 ·rcases snoc_at hz with ⟨b1,b2⟩ | ⟨b1,rfl⟩
  ·exact turn _ _ (h3 i y z a1 b1)
  ·omega
 ·rcases snoc_at hz with ⟨b1,b2⟩ | ⟨b1,rfl⟩
  ·omega
  ·exact turn _ _ hu
theorem Making.row {D N:Nat} {w:World} {v:Value} {l:List Px} (h:Making D N w v l) (hl:l.length<=9000):PtRow (PIn D (From N) w) (From N) w v l:=by
 obtain ⟨us,h1,h2,h3⟩:=h
 exact ⟨us,h1,hl,row_base h2 (Nat.zero_le _),fun k e=>(h2.lt k e).1,fun i u x hu hx=>(h3 i u x hu hx).turn (KeepPt.refl _ _) fun _ _ h=>h.1⟩
theorem EAt.kp {w w':World} {b c:Nat} {T:ByteArray} {names:List ByteArray} {vN vE vL:Value} {s:PS} (h:EAt w b c T names vN vE vL s) (k1:Kp 141 w w') (k2:Kp 289 w w') (k3:Kp 9 w w'):EAt w' b c T names vN vE vL s :=
 ⟨⟨k1 _ _ _ h.rd.blk,h.rd.le,h.rd.short⟩,k2 _ _ _ h.cnt,row_kp h.row k3,h.few⟩
theorem EAt.grown {w w':World} {b c base n:Nat} {T:ByteArray} {names:List ByteArray} {vN vE vL v:Value} {us:List Value} {s:PS} (h:EAt w b c T names vN vE vL s) (hown:w.ownsRow base 224 1 v n us) (hg:w.grownBy w' v.ownBlock):EAt w' b c T names vN vE vL s :=
 h.kp ((Kp.refl _ _).grown hown hg (by decide)) ((Kp.refl _ _).grown hown hg (by decide)) ((Kp.refl _ _).grown hown hg (by decide))
theorem cell_new1 (w:World) (v:Value) (t:TypeId):∀ (j:Nat) (u:Value),[v][j]?=some u->(w.alloc (.cells #[v] t)).cell? ⟨w.heap.size,j,none⟩=some u:=fun j u hu=>cell_of_block (heap_alloc_new w _) j u (by simpa using hu)
theorem one_fn (f q:Nat):∀ u ∈ [fnv f q],u.oneCell'=true:=by intro u hu;simp at hu;subst hu;rfl
set_option maxRecDepth 100000 in
set_option maxHeartbeats 4000000 in
theorem row_e (b c:Nat) (T:ByteArray) (names:List ByteArray) (vN vE vL:Value) (n D:Nat) (P:PS->PS × Px) (hP:PGood T P)
  (hpart:∀ (s:PS) (w:World),EAt w b c T names vN vE vL s->okN n T s->Calls Tryz.prog 223 #[.pointer (some ⟨b,0,none⟩),.pointer (some ⟨c,0,none⟩)] w (Ret b c T names vN vE vL D (P s) w))
  (s:PS) (w:World) (h:EAt w b c T names vN vE vL s) (hok:okN n T s) :
  Calls Tryz.prog 207 #[.pointer (some ⟨b,0,none⟩),.pointer (some ⟨c,0,none⟩)] w (Ret b c T names vN vE vL (D+1) (PS.rowR T P s) w):=by
 have HH:Hid (EAt w b c T names vN vE vL s):=h
 have HO:Hid (okN n T s):=hok
 have hle:=h.rd.le
 have hT:=h.rd.short
 have hbN:=h.rd.lt
 have hcN:=heap_lt h.cnt
 have HPG:Hid (PGood T P):=hP
 have HPT:Hid (∀ (s:PS) (w:World),EAt w b c T names vN vE vL s->okN n T s->Calls Tryz.prog 223 #[.pointer (some ⟨b,0,none⟩),.pointer (some ⟨c,0,none⟩)] w (Ret b c T names vN vE vL D (P s) w)):=hpart
 clear h hok hP hpart
 go_enter Tryz.func207,Tryz.ntmps207
 go_wp2_with fail
 refine (HPT.out s w HH.out HO.out).mono ?_
 rintro r w1 hr
 obtain ⟨v,rfl,h1,p1,c1⟩:=hr
 obtain ⟨f,q,rfl⟩:=p1.fn
 have H1:Hid (EAt (w1.alloc (.cells #[fnv f q] 224)) b c T names vN vE vL (P s).1):=h1.later (below_alloc _ _)
 have M1:Hid (Making D w.heap.size (w1.alloc (.cells #[fnv f q] 224)) (.slice (some ⟨w1.heap.size,0,none⟩) 1 1) [(P s).2]):=Making.new p1 c1.size
 have C1:Hid (EChg b c w (w1.alloc (.cells #[fnv f q] 224))):=Chg.alloc c1 _
 have HPS:=HPG.out s hle
 have O1:Hid (okN n T (P s).1):=HO.out.on HPS.1 HPS.2.1 HPS.2.2.1
 have HR:Hid (PS.rowL T P (T.size+1) (P s).1 [(P s).2]=PS.rowL T P (T.size+1) (P s).1 [(P s).2]):=rfl
 clear h1 p1 c1 HPS
 unfold fnv
 go_wp2_with fail
 go_loopg [5] (T.size+1) (fun g v5 wx=>∃ (s':PS) (l:List Px),Hid (EAt wx b c T names vN vE vL s')/\Hid (okN n T s')/\Hid (Making D w.heap.size wx v5 l)/\Hid (EChg b c w wx)/\Hid (PS.rowL T P g s' l=PS.rowL T P (T.size+1) (P s).1 [(P s).2])/\T.size<s'.p+g/\l.length<=s'.p+1)
 case atStart=>exact ⟨_,_,H1,O1,M1,C1,rfl,by omega,by simp⟩
 case round =>
  obtain ⟨s',l,hE,hO,hM,hC,hL,hg,hl⟩:=hrel
  obtain ⟨w2,hw2⟩:∃ w2,w2=wr:=⟨wr,rfl⟩
  subst hw2
  have hle':=hE.out.rd.le
  obtain ⟨g',hg'⟩:∃ g',gk=g'+1:=⟨gk - 1,by omega⟩
  subst hg'
  clear H1 M1 C1 O1 HR
  go_wp2_with fail
  refine (isAtom_any b T vN vE vL s' w2 hE.out.rd).mono ?_
  rintro r w3 ⟨rfl,hb3⟩
  have H3:Hid (EAt w3 b c T names vN vE vL s'):=hE.out.later hb3
  have M3:Hid (Making D w.heap.size w3 u5 l):=hM.out.later hb3
  have C3:Hid (EChg b c w w3):=EChg.trans hC.out (EChg.below hb3)
  clear hE hM hC hb3
  cases hm:s'.isAtom T
  ·have e:Hid (PS.rowL T P (T.size+1) (P s).1 [(P s).2]=(s',l)):=by show _=_;rw [<- hL.out,PS.rowL,hm];rfl
   go_wp2_with fail
   have hs3:w.heap.size<=w3.heap.size:=C3.out.size
   refine (rowp_any w.heap.size D l u5 w3 (M3.out.row (by omega)) hs3).mono ?_
   rintro r w4 ⟨u,rfl,p4,b4⟩
   have P4:Hid (PIn (D+1) (From w.heap.size) w4 u (rowP l)):=p4
   clear p4
   go_wp2_with fail
   go_ret
   refine ⟨u,rfl,?_,?_,EChg.trans C3.out (EChg.below b4)⟩
   ·show EAt w4 b c T names vN vE vL (PS.rowL T P (T.size+1) (P s).1 [(P s).2]).1
    rw [e.out];exact H3.out.later b4
   ·show PIn (D+1) _ _ _ (rowP (PS.rowL T P (T.size+1) (P s).1 [(P s).2]).2)
    rw [e.out];exact P4.out
  ·have hlt:=isAtom_lt hle' hm
   have e:Hid (PS.rowL T P g' (P s').1 (l++[(P s').2])=PS.rowL T P (T.size+1) (P s).1 [(P s).2]):=by show _=_;rw [<- hL.out,PS.rowL,hm];rfl
   have HPS:=HPG.out s' hle'
   have O4:Hid (okN n T (P s').1):=hO.out.on HPS.1 HPS.2.1 HPS.2.2.1
   have hadv:=HPS.2.2.2 hlt
   clear HPS
   go_wp2_with fail
   refine (HPT.out s' w3 H3.out hO.out).mono ?_
   rintro r w4 hr
   obtain ⟨v4,rfl,h4,p4,c4⟩:=hr
   obtain ⟨f4,q4,rfl⟩:=p4.fn
   have hs3:w.heap.size<=w3.heap.size:=C3.out.size
   have hM4:=(M3.out.keep c4 hbN hcN).later (below_alloc w4 (.cells #[fnv f4 q4] 224))
   obtain ⟨us,m1,m2,m3⟩:=hM4
   have hown3:∀ k,u5.ownBlock=some k->k<w3.heap.size:=by
    obtain ⟨_,_,n2,_⟩:=M3.out
    exact fun k e=>(n2.lt k e).2
   have p5:PIn D (fun k=>w.heap.size<=k/\u5.ownBlock ≠ some k) (w4.alloc (.cells #[fnv f4 q4] 224)) (fnv f4 q4) (P s').2 :=
    p4.turn (KeepPt.below (below_alloc w4 _) fun _ hk _=>hk) fun k _ ha=>⟨Nat.le_trans hs3 ha,fun e=>by have:=hown3 k e;have ha':w3.heap.size<=k:=ha;omega⟩
   have H4:Hid (EAt (w4.alloc (.cells #[fnv f4 q4] 224)) b c T names vN vE vL (P s').1):=h4.later (below_alloc _ _)
   have C4:Hid (EChg b c w (w4.alloc (.cells #[fnv f4 q4] 224))):=Chg.alloc (EChg.trans C3.out c4) _
   have M2:Hid ((w4.alloc (.cells #[fnv f4 q4] 224)).ownsRow w.heap.size 224 1 u5 l.length us):=m2
   have MR:Hid (us.length=l.length/\(∀ (i:Nat) (u:Value) (x:Px),us[i]?=some u->l[i]?=some x->PIn D (fun k=>w.heap.size<=k/\u5.ownBlock ≠ some k) (w4.alloc (.cells #[fnv f4 q4] 224)) u x)/\PIn D (fun k=>w.heap.size<=k/\u5.ownBlock ≠ some k) (w4.alloc (.cells #[fnv f4 q4] 224)) (fnv f4 q4) (P s').2):=⟨m1,m3,p5⟩
   have Z4:Hid (w.heap.size<=w4.heap.size):=(EChg.trans C3.out c4).size
   obtain ⟨ao,cap,rfl⟩:=row_shape m2
   clear h4 p4 c4 m1 m2 m3 p5 hown3 H3 M3 C3
   unfold fnv
   go_wp2_with (at_builtin;go_loud (refine wpList_push2 rfl (.tmp 12) (.tmp 16) 337 rfl w.heap.size 224 .nilFunc 1 8 Tryz.infoPart Tryz.undPart rfl (by decide) (.slice ao l.length cap) l.length us rfl (by exact M2.out) w4.heap.size 1 [fnv f4 q4] rfl rfl (by exact cell_new1 w4 (fnv f4 q4) _) (one_fn _ _) (by omega) (by omega) (by have:=Z4.out;simp;omega) ?_);intro v' w5 hown hg5 hsn;obtain ⟨ao',cap',rfl⟩:=row_shape hown)
   go_roundg g'
   case measure=>omega
   case rel =>
    refine ⟨(P s').1,l++[(P s').2],H4.out.grown M2.out hg5,O4,?_,?_,e,by omega,by rw [List.length_append];simp;omega⟩
    ·exact Making.push MR.out.1 MR.out.2.1 MR.out.2.2 hown hg5 hsn
    ·exact Chg.grown C4.out hg5 fun k e=>Or.inl (M2.out.lt k e).1
set_option maxRecDepth 100000 in
set_option maxHeartbeats 4000000 in
theorem expr_e (b c:Nat) (T:ByteArray) (names:List ByteArray) (vN vE vL:Value) (n D:Nat) (R:PS->PS × Px) (hP:PGood T R)
  (hpart:∀ (s:PS) (w:World),EAt w b c T names vN vE vL s->okN n T s->Calls Tryz.prog 207 #[.pointer (some ⟨b,0,none⟩),.pointer (some ⟨c,0,none⟩)] w (Ret b c T names vN vE vL D (R s) w))
  (s:PS) (w:World) (h:EAt w b c T names vN vE vL s) (hok:okN n T s) :
  Calls Tryz.prog 175 #[.pointer (some ⟨b,0,none⟩),.pointer (some ⟨c,0,none⟩)] w (Ret b c T names vN vE vL (D+1) (PS.exprR T R s) w):=by
 have HH:Hid (EAt w b c T names vN vE vL s):=h
 have HO:Hid (okN n T s):=hok
 have hle:=h.rd.le
 have hT:=h.rd.short
 have hbN:=h.rd.lt
 have hcN:=heap_lt h.cnt
 have HPG:Hid (PGood T R):=hP
 have HPT:Hid (∀ (s:PS) (w:World),EAt w b c T names vN vE vL s->okN n T s->Calls Tryz.prog 207 #[.pointer (some ⟨b,0,none⟩),.pointer (some ⟨c,0,none⟩)] w (Ret b c T names vN vE vL D (R s) w)):=hpart
 clear h hok hP hpart
 go_enter Tryz.func175,Tryz.ntmps175
 go_wp2_with fail
 refine (HPT.out s w HH.out HO.out).mono ?_
 rintro r w1 hr
 obtain ⟨v,rfl,h1,p1,c1⟩:=hr
 obtain ⟨f,q,rfl⟩:=p1.fn
 have H1:Hid (EAt (w1.alloc (.cells #[fnv f q] 224)) b c T names vN vE vL (R s).1):=h1.later (below_alloc _ _)
 have M1:Hid (Making D w.heap.size (w1.alloc (.cells #[fnv f q] 224)) (.slice (some ⟨w1.heap.size,0,none⟩) 1 1) [(R s).2]):=Making.new p1 c1.size
 have C1:Hid (EChg b c w (w1.alloc (.cells #[fnv f q] 224))):=Chg.alloc c1 _
 have HPS:=HPG.out s hle
 have O1:Hid (okN n T (R s).1):=HO.out.on HPS.1 HPS.2.1 HPS.2.2.1
 have HR:Hid (PS.exprL T R (T.size+1) (R s).1 [(R s).2]=PS.exprL T R (T.size+1) (R s).1 [(R s).2]):=rfl
 clear h1 p1 c1 HPS
 unfold fnv
 go_wp2_with fail
 go_loopg [5] (T.size+1) (fun g v5 wx=>∃ (s':PS) (l:List Px),Hid (EAt wx b c T names vN vE vL s')/\Hid (okN n T s')/\Hid (Making D w.heap.size wx v5 l)/\Hid (EChg b c w wx)/\Hid (PS.exprL T R g s' l=PS.exprL T R (T.size+1) (R s).1 [(R s).2])/\T.size<s'.p+g/\l.length<=s'.p+1)
 case atStart=>exact ⟨_,_,H1,O1,M1,C1,rfl,by omega,by simp⟩
 case round =>
  obtain ⟨s',l,hE,hO,hM,hC,hL,hg,hl⟩:=hrel
  obtain ⟨w2,hw2⟩:∃ w2,w2=wr:=⟨wr,rfl⟩
  subst hw2
  have hle':=hE.out.rd.le
  obtain ⟨g',hg'⟩:∃ g',gk=g'+1:=⟨gk - 1,by omega⟩
  subst hg'
  clear H1 M1 C1 O1 HR
  go_wp2_with fail
  refine (take_e b c T names vN vE vL s' [sgn 47] w2 hE.out (by decide) (by decide)).mono ?_
  rintro r w3 ⟨rfl,h3,c3⟩
  have M3:Hid (Making D w.heap.size w3 u5 l):=hM.out.keep c3 hbN hcN
  have C3:Hid (EChg b c w w3):=EChg.trans hC.out c3
  clear hE hM hC c3
  by_cases hm:s'.tk T=[47]
  ·have hmm:memL [sgn 47] (s'.tk T)=true:=by rw [memL_sgn];simp [hm]
   have e1:takenOf T [sgn 47] s'.p=tokp T s'.p:=by unfold takenOf;rw [show memL _ (tokp T s'.p).toList=true from hmm];rfl
   have e2:s'.take T [sgn 47]=s'.step T:=by unfold PS.take;rw [hmm];rfl
   rw [e2] at h3
   rw [e1]
   have H3:Hid (EAt w3 b c T names vN vE vL (s'.step T)):=h3
   have hlt:=tk_lt hle' hm
   have hnx:=nextp_le T s'.p hle'
   have e:Hid (PS.exprL T R g' (R (s'.step T)).1 (l++[(R (s'.step T)).2])=PS.exprL T R (T.size+1) (R s).1 [(R s).2]):=by show _=_;rw [<- hL.out,PS.exprL,if_pos hm]
   have k1:(tokp T s'.p).toList.isEmpty=false:=by rw [show (tokp T s'.p).toList=[47] from hm];rfl
   have O3:Hid (okN n T (s'.step T)):=hO.out.on rfl hnx.2.1 hnx.1
   have HPS:=HPG.out (s'.step T) hnx.1
   have O4:Hid (okN n T (R (s'.step T)).1):=O3.out.on HPS.1 HPS.2.1 HPS.2.2.1
   have hadv:s'.p<(R (s'.step T)).1.p:=by have:=HPS.2.1;have:=hnx.2.2 hlt;have e:(s'.step T).p=nextp T s'.p:=rfl;omega
   clear HPS hm hmm e1 e2 h3
   obtain ⟨s3,hs3'⟩:∃ s3,s3=s'.step T:=⟨_,rfl⟩
   rw [<- hs3'] at H3 e O3 O4 hadv
   clear hs3'
   go_wp2_with fail
   refine (HPT.out s3 w3 H3.out O3.out).mono ?_
   rintro r w4 hr
   obtain ⟨v4,rfl,h4,p4,c4⟩:=hr
   obtain ⟨f4,q4,rfl⟩:=p4.fn
   have hs3:w.heap.size<=w3.heap.size:=C3.out.size
   have hM4:=(M3.out.keep c4 hbN hcN).later (below_alloc w4 (.cells #[fnv f4 q4] 224))
   obtain ⟨us,m1,m2,m3⟩:=hM4
   have hown3:∀ k,u5.ownBlock=some k->k<w3.heap.size:=by
    obtain ⟨_,_,n2,_⟩:=M3.out
    exact fun k e=>(n2.lt k e).2
   have p5:PIn D (fun k=>w.heap.size<=k/\u5.ownBlock ≠ some k) (w4.alloc (.cells #[fnv f4 q4] 224)) (fnv f4 q4) (R s3).2 :=
    p4.turn (KeepPt.below (below_alloc w4 _) fun _ hk _=>hk) fun k _ ha=>⟨Nat.le_trans hs3 ha,fun e=>by have:=hown3 k e;have ha':w3.heap.size<=k:=ha;omega⟩
   have H4:Hid (EAt (w4.alloc (.cells #[fnv f4 q4] 224)) b c T names vN vE vL (R s3).1):=h4.later (below_alloc _ _)
   have C4:Hid (EChg b c w (w4.alloc (.cells #[fnv f4 q4] 224))):=Chg.alloc (EChg.trans C3.out c4) _
   have M2:Hid ((w4.alloc (.cells #[fnv f4 q4] 224)).ownsRow w.heap.size 224 1 u5 l.length us):=m2
   have MR:Hid (us.length=l.length/\(∀ (i:Nat) (u:Value) (x:Px),us[i]?=some u->l[i]?=some x->PIn D (fun k=>w.heap.size<=k/\u5.ownBlock ≠ some k) (w4.alloc (.cells #[fnv f4 q4] 224)) u x)/\PIn D (fun k=>w.heap.size<=k/\u5.ownBlock ≠ some k) (w4.alloc (.cells #[fnv f4 q4] 224)) (fnv f4 q4) (R s3).2):=⟨m1,m3,p5⟩
   have Z4:Hid (w.heap.size<=w4.heap.size):=(EChg.trans C3.out c4).size
   obtain ⟨ao,cap,rfl⟩:=row_shape m2
   clear h4 p4 c4 m1 m2 m3 p5 hown3 H3 M3 C3
   unfold fnv
   go_wp2_with (at_builtin;go_loud (refine wpList_push2 rfl (.tmp 14) (.tmp 18) 337 rfl w.heap.size 224 .nilFunc 1 8 Tryz.infoPart Tryz.undPart rfl (by decide) (.slice ao l.length cap) l.length us rfl (by exact M2.out) w4.heap.size 1 [fnv f4 q4] rfl rfl (by exact cell_new1 w4 (fnv f4 q4) _) (one_fn _ _) (by omega) (by omega) (by have:=Z4.out;simp;omega) ?_);intro v' w5 hown hg5 hsn;obtain ⟨ao',cap',rfl⟩:=row_shape hown)
   go_roundg g'
   case measure=>omega
   case rel =>
    refine ⟨(R s3).1,l++[(R s3).2],H4.out.grown M2.out hg5,O4,?_,?_,e,by omega,by rw [List.length_append];simp;omega⟩
    ·exact Making.push MR.out.1 MR.out.2.1 MR.out.2.2 hown hg5 hsn
    ·exact Chg.grown C4.out hg5 fun k e=>Or.inl (M2.out.lt k e).1
  ·have hmm:memL [sgn 47] (s'.tk T)=false:=by rw [memL_sgn];simp [hm]
   have e1:takenOf T [sgn 47] s'.p=⟨#[]⟩:=by unfold takenOf;rw [show memL _ (tokp T s'.p).toList=false from hmm];rfl
   have e2:s'.take T [sgn 47]=s':=by unfold PS.take;rw [hmm];rfl
   rw [e2] at h3
   rw [e1]
   have H3:Hid (EAt w3 b c T names vN vE vL s'):=h3
   have e:Hid (PS.exprL T R (T.size+1) (R s).1 [(R s).2]=(s',l)):=by show _=_;rw [<- hL.out,PS.exprL,if_neg hm]
   clear hm hmm e1 e2 h3
   go_wp2_with fail
   have hs3:w.heap.size<=w3.heap.size:=C3.out.size
   refine (eitherp_any w.heap.size D l u5 w3 (M3.out.row (by omega)) hs3).mono ?_
   rintro r w4 ⟨u,rfl,p4,b4⟩
   have P4:Hid (PIn (D+1) (From w.heap.size) w4 u (eitherP l)):=p4
   clear p4
   go_wp2_with fail
   go_ret
   refine ⟨u,rfl,?_,?_,EChg.trans C3.out (EChg.below b4)⟩
   ·show EAt w4 b c T names vN vE vL (PS.exprL T R (T.size+1) (R s).1 [(R s).2]).1
    rw [e.out];exact H3.out.later b4
   ·show PIn (D+1) _ _ _ (eitherP (PS.exprL T R (T.size+1) (R s).1 [(R s).2]).2)
    rw [e.out];exact P4.out
end Go.Proofs.YtodagkkjfipbgaaGreatDoor
