import Derived.Test.YtodagkkjfipbgaaGreatDoorD2toD6
namespace Go.Proofs.YtodagkkjfipbgaaGreatDoor
open Go.RowKit
theorem step_fnN {P:Program} {w:World} {ops:Array Oper} {o:Oper} {a:Act} {K:Act->World->Prop} {Q:Exit->Act->World->Prop} {E:Prop} (hgd:o.guard=none) (f:Nat) (x y z:Operand) (ts:Array TypeId)
  (ho:o.op=.call { callee:=.value (.func f),args:=#[x,y,z],argTypes:=ts }) (he:Go.Proofs.Enters P f) (v0 v1 v2:Value) (hx:a.eval x=v0) (hy:a.eval y=v1) (hz:a.eval z=v2) (R:Ending->World->Prop) (hc:Calls P f #[v0,v1,v2] w R)
  (hK:∀ e w',R e w'->∃ v,e=.returned v/\K (a.put o.dst v) w') :
  if Region.wanted o (yielded ops a.tmps)=true then Oper.wp P o a w K Q else E:=by
 have hw:Region.wanted o (yielded ops a.tmps)=true:=by simp [Region.wanted,hgd]
 rw [if_pos hw]
 unfold Go.Proofs.Enters at he
 unfold Oper.wp execOp
 have hfe:a.eval (.func f)=.func (.func f) #[] #[]:=rfl
 simp [ho,resolve,invoke,hx,hy,hz,hfe,Deferred.ofValue,he,Oper.upon_enter]
 refine hc.mono ?_
 intro e w' hr
 obtain ⟨v,rfl,hk⟩:=hK e w' hr
 exact hk
theorem step_fn2g {P:Program} {w:World} {ops:Array Oper} {o:Oper} {a:Act} {K:Act->World->Prop} {Q:Exit->Act->World->Prop} {E:Prop} (hw:Region.wanted o (yielded ops a.tmps)=true) (f:Nat) (x y:Operand) (ts:Array TypeId)
  (ho:o.op=.call { callee:=.value (.func f),args:=#[x,y],argTypes:=ts }) (he:Go.Proofs.Enters P f) (v0 v1:Value) (hx:a.eval x=v0) (hy:a.eval y=v1) (R:Ending->World->Prop) (hc:Calls P f #[v0,v1] w R)
  (hK:∀ e w',R e w'->∃ v,e=.returned v/\K (a.put o.dst v) w') :
  if Region.wanted o (yielded ops a.tmps)=true then Oper.wp P o a w K Q else E:=by
 rw [if_pos hw]
 unfold Go.Proofs.Enters at he
 unfold Oper.wp execOp
 have hfe:a.eval (.func f)=.func (.func f) #[] #[]:=rfl
 simp [ho,resolve,invoke,hx,hy,hfe,Deferred.ofValue,he,Oper.upon_enter]
 refine hc.mono ?_
 intro e w' hr
 obtain ⟨v,rfl,hk⟩:=hK e w' hr
 exact hk
theorem keptD {w W w':World} {m base size n:Nat} {t e:TypeId} {cs:Array Value} {v:Value} {us:List Value} (hm:w.heap[m]?=some (.cells cs t (0,0))) (h1:Below w.heap.size w W) (hown:w.ownsRow base e size v n us) (hc:Chg (fun k=>v.ownBlock=some k) W w') (ht:t ≠ e):w'.heap[m]?=some (.cells cs t (0,0)):=by
 rw [hc.block m (Nat.lt_of_lt_of_le (heap_lt hm) h1.size) (fun e1=>by obtain ⟨c2,h2⟩:=row_type hown m e1;exact type_ne hm h2 ht rfl),h1.block m (heap_lt hm)]
 exact hm
theorem entersInsert:Go.Proofs.Enters Tryz.prog 205:=enters_of Tryz.func205 (by kernel_rfl) rfl
theorem entersMeets:Go.Proofs.Enters Tryz.prog 204:=enters_of Tryz.func204 (by kernel_rfl) rfl
set_option maxRecDepth 100000 in
set_option maxHeartbeats 4000000 in
theorem add_s (base b:Nat) (T:ByteArray) (vN vE vL:Value) (s:PS) (l:List (Int × Int × Nat)) (x y:Int) (k:Nat) (w:World) (hr:RAt w b T vN vE vL s) (hE:ErrsOk w) (h:TRs base w vE l) (hl:l.length<=2000) (hbase:base<=w.heap.size) :
  Calls Tryz.prog 173 #[.pointer (some ⟨b,4,none⟩),.agg #[.int .i32 x,.int .i32 y],.int .u8 k] w fun r w'=>r=.returned (.bool (!RS.badSpan x y (spI l))) /\
   ∃ vE',RAt w' b T vN vE' vL s/\TRs base w' vE' (if RS.badSpan x y (spI l)=true then l else l++[(x,y,k)])/\Chg (fun k=>k=b\/vE.ownBlock=some k) w w':=by
 obtain ⟨L,hpm,hte,hir⟩:=h
 have hLl:L.length<=2000:=by rw [hpm.length_eq];exact hl
 have HR:Hid (RAt w b T vN vE vL s):=hr
 have HT:Hid (TRe base w vE L):=hte
 obtain ⟨ao,cap,rfl⟩:=row_shape hte
 have hbl:=hr.lt
 have HTS:Hid (TRs base w (.slice ao L.length cap) l):=⟨L,hpm,hte,hir⟩
 clear hte hr
 obtain ⟨W,hW⟩:∃ W,W=w.alloc (.cells #[.int .i32 x,.int .i32 y] 171):=⟨_,rfl⟩
 have HW:Hid (W=w.alloc (.cells #[.int .i32 x,.int .i32 y] 171)):=hW
 have bW:Below w.heap.size w W:=by rw [hW];exact (Below.refl _ _).alloc (Nat.le_refl _) _
 have hb0:W.heap[w.heap.size]?=some (.cells #[.int .i32 x,.int .i32 y] 171 (0,0)):=by rw [hW];exact heap_alloc_new w _
 have hsz:W.heap.size=w.heap.size+1:=by rw [hW];simp
 have HB0:Hid (W.heap[w.heap.size]?=some (.cells #[.int .i32 x,.int .i32 y] 171 (0,0))):=hb0
 have BW:Hid (Below w.heap.size w W):=bW
 have HE:Hid (ErrsOk W):=hE.below bW
 clear hW hb0 bW hE
 obtain ⟨bd,hbd⟩:∃ bd,bd=RS.badSpan x y (spI l):=⟨_,rfl⟩
 rw [<- hbd]
 have HBD:Hid (bd=RS.badSpan x y (spI l)):=hbd
 clear hbd
 go_enter Tryz.func173,Tryz.ntmps173
 go_upto_region 1 with fail
 go_cut [17] (fun cv wx=>cv=.bool (decide (y<x) || meet1 x y 55296 57343)/\Hid (Below W.heap.size W wx))
 case first =>
  rw [<- HW.out]
  have e0:=cell_of_block HB0.out 0 _ rfl
  have e1:=cell_of_block HB0.out 1 _ rfl
  have f0:=HE.out.2.2.1
  have f1:=HE.out.2.2.2
  by_cases h1:y<x
  ·go_wp2_with fail
   go_meet
   exact ⟨by simp [h1],Below.refl _ _⟩
  ·have e:Hid ((decide (y<x) || meet1 x y 55296 57343)=meet1 x y 55296 57343):=by show _=_;rw [decide_eq_false h1];rfl
   go_wp2_with fail
   refine (meets_any x y 55296 57343 W).mono ?_
   rintro r w2 ⟨rfl,b2⟩
   go_wp2_with fail
   go_meet
   exact ⟨by rw [e.out],b2⟩
 case rest =>
  obtain ⟨rfl,f1⟩:=hcut
  obtain ⟨w1,hw1⟩:∃ w1,w1=wc:=⟨wc,rfl⟩
  subst hw1
  have bw1:Below w.heap.size w w1:=BW.out.trans (f1.out.mono BW.out.size)
  have BW1:Hid (Below w.heap.size w w1):=bw1
  have hs1:=bw1.size
  have R1:Hid (RAt w1 b T vN (.slice ao L.length cap) vL s):=HR.out.later bw1
  have T1:Hid (TRe base w1 (.slice ao L.length cap) L):=row_kp HT.out (Kp.below bw1)
  have HB0':Hid (w1.heap[w.heap.size]?=some (.cells #[.int .i32 x,.int .i32 y] 171 (0,0))):=by
   show _=_
   rw [f1.out.block _ (by rw [hsz];omega)];exact HB0.out
  have g0:=cell_of_block HB0'.out 0 _ rfl
  have g1:=cell_of_block HB0'.out 1 _ rfl
  clear bw1
  cases hb1:(decide (y<x) || meet1 x y 55296 57343)
  ·have HX:Hid (x<=y/\bd=RS.meets x y (spI L)):=by
    show _/\_
    rw [Bool.or_eq_false_iff] at hb1
    have h1:=of_decide_eq_false hb1.1
    refine ⟨by omega,?_⟩
    rw [HBD.out,meets_perm hpm]
    have hm:=hb1.2
    unfold RS.badSpan
    unfold meet1 at hm
    rw [hm,decide_eq_false h1]
    simp
   go_wp2_with fail
   refine (first_any base b T vN _ vL s L x w1 R1.out T1.out hLl hir.ends).mono ?_
   rintro r w2 ⟨⟨i,rfl,hi,hp⟩,b2⟩
   have HP:Hid (Parted L x i i):=hp
   clear hp
   have HBdi:Hid (bd=(match L[i]? with | some o=>meet1 o.1 o.2.1 x y | none=>false)):=by
    show _=_
    rw [HX.out.2];exact meets_first hir HP.out
   have B2:Hid (Below w.heap.size w w2):=BW1.out.trans (b2.mono hs1)
   have hs2:=B2.out.size
   have R2:Hid (RAt w2 b T vN (.slice ao L.length cap) vL s):=R1.out.later b2
   have T2:Hid (TRe base w2 (.slice ao L.length cap) L):=row_kp T1.out (Kp.below b2)
   have HB02:Hid (w2.heap[w.heap.size]?=some (.cells #[.int .i32 x,.int .i32 y] 171 (0,0))):=by
    show _=_
    rw [b2.block _ (heap_lt HB0'.out)];exact HB0'.out
   have c4:=(pcells R2.out.blk).2.2.2.2.1
   have k0:=cell_of_block HB02.out 0 _ rfl
   have k1:=cell_of_block HB02.out 1 _ rfl
   clear g0 g1 b2
   go_upto_region 4 with fail
   go_cut [40] (fun cv wx=>cv=.bool bd/\Hid (Below w2.heap.size w2 wx))
   case first =>
    by_cases hil:i<L.length
    ·obtain ⟨ao',cap',e,hcs⟩:=entRow_form T2.out
     obtain ⟨g,hao,hgl,d0,d1,d2⟩:=hcs i hil
     simp at e
     obtain ⟨rfl,rfl⟩:=e
     subst hao
     have HM:Hid (meet1 L[i].1 L[i].2.1 x y=bd):=by
      show _=_
      rw [HBdi.out,List.getElem?_eq_getElem hil]
     have hd:decide ((i:Int)<(L.length:Int))=true:=by simpa using hil
     have hd2:(i:Int)<(L.length:Int):=by omega
     clear hcs d2
     go_region_law
      (refine step_fn2g ?_ 204 (.tmp 37) (.tmp 38) _ rfl entersMeets (.agg #[.int .i32 L[i].1,.int .i32 L[i].2.1]) (.agg #[.int .i32 x,.int .i32 y]) ?_ ?_ _ (meets_any L[i].1 L[i].2.1 x y _) ?_
       ·simp [Region.wanted,yielded]
       ·simp [Act.eval]
       ·simp [Act.eval]
       rintro _ w3 ⟨rfl,b3⟩
       refine ⟨_,rfl,?_⟩
       rw [HM.out])
     all_goals go_wp2_with fail
     all_goals go_meet
     all_goals exact ⟨rfl,⟨b3.os,b3.tape,b3.output,b3.size,b3.block⟩⟩
    ·have HF:Hid (bd=false):=by
      show _=_
      rw [HBdi.out,List.getElem?_eq_none (by omega)]
     have hd:decide ((i:Int)<(L.length:Int))=false:=by simp;omega
     go_quiet (fail)
     go_wp2_with fail
     go_meet
     exact ⟨by rw [HF.out],bdrew (Below.refl _ _) _⟩
   case rest =>
    obtain ⟨rfl,f3⟩:=hcut
    obtain ⟨w3,hw3⟩:∃ w3,w3=wc:=⟨wc,rfl⟩
    subst hw3
    have B3:Hid (Below w.heap.size w w3):=B2.out.trans (f3.out.mono hs2)
    have hs3:=B3.out.size
    have R3:Hid (RAt w3 b T vN (.slice ao L.length cap) vL s):=HR.out.later B3.out
    have T3:Hid (TRe base w3 (.slice ao L.length cap) L):=row_kp HT.out (Kp.below B3.out)
    clear c4 k0 k1
    cases hb:bd
    ·have HB03:Hid (w3.heap[w.heap.size]?=some (.cells #[.int .i32 x,.int .i32 y] 171 (0,0))):=by
      show _=_
      rw [f3.out.block _ (heap_lt HB02.out)];exact HB02.out
     have c4:=(pcells R3.out.blk).2.2.2.2.1
     have cf:=free_of_block R3.out.blk
     have k0:=cell_of_block HB03.out 0 _ rfl
     have k1:=cell_of_block HB03.out 1 _ rfl
     have c4':=fun o=>((below_alloc w3 o).cell (p:=⟨b,4,none⟩) (Nat.lt_of_lt_of_le hbl hs3)).trans c4
     have k0':=fun o=>((below_alloc w3 o).cell (p:=⟨w.heap.size,0,none⟩) (heap_lt HB03.out)).trans k0
     have k1':=fun o=>((below_alloc w3 o).cell (p:=⟨w.heap.size,1,none⟩) (heap_lt HB03.out)).trans k1
     have BA:Hid (Below w3.heap.size w3 (w3.alloc (.cells #[.int .i32 x,.int .i32 y,.int .u8 k] 173)).drew):=(below_alloc w3 _).drew
     have TA:Hid (TRe base (w3.alloc (.cells #[.int .i32 x,.int .i32 y,.int .u8 k] 173)).drew (.slice ao L.length cap) L):=row_kp T3.out (Kp.below BA.out)
     have LA:Hid (base<=(w3.alloc (.cells #[.int .i32 x,.int .i32 y,.int .u8 k] 173)).drew.heap.size):=Nat.le_trans hbase (Nat.le_trans hs3 BA.out.size)
     have QA:Hid ((w3.alloc (.cells #[.int .i32 x,.int .i32 y,.int .u8 k] 173)).drew.heap[w3.heap.size]?=some (.cells #[.int .i32 x,.int .i32 y,.int .u8 k] 173 (0,0))):=heap_alloc_new w3 _
     have OA:Hid ((Value.slice ao L.length cap).ownBlock ≠ some w3.heap.size):=fun e=>by
      obtain ⟨cs,hh⟩:=row_type T3.out _ e
      have:=heap_lt hh
      omega
     have hii:((i:Int):Int)=(i:Int):=rfl
     go_wp2_with fail
     go_region_law
      (refine step_fnN rfl 205 (.tmp 45) (.tmp 46) (.tmp 50) _ rfl entersInsert (.slice ao L.length cap) (.int .i64 i) (.slice (some ⟨w3.heap.size,0,none⟩) 1 1) ?_ ?_ ?_ _ (ins_any base i _ L x y k w3.heap.size _ TA.out hLl LA.out hi OA.out QA.out) ?_
       ·simp [Act.eval]
       ·simp [Act.eval]
       ·simp [Act.eval]
       rintro _ w4 ⟨v',rfl,ht4,hc4⟩
       refine ⟨v',rfl,?_⟩
       have T4:Hid (TRe base w4 v' (insE L i (x,y,k))):=ht4
       have C4:Hid (Chg (fun k=>(Value.slice ao L.length cap).ownBlock=some k) (w3.alloc (.cells #[.int .i32 x,.int .i32 y,.int .u8 k] 173)).drew w4):=hc4
       obtain ⟨ao4,cap4,rfl⟩:=row_shape ht4
       have hbl4:=keptD R3.out.blk BA.out T3.out hc4 (by decide)
       have i4:=(pcells hbl4).2.2.2.2.1
       have i4f:=free_of_block hbl4
       clear ht4 hc4)
     all_goals go_wp2_with fail
     all_goals go_ret
     all_goals
      refine ⟨rfl,_,⟨pset_en4 hbl4 _,R3.out.le,R3.out.short⟩,⟨insE L i (x,y,k),(insE_perm L i _).trans (hpm.append_right _),row_kp T4.out ((Kp.refl _ _).setCell hbl4 (by decide) _),hir.ins hi HP.out HX.out.1 (HX.out.2.symm.trans hb)⟩,?_⟩
      have h1:Chg (fun k=>k=b\/(Value.slice ao L.length cap).ownBlock=some k) w _:=Chg.of_below (B3.out.trans (BA.out.mono hs3))
      have h2:Chg (fun k=>k=b\/(Value.slice ao L.length cap).ownBlock=some k) w w4:=⟨C4.out.os.trans h1.os,C4.out.tape.trans h1.tape,C4.out.output.trans h1.output,Nat.le_trans h1.size C4.out.size,fun k hk hp=>by
       rw [C4.out.block k (Nat.lt_of_lt_of_le hk h1.size) (fun e=>hp (Or.inr e))];exact h1.block k hk hp⟩
      exact h2.setCell (q:=⟨b,4,none⟩) (Or.inr (Or.inl rfl)) _
    ·obtain rfl:bd=true:=hb
     go_wp2_with fail
     go_ret
     exact ⟨rfl,_,R3.out,⟨L,hpm,T3.out,hir⟩,Chg.of_below B3.out⟩
  ·have HX:Hid (bd=true):=by
    show _=_
    rw [HBD.out]
    unfold RS.badSpan
    unfold meet1 at hb1
    rw [Bool.or_eq_true] at hb1
    rcases hb1 with h1 | h1
    ·rw [h1];simp
    ·rw [h1];simp
   obtain rfl:bd=true:=HX.out
   go_wp2_with fail
   go_ret
   exact ⟨rfl,_,R1.out,⟨L,hpm,T1.out,hir⟩,Chg.of_below BW1.out⟩
theorem addOk_s (base:Nat):AddOk base (TRs base) :=
 ⟨fun w=>⟨[],List.Perm.refl _,(by show World.ownsRow _ _ _ _ _ _ _;exact World.ownsRow_nil _ _ _ _),(fun o ho=>by simp at ho),fun i j a b _ ha=>by simp at ha⟩,
  fun w v l h=>(by obtain ⟨L,_,h,_⟩:=h;obtain ⟨ao,cap,e⟩:=row_shape h;exact ⟨ao,_,cap,e⟩),
  fun w w' v l h hk=>(by obtain ⟨L,h1,h2,h3⟩:=h;exact ⟨L,h1,row_kp h2 hk,h3⟩),
  fun w v l k h hk=>(by obtain ⟨L,_,h,_⟩:=h;exact row_type h k hk),
  fun w v l k h hk=>(by obtain ⟨L,_,h,_⟩:=h;exact (h.lt k hk).1),
  fun b T vN vE vL s l x y k w hr hE h hl _ hb=>add_s base b T vN vE vL s l x y k w hr hE h hl hb⟩
def PS.spansL (T:ByteArray) (k:Nat):Nat->PS->List (Int × Int × Nat)->PS × List (Int × Int × Nat)
 | 0,s,l=>(s,l)
 | g+1,s,l=>if s.tk T=[44] then PS.spansL T k g ((s.step T).span T l) (l++[((s.step T).spanX T,(s.step T).spanY T,k)]) else (s,l)
def PS.classN (T:ByteArray) (n:Nat) (s:PS):PS:=if n=6 then s.fail T 6 else s
def PS.classA (T:ByteArray) (names:List ByteArray) (s:PS):PS:=(((s.classN T names.length).need T [wClass]).newName T names).need T [sgn 61]
def PS.classB (T:ByteArray) (names:List ByteArray) (l:List (Int × Int × Nat)) (s:PS):PS × List (Int × Int × Nat) :=
 PS.spansL T names.length (T.size+1) ((s.classA T names).span T l) (l++[((s.classA T names).spanX T,(s.classA T names).spanY T,names.length)])
def PS.klass (T:ByteArray) (names:List ByteArray) (l:List (Int × Int × Nat)) (s:PS):PS:=(s.classB T names l).1.need T [sgn 59]
def nameTok (T:ByteArray) (names:List ByteArray) (s:PS):ByteArray:=tokp T ((s.classN T names.length).need T [wClass]).p
theorem Fz.need {T:ByteArray} {s:PS} (h:Fz T s) (hp:s.p<=T.size) (L:List ByteArray):Fz T (s.need T L):=by
 unfold PS.need;split
 ·exact h.step hp
 ·exact Fz.fail s _ _
theorem Fz.spanTo {T:ByteArray} {s:PS} (h:Fz T s) (hle:s.p<=T.size):Fz T (s.spanTo T):=by
 have z1:=h.hex hle
 unfold PS.spanTo;split
 ·exact (z1.step (hex_p hle).2.1).hex (nextp_le T _ (hex_p hle).2.1).1
 ·exact z1
theorem Fz.span {T:ByteArray} {s:PS} (h:Fz T s) (hle:s.p<=T.size) (l:List (Int × Int × Nat)):Fz T (s.span T l):=by
 unfold PS.span;split
 ·exact h.spanTo hle
 ·split
  ·exact Fz.fail _ _ _
  ·exact h.spanTo hle
theorem spanTo_p {T:ByteArray} {s:PS} (hle:s.p<=T.size):s.p<=(s.spanTo T).p/\(s.spanTo T).p<=T.size/\(s.p<T.size->s.p<(s.spanTo T).p):=by
 have h1:=hex_p hle
 unfold PS.spanTo;split
 ·have h2:=nextp_le T (s.hex T).p h1.2.1
  have e:((s.hex T).step T).p=nextp T (s.hex T).p:=rfl
  have h3:=hex_p (s:=(s.hex T).step T) h2.1
  exact ⟨by omega,h3.2.1,fun h=>by have:=h1.2.2 h;omega⟩
 ·exact h1
theorem span_p {T:ByteArray} {s:PS} (hle:s.p<=T.size) (l:List (Int × Int × Nat)):s.p<=(s.span T l).p/\(s.span T l).p<=T.size/\(s.p<T.size->s.p<(s.span T l).p):=by
 have h1:=spanTo_p hle
 unfold PS.span;split
 ·exact h1
 ·split
  ·exact ⟨hle,Nat.le_refl _,fun h=>h⟩
  ·exact h1
theorem Fz.fail' {T:ByteArray} (s:PS) (no:Int):Fz T (s.fail T no):=fun _=>rfl
theorem Fz.if_ {T:ByteArray} {s:PS} (h:Fz T s) {c:Prop} [Decidable c] (no:Int):Fz T (if c then s.fail T no else s):=by
 split
 ·exact Fz.fail' s no
 ·exact h
theorem Fz.if' {T:ByteArray} {s:PS} (h:Fz T s) {c:Prop} [Decidable c] (no:Int):Fz T (if c then s else s.fail T no):=by
 split
 ·exact h
 ·exact Fz.fail' s no
theorem p_if {T:ByteArray} {s:PS} (h:s.p<=T.size) {c:Prop} [Decidable c] (no:Int):(if c then s.fail T no else s).p<=T.size/\s.p<=(if c then s.fail T no else s).p:=by
 split
 ·exact ⟨Nat.le_refl _,h⟩
 ·exact ⟨h,Nat.le_refl _⟩
theorem p_if' {T:ByteArray} {s:PS} (h:s.p<=T.size) {c:Prop} [Decidable c] (no:Int):(if c then s else s.fail T no).p<=T.size/\s.p<=(if c then s else s.fail T no).p:=by
 split
 ·exact ⟨h,Nat.le_refl _⟩
 ·exact ⟨Nat.le_refl _,h⟩
theorem need_p {T:ByteArray} {s:PS} (h:s.p<=T.size) (L:List ByteArray):(s.need T L).p<=T.size/\s.p<=(s.need T L).p/\(s.p<T.size->s.p<(s.need T L).p):=by
 have:=nextp_le T s.p h
 unfold PS.need;split
 ·exact ⟨this.1,this.2.1,this.2.2⟩
 ·exact ⟨Nat.le_refl _,h,fun h=>h⟩
theorem newName_p {T:ByteArray} {s:PS} (h:s.p<=T.size) (names:List ByteArray):(s.newName T names).p<=T.size/\s.p<=(s.newName T names).p:=by
 have h1:(s.nameA T).p<=T.size/\s.p<=(s.nameA T).p:=p_if' h 2
 have h2:((s.nameA T).nameB T names (s.tk T)).p<=T.size/\(s.nameA T).p<=((s.nameA T).nameB T names (s.tk T)).p:=p_if h1.1 4
 have h3:=nextp_le T ((s.nameA T).nameB T names (s.tk T)).p h2.1
 have e:(s.newName T names).p=nextp T ((s.nameA T).nameB T names (s.tk T)).p:=rfl
 omega
theorem Fz.newName {T:ByteArray} {s:PS} (h:Fz T s) (hp:s.p<=T.size) (names:List ByteArray):Fz T (s.newName T names):=by
 have h1:Fz T (s.nameA T):=h.if' 2
 have h2:Fz T ((s.nameA T).nameB T names (s.tk T)):=h1.if_ 4
 have h3:((s.nameA T).nameB T names (s.tk T)).p<=T.size:=(p_if (p_if' hp 2).1 4).1
 exact h2.step h3
theorem classA_fz {T:ByteArray} {s:PS} (h:Fz T s) (hp:s.p<=T.size) (names:List ByteArray):Fz T (s.classA T names)/\(s.classA T names).p<=T.size/\s.p<=(s.classA T names).p/\(s.p<T.size->s.p<(s.classA T names).p):=by
 have a1:Fz T (s.classN T names.length):=h.if_ 6
 have a2:(s.classN T names.length).p<=T.size/\s.p<=(s.classN T names.length).p:=p_if hp 6
 have b1:=a1.need a2.1 [wClass]
 have b2:=need_p a2.1 [wClass]
 have c1:=b1.newName b2.1 names
 have c2:=newName_p b2.1 names
 have d1:=c1.need c2.1 [sgn 61]
 have d2:=need_p c2.1 [sgn 61]
 have e:(s.classA T names).p=((((s.classN T names.length).need T [wClass]).newName T names).need T [sgn 61]).p:=rfl
 refine ⟨d1,d2.1,by omega,fun h=>?_⟩
 rcases Nat.lt_or_ge (s.classN T names.length).p T.size with h1 | h1
 ·have:=b2.2.2 h1;omega
 ·omega
def Fr (base:Nat) (w w':World):Prop:=Below base w w'/\∀ t,t ≠ 141->t ≠ 9->t ≠ 173->Kp t w w'
theorem Fr.trans {base:Nat} {a b c:World} (h:Fr base a b) (k:Fr base b c):Fr base a c:=⟨h.1.trans k.1,fun t h1 h2 h3=>(h.2 t h1 h2 h3).trans (k.2 t h1 h2 h3)⟩
theorem Fr.of_chg {base:Nat} {p:Nat->Prop} {w w':World} (h:Chg p w w') (hb:base<=w.heap.size) (hp:∀ k,p k->base<=k/\∃ cs t m,w.heap[k]?=some (.cells cs t m)/\(t=141\/t=9\/t=173)):Fr base w w':=by
 refine ⟨h.below hb fun k hk hpk=>by have:=(hp k hpk).1;omega,fun t h1 h2 h3 k cs m hh=>?_⟩
 rw [h.block k (heap_lt hh) (fun hpk=>?_)]
 ·exact hh
 ·obtain ⟨_,cs',t',m',h4,h5⟩:=hp k hpk
  rw [hh] at h4
  simp at h4
  rcases h5 with h5 | h5 | h5
  ·exact h1 (h4.2.1.trans h5)
  ·exact h2 (h4.2.1.trans h5)
  ·exact h3 (h4.2.1.trans h5)
theorem Fr.one {base b:Nat} {T:ByteArray} {vN vE vL:Value} {s:PS} {w w':World} (h:RAt w b T vN vE vL s) (hc:Chg (fun k=>k=b) w w') (hb:base<=w.heap.size) (hbb:base<=b):Fr base w w' :=
 Fr.of_chg hc hb fun k e=>by subst e;exact ⟨hbb,_,_,_,h.blk,Or.inl rfl⟩
theorem Fr.errs {base:Nat} {w w':World} (h:Fr base w w') (hE:ErrsOk w) (hg:6<base/\7<base):ErrsOk w' :=
 hE.on fun b o v hk hv=>(h.1.cell (p:=⟨b,o,none⟩) (by simp only;rcases hk with rfl | rfl | rfl <;> omega)).trans hv
structure CAt (TR:World->Value->List (Int × Int × Nat)->Prop) (base b:Nat) (T:ByteArray) (names:List ByteArray) (vN vE vL:Value) (s:PS) (l:List (Int × Int × Nat)) (w:World):Prop where
 rd:RAt w b T vN vE vL s
 row:w.ownsRow base 9 1 vN names.length (names.map .string)
 tr:TR w vE l
 errs:ErrsOk w
 fz:Fz T s
 hb:base<=b
 hg:6<base/\7<base
theorem CAt.sz {TR:World->Value->List (Int × Int × Nat)->Prop} {base b:Nat} {T:ByteArray} {names:List ByteArray} {vN vE vL:Value} {s:PS} {l:List (Int × Int × Nat)} {w:World} (h:CAt TR base b T names vN vE vL s l w):base<=w.heap.size:=by
 have:=h.rd.lt;have:=h.hb;omega
theorem CAt.on {TR:World->Value->List (Int × Int × Nat)->Prop} {base b:Nat} {T:ByteArray} {names:List ByteArray} {vN vE vL:Value} {s s':PS} {l:List (Int × Int × Nat)} {w w':World} (hTR:AddOk base TR) (h:CAt TR base b T names vN vE vL s l w) (hr:RAt w' b T vN vE vL s') (hc:Chg (fun k=>k=b) w w') (hz:Fz T s') :
  CAt TR base b T names vN vE vL s' l w'/\Fr base w w':=by
 have hf:=Fr.one h.rd hc h.sz h.hb
 exact ⟨⟨hr,row_kp h.row (Kp.chg1 h.rd.blk hc (by decide)),hTR.keep _ _ _ _ h.tr (Kp.chg1 h.rd.blk hc (by decide)),hf.errs h.errs h.hg,hz,h.hb,h.hg⟩,hf⟩
theorem need_c {TR:World->Value->List (Int × Int × Nat)->Prop} {base:Nat} (hTR:AddOk base TR) (b:Nat) (T:ByteArray) (names:List ByteArray) (vN vE vL:Value) (s:PS) (l:List (Int × Int × Nat)) (L:List ByteArray) (w:World) (h:CAt TR base b T names vN vE vL s l w) (hL:L.length<=100) (h1:1<=L.length) (hne:∀ x ∈ L,x.toList ≠ []) :
  Calls Tryz.prog 128 #[.pointer (some ⟨b,0,none⟩),.slice (some ⟨w.heap.size,0,none⟩) L.length L.length] (w.alloc (.cells (L.map .string).toArray 9)) fun r w'=>(∃ x,r=.returned (.string x))/\CAt TR base b T names vN vE vL (s.need T L) l w'/\Fr base w w':=by
 refine (need_new b T vN vE vL s L w h.rd hL h1 hne).mono ?_
 rintro r w' ⟨rfl,h1,h2⟩
 exact ⟨⟨_,rfl⟩,h.on hTR h1 h2 (h.fz.need h.rd.le L)⟩
theorem name_c {TR:World->Value->List (Int × Int × Nat)->Prop} {base:Nat} (hTR:AddOk base TR) (b:Nat) (T:ByteArray) (names:List ByteArray) (vN vE vL:Value) (s:PS) (l:List (Int × Int × Nat)) (w:World) (h:CAt TR base b T names vN vE vL s l w) (hl:names.length<=100) :
  Calls Tryz.prog 129 #[.pointer (some ⟨b,0,none⟩)] w fun r w'=>r=.returned (.int .u8 names.length)/\∃ vN',CAt TR base b T (names++[tokp T s.p]) vN' vE vL (s.newName T names) l w'/\Fr base w w':=by
 refine (newName_any base b T names vN vE vL s w h.rd h.row hl h.sz).mono ?_
 rintro r w' ⟨rfl,vN',h1,h2,h3⟩
 have hf:Fr base w w':=Fr.of_chg h3 h.sz fun k e=>by
  rcases e with rfl | e
  ·exact ⟨h.hb,_,_,_,h.rd.blk,Or.inl rfl⟩
  ·obtain ⟨cs,hcs⟩:=row_type h.row k e
   exact ⟨(h.row.lt k e).1,_,_,_,hcs,Or.inr (Or.inl rfl)⟩
 refine ⟨rfl,vN',⟨h1,by rw [List.length_append];exact h2,hTR.keep _ _ _ _ h.tr ?_,hf.errs h.errs h.hg,h.fz.newName h.rd.le names,h.hb,h.hg⟩,hf⟩
 intro k cs m hh
 rw [h3.block k (heap_lt hh) (fun e=>?_)]
 ·exact hh
 ·rcases e with rfl | e
  ·exact type_ne hh h.rd.blk (by decide) rfl
  ·obtain ⟨cs',hcs⟩:=row_type h.row k e
   exact type_ne hh hcs (by decide) rfl
theorem span_c {TR:World->Value->List (Int × Int × Nat)->Prop} {base:Nat} (hTR:AddOk base TR) (b:Nat) (T:ByteArray) (names:List ByteArray) (vN vE vL:Value) (s:PS) (l:List (Int × Int × Nat)) (k:Nat) (w:World) (h:CAt TR base b T names vN vE vL s l w) (hl:l.length<=2000) (hk:k<256) :
  Calls Tryz.prog 130 #[.pointer (some ⟨b,0,none⟩),.int .u8 k] w fun r w'=>r=.returned (.tuple #[])/\∃ vE' l',CAt TR base b T names vN vE' vL (s.span T l) l' w'/\l'.length<=l.length+1/\((s.span T l).f=0->l'=l++[(s.spanX T,s.spanY T,k)])/\Fr base w w':=by
 have hgb:6<b/\7<b:=by have:=h.hg;have:=h.hb;omega
 refine (span_any TR base hTR b T vN vE vL s l k w h.rd h.errs hgb h.tr hl hk h.fz h.sz).mono ?_
 rintro r w' ⟨rfl,vE',l',h1,h2,h3,h4,h5⟩
 have hf:Fr base w w':=Fr.of_chg h5 h.sz fun k e=>by
  rcases e with rfl | e
  ·exact ⟨h.hb,_,_,_,h.rd.blk,Or.inl rfl⟩
  ·obtain ⟨cs,hcs⟩:=hTR.type _ _ _ k h.tr e
   exact ⟨hTR.low _ _ _ k h.tr e,_,_,_,hcs,Or.inr (Or.inr rfl)⟩
 refine ⟨rfl,vE',l',⟨h1,row_kp h.row ?_,h2,hf.errs h.errs h.hg,h.fz.span h.rd.le l,h.hb,h.hg⟩,h3,h4,hf⟩
 intro k cs m hh
 rw [h5.block k (heap_lt hh) (fun e=>?_)]
 ·exact hh
 ·rcases e with rfl | e
  ·exact type_ne hh h.rd.blk (by decide) rfl
  ·obtain ⟨cs',hcs⟩:=hTR.type _ _ _ k h.tr e
   exact type_ne hh hcs (by decide) rfl
theorem cls_ne:∀ x ∈ [wClass],x.toList ≠ []:=by
 intro x hx;simp at hx;subst hx;unfold wClass;rw [ByteArray.toList_eq];simp
set_option maxRecDepth 100000 in
set_option maxHeartbeats 2000000 in
theorem pclass_any {TR:World->Value->List (Int × Int × Nat)->Prop} {base:Nat} (hTR:AddOk base TR) (b:Nat) (T:ByteArray) (names:List ByteArray) (vN vE vL:Value) (s:PS) (l:List (Int × Int × Nat)) (w:World) (h:CAt TR base b T names vN vE vL s l w) (hnl:names.length<=100) (hl:l.length<=s.p) (hp:s.p<T.size) :
  Calls Tryz.prog 77 #[.pointer (some ⟨b,0,none⟩)] w fun r w'=>r=.returned (.tuple #[])/\∃ vN' vE' l',CAt TR base b T (names++[nameTok T names s]) vN' vE' vL (s.klass T names l) l' w'/\l'.length<=(s.klass T names l).p/\((s.klass T names l).f=0->l'=(s.classB T names l).2)/\Fr base w w':=by
 have HH:Hid (CAt TR base b T names vN vE vL s l w):=h
 have hT:=h.rd.short
 have hle:=h.rd.le
 have hA:=classA_fz h.fz hle names
 obtain ⟨ao,cap,rfl⟩:=row_shape h.row
 have c3:=(pcells h.rd.blk).2.2.2.1
 clear h
 go_enter Tryz.func77,Tryz.ntmps77
 go_upto_if 8 with fail
 go_cut [] (fun wx=>Hid (CAt TR base b T names (.slice ao names.length cap) vE vL (s.classN T names.length) l wx)/\Hid (Fr base w wx))
 case first =>
  by_cases h6:names.length=6
  ·have k6:((names.length:Int) == 6)=true:=by rw [beq_iff_eq];omega
   have e:Hid (s.classN T names.length=s.fail T 6):=by show _=_;unfold PS.classN;rw [if_pos h6]
   clear h6
   go_wp2_with fail
   refine (fail_ps b T (.slice ao names.length cap) vE vL s 6 w HH.out.rd).mono ?_
   rintro r w1 ⟨rfl,h1,c1⟩
   have H1:=HH.out.on hTR h1 c1 (Fz.fail' s 6)
   have H1':Hid (CAt TR base b T names (.slice ao names.length cap) vE vL (s.fail T 6) l w1/\Fr base w w1):=H1
   clear h1 H1
   go_wp2_with fail
   go_meet
   exact ⟨by rw [e.out];exact H1'.out.1,H1'.out.2⟩
  ·have k6:((names.length:Int) == 6)=false:=by rw [beq_eq_false_iff_ne];omega
   have e:Hid (s.classN T names.length=s):=by show _=_;unfold PS.classN;rw [if_neg h6]
   clear h6
   go_wp2_with fail
   go_meet
   exact ⟨by rw [e.out];exact HH,⟨Below.refl _ _,fun t _ _ _=>Kp.refl _ _⟩⟩
 case rest =>
  obtain ⟨h1,f1⟩:=hcut
  obtain ⟨w1,hw1⟩:∃ w1,w1=wc:=⟨wc,rfl⟩
  subst hw1
  clear c3
  go_wp2_with fail
  refine (need_c hTR b T names (.slice ao names.length cap) vE vL _ l [wClass] w1 h1.out (by decide) (by decide) cls_ne).mono ?_
  rintro r w2 ⟨⟨x,rfl⟩,h2,f2⟩
  have H2:Hid (CAt TR base b T names (.slice ao names.length cap) vE vL ((s.classN T names.length).need T [wClass]) l w2):=h2
  have F2:Hid (Fr base w w2):=f1.out.trans f2
  clear h2 f2 h1 f1
  go_wp2_with fail
  refine (name_c hTR b T names (.slice ao names.length cap) vE vL _ l w2 H2.out hnl).mono ?_
  rintro r w3 ⟨rfl,vN3,h3,f3⟩
  have H3:Hid (CAt TR base b T (names++[nameTok T names s]) vN3 vE vL (((s.classN T names.length).need T [wClass]).newName T names) l w3):=h3
  have F3:Hid (Fr base w w3):=F2.out.trans f3
  clear h3 f3 H2 F2
  go_wp2_with fail
  refine (need_c hTR b T _ vN3 vE vL _ l [sgn 61] w3 H3.out (by decide) (by decide) (sgn_ne _)).mono ?_
  rintro r w4 ⟨⟨x,rfl⟩,h4,f4⟩
  have H4:Hid (CAt TR base b T (names++[nameTok T names s]) vN3 vE vL (s.classA T names) l w4):=h4
  have F4:Hid (Fr base w w4):=F3.out.trans f4
  clear h4 f4 H3 F3
  go_wp2_with fail
  refine (span_c hTR b T _ vN3 vE vL (s.classA T names) l names.length w4 H4.out (by omega) (by omega)).mono ?_
  rintro r w5 ⟨rfl,vE5,l5,h5,l5l,l5e,f5⟩
  have H5:Hid (CAt TR base b T (names++[nameTok T names s]) vN3 vE5 vL ((s.classA T names).span T l) l5 w5):=h5
  have F5:Hid (Fr base w w5):=F4.out.trans f5
  have L5:Hid (((s.classA T names).span T l).f=0->l5=l++[((s.classA T names).spanX T,(s.classA T names).spanY T,names.length)]):=l5e
  have hsp:=span_p hA.2.1 l
  have hAp:=hA.2.2.2 hp
  clear h5 f5 l5e H4 F4
  go_wp2_with fail
  go_loopg [] (T.size+1) (fun g wx=>∃ (s':PS) (l' lm:List (Int × Int × Nat)) (vE':Value),Hid (CAt TR base b T (names++[nameTok T names s]) vN3 vE' vL s' lm wx)/\Hid (Fr base w wx)/\Hid (s'.f=0->lm=l')/\Hid (PS.spansL T names.length g s' l'=s.classB T names l)/\T.size<s'.p+g/\lm.length<=s'.p)
  case atStart=>exact ⟨_,_,l5,vE5,H5,F5,L5,rfl,by omega,by omega⟩
  case round =>
   obtain ⟨s',l',lm,vE',hC,hF,hL,hS,hg,hlm⟩:=hrel
   obtain ⟨w6,hw6⟩:∃ w6,w6=wr:=⟨wr,rfl⟩
   subst hw6
   have hle':=hC.out.rd.le
   obtain ⟨g',hg'⟩:∃ g',gk=g'+1:=⟨gk - 1,by omega⟩
   subst hg'
   clear H5 F5 L5
   go_wp2_with fail
   refine (take_new b T vN3 vE' vL s' [sgn 44] w6 hC.out.rd (by decide) (by decide)).mono ?_
   rintro r w7 ⟨rfl,h7,c7⟩
   by_cases hm:s'.tk T=[44]
   ·have hmm:memL [sgn 44] (s'.tk T)=true:=by rw [memL_sgn];simp [hm]
    have e1:takenOf T [sgn 44] s'.p=tokp T s'.p:=by unfold takenOf;rw [show memL _ (tokp T s'.p).toList=true from hmm];rfl
    have e2:s'.take T [sgn 44]=s'.step T:=by unfold PS.take;rw [hmm];rfl
    rw [e2] at h7
    rw [e1]
    have hlt:=tk_lt hle' hm
    have hnx:=nextp_le T s'.p hle'
    have h0:s'.f=0:=by
     rcases Classical.em (s'.f=0) with h | h
     ·exact h
     ·have:=hC.out.fz h;omega
    have hll:=hL.out h0
    have H7:=hC.out.on hTR h7 c7 (hC.out.fz.step hle')
    have C7:Hid (CAt TR base b T (names++[nameTok T names s]) vN3 vE' vL (s'.step T) lm w7):=H7.1
    have F7:Hid (Fr base w w7):=hF.out.trans H7.2
    have e:Hid (PS.spansL T names.length g' ((s'.step T).span T l') (l'++[((s'.step T).spanX T,(s'.step T).spanY T,names.length)])=s.classB T names l):=by show _=_;rw [<- hS.out,PS.spansL,if_pos hm]
    have HLL:Hid (lm=l'):=hll
    have k1:(tokp T s'.p).toList.isEmpty=false:=by rw [show (tokp T s'.p).toList=[44] from hm];rfl
    have hsp2:=span_p (s:=s'.step T) hnx.1 lm
    have hst:(s'.step T).p=nextp T s'.p:=rfl
    have hadv:=hnx.2.2 hlt
    clear hm hmm e1 e2 h7 H7 h0 hll hC hF hL hS c7
    go_wp2_with fail
    refine (span_c hTR b T _ vN3 vE' vL (s'.step T) lm names.length w7 C7.out (by omega) (by omega)).mono ?_
    rintro r w8 ⟨rfl,vE8,l8,h8,l8l,l8e,f8⟩
    have H8:Hid (CAt TR base b T (names++[nameTok T names s]) vN3 vE8 vL ((s'.step T).span T lm) l8 w8):=h8
    have F8:Hid (Fr base w w8):=F7.out.trans f8
    have L8:Hid (((s'.step T).span T lm).f=0->l8=lm++[((s'.step T).spanX T,(s'.step T).spanY T,names.length)]):=l8e
    clear h8 f8 l8e
    go_wp2_with fail
    go_roundg g'
    case measure=>omega
    case rel =>
     refine ⟨_,lm++[((s'.step T).spanX T,(s'.step T).spanY T,names.length)],l8,vE8,H8,F8,L8,?_,by omega,by omega⟩
     rw [HLL.out];exact e
   ·have hmm:memL [sgn 44] (s'.tk T)=false:=by rw [memL_sgn];simp [hm]
    have e1:takenOf T [sgn 44] s'.p=⟨#[]⟩:=by unfold takenOf;rw [show memL _ (tokp T s'.p).toList=false from hmm];rfl
    have e2:s'.take T [sgn 44]=s':=by unfold PS.take;rw [hmm];rfl
    rw [e2] at h7
    rw [e1]
    have H7:=hC.out.on hTR h7 c7 hC.out.fz
    have C7:Hid (CAt TR base b T (names++[nameTok T names s]) vN3 vE' vL s' lm w7):=H7.1
    have F7:Hid (Fr base w w7):=hF.out.trans H7.2
    have e:Hid (s.classB T names l=(s',l')):=by show _=_;rw [<- hS.out,PS.spansL,if_neg hm]
    clear hm hmm e1 e2 h7 H7 hC hF hS c7
    go_wp2_with fail
    refine (need_c hTR b T _ vN3 vE' vL s' lm [sgn 59] w7 C7.out (by decide) (by decide) (sgn_ne _)).mono ?_
    rintro r w8 ⟨⟨x,rfl⟩,h8,f8⟩
    have H8:Hid (CAt TR base b T (names++[nameTok T names s]) vN3 vE' vL (s'.need T [sgn 59]) lm w8):=h8
    have F8:Hid (Fr base w w8):=F7.out.trans f8
    clear h8 f8
    go_wp2_with fail
    go_end0
    have hnp:=need_p hle' [sgn 59]
    have ec:s.klass T names l=s'.need T [sgn 59]:=by unfold PS.klass;rw [e.out]
    refine ⟨rfl,vN3,vE',lm,by rw [ec];exact H8.out,by rw [ec];omega,fun h0=>?_,F8.out⟩
    rw [e.out]
    refine hL.out ?_
    rw [ec] at h0
    unfold PS.need at h0
    split at h0
    ·exact h0
    ·unfold PS.fail PS.failAt pf at h0
     simp only at h0
     split at h0
     ·omega
     ·exact h0
end Go.Proofs.YtodagkkjfipbgaaGreatDoor
