import Derived.DeepKeys4
import Derived.Test.YtodagkkjfipbgaaGreatDoorN4toN6
namespace Go.Proofs.YtodagkkjfipbgaaGreatDoor
open Go.RowKit Go.Maps
theorem zero_at {i:Nat} (h:i<4):([0,0,0,0]:List Nat)[i]?=some 0:=by
 match i,h with
 | 0,_=>rfl
 | 1,_=>rfl
 | 2,_=>rfl
 | 3,_=>rfl
theorem startL_step {J:AJ} {i:Nat} {l:List Nat} (hi:i<4):startL J (i+1) l=(startL J i l).set i (if tmatch (tlAt J i) ((l[i]?).getD 0)=true then 0 else 1):=by
 unfold startL
 rw [mapTo_succ (zero_at hi)]
theorem startL_same {J:AJ} {i:Nat} {l:List Nat} (hi:i<4):(startL J i l)[i]?=some 0:=by
 unfold startL
 rw [mapTo_same _ (Nat.le_refl i),zero_at hi]
theorem set_same {l:List Nat} {i x:Nat} (h:l[i]?=some x):l.set i x=l:=by
 apply List.ext_getElem?
 intro j
 rw [List.getElem?_set]
 split
 ·rename_i e;subst e;rw [if_pos (List.getElem?_eq_some_iff.1 h).1,h]
 ·rfl
theorem startL_len (J:AJ) (i:Nat) (l:List Nat):(startL J i l).length=4:=mapTo_len _ _ _
theorem startL_ok {J:AJ} (hJ:∀ r ∈ J,ARuleOk r) (l:List Nat) (b:Bool):KnownOk J (b,startL J J.length l):=by
 refine ⟨startL_len _ _ _,fun j v hv=>?_⟩
 simp only at hv
 unfold startL at hv
 rw [mapTo_at] at hv
 cases hx:([0,0,0,0]:List Nat)[j]? with
 | none=>rw [hx] at hv;simp at hv
 | some u =>
  rw [hx] at hv
  simp only [Option.map_some,Option.some.injEq] at hv
  have hu:u=0:=by have:=List.mem_of_getElem? hx;simp at this;exact this
  have hv1:v≤1:=by
   split at hv
   ·split at hv <;> omega
   ·omega
  refine ⟨by omega,fun hj=>?_⟩
  unfold limR
  rw [trAt_eq hj]
  have:=(hJ _ (List.getElem_mem hj)).two
  omega
set_option maxRecDepth 100000 in
set_option maxHeartbeats 2000000 in
theorem start_any (w:World) (v:Value) (J:AJ) (vs:List (Value × Value)) (x:Spt) (hA:AIn 0 w v J vs) (hJ:J.length≤4) (hx:PastOk J x) :
  Calls Tryz.prog 141 #[v,sptV x] w fun r w'=>r=.returned (sptV (startA J x))∧Below w.heap.size w w':=by
 obtain ⟨b,l⟩:=x
 obtain ⟨p,q,r,s,e⟩:=four hx.len
 simp only at e
 subst e
 obtain ⟨ao,cap,rfl,hf⟩:=hA.form
 have HF:Hid (∀ i (hi:i<J.length),∃ g aL nL cL aR nR cR,ao=some ⟨g,0,none⟩∧g<w.heap.size∧TabIn 0 w (.slice aL nL cL) J[i].tl∧TabIn 0 w (.slice aR nR cR) J[i].tr ∧
  w.cell? ⟨g,i * 3,none⟩=some (.bool J[i].cut)∧w.cell? ⟨g,i * 3+1,none⟩=some (.slice aL nL cL)∧w.cell? ⟨g,i * 3+2,none⟩=some (.slice aR nR cR)):=hf
 have HA:Hid (AIn 0 w (.slice ao J.length cap) J vs):=hA
 have HX:Hid (PastOk J (b,[p,q,r,s])):=hx
 clear hA hx hf
 obtain ⟨W0,hW0⟩:∃ W0,W0=((w.alloc (.cells #[.bool b,.int .i64 (p:Nat),.int .i64 (q:Nat),.int .i64 (r:Nat),.int .i64 (s:Nat)] 243)).alloc (.cells #[.bool false,.int .i64 0,.int .i64 0,.int .i64 0,.int .i64 0] 249)).alloc (.cells #[.bool false,.int .i64 0,.int .i64 0,.int .i64 0,.int .i64 0] 249):=⟨_,rfl⟩
 have HW0:Hid (W0=((w.alloc (.cells #[.bool b,.int .i64 (p:Nat),.int .i64 (q:Nat),.int .i64 (r:Nat),.int .i64 (s:Nat)] 243)).alloc (.cells #[.bool false,.int .i64 0,.int .i64 0,.int .i64 0,.int .i64 0] 249)).alloc (.cells #[.bool false,.int .i64 0,.int .i64 0,.int .i64 0,.int .i64 0] 249)):=hW0
 have b0:Below w.heap.size w W0:=by rw [hW0];exact ((below_alloc w _).alloc (by simp) _).alloc (by simp;omega) _
 have hz:W0.heap.size=w.heap.size+3:=by rw [hW0];simp
 have p0:W0.heap[w.heap.size]?=some (.cells (spotCell (b,[p,q,r,s])).toArray 243 (0,0)):=by
  rw [hW0]
  exact (Below.heap_alloc _ _ _ (by simp;omega)).trans ((Below.heap_alloc _ _ _ (by simp)).trans (heap_alloc_new w _))
 have p1:W0.heap[w.heap.size+1]?=some (.cells #[.bool false,.int .i64 0,.int .i64 0,.int .i64 0,.int .i64 0] 249 (0,0)):=by
  rw [hW0]
  exact (Below.heap_alloc _ _ _ (by simp)).trans ((show ((w.alloc (.cells #[.bool b,.int .i64 (p:Nat),.int .i64 (q:Nat),.int .i64 (r:Nat),.int .i64 (s:Nat)] 243)).heap.size)=w.heap.size+1 by simp) ▸ heap_alloc_new (w.alloc _) _)
 have p2:W0.heap[w.heap.size+2]?=some (.cells (spotCell (false,[0,0,0,0])).toArray 249 (0,0)):=by
  rw [hW0]
  exact (show (((w.alloc (.cells #[.bool b,.int .i64 (p:Nat),.int .i64 (q:Nat),.int .i64 (r:Nat),.int .i64 (s:Nat)] 243)).alloc (.cells #[.bool false,.int .i64 0,.int .i64 0,.int .i64 0,.int .i64 0] 249)).heap.size)=w.heap.size+2 by simp) ▸ heap_alloc_new ((w.alloc _).alloc _) _
 have B0:Hid (Below w.heap.size w W0):=b0
 have P0:Hid (W0.heap[w.heap.size]?=some (.cells (spotCell (b,[p,q,r,s])).toArray 243 (0,0))):=p0
 have P1:Hid (W0.heap[w.heap.size+1]?=some (.cells #[.bool false,.int .i64 0,.int .i64 0,.int .i64 0,.int .i64 0] 249 (0,0))):=p1
 have P2:Hid (W0.heap[w.heap.size+2]?=some (.cells (spotCell (false,[0,0,0,0])).toArray 249 (0,0))):=p2
 clear hW0 p0 p1 p2 b0
 show Calls _ _ #[_,.agg #[.bool b,.int .i64 (p:Nat),.int .i64 (q:Nat),.int .i64 (r:Nat),.int .i64 (s:Nat)]] _ _
 go_enter Tryz.func141,Tryz.ntmps141
 go_wp2_with fail
 rw [← HW0.out]
 go_loopg [10] J.length (fun gh iv wx=>∃ i:Nat,i≤J.length∧gh=J.length - i∧iv=.int .i64 i∧Hid (wx.heap[w.heap.size]?=some (.cells (spotCell (b,[p,q,r,s])).toArray 243 (0,0)))∧Hid (wx.heap[w.heap.size+1]?=some (.cells #[.bool false,.int .i64 0,.int .i64 0,.int .i64 0,.int .i64 0] 249 (0,0)))∧Hid (wx.heap[w.heap.size+2]?=some (.cells (spotCell (false,startL J i [p,q,r,s])).toArray 249 (0,0)))∧Hid (Below w.heap.size w wx))
 case atStart=>exact ⟨0,Nat.zero_le _,rfl,rfl,P0,P1,by unfold startL;rw [mapTo_zero];exact P2,B0⟩
 case round =>
  obtain ⟨i,hi,rfl,rfl,hP,hR,hQ,hB⟩:=hrel
  obtain ⟨w1,hw1⟩:∃ w1,w1=wr:=⟨wr,rfl⟩
  subst hw1
  clear P0 P1 P2 B0
  have hll:(startL J i [p,q,r,s]).length=4:=startL_len _ _ _
  by_cases hlt:i<J.length
  ·obtain ⟨g,aL,nL,cL,aR,nR,cR,rfl,hg,hTL,hTR,c0,c1,c2⟩:=HF.out i hlt
   have d0:=(hB.out.cell (p:=⟨g,i * 3,none⟩) hg).trans c0
   have d1:=(hB.out.cell (p:=⟨g,i * 3+1,none⟩) hg).trans c1
   have d2:=(hB.out.cell (p:=⟨g,i * 3+2,none⟩) hg).trans c2
   obtain ⟨u,hu,_,hul⟩:=HX.out.at_ (j:=i) (by omega)
   have hul':=hul hlt
   unfold limL at hul'
   rw [tlAt_eq hlt] at hul'
   obtain ⟨m,hm⟩:∃ m,m=tmatch J[i].tl u:=⟨_,rfl⟩
   have HS:Hid (startL J (i+1) [p,q,r,s]=(startL J i [p,q,r,s]).set i (if m=true then 0 else 1)):=by show _=_;rw [startL_step (by omega),tlAt_eq hlt,hu,hm];rfl
   have hz0:=startL_same (J:=J) (i:=i) (l:=[p,q,r,s]) (by omega)
   have HS0:Hid (m=true→startL J (i+1) [p,q,r,s]=startL J i [p,q,r,s]):=fun e=>by rw [HS.out,if_pos e,set_same hz0]
   have HS1:Hid (m=false→startL J (i+1) [p,q,r,s]=(startL J i [p,q,r,s]).set i 1):=fun e=>by rw [HS.out,if_neg (by rw [e];decide)]
   clear HS
   have e1:=cell_of_block hP.out (1+i) _ ((List.getElem?_toArray ..).trans (spt_at (x:=(b,[p,q,r,s])) hu))
   have e2:=cell_of_block hQ.out (1+i) _ ((List.getElem?_toArray ..).trans (spt_at (x:=(false,startL J i [p,q,r,s])) hz0))
   have T1:Hid (TabIn 0 w1 (.slice aL nL cL) J[i].tl):=row_kp hTL (Kp.below hB.out)
   have G1:Hid (TabGood J[i].tl):=(HA.out.ok _ (List.getElem_mem hlt)).l
   clear hTL hTR c0 c1 c2 hu hz0
   generalize J[i]=L at *
   have hi4:(i:Int)<4:=by omega
   have f0:((w1.alloc (.cells #[.bool L.cut,.slice aL nL cL,.slice aR nR cR] 234)).cell? ⟨w.heap.size,1+i,none⟩=some (.int .i64 (u:Nat))):=((below_alloc w1 _).cell (p:=⟨w.heap.size,1+i,none⟩) (cellLt e1)).trans e1
   have f2:((w1.alloc (.cells #[.bool L.cut,.slice aL nL cL,.slice aR nR cR] 234)).cell? ⟨w.heap.size+2,1+i,none⟩=some (.int .i64 ((0:Nat):Int))):=((below_alloc w1 _).cell (p:=⟨w.heap.size+2,1+i,none⟩) (cellLt e2)).trans e2
   have HM:Hid (∀ W,Below w1.heap.size w1 W→Calls Tryz.prog 182 #[.slice aL nL cL,.int .i64 (u:Nat)] W fun r w'=>r=.returned (.bool m)∧w'=W):=fun W hW=>by rw [hm];exact match_any W _ L.tl u (row_kp T1.out (Kp.below hW)) G1.out hul'
   have BB:Hid (Below w.heap.size w (w1.alloc (.cells #[.bool L.cut,.slice aL nL cL,.slice aR nR cR] 234))):=hB.out.alloc hB.out.size _
   have PP:Hid ((w1.alloc (.cells #[.bool L.cut,.slice aL nL cL,.slice aR nR cR] 234)).heap[w.heap.size]?=some (.cells (spotCell (b,[p,q,r,s])).toArray 243 (0,0))):=by show _=_;rw [Below.heap_alloc _ _ _ (heap_lt hP.out)];exact hP.out
   have QQ:Hid ((w1.alloc (.cells #[.bool L.cut,.slice aL nL cL,.slice aR nR cR] 234)).heap[w.heap.size+2]?=some (.cells (spotCell (false,startL J i [p,q,r,s])).toArray 249 (0,0))):=by show _=_;rw [Below.heap_alloc _ _ _ (heap_lt hQ.out)];exact hQ.out
   have RR:Hid ((w1.alloc (.cells #[.bool L.cut,.slice aL nL cL,.slice aR nR cR] 234)).heap[w.heap.size+1]?=some (.cells #[.bool false,.int .i64 0,.int .i64 0,.int .i64 0,.int .i64 0] 249 (0,0))):=by show _=_;rw [Below.heap_alloc _ _ _ (heap_lt hR.out)];exact hR.out
   have fr:=free_of_block QQ.out (1+i)
   clear hm
   go_wp2_with fail
   go_region_law (first
    | (refine step_fn2 rfl 182 (.tmp 17) (.tmp 21) _ rfl (enters_of Tryz.func182 (by kernel_rfl) rfl) (.slice aL nL cL) (.int .i64 (u:Nat)) (by simp [Act.eval]) (by simp [Act.eval]) _ (HM.out _ ((below_alloc w1 _).drew)) ?_
       rintro e W1 ⟨rfl,rfl⟩
       refine ⟨_,rfl,?_⟩))
   all_goals cases m
   all_goals go_wp2_with fail
   all_goals go_roundg (J.length - (i+1))
   all_goals first
    | (case measure=>omega)
    | (refine ⟨i+1,by omega,rfl,by go_num,PP,RR,?_,BB.out.drew⟩
       show _=_
       have hs:=HS0.out (by simp)
       rw [hs]
       exact QQ.out)
    | (refine ⟨i+1,by omega,rfl,by go_num,?_,?_,?_,BB.out.drew.setCell (by show w.heap.size≤w.heap.size+2;omega) _⟩
       ·exact (setCell_type (by omega)).trans PP.out
       ·exact (setCell_type (by omega)).trans RR.out
       ·show _=_
        have hs:=HS1.out (by simp)
        exact (block_setCell QQ.out (1+i) (.int .i64 ((1:Nat):Int))).trans (by rw [hs,← spotCell_set]))
  ·have HE:Hid (startA J (b,[p,q,r,s])=trimA J (false,startL J i [p,q,r,s])):=by show _=_;rw [show i=J.length from by omega];rfl
   have HK:Hid (KnownOk J (false,startL J i [p,q,r,s])):=by rw [show i=J.length from by omega];exact startL_ok HA.out.ok _ _
   obtain ⟨p',q',r',s',el,c0,c1,c2,c3,c4⟩:=spt_cells hQ.out hll
   rw [el] at HE HK
   clear el hll
   go_wp2_with fail
   refine (trim_any w1 _ J vs (false,[p',q',r',s']) (HA.out.below hB.out) hJ HK.out).mono ?_
   rintro rr w2 ⟨rfl,hb2⟩
   obtain ⟨y,hy⟩:∃ y,y=trimA J (false,[p',q',r',s']):=⟨_,rfl⟩
   have hl2:y.2.length=4:=by rw [hy];exact (trim_ok HA.out.ok HK.out).len
   rw [← hy]
   obtain ⟨b2,l2⟩:=y
   obtain ⟨p2,q2,r2,s2,e2⟩:=four hl2
   simp only at e2
   subst e2
   have HE2:Hid (startA J (b,[p,q,r,s])=(b2,[p2,q2,r2,s2])):=HE.out.trans hy.symm
   have R2:Hid (w2.heap[w.heap.size+1]?=some (.cells #[.bool false,.int .i64 0,.int .i64 0,.int .i64 0,.int .i64 0] 249 (0,0))):=by show _=_;rw [hb2.block _ (heap_lt hR.out)];exact hR.out
   have B2:Hid (Below w.heap.size w w2):=hB.out.trans (hb2.mono hB.out.size)
   have d0:=cell_of_block R2.out 0 _ rfl
   have d1:=cell_of_block R2.out 1 _ rfl
   have d2:=cell_of_block R2.out 2 _ rfl
   have d3:=cell_of_block R2.out 3 _ rfl
   have d4:=cell_of_block R2.out 4 _ rfl
   have df:=free_of_block R2.out
   have ev:sptV (b2,[p2,q2,r2,s2])=.agg #[.bool b2,.int .i64 (p2:Nat),.int .i64 (q2:Nat),.int .i64 (r2:Nat),.int .i64 (s2:Nat)]:=rfl
   rw [ev]
   clear hy hb2 hl2
   go_wp2_with fail
   refine bodyPost_ret (results_cell_row rfl _ _ (w.heap.size+1) 249 #[.bool b2,.int .i64 (p2:Nat),.int .i64 (q2:Nat),.int .i64 (r2:Nat),.int .i64 (s2:Nat)] (0,0) _ rfl (set5 R2.out) Tryz.underlying249 rfl (by kernel_rfl)) rfl ?_
   exact ⟨by rw [HE2.out];rfl,below_set5 B2.out (by omega)⟩
set_option maxRecDepth 100000 in
set_option maxHeartbeats 2000000 in
theorem cuts_any (w:World) (v:Value) (J:AJ) (vs:List (Value × Value)) (x:Spt) (hA:AIn 0 w v J vs) (hJ:J.length≤4) (hx:KnownOk J x) :
  Calls Tryz.prog 143 #[v,sptV x] w fun r w'=>r=.returned (.bool (cutsA J x))∧Below w.heap.size w w':=by
 obtain ⟨b,l⟩:=x
 obtain ⟨p,q,r,s,e⟩:=four hx.len
 simp only at e
 subst e
 obtain ⟨ao,cap,rfl,hf⟩:=hA.form
 have HF:Hid (∀ i (hi:i<J.length),∃ g aL nL cL aR nR cR,ao=some ⟨g,0,none⟩∧g<w.heap.size∧TabIn 0 w (.slice aL nL cL) J[i].tl∧TabIn 0 w (.slice aR nR cR) J[i].tr ∧
  w.cell? ⟨g,i * 3,none⟩=some (.bool J[i].cut)∧w.cell? ⟨g,i * 3+1,none⟩=some (.slice aL nL cL)∧w.cell? ⟨g,i * 3+2,none⟩=some (.slice aR nR cR)):=hf
 have HA:Hid (AIn 0 w (.slice ao J.length cap) J vs):=hA
 have HX:Hid (KnownOk J (b,[p,q,r,s])):=hx
 clear hA hx hf
 have B0:Hid (Below w.heap.size w (w.alloc (.cells (spotCell (b,[p,q,r,s])).toArray 249))):=below_alloc w _
 have P0:Hid ((w.alloc (.cells (spotCell (b,[p,q,r,s])).toArray 249)).heap[w.heap.size]?=some (.cells (spotCell (b,[p,q,r,s])).toArray 249 (0,0))):=heap_alloc_new w _
 obtain ⟨f,hfe⟩:∃ f,f=firstA J [p,q,r,s]:=⟨_,rfl⟩
 have hfl:f≤J.length:=by rw [hfe];exact firstA_le J _
 have HC:Hid (cutsA J (b,[p,q,r,s])=(!b || (f == J.length) || cutAt J f)):=by show _=_;rw [hfe];rfl
 show Calls _ _ #[_,.agg #[.bool b,.int .i64 (p:Nat),.int .i64 (q:Nat),.int .i64 (r:Nat),.int .i64 (s:Nat)]] _ _
 go_enter Tryz.func143,Tryz.ntmps143
 go_wp2_with fail
 refine (first_any' _ _ J vs (b,[p,q,r,s]) (HA.out.below B0.out) hJ HX.out).mono ?_
 rw [show firstA J (b,[p,q,r,s]).2=f from hfe.symm]
 rintro rr w1 ⟨rfl,hb1⟩
 have B1:Hid (Below w.heap.size w w1):=B0.out.trans (hb1.mono B0.out.size)
 have p1:w1.cell? ⟨w.heap.size,0,none⟩=some (.bool b):=cell_of_block ((hb1.block _ (heap_lt P0.out)).trans P0.out) 0 _ rfl
 clear hb1 hfe
 cases b
 ·go_wp2_with fail
  go_ret
  exact ⟨by rw [HC.out];rfl,B1.out⟩
 ·by_cases hlt:f<J.length
  ·obtain ⟨g,aL,nL,cL,aR,nR,cR,rfl,hg,hTL,hTR,c0,c1,c2⟩:=HF.out f hlt
   have d0:=(B1.out.cell (p:=⟨g,f * 3,none⟩) hg).trans c0
   have hne:¬ (f:Int)=(J.length:Int):=by omega
   have HC2:Hid (cutsA J (true,[p,q,r,s])=J[f].cut):=by
    show _=_
    rw [HC.out,cutAt_eq hlt]
    have:(f == J.length)=false:=by simp;omega
    rw [this];rfl
   clear hTL hTR c0 c1 c2
   generalize J[f]=L at *
   have hbe:((f:Int) == (J.length:Int))=false:=by simp;omega
   go_wp2_with fail
   go_ret
   exact ⟨by rw [HC2.out];rfl,B1.out⟩
  ·have heq:f=J.length:=by omega
   subst heq
   have HC2:Hid (cutsA J (true,[p,q,r,s])=true):=by show _=_;rw [HC.out];simp
   go_wp2_with fail
   go_ret
   exact ⟨by rw [HC2.out];rfl,B1.out⟩
theorem Tryz.laidOutB:laidOutB Tryz.prog=true:=by kernel_rfl
def spt4 (b:Bool) (p q r s:Nat):Value:=.agg #[.bool b,.int .i64 p,.int .i64 q,.int .i64 r,.int .i64 s]
theorem size3:∃ m,Tryz.prog.types.size+1=m+4:=by
 have h:Tryz.prog.types.size=(Tryz.prog.types.size - 3)+3:=by kernel_rfl
 exact ⟨Tryz.prog.types.size - 3,by omega⟩
theorem lit_wf {a:Nat} (h:a<1000):(Lit.int .i64 (a:Int)).wf=true:=by
 have e:IntKind.i64.min=-9223372036854775808:=by decide
 simp [Lit.wf,e]
 omega
theorem lits_spots {m p q r s:Nat} (hp:p<1000) (hq:q<1000) (hr:r<1000) (hs:s<1000):Tryz.prog.keyLits (m+2) 241 [.int .i64 p,.int .i64 q,.int .i64 r,.int .i64 s]=some [.int .i64 p,.int .i64 q,.int .i64 r,.int .i64 s]:=by
 have c1:Tryz.prog.cellsOf 241=4:=by kernel_rfl
 have c2:Tryz.prog.cellsOf 3=1:=by kernel_rfl
 have e:List.range 4=[0,1,2,3]:=by decide
 simp [Program.keyLits,Tryz.underlying241,Tryz.underlying3,c1,c2,e,lit_wf hp,lit_wf hq,lit_wf hr,lit_wf hs]
theorem keyOf_past {b:Bool} {p q r s:Nat} (hp:p<1000) (hq:q<1000) (hr:r<1000) (hs:s<1000):∃ l,keyOf Tryz.prog 243 (spt4 b p q r s)=some l:=by
 have c1:Tryz.prog.cellsOf 243=5:=by kernel_rfl
 have c2:Tryz.prog.cellsOf 241=4:=by kernel_rfl
 have c3:Tryz.prog.cellsOf 4=1:=by kernel_rfl
 have hk:Tryz.prog.keyType 243=true:=by kernel_rfl
 obtain ⟨m,hm⟩:=size3
 have hl:Tryz.prog.keyLits (m+4) 243 [.bool b,.int .i64 p,.int .i64 q,.int .i64 r,.int .i64 s]=some [.bool b,.int .i64 p,.int .i64 q,.int .i64 r,.int .i64 s]:=by
  have h1:Tryz.prog.keyLits (m+3) 241 [.int .i64 p,.int .i64 q,.int .i64 r,.int .i64 s]=some [.int .i64 p,.int .i64 q,.int .i64 r,.int .i64 s]:=lits_spots (m:=m+1) hp hq hr hs
  have h0:Tryz.prog.keyLits (m+3) 4 [.bool b]=some [.bool b]:=by simp [Program.keyLits,Tryz.underlying4]
  unfold Program.keyLits
  simp [Tryz.underlying243,c1,c2,c3,h1,h0]
 unfold keyOf
 rw [Tryz.underlying243,hm]
 have hf:(spt4 b p q r s).formed Tryz.prog 243=true:=by simp [spt4,Value.formed,Tryz.underlying243,c1]
 simp only [hk,hf,Bool.and_self,if_true]
 have hc:(spt4 b p q r s).cells.toList=[.bool b,.int .i64 p,.int .i64 q,.int .i64 r,.int .i64 s]:=by simp [spt4,Value.cells]
 rw [hc,hl]
 exact ⟨_,rfl⟩
theorem keyOf_known {b:Bool} {p q r s:Nat} (hp:p<1000) (hq:q<1000) (hr:r<1000) (hs:s<1000):∃ l,keyOf Tryz.prog 249 (spt4 b p q r s)=some l:=by
 have c1:Tryz.prog.cellsOf 249=5:=by kernel_rfl
 have c2:Tryz.prog.cellsOf 241=4:=by kernel_rfl
 have c3:Tryz.prog.cellsOf 4=1:=by kernel_rfl
 have hk:Tryz.prog.keyType 249=true:=by kernel_rfl
 obtain ⟨m,hm⟩:=size3
 have hl:Tryz.prog.keyLits (m+4) 249 [.bool b,.int .i64 p,.int .i64 q,.int .i64 r,.int .i64 s]=some [.bool b,.int .i64 p,.int .i64 q,.int .i64 r,.int .i64 s]:=by
  have h1:Tryz.prog.keyLits (m+3) 241 [.int .i64 p,.int .i64 q,.int .i64 r,.int .i64 s]=some [.int .i64 p,.int .i64 q,.int .i64 r,.int .i64 s]:=lits_spots (m:=m+1) hp hq hr hs
  have h0:Tryz.prog.keyLits (m+3) 4 [.bool b]=some [.bool b]:=by simp [Program.keyLits,Tryz.underlying4]
  unfold Program.keyLits
  simp [Tryz.underlying249,c1,c2,c3,h1,h0]
 unfold keyOf
 rw [Tryz.underlying249,hm]
 have hf:(spt4 b p q r s).formed Tryz.prog 249=true:=by simp [spt4,Value.formed,Tryz.underlying249,c1]
 simp only [hk,hf,Bool.and_self,if_true]
 have hc:(spt4 b p q r s).cells.toList=[.bool b,.int .i64 p,.int .i64 q,.int .i64 r,.int .i64 s]:=by simp [spt4,Value.cells]
 rw [hc,hl]
 exact ⟨_,rfl⟩
theorem pastKey:Keyed Tryz.prog 243:=Keyed.of_law (deep_law_laid Tryz.laidOutB (m:=3) (by omega) (of_decide_eq_true (by kernel_rfl)) (by kernel_rfl) (by rw [Tryz.underlying243]))
theorem knownKey:Keyed Tryz.prog 249:=Keyed.of_law (deep_law_laid Tryz.laidOutB (m:=3) (by omega) (of_decide_eq_true (by kernel_rfl)) (by kernel_rfl) (by rw [Tryz.underlying249]))
theorem spt4_inj {b b':Bool} {p q r s p' q' r' s':Nat} (h:spt4 b p q r s=spt4 b' p' q' r' s'):b=b'∧p=p'∧q=q'∧r=r'∧s=s':=by
 unfold spt4 at h
 simp at h
 obtain ⟨h1,h2,h3,h4,h5⟩:=h
 exact ⟨h1,by omega,by omega,by omega,by omega⟩
def sptCells (X:List Spt):List Value:=X.flatMap spotCell
theorem sptCells_snoc (X:List Spt) (x:Spt):sptCells (X++[x])=sptCells X++spotCell x:=by unfold sptCells;simp
theorem sptCells_at:∀ (X:List Spt) (i:Nat) (x:Spt),(∀ y ∈ X,y.2.length=4)→X[i]?=some x→∀ o u,(spotCell x)[o]?=some u→(sptCells X)[i * 5+o]?=some u:=by
 intro X
 induction X with
 | nil=>intro i x _ h;simp at h
 | cons a X ih =>
  intro i x hr h o u hu
  have hla:(spotCell a).length=5:=by unfold spotCell;simp [hr a List.mem_cons_self]
  have e:sptCells (a :: X)=spotCell a++sptCells X:=rfl
  have ho:=(List.getElem?_eq_some_iff.1 hu).1
  cases i with
  | zero =>
   simp at h
   subst h
   rw [e,List.getElem?_append_left (by omega),show 0 * 5+o=o from by omega]
   exact hu
  | succ i =>
   have:=ih i x (fun r h=>hr r (List.mem_cons_of_mem _ h)) (by simpa using h) o u hu
   rw [e,List.getElem?_append_right (by omega),hla,show (i+1) * 5+o - 5=i * 5+o from by omega]
   exact this
def FoundX (X:List Spt) (x:Spt) (X':List Spt) (i:Nat):Prop:=(X'=X∧X[i]?=some x)∨(x ∉ X∧X'=X++[x]∧i=X.length)
structure Four (x:Spt):Prop where
 len:x.2.length=4
 lt:∀ j v:Nat,x.2[j]?=some v→v<20
theorem SOk4.four {lim:Nat→Nat} {n:Nat} {x:Spt} (h:SOk4 lim n x):Four x:=⟨h.len,fun j v hv=>(h.lt j v hv).1⟩
theorem sptV_inj {x y:Spt} (hx:Four x) (hy:Four y) (h:sptV x=sptV y):x=y:=by
 obtain ⟨b,l⟩:=x
 obtain ⟨b',l'⟩:=y
 obtain ⟨p,q,r,s,e1⟩:=Go.Proofs.YtodagkkjfipbgaaGreatDoor.four hx.len
 obtain ⟨p',q',r',s',e2⟩:=Go.Proofs.YtodagkkjfipbgaaGreatDoor.four hy.len
 simp only at e1 e2
 subst e1;subst e2
 obtain ⟨rfl,rfl,rfl,rfl,rfl⟩:=spt4_inj h
 rfl
theorem Tryz.zeroI (w:World):(zeroValue 3).run Tryz.prog w=.ok (.int .i64 0) w:=by kernel_rfl
theorem spot_one (x:Spt):∀ u ∈ spotCell x,u.oneCell'=true:=spotCell_one x.1 x.2
theorem few4' {X:List Spt} (hn:X.Nodup) (h:∀ x ∈ X,Four x):X.length≤320000:=few4 (lim:=fun _=>20) (n:=4) hn fun x hx=>⟨(h x hx).len,fun j v hv=>⟨(h x hx).lt j v hv,fun _=>(h x hx).lt j v hv⟩⟩
theorem lit_wf2 {a:Nat} (h:a≤1000000):(Lit.int .i64 (a:Int)).wf=true:=by
 have e:IntKind.i64.min=-9223372036854775808:=by decide
 simp [Lit.wf,e]
 omega
theorem keyOf_pastS {x:Spt} (h:Four x):∃ l,keyOf Tryz.prog 243 (sptV x)=some l:=by
 obtain ⟨b,l⟩:=x
 obtain ⟨p,q,r,s,e1⟩:=Go.Proofs.YtodagkkjfipbgaaGreatDoor.four h.len
 simp only at e1
 subst e1
 have h0:=h.lt 0 p rfl;have h1:=h.lt 1 q rfl;have h2:=h.lt 2 r rfl;have h3:=h.lt 3 s rfl
 exact keyOf_past (b:=b) (by omega) (by omega) (by omega) (by omega)
theorem Tryz.infoP:(Tryz.prog.info? 243).map (fun i=>(i.zero,i.size,i.bytes))=some (some (.agg #[.bool false,.int .i64 0,.int .i64 0,.int .i64 0,.int .i64 0]),5,40):=by kernel_rfl
theorem Tryz.undPs:Tryz.prog.underlying 235=some (.slice 243):=by kernel_rfl
theorem Tryz.undPm:Tryz.prog.underlying 236=some (.map 243 3):=by kernel_rfl
structure FMapP (w:World) (b:Nat) (X:List Spt) (D:DataW Unit):Prop where
 own:w.ownsMap Tryz.prog 243 (plainElem Tryz.prog 3) b (Maps.size D) D
 few:Maps.size D≤X.length
 mem:∀ x l,Four x→keyOf Tryz.prog 243 (sptV x)=some l→(Maps.has D l=true↔x ∈ X)∧∀ i:Nat,X[i]?=some x→D.atKey l (.lit (.int .i64 0))=.lit (.int .i64 i)
structure FInP (base:Nat) (w:World) (p:Nat) (X:List Spt) (ao:Option Addr) (cap:Nat) (mo:Option Nat):Prop where
 blk:w.heap[p]?=some (.cells #[.slice ao X.length cap,.map mo] 238 (0,0))
 row:w.ownsRow base 243 5 (.slice ao X.length cap) X.length (sptCells X)
 map:(mo=none∧X=[])∨∃ b D,mo=some b∧base≤b∧FMapP w b X D
 nodup:X.Nodup
 ok:∀ x ∈ X,Four x
theorem FMapP.kept {w w':World} {b:Nat} {X:List Spt} {D:DataW Unit} (h:FMapP w b X D) (hb:w'.heap[b]?=w.heap[b]?):FMapP w' b X D:=by
 refine ⟨?_,h.few,h.mem⟩
 obtain ⟨es,clock,h1,r⟩:=h.own
 exact ⟨es,clock,hb.trans h1,r⟩
theorem FMapP.snoc {w w':World} {b n:Nat} {X:List Spt} {D:DataW Unit} {x:Spt} {lx:Lit} (h:FMapP w b X D) (hx:Four x) (hn:x ∉ X) (hl:keyOf Tryz.prog 243 (sptV x)=some lx)
  (ho:w'.ownsMap Tryz.prog 243 (plainElem Tryz.prog 3) b n (D.put lx (.lit (.int .i64 (X.length:Nat))))):FMapP w' b (X++[x]) (D.put lx (.lit (.int .i64 (X.length:Nat)))):=by
 have hk:=pastKey.key hl
 refine ⟨own_tight ho,?_,fun y l hy hly=>?_⟩
 ·have hne:Maps.has D lx ≠ true:=fun e=>hn (((h.mem x lx hx hl).1).1 e)
  rw [size_put (h.own.tidy pastKey),if_neg hne,List.length_append]
  have:=h.few
  simp;omega
 ·by_cases e:y=x
  ·subst e
   rw [hl] at hly
   cases hly
   refine ⟨⟨fun _=>by simp,fun _=>has_put_same h.own.isMap hk _⟩,fun i hi=>?_⟩
   rw [atKey_put_same h.own.isMap hk]
   rcases snoc_at hi with ⟨h1,_⟩ | ⟨h1,_⟩
   ·exact absurd (List.mem_of_getElem? h1) hn
   ·rw [h1]
  ·have hne:l ≠ lx:=fun e'=>e (sptV_inj hy hx (pastKey.inj hly (e' ▸ hl)))
   have hm:=h.mem y l hy hly
   refine ⟨?_,fun i hi=>?_⟩
   ·rw [has_put_other hne,hm.1];simp [e]
   ·rw [atKey_put_other hne]
    rcases snoc_at hi with ⟨h1,_⟩ | ⟨_,h1⟩
    ·exact hm.2 i h1
    ·exact absurd h1 e
theorem fmapP_made (w:World):FMapP (w.alloc (.map #[] 0)) w.heap.size [] (.map []) :=
 ⟨own_tight (World.ownsMap_made w _ _ _),by simp [Maps.size],fun x l _ _=>⟨by simp [Maps.has],fun i hi=>by simp at hi⟩⟩
theorem FInP.lt {base p cap:Nat} {w:World} {X:List Spt} {ao:Option Addr} {mo:Option Nat} (h:FInP base w p X ao cap mo) {b:Nat} (e:mo=some b):b<w.heap.size∧base≤b∧∀ cs t m,w.heap[b]? ≠ some (.cells cs t m):=by
 rcases h.map with ⟨h1,_⟩ | ⟨b',D,h1,h2,h3⟩
 ·rw [h1] at e;cases e
 ·rw [h1] at e
  cases e
  refine ⟨h3.own.lt,h2,fun cs t m hh=>?_⟩
  obtain ⟨es,cl,h4,_⟩:=h3.own
  rw [h4] at hh;cases hh
def AtP (p:Nat) (n:Nat) (ao:Option Addr) (cap:Nat) (mo:Option Nat) (k:Nat):Prop:=k=p∨(Value.slice ao n cap).ownBlock=some k∨mo=some k
theorem FInP.kp {base p cap:Nat} {w w':World} {X:List Spt} {ao:Option Addr} {mo:Option Nat} {t:TypeId} (h:FInP base w p X ao cap mo) (hc:Chg (AtP p X.length ao cap mo) w w') (h1:t ≠ 238) (h2:t ≠ 243):Kp t w w':=fun k cs m hh=>by
 rw [hc.block k (heap_lt hh) ?_];exact hh
 rintro (e | e | e)
 ·subst e;rw [h.blk] at hh;cases hh;exact h1 rfl
 ·obtain ⟨cs',hk⟩:=row_type h.row k e;rw [hk] at hh;cases hh;exact h2 rfl
 ·exact (h.lt e).2.2 _ _ _ hh
theorem FInP.chg {base p cap:Nat} {w w':World} {X:List Spt} {ao:Option Addr} {mo:Option Nat} (h:FInP base w p X ao cap mo) (hc:∀ k,k<w.heap.size→AtP p X.length ao cap mo k→w'.heap[k]?=w.heap[k]?):FInP base w' p X ao cap mo:=by
 refine ⟨(hc p (heap_lt h.blk) (Or.inl rfl)).trans h.blk,?_,?_,h.nodup,h.ok⟩
 ·obtain ⟨h1,h2⟩:=h.row
  refine ⟨h1,?_⟩
  rcases h2 with h2 | ⟨g,c,cur,hv,hg,hh,r⟩
  ·exact Or.inl h2
  ·exact Or.inr ⟨g,c,cur,hv,hg,(hc g (heap_lt hh) (Or.inr (Or.inl (by rw [hv];rfl)))).trans hh,r⟩
 ·rcases h.map with h1 | ⟨b,D,h1,h2,h3⟩
  ·exact Or.inl h1
  ·exact Or.inr ⟨b,D,h1,h2,h3.kept (hc b h3.own.lt (Or.inr (Or.inr h1)))⟩
theorem FInP.below {base p cap:Nat} {w w':World} {X:List Spt} {ao:Option Addr} {mo:Option Nat} (h:FInP base w p X ao cap mo) (hb:Below w.heap.size w w'):FInP base w' p X ao cap mo:=h.chg fun k hk _=>hb.block k hk
def FindPPost (base p:Nat) (X:List Spt) (ao:Option Addr) (cap:Nat) (mo:Option Nat) (x:Spt) (w:World) (r:Ending) (w':World):Prop :=
 ∃ (i:Nat) (X':List Spt) (ao':Option Addr) (cap':Nat) (mo':Option Nat),r=.returned (.int .i64 i)∧FInP base w' p X' ao' cap' mo'∧FoundX X x X' i∧(mo'=mo∨∃ b,mo'=some b∧w.heap.size≤b)∧(∀ k,(Value.slice ao' X'.length cap').ownBlock=some k→(Value.slice ao X.length cap).ownBlock=some k∨w.heap.size≤k)∧Chg (AtP p X.length ao cap mo) w w'
theorem keyOf_knownS {x:Spt} (h:Four x):∃ l,keyOf Tryz.prog 249 (sptV x)=some l:=by
 obtain ⟨b,l⟩:=x
 obtain ⟨p,q,r,s,e1⟩:=Go.Proofs.YtodagkkjfipbgaaGreatDoor.four h.len
 simp only at e1
 subst e1
 have h0:=h.lt 0 p rfl;have h1:=h.lt 1 q rfl;have h2:=h.lt 2 r rfl;have h3:=h.lt 3 s rfl
 exact keyOf_known (b:=b) (by omega) (by omega) (by omega) (by omega)
theorem Tryz.infoK:(Tryz.prog.info? 249).map (fun i=>(i.zero,i.size,i.bytes))=some (some (.agg #[.bool false,.int .i64 0,.int .i64 0,.int .i64 0,.int .i64 0]),5,40):=by kernel_rfl
theorem Tryz.undKs:Tryz.prog.underlying 161=some (.slice 249):=by kernel_rfl
theorem Tryz.undKm:Tryz.prog.underlying 162=some (.map 249 3):=by kernel_rfl
structure FMapK (w:World) (b:Nat) (X:List Spt) (D:DataW Unit):Prop where
 own:w.ownsMap Tryz.prog 249 (plainElem Tryz.prog 3) b (Maps.size D) D
 few:Maps.size D≤X.length
 mem:∀ x l,Four x→keyOf Tryz.prog 249 (sptV x)=some l→(Maps.has D l=true↔x ∈ X)∧∀ i:Nat,X[i]?=some x→D.atKey l (.lit (.int .i64 0))=.lit (.int .i64 i)
structure FInK (base:Nat) (w:World) (p:Nat) (X:List Spt) (ao:Option Addr) (cap:Nat) (mo:Option Nat):Prop where
 blk:w.heap[p]?=some (.cells #[.slice ao X.length cap,.map mo] 164 (0,0))
 row:w.ownsRow base 249 5 (.slice ao X.length cap) X.length (sptCells X)
 map:(mo=none∧X=[])∨∃ b D,mo=some b∧base≤b∧FMapK w b X D
 nodup:X.Nodup
 ok:∀ x ∈ X,Four x
theorem FMapK.kept {w w':World} {b:Nat} {X:List Spt} {D:DataW Unit} (h:FMapK w b X D) (hb:w'.heap[b]?=w.heap[b]?):FMapK w' b X D:=by
 refine ⟨?_,h.few,h.mem⟩
 obtain ⟨es,clock,h1,r⟩:=h.own
 exact ⟨es,clock,hb.trans h1,r⟩
theorem FMapK.snoc {w w':World} {b n:Nat} {X:List Spt} {D:DataW Unit} {x:Spt} {lx:Lit} (h:FMapK w b X D) (hx:Four x) (hn:x ∉ X) (hl:keyOf Tryz.prog 249 (sptV x)=some lx)
  (ho:w'.ownsMap Tryz.prog 249 (plainElem Tryz.prog 3) b n (D.put lx (.lit (.int .i64 (X.length:Nat))))):FMapK w' b (X++[x]) (D.put lx (.lit (.int .i64 (X.length:Nat)))):=by
 have hk:=knownKey.key hl
 refine ⟨own_tight ho,?_,fun y l hy hly=>?_⟩
 ·have hne:Maps.has D lx ≠ true:=fun e=>hn (((h.mem x lx hx hl).1).1 e)
  rw [size_put (h.own.tidy knownKey),if_neg hne,List.length_append]
  have:=h.few
  simp;omega
 ·by_cases e:y=x
  ·subst e
   rw [hl] at hly
   cases hly
   refine ⟨⟨fun _=>by simp,fun _=>has_put_same h.own.isMap hk _⟩,fun i hi=>?_⟩
   rw [atKey_put_same h.own.isMap hk]
   rcases snoc_at hi with ⟨h1,_⟩ | ⟨h1,_⟩
   ·exact absurd (List.mem_of_getElem? h1) hn
   ·rw [h1]
  ·have hne:l ≠ lx:=fun e'=>e (sptV_inj hy hx (knownKey.inj hly (e' ▸ hl)))
   have hm:=h.mem y l hy hly
   refine ⟨?_,fun i hi=>?_⟩
   ·rw [has_put_other hne,hm.1];simp [e]
   ·rw [atKey_put_other hne]
    rcases snoc_at hi with ⟨h1,_⟩ | ⟨_,h1⟩
    ·exact hm.2 i h1
    ·exact absurd h1 e
theorem fmapK_made (w:World):FMapK (w.alloc (.map #[] 0)) w.heap.size [] (.map []) :=
 ⟨own_tight (World.ownsMap_made w _ _ _),by simp [Maps.size],fun x l _ _=>⟨by simp [Maps.has],fun i hi=>by simp at hi⟩⟩
theorem FInK.lt {base p cap:Nat} {w:World} {X:List Spt} {ao:Option Addr} {mo:Option Nat} (h:FInK base w p X ao cap mo) {b:Nat} (e:mo=some b):b<w.heap.size∧base≤b∧∀ cs t m,w.heap[b]? ≠ some (.cells cs t m):=by
 rcases h.map with ⟨h1,_⟩ | ⟨b',D,h1,h2,h3⟩
 ·rw [h1] at e;cases e
 ·rw [h1] at e
  cases e
  refine ⟨h3.own.lt,h2,fun cs t m hh=>?_⟩
  obtain ⟨es,cl,h4,_⟩:=h3.own
  rw [h4] at hh;cases hh
def AtK (p:Nat) (n:Nat) (ao:Option Addr) (cap:Nat) (mo:Option Nat) (k:Nat):Prop:=k=p∨(Value.slice ao n cap).ownBlock=some k∨mo=some k
theorem FInK.kp {base p cap:Nat} {w w':World} {X:List Spt} {ao:Option Addr} {mo:Option Nat} {t:TypeId} (h:FInK base w p X ao cap mo) (hc:Chg (AtK p X.length ao cap mo) w w') (h1:t ≠ 164) (h2:t ≠ 249):Kp t w w':=fun k cs m hh=>by
 rw [hc.block k (heap_lt hh) ?_];exact hh
 rintro (e | e | e)
 ·subst e;rw [h.blk] at hh;cases hh;exact h1 rfl
 ·obtain ⟨cs',hk⟩:=row_type h.row k e;rw [hk] at hh;cases hh;exact h2 rfl
 ·exact (h.lt e).2.2 _ _ _ hh
theorem FInK.chg {base p cap:Nat} {w w':World} {X:List Spt} {ao:Option Addr} {mo:Option Nat} (h:FInK base w p X ao cap mo) (hc:∀ k,k<w.heap.size→AtK p X.length ao cap mo k→w'.heap[k]?=w.heap[k]?):FInK base w' p X ao cap mo:=by
 refine ⟨(hc p (heap_lt h.blk) (Or.inl rfl)).trans h.blk,?_,?_,h.nodup,h.ok⟩
 ·obtain ⟨h1,h2⟩:=h.row
  refine ⟨h1,?_⟩
  rcases h2 with h2 | ⟨g,c,cur,hv,hg,hh,r⟩
  ·exact Or.inl h2
  ·exact Or.inr ⟨g,c,cur,hv,hg,(hc g (heap_lt hh) (Or.inr (Or.inl (by rw [hv];rfl)))).trans hh,r⟩
 ·rcases h.map with h1 | ⟨b,D,h1,h2,h3⟩
  ·exact Or.inl h1
  ·exact Or.inr ⟨b,D,h1,h2,h3.kept (hc b h3.own.lt (Or.inr (Or.inr h1)))⟩
theorem FInK.below {base p cap:Nat} {w w':World} {X:List Spt} {ao:Option Addr} {mo:Option Nat} (h:FInK base w p X ao cap mo) (hb:Below w.heap.size w w'):FInK base w' p X ao cap mo:=h.chg fun k hk _=>hb.block k hk
def FindKPost (base p:Nat) (X:List Spt) (ao:Option Addr) (cap:Nat) (mo:Option Nat) (x:Spt) (w:World) (r:Ending) (w':World):Prop :=
 ∃ (i:Nat) (X':List Spt) (ao':Option Addr) (cap':Nat) (mo':Option Nat),r=.returned (.int .i64 i)∧FInK base w' p X' ao' cap' mo'∧FoundX X x X' i∧(mo'=mo∨∃ b,mo'=some b∧w.heap.size≤b)∧(∀ k,(Value.slice ao' X'.length cap').ownBlock=some k→(Value.slice ao X.length cap).ownBlock=some k∨w.heap.size≤k)∧Chg (AtK p X.length ao cap mo) w w'
end Go.Proofs.YtodagkkjfipbgaaGreatDoor
