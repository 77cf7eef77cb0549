import Derived.Deep.RegionHeld3
import Derived.Test.YtodagkkjfipbgaaGreatDoorN2toA36
namespace Go.Proofs.YtodagkkjfipbgaaGreatDoor
open Go.RowKit Go.Maps
theorem firstF_step {J:AJ} {l:List Nat} {i:Nat} (hi:i<J.length):firstF J l (J.length - i) i=if tmatch (trAt J i) ((l[i]?).getD 0)=true then i else firstF J l (J.length - (i+1)) (i+1):=by
 rw [show J.length - i=(J.length - (i+1))+1 from by omega,firstF]
def sptV (x:Spt):Value:=.agg (spotCell x).toArray
theorem spt_at {x:Spt} {j v:Nat} (h:x.2[j]?=some v):(spotCell x)[1+j]?=some (.int .i64 (v:Nat)):=by
 unfold spotCell
 rw [Nat.add_comm,List.getElem?_cons_succ,List.getElem?_map,h]
 rfl
set_option maxRecDepth 100000 in
set_option maxHeartbeats 2000000 in
theorem first_any' (w:World) (v:Value) (J:AJ) (vs:List (Value × Value)) (x:Spt) (hA:AIn 0 w v J vs) (hJ:J.length≤4) (hx:KnownOk J x) :
  Calls Tryz.prog 185 #[v,sptV x] w fun r w'=>r=.returned (.int .i64 (firstA J x.2:Nat))∧Below w.heap.size w w':=by
 obtain ⟨b,l⟩:=x
 obtain ⟨p,q,r,s,e⟩:=four hx.len
 simp only at e
 subst e
 obtain ⟨ao,cap,rfl,hf⟩:=hA.form
 have HF:Hid (∀ i (hi:i<J.length),∃ g aL nL cL aR nR cR,ao=some ⟨g,0,none⟩∧g<w.heap.size∧TabIn 0 w (.slice aL nL cL) J[i].tl∧TabIn 0 w (.slice aR nR cR) J[i].tr ∧
  w.cell? ⟨g,i * 3,none⟩=some (.bool J[i].cut)∧w.cell? ⟨g,i * 3+1,none⟩=some (.slice aL nL cL)∧w.cell? ⟨g,i * 3+2,none⟩=some (.slice aR nR cR)):=hf
 have HA:Hid (AIn 0 w (.slice ao J.length cap) J vs):=hA
 have HX:Hid (KnownOk J (b,[p,q,r,s])):=hx
 clear hA hf hx
 have B0:Hid (Below w.heap.size w (w.alloc (.cells (spotCell (b,[p,q,r,s])).toArray 249))):=below_alloc w _
 have Q0:Hid ((w.alloc (.cells (spotCell (b,[p,q,r,s])).toArray 249)).heap[w.heap.size]?=some (.cells (spotCell (b,[p,q,r,s])).toArray 249 (0,0))):=heap_alloc_new w _
 show Calls _ _ #[_,.agg #[.bool b,.int .i64 p,.int .i64 q,.int .i64 r,.int .i64 s]] _ _
 go_enter Tryz.func185,Tryz.ntmps185
 go_wp2_with fail
 go_loopg [9] J.length (fun gh iv wx=>∃ i:Nat,i≤J.length∧gh=J.length - i∧iv=.int .i64 i∧Hid (wx.heap[w.heap.size]?=some (.cells (spotCell (b,[p,q,r,s])).toArray 249 (0,0)))∧Hid (firstF J [p,q,r,s] (J.length - i) i=firstA J [p,q,r,s])∧Hid (Below w.heap.size w wx))
 case atStart=>exact ⟨0,Nat.zero_le _,rfl,rfl,Q0,rfl,B0⟩
 case round =>
  obtain ⟨i,hi,rfl,rfl,hQ,hFi,hB⟩:=hrel
  obtain ⟨w1,hw1⟩:∃ w1,w1=wr:=⟨wr,rfl⟩
  subst hw1
  clear B0 Q0
  by_cases hlt:i<J.length
  ·obtain ⟨g,aL,nL,cL,aR,nR,cR,rfl,hg,hTL,hTR,c0,c1,c2⟩:=HF.out i hlt
   have d0:=(hB.out.cell (p:=⟨g,i * 3,none⟩) hg).trans c0
   have d1:=(hB.out.cell (p:=⟨g,i * 3+1,none⟩) hg).trans c1
   have d2:=(hB.out.cell (p:=⟨g,i * 3+2,none⟩) hg).trans c2
   obtain ⟨u,hu,_,hul⟩:=HX.out.at_ (j:=i) (by omega)
   have hul':=hul hlt
   unfold limR at hul'
   rw [trAt_eq hlt] at hul'
   have e1:=cell_of_block hQ.out (1+i) _ ((List.getElem?_toArray ..).trans (spt_at (x:=(b,[p,q,r,s])) hu))
   have T1:Hid (TabIn 0 w1 (.slice aR nR cR) J[i].tr):=row_kp hTR (Kp.below hB.out)
   have G1:Hid (TabGood J[i].tr):=(HA.out.ok _ (List.getElem_mem hlt)).r
   obtain ⟨m,hm⟩:∃ m,m=tmatch J[i].tr u:=⟨_,rfl⟩
   have E1:Hid (firstA J [p,q,r,s]=if m=true then i else firstF J [p,q,r,s] (J.length - (i+1)) (i+1)):=by
    show _=_
    rw [← hFi.out,firstF_step hlt,trAt_eq hlt,hu,hm]
    rfl
   clear hTL hTR c0 c1 c2
   generalize J[i]=L at *
   have hi4:(i:Int)<4:=by omega
   have f0:((w1.alloc (.cells #[.bool L.cut,.slice aL nL cL,.slice aR nR cR] 234)).cell? ⟨w.heap.size,1+i,none⟩=some (.int .i64 (u:Nat))):=((below_alloc w1 _).cell (p:=⟨w.heap.size,1+i,none⟩) (cellLt e1)).trans e1
   have HM:Hid (∀ W,Below w1.heap.size w1 W→Calls Tryz.prog 182 #[.slice aR nR cR,.int .i64 (u:Nat)] W fun r w'=>r=.returned (.bool m)∧w'=W):=fun W hW=>by rw [hm];exact match_any W _ L.tr u (row_kp T1.out (Kp.below hW)) G1.out hul'
   have BB:Hid (Below w.heap.size w (w1.alloc (.cells #[.bool L.cut,.slice aL nL cL,.slice aR nR cR] 234))):=hB.out.alloc hB.out.size _
   have QQ:Hid ((w1.alloc (.cells #[.bool L.cut,.slice aL nL cL,.slice aR nR cR] 234)).heap[w.heap.size]?=some (.cells (spotCell (b,[p,q,r,s])).toArray 249 (0,0))):=by show _=_;rw [Below.heap_alloc _ _ _ (heap_lt hQ.out)];exact hQ.out
   clear hm
   go_wp2_with fail
   go_region_law (first
    | (refine step_fn2 rfl 182 (.tmp 16) (.tmp 20) _ rfl (enters_of Tryz.func182 (by kernel_rfl) rfl) (.slice aR nR cR) (.int .i64 (u:Nat)) (by simp [Act.eval]) (by simp [Act.eval]) _ (HM.out _ ((below_alloc w1 _).drew)) ?_
       rintro e W1 ⟨rfl,rfl⟩
       refine ⟨_,rfl,?_⟩))
   all_goals cases m
   all_goals go_wp2_with fail
   all_goals first
    | (go_roundg (J.length - (i+1))
       case measure=>omega
       case rel=>exact ⟨i+1,by omega,rfl,by go_num,QQ,by show _=_;rw [E1.out,if_neg (by decide)],BB.out.drew⟩)
    | (go_ret
       exact ⟨by show Ending.returned (.int .i64 (i:Nat))=_;rw [E1.out];simp,BB.out.drew⟩)
  ·have e:Hid (firstA J [p,q,r,s]=J.length):=by
    show _=_
    rw [← hFi.out,show J.length - i=0 from by omega,firstF]
    omega
   go_wp2_with fail
   go_ret
   exact ⟨by show Ending.returned (.int .i64 (J.length:Nat))=_;rw [e.out],hB.out⟩
theorem set5 {w:World} {q:Nat} {c0 c1 c2 c3 c4 d0 d1 d2 d3 d4:Value} {t:TypeId} (h:w.heap[q]?=some (.cells #[c0,c1,c2,c3,c4] t (0,0))) :
  (((((w.setCell ⟨q,0,none⟩ d0).setCell ⟨q,1,none⟩ d1).setCell ⟨q,2,none⟩ d2).setCell ⟨q,3,none⟩ d3).setCell ⟨q,4,none⟩ d4).heap[q]?=some (.cells #[d0,d1,d2,d3,d4] t (0,0)) :=
 (block_setCell ((block_setCell ((block_setCell ((block_setCell ((block_setCell h 0 _).trans rfl) 1 _).trans rfl) 2 _).trans rfl) 3 _).trans rfl) 4 _).trans rfl
theorem below_set5 {base:Nat} {w w':World} {q:Nat} {d0 d1 d2 d3 d4:Value} (h:Below base w w') (hq:base≤q) :
  Below base w (((((w'.setCell ⟨q,0,none⟩ d0).setCell ⟨q,1,none⟩ d1).setCell ⟨q,2,none⟩ d2).setCell ⟨q,3,none⟩ d3).setCell ⟨q,4,none⟩ d4) :=
 ((((h.setCell hq _).setCell hq _).setCell hq _).setCell hq _).setCell hq _
theorem spt_cells {w:World} {g:Nat} {b:Bool} {l:List Nat} {t:TypeId} (h:w.heap[g]?=some (.cells (spotCell (b,l)).toArray t (0,0))) (hl:l.length=4):∃ p q r s,l=[p,q,r,s]∧w.cell? ⟨g,0,none⟩=some (.bool b)∧w.cell? ⟨g,1,none⟩=some (.int .i64 (p:Nat))∧w.cell? ⟨g,2,none⟩=some (.int .i64 (q:Nat))∧w.cell? ⟨g,3,none⟩=some (.int .i64 (r:Nat))∧w.cell? ⟨g,4,none⟩=some (.int .i64 (s:Nat)):=by
 obtain ⟨p,q,r,s,rfl⟩:=four hl
 exact ⟨p,q,r,s,rfl,cell_of_block h 0 _ rfl,cell_of_block h 1 _ rfl,cell_of_block h 2 _ rfl,cell_of_block h 3 _ rfl,cell_of_block h 4 _ rfl⟩
theorem trimL_start (f:Nat) (l:List Nat):trimL f (f+1) l=l:=by
 apply List.ext_getElem?
 intro i
 unfold trimL
 rw [mapTo_at]
 cases l[i]? with
 | none=>rfl
 | some x =>
  simp only [Option.map_some,Option.some.injEq]
  split
  ·rw [if_neg (by omega)]
  ·rfl
theorem trimL_step {f i:Nat} {l:List Nat} (hi:i<l.length) (h:f<i):trimL f (i+1) l=(trimL f i l).set i 1:=by
 unfold trimL
 rw [mapTo_succ (List.getElem?_eq_getElem hi),if_pos h]
theorem trimL_len (f i:Nat) (l:List Nat):(trimL f i l).length=l.length:=mapTo_len _ _ _
theorem trimL_end {f i n:Nat} (l:List Nat) (h:n≤i) (h2:i=n∨i=f+1):trimL f i l=trimL f n l:=by
 apply List.ext_getElem?
 intro j
 unfold trimL
 rw [mapTo_at,mapTo_at]
 cases l[j]? with
 | none=>rfl
 | some x =>
  simp only [Option.map_some,Option.some.injEq]
  by_cases h1:j<n
  ·rw [if_pos h1,if_pos (by omega)]
  ·rw [if_neg h1]
   split
   ·rw [if_neg (by omega)]
   ·rfl
theorem setCell_type {w:World} {g o:Nat} {u:Value} {q:Nat} (hne:q ≠ g):(w.setCell ⟨g,o,none⟩ u).heap[q]?=w.heap[q]?:=Below.heap_setCell _ _ _ _ hne
set_option maxRecDepth 100000 in
set_option maxHeartbeats 2000000 in
theorem trim_any (w:World) (v:Value) (J:AJ) (vs:List (Value × Value)) (x:Spt) (hA:AIn 0 w v J vs) (hJ:J.length≤4) (hx:KnownOk J x) :
  Calls Tryz.prog 183 #[v,sptV x] w fun r w'=>r=.returned (sptV (trimA J x))∧Below w.heap.size w w':=by
 obtain ⟨b,l⟩:=x
 obtain ⟨p,q,r,s,e⟩:=four hx.len
 simp only at e
 subst e
 obtain ⟨ao,cap,rfl,_⟩:=hA.form
 have HA:Hid (AIn 0 w (.slice ao J.length cap) J vs):=hA
 have HX:Hid (KnownOk J (b,[p,q,r,s])):=hx
 clear hA hx
 obtain ⟨f,hf⟩:∃ f,f=firstA J [p,q,r,s]:=⟨_,rfl⟩
 have HFF:Hid (f=firstA J [p,q,r,s]):=hf
 have hfl:f≤J.length:=by rw [hf];exact firstA_le J _
 obtain ⟨W0,hW0⟩:∃ W0,W0=(w.alloc (.cells #[.bool b,.int .i64 (p:Nat),.int .i64 (q:Nat),.int .i64 (r:Nat),.int .i64 (s:Nat)] 249)).alloc (.cells #[.bool false,.int .i64 0,.int .i64 0,.int .i64 0,.int .i64 0] 249):=⟨_,rfl⟩
 have HW0:Hid (W0=(w.alloc (.cells #[.bool b,.int .i64 (p:Nat),.int .i64 (q:Nat),.int .i64 (r:Nat),.int .i64 (s:Nat)] 249)).alloc (.cells #[.bool false,.int .i64 0,.int .i64 0,.int .i64 0,.int .i64 0] 249)):=hW0
 have b0:Below w.heap.size w W0:=by rw [hW0];exact (below_alloc w _).alloc (by simp) _
 have hz:W0.heap.size=w.heap.size+2:=by rw [hW0];simp
 have p0:W0.heap[w.heap.size]?=some (.cells (spotCell (b,[p,q,r,s])).toArray 249 (0,0)):=by rw [hW0,Below.heap_alloc _ _ _ (by simp)];exact heap_alloc_new w _
 have p1:W0.heap[w.heap.size+1]?=some (.cells #[.bool false,.int .i64 0,.int .i64 0,.int .i64 0,.int .i64 0] 249 (0,0)):=by rw [hW0];exact (show ((w.alloc (.cells #[.bool b,.int .i64 (p:Nat),.int .i64 (q:Nat),.int .i64 (r:Nat),.int .i64 (s:Nat)] 249)).heap.size)=w.heap.size+1 by simp) ▸ heap_alloc_new (w.alloc _) _
 have B0:Hid (Below w.heap.size w W0):=b0
 have P0:Hid (W0.heap[w.heap.size]?=some (.cells (spotCell (b,[p,q,r,s])).toArray 249 (0,0))):=p0
 have P1:Hid (W0.heap[w.heap.size+1]?=some (.cells #[.bool false,.int .i64 0,.int .i64 0,.int .i64 0,.int .i64 0] 249 (0,0))):=p1
 have m0:=cell_of_block p0 0 _ rfl
 have m1:=cell_of_block p0 1 _ rfl
 have m2:=cell_of_block p0 2 _ rfl
 have m3:=cell_of_block p0 3 _ rfl
 have m4:=cell_of_block p0 4 _ rfl
 clear hW0 p0 p1 b0
 show Calls _ _ #[_,.agg #[.bool b,.int .i64 (p:Nat),.int .i64 (q:Nat),.int .i64 (r:Nat),.int .i64 (s:Nat)]] _ _
 go_enter Tryz.func183,Tryz.ntmps183
 go_wp2_with fail
 rw [← HW0.out]
 go_wp2_with fail
 refine (first_any' W0 _ J vs (b,[p,q,r,s]) (HA.out.below B0.out) hJ HX.out).mono ?_
 rw [show firstA J (b,[p,q,r,s]).2=f from hf.symm]
 rintro rr w1 ⟨rfl,hb1⟩
 have B1:Hid (Below w.heap.size w w1):=B0.out.trans (hb1.mono B0.out.size)
 have Q0:Hid (w1.heap[w.heap.size]?=some (.cells (spotCell (b,[p,q,r,s])).toArray 249 (0,0))):=by show _=_;rw [hb1.block _ (by omega)];exact P0.out
 have Q1:Hid (w1.heap[w.heap.size+1]?=some (.cells #[.bool false,.int .i64 0,.int .i64 0,.int .i64 0,.int .i64 0] 249 (0,0))):=by show _=_;rw [hb1.block _ (by omega)];exact P1.out
 clear hb1 m0 m1 m2 m3 m4 hf
 go_wp2_with fail
 go_loopg [5] (5 - (f+1)) (fun gh iv wx=>∃ i:Nat,f+1≤i∧(i≤J.length∨i=f+1)∧gh=5 - i∧iv=.int .i64 i∧Hid (wx.heap[w.heap.size]?=some (.cells (spotCell (b,trimL f i [p,q,r,s])).toArray 249 (0,0)))∧Hid (wx.heap[w.heap.size+1]?=some (.cells #[.bool false,.int .i64 0,.int .i64 0,.int .i64 0,.int .i64 0] 249 (0,0)))∧Hid (Below w.heap.size w wx))
 case atStart=>exact ⟨f+1,Nat.le_refl _,Or.inr rfl,rfl,by go_num,by rw [trimL_start];exact Q0,Q1,B1⟩
 case round =>
  obtain ⟨i,hi0,hi,rfl,rfl,hQ,hR,hB⟩:=hrel
  obtain ⟨w2,hw2⟩:∃ w2,w2=wr:=⟨wr,rfl⟩
  subst hw2
  clear Q0 Q1 B1
  have hll:(trimL f i [p,q,r,s]).length=4:=trimL_len _ _ _
  by_cases hlt:i<J.length
  ·have hi4:(i:Int)<4:=by omega
   obtain ⟨u,hu⟩:∃ u,(trimL f i [p,q,r,s])[i]?=some u:=⟨(trimL f i [p,q,r,s])[i]'(by omega),List.getElem?_eq_getElem _⟩
   have e1:=cell_of_block hQ.out (1+i) _ ((List.getElem?_toArray ..).trans (spt_at (x:=(b,trimL f i [p,q,r,s])) hu))
   have f1:=free_of_block hQ.out (1+i)
   go_wp2_with fail
   go_roundg (5 - (i+1))
   case measure=>omega
   case rel =>
    refine ⟨i+1,by omega,Or.inl (by omega),rfl,by go_num,?_,?_,hB.out.setCell (Nat.le_refl _) _⟩
    ·show _=_
     rw [block_setCell hQ.out,show (1:Int)=((1:Nat):Int) from rfl,spotCell_set,trimL_step (by simp;omega) (by omega)]
    ·show _=_
     rw [setCell_type (by omega)];exact hR.out
  ·have he:=trimL_end (f:=f) (i:=i) (n:=J.length) [p,q,r,s] (by omega) (by omega)
   have HE:Hid ((trimA J (b,[p,q,r,s]))=(b,trimL f i [p,q,r,s])):=by show _=_;unfold trimA;rw [he];simp only;rw [HFF.out]
   obtain ⟨p',q',r',s',el,c0,c1,c2,c3,c4⟩:=spt_cells hQ.out hll
   have HL:Hid (trimL f i [p,q,r,s]=[p',q',r',s']):=el
   have d0:=cell_of_block hR.out 0 _ rfl
   have d1:=cell_of_block hR.out 1 _ rfl
   have d2:=cell_of_block hR.out 2 _ rfl
   have d3:=cell_of_block hR.out 3 _ rfl
   have d4:=cell_of_block hR.out 4 _ rfl
   have df:=free_of_block hR.out
   clear el he hll
   go_wp2_with fail
   refine bodyPost_ret (results_cell_row rfl _ _ (w.heap.size+1) 249 #[.bool b,.int .i64 (p':Nat),.int .i64 (q':Nat),.int .i64 (r':Nat),.int .i64 (s':Nat)] (0,0) _ rfl (set5 hR.out) Tryz.underlying249 rfl (by kernel_rfl)) rfl ?_
   refine ⟨?_,below_set5 hB.out (by omega)⟩
   rw [HE.out,HL.out]
   rfl
theorem nextL_ok {J:AJ} (hJ:∀ r ∈ J,ARuleOk r) {x:Spt} (h:KnownOk J x) (k:Nat) (b:Bool):KnownOk J (b,mapTo J.length (fun j v=>tnext (trAt J j) v k) x.2):=by
 refine ⟨(mapTo_len _ _ _).trans h.len,fun j v hv=>?_⟩
 simp only at hv
 rw [mapTo_at] at hv
 cases hx:x.2[j]? with
 | none=>rw [hx] at hv;simp at hv
 | some u =>
  rw [hx] at hv
  have h1:=h.lt j u hx
  simp only [Option.map_some,Option.some.injEq] at hv
  by_cases hj:j<J.length
  ·rw [if_pos hj] at hv
   have hg:=(hJ _ (List.getElem_mem hj)).r
   have h2:=h1.2 hj
   unfold limR at h2
   rw [trAt_eq hj] at h2 hv
   have:=tnext_lt hg (k:=k) h2
   unfold limR
   rw [trAt_eq hj]
   have:=hg.few
   exact ⟨by omega,fun _=>by omega⟩
  ·rw [if_neg hj] at hv;subst hv;exact ⟨h1.1,fun e=>absurd e hj⟩
set_option maxRecDepth 100000 in
set_option maxHeartbeats 2000000 in
theorem later_any (w:World) (v:Value) (J:AJ) (vs:List (Value × Value)) (x:Spt) (k:Nat) (hA:AIn 0 w v J vs) (hJ:J.length≤4) (hx:PastOk J x) (hk:k<8) :
  Calls Tryz.prog 142 #[v,sptV x,.int .u8 k] w fun r w'=>r=.returned (sptV (laterA J x k))∧Below w.heap.size w w':=by
 obtain ⟨b,l⟩:=x
 obtain ⟨p,q,r,s,e⟩:=four hx.len
 simp only at e
 subst e
 obtain ⟨ao,cap,rfl,hf⟩:=hA.form
 have HF:Hid (∀ i (hi:i<J.length),∃ g aL nL cL aR nR cR,ao=some ⟨g,0,none⟩∧g<w.heap.size∧TabIn 0 w (.slice aL nL cL) J[i].tl∧TabIn 0 w (.slice aR nR cR) J[i].tr ∧
  w.cell? ⟨g,i * 3,none⟩=some (.bool J[i].cut)∧w.cell? ⟨g,i * 3+1,none⟩=some (.slice aL nL cL)∧w.cell? ⟨g,i * 3+2,none⟩=some (.slice aR nR cR)):=hf
 have HA:Hid (AIn 0 w (.slice ao J.length cap) J vs):=hA
 have HX:Hid (PastOk J (b,[p,q,r,s])):=hx
 clear hA hx hf
 obtain ⟨W0,hW0⟩:∃ W0,W0=(w.alloc (.cells #[.bool true,.int .i64 (p:Nat),.int .i64 (q:Nat),.int .i64 (r:Nat),.int .i64 (s:Nat)] 243)).alloc (.cells #[.bool false,.int .i64 0,.int .i64 0,.int .i64 0,.int .i64 0] 243):=⟨_,rfl⟩
 have HW0:Hid (W0=(w.alloc (.cells #[.bool true,.int .i64 (p:Nat),.int .i64 (q:Nat),.int .i64 (r:Nat),.int .i64 (s:Nat)] 243)).alloc (.cells #[.bool false,.int .i64 0,.int .i64 0,.int .i64 0,.int .i64 0] 243)):=hW0
 have b0:Below w.heap.size w W0:=by rw [hW0];exact (below_alloc w _).alloc (by simp) _
 have hz:W0.heap.size=w.heap.size+2:=by rw [hW0];simp
 have p0:W0.heap[w.heap.size]?=some (.cells (spotCell (true,[p,q,r,s])).toArray 243 (0,0)):=by
  rw [hW0]
  exact (Below.heap_alloc _ _ _ (by simp)).trans (heap_alloc_new w _)
 have p1:W0.heap[w.heap.size+1]?=some (.cells #[.bool false,.int .i64 0,.int .i64 0,.int .i64 0,.int .i64 0] 243 (0,0)):=by
  rw [hW0]
  exact (show ((w.alloc (.cells #[.bool true,.int .i64 (p:Nat),.int .i64 (q:Nat),.int .i64 (r:Nat),.int .i64 (s:Nat)] 243)).heap.size)=w.heap.size+1 by simp) ▸ heap_alloc_new (w.alloc _) _
 have B0:Hid (Below w.heap.size w W0):=b0
 have P0:Hid (W0.heap[w.heap.size]?=some (.cells (spotCell (true,[p,q,r,s])).toArray 243 (0,0))):=p0
 have P1:Hid (W0.heap[w.heap.size+1]?=some (.cells #[.bool false,.int .i64 0,.int .i64 0,.int .i64 0,.int .i64 0] 243 (0,0))):=p1
 clear hW0 p0 p1 b0
 show Calls _ _ #[_,.agg #[.bool b,.int .i64 (p:Nat),.int .i64 (q:Nat),.int .i64 (r:Nat),.int .i64 (s:Nat)],_] _ _
 go_enter Tryz.func142,Tryz.ntmps142
 go_wp2_with fail
 rw [← HW0.out]
 go_loopg [12] J.length (fun gh iv wx=>∃ i:Nat,i≤J.length∧gh=J.length - i∧iv=.int .i64 i∧Hid (wx.heap[w.heap.size]?=some (.cells (spotCell (true,mapTo i (fun j v=>tnext (tlAt J j) v k) [p,q,r,s])).toArray 243 (0,0)))∧Hid (wx.heap[w.heap.size+1]?=some (.cells #[.bool false,.int .i64 0,.int .i64 0,.int .i64 0,.int .i64 0] 243 (0,0)))∧Hid (Below w.heap.size w wx))
 case atStart=>exact ⟨0,Nat.zero_le _,rfl,rfl,by rw [mapTo_zero];exact P0,P1,B0⟩
 case round =>
  obtain ⟨i,hi,rfl,rfl,hQ,hR,hB⟩:=hrel
  obtain ⟨w1,hw1⟩:∃ w1,w1=wr:=⟨wr,rfl⟩
  subst hw1
  clear P0 P1 B0
  have hll:(mapTo i (fun j v=>tnext (tlAt J j) v k) [p,q,r,s]).length=4:=mapTo_len _ _ _
  by_cases hlt:i<J.length
  ·obtain ⟨g,aL,nL,cL,aR,nR,cR,rfl,hg,hTL,hTR,c0,c1,c2⟩:=HF.out i hlt
   have d0:=(hB.out.cell (p:=⟨g,i * 3,none⟩) hg).trans c0
   have d1:=(hB.out.cell (p:=⟨g,i * 3+1,none⟩) hg).trans c1
   have d2:=(hB.out.cell (p:=⟨g,i * 3+2,none⟩) hg).trans c2
   obtain ⟨u,hu,_,hul⟩:=HX.out.at_ (j:=i) (by omega)
   have hul':=hul hlt
   unfold limL at hul'
   rw [tlAt_eq hlt] at hul'
   have HS:Hid (mapTo (i+1) (fun j v=>tnext (tlAt J j) v k) [p,q,r,s]=(mapTo i (fun j v=>tnext (tlAt J j) v k) [p,q,r,s]).set i (tnext J[i].tl u k)):=by show _=_;rw [mapTo_succ hu,tlAt_eq hlt]
   have hu':=(mapTo_same (n:=i) (fun j v=>tnext (tlAt J j) v k) (l:=[p,q,r,s]) (Nat.le_refl i)).trans hu
   have e1:=cell_of_block hQ.out (1+i) _ ((List.getElem?_toArray ..).trans (spt_at (x:=(true,mapTo i (fun j v=>tnext (tlAt J j) v k) [p,q,r,s])) hu'))
   have T1:Hid (TabIn 0 w1 (.slice aL nL cL) J[i].tl):=row_kp hTL (Kp.below hB.out)
   have G1:Hid (TabGood J[i].tl):=(HA.out.ok _ (List.getElem_mem hlt)).l
   clear hTL hTR c0 c1 c2 hu hu'
   generalize J[i]=L at *
   have hi4:(i:Int)<4:=by omega
   have f0:((w1.alloc (.cells #[.bool L.cut,.slice aL nL cL,.slice aR nR cR] 234)).cell? ⟨w.heap.size,1+i,none⟩=some (.int .i64 (u:Nat))):=((below_alloc w1 _).cell (p:=⟨w.heap.size,1+i,none⟩) (cellLt e1)).trans e1
   have HM:Hid (∀ W,Below w1.heap.size w1 W→Calls Tryz.prog 184 #[.slice aL nL cL,.int .i64 (u:Nat),.int .u8 k] W fun r w'=>r=.returned (.int .i64 (tnext L.tl u k:Nat))∧w'=W):=fun W hW=>tnext_any W _ L.tl u k (row_kp T1.out (Kp.below hW)) G1.out hul' hk
   have BB:Hid (Below w.heap.size w (w1.alloc (.cells #[.bool L.cut,.slice aL nL cL,.slice aR nR cR] 234))):=hB.out.alloc hB.out.size _
   have QQ:Hid ((w1.alloc (.cells #[.bool L.cut,.slice aL nL cL,.slice aR nR cR] 234)).heap[w.heap.size]?=some (.cells (spotCell (true,mapTo i (fun j v=>tnext (tlAt J j) v k) [p,q,r,s])).toArray 243 (0,0))):=by show _=_;rw [Below.heap_alloc _ _ _ (heap_lt hQ.out)];exact hQ.out
   have RR:Hid ((w1.alloc (.cells #[.bool L.cut,.slice aL nL cL,.slice aR nR cR] 234)).heap[w.heap.size+1]?=some (.cells #[.bool false,.int .i64 0,.int .i64 0,.int .i64 0,.int .i64 0] 243 (0,0))):=by show _=_;rw [Below.heap_alloc _ _ _ (heap_lt hR.out)];exact hR.out
   have fr:=free_of_block QQ.out (1+i)
   go_wp2_with fail
   go_region_law (first
    | (refine step_fn3 rfl 184 (.tmp 20) (.tmp 24) (.tmp 25) _ rfl (enters_of Tryz.func184 (by kernel_rfl) rfl) (.slice aL nL cL) (.int .i64 (u:Nat)) (.int .u8 (k:Nat)) (by simp [Act.eval]) (by simp [Act.eval]) (by simp [Act.eval]) _ (HM.out _ ((below_alloc w1 _).drew)) ?_
       rintro e W1 ⟨rfl,rfl⟩
       refine ⟨_,rfl,?_⟩))
   all_goals go_wp2_with fail
   all_goals go_roundg (J.length - (i+1))
   all_goals first
    | (case measure=>omega)
    | skip
   all_goals refine ⟨i+1,by omega,rfl,by go_num,?_,?_,BB.out.drew.setCell (Nat.le_refl _) _⟩
   all_goals show _=_
   all_goals first
    | (rw [HS.out,← spotCell_set];exact block_setCell QQ.out _ _)
    | exact (setCell_type (by omega)).trans RR.out
  ·have HE:Hid (laterA J (b,[p,q,r,s]) k=(true,mapTo i (fun j v=>tnext (tlAt J j) v k) [p,q,r,s])):=by show _=_;rw [show i=J.length from by omega];rfl
   obtain ⟨p',q',r',s',el,c0,c1,c2,c3,c4⟩:=spt_cells hQ.out hll
   have HL:Hid (mapTo i (fun j v=>tnext (tlAt J j) v k) [p,q,r,s]=[p',q',r',s']):=el
   have d0:=cell_of_block hR.out 0 _ rfl
   have d1:=cell_of_block hR.out 1 _ rfl
   have d2:=cell_of_block hR.out 2 _ rfl
   have d3:=cell_of_block hR.out 3 _ rfl
   have d4:=cell_of_block hR.out 4 _ rfl
   have df:=free_of_block hR.out
   clear el hll
   go_wp2_with fail
   refine bodyPost_ret (results_cell_row rfl _ _ (w.heap.size+1) 243 #[.bool true,.int .i64 (p':Nat),.int .i64 (q':Nat),.int .i64 (r':Nat),.int .i64 (s':Nat)] (0,0) _ rfl (set5 hR.out) Tryz.underlying243 rfl (by kernel_rfl)) rfl ?_
   refine ⟨?_,below_set5 hB.out (by omega)⟩
   rw [HE.out,HL.out]
   rfl
set_option maxRecDepth 100000 in
set_option maxHeartbeats 2000000 in
theorem next_any (w:World) (v:Value) (J:AJ) (vs:List (Value × Value)) (x:Spt) (k:Nat) (hA:AIn 0 w v J vs) (hJ:J.length≤4) (hx:KnownOk J x) (hk:k<8) :
  Calls Tryz.prog 144 #[v,sptV x,.int .u8 k] w fun r w'=>r=.returned (sptV (nextA J x k))∧Below w.heap.size w w':=by
 obtain ⟨b,l⟩:=x
 obtain ⟨p,q,r,s,e⟩:=four hx.len
 simp only at e
 subst e
 obtain ⟨ao,cap,rfl,hf⟩:=hA.form
 have HF:Hid (∀ i (hi:i<J.length),∃ g aL nL cL aR nR cR,ao=some ⟨g,0,none⟩∧g<w.heap.size∧TabIn 0 w (.slice aL nL cL) J[i].tl∧TabIn 0 w (.slice aR nR cR) J[i].tr ∧
  w.cell? ⟨g,i * 3,none⟩=some (.bool J[i].cut)∧w.cell? ⟨g,i * 3+1,none⟩=some (.slice aL nL cL)∧w.cell? ⟨g,i * 3+2,none⟩=some (.slice aR nR cR)):=hf
 have HA:Hid (AIn 0 w (.slice ao J.length cap) J vs):=hA
 have HX:Hid (KnownOk J (b,[p,q,r,s])):=hx
 clear hA hx hf
 obtain ⟨W0,hW0⟩:∃ W0,W0=(w.alloc (.cells #[.bool true,.int .i64 (p:Nat),.int .i64 (q:Nat),.int .i64 (r:Nat),.int .i64 (s:Nat)] 249)).alloc (.cells #[.bool false,.int .i64 0,.int .i64 0,.int .i64 0,.int .i64 0] 249):=⟨_,rfl⟩
 have HW0:Hid (W0=(w.alloc (.cells #[.bool true,.int .i64 (p:Nat),.int .i64 (q:Nat),.int .i64 (r:Nat),.int .i64 (s:Nat)] 249)).alloc (.cells #[.bool false,.int .i64 0,.int .i64 0,.int .i64 0,.int .i64 0] 249)):=hW0
 have b0:Below w.heap.size w W0:=by rw [hW0];exact (below_alloc w _).alloc (by simp) _
 have hz:W0.heap.size=w.heap.size+2:=by rw [hW0];simp
 have p0:W0.heap[w.heap.size]?=some (.cells (spotCell (true,[p,q,r,s])).toArray 249 (0,0)):=by
  rw [hW0]
  exact (Below.heap_alloc _ _ _ (by simp)).trans (heap_alloc_new w _)
 have p1:W0.heap[w.heap.size+1]?=some (.cells #[.bool false,.int .i64 0,.int .i64 0,.int .i64 0,.int .i64 0] 249 (0,0)):=by
  rw [hW0]
  exact (show ((w.alloc (.cells #[.bool true,.int .i64 (p:Nat),.int .i64 (q:Nat),.int .i64 (r:Nat),.int .i64 (s:Nat)] 249)).heap.size)=w.heap.size+1 by simp) ▸ heap_alloc_new (w.alloc _) _
 have B0:Hid (Below w.heap.size w W0):=b0
 have P0:Hid (W0.heap[w.heap.size]?=some (.cells (spotCell (true,[p,q,r,s])).toArray 249 (0,0))):=p0
 have P1:Hid (W0.heap[w.heap.size+1]?=some (.cells #[.bool false,.int .i64 0,.int .i64 0,.int .i64 0,.int .i64 0] 249 (0,0))):=p1
 clear hW0 p0 p1 b0
 show Calls _ _ #[_,.agg #[.bool b,.int .i64 (p:Nat),.int .i64 (q:Nat),.int .i64 (r:Nat),.int .i64 (s:Nat)],_] _ _
 go_enter Tryz.func144,Tryz.ntmps144
 go_wp2_with fail
 rw [← HW0.out]
 go_loopg [12] J.length (fun gh iv wx=>∃ i:Nat,i≤J.length∧gh=J.length - i∧iv=.int .i64 i∧Hid (wx.heap[w.heap.size]?=some (.cells (spotCell (true,mapTo i (fun j v=>tnext (trAt J j) v k) [p,q,r,s])).toArray 249 (0,0)))∧Hid (wx.heap[w.heap.size+1]?=some (.cells #[.bool false,.int .i64 0,.int .i64 0,.int .i64 0,.int .i64 0] 249 (0,0)))∧Hid (Below w.heap.size w wx))
 case atStart=>exact ⟨0,Nat.zero_le _,rfl,rfl,by rw [mapTo_zero];exact P0,P1,B0⟩
 case round =>
  obtain ⟨i,hi,rfl,rfl,hQ,hR,hB⟩:=hrel
  obtain ⟨w1,hw1⟩:∃ w1,w1=wr:=⟨wr,rfl⟩
  subst hw1
  clear P0 P1 B0
  have hll:(mapTo i (fun j v=>tnext (trAt J j) v k) [p,q,r,s]).length=4:=mapTo_len _ _ _
  by_cases hlt:i<J.length
  ·obtain ⟨g,aL,nL,cL,aR,nR,cR,rfl,hg,hTL,hTR,c0,c1,c2⟩:=HF.out i hlt
   have d0:=(hB.out.cell (p:=⟨g,i * 3,none⟩) hg).trans c0
   have d1:=(hB.out.cell (p:=⟨g,i * 3+1,none⟩) hg).trans c1
   have d2:=(hB.out.cell (p:=⟨g,i * 3+2,none⟩) hg).trans c2
   obtain ⟨u,hu,_,hul⟩:=HX.out.at_ (j:=i) (by omega)
   have hul':=hul hlt
   unfold limR at hul'
   rw [trAt_eq hlt] at hul'
   have HS:Hid (mapTo (i+1) (fun j v=>tnext (trAt J j) v k) [p,q,r,s]=(mapTo i (fun j v=>tnext (trAt J j) v k) [p,q,r,s]).set i (tnext J[i].tr u k)):=by show _=_;rw [mapTo_succ hu,trAt_eq hlt]
   have hu':=(mapTo_same (n:=i) (fun j v=>tnext (trAt J j) v k) (l:=[p,q,r,s]) (Nat.le_refl i)).trans hu
   have e1:=cell_of_block hQ.out (1+i) _ ((List.getElem?_toArray ..).trans (spt_at (x:=(true,mapTo i (fun j v=>tnext (trAt J j) v k) [p,q,r,s])) hu'))
   have T1:Hid (TabIn 0 w1 (.slice aR nR cR) J[i].tr):=row_kp hTR (Kp.below hB.out)
   have G1:Hid (TabGood J[i].tr):=(HA.out.ok _ (List.getElem_mem hlt)).r
   clear hTL hTR c0 c1 c2 hu hu'
   generalize J[i]=L at *
   have hi4:(i:Int)<4:=by omega
   have f0:((w1.alloc (.cells #[.bool L.cut,.slice aL nL cL,.slice aR nR cR] 234)).cell? ⟨w.heap.size,1+i,none⟩=some (.int .i64 (u:Nat))):=((below_alloc w1 _).cell (p:=⟨w.heap.size,1+i,none⟩) (cellLt e1)).trans e1
   have HM:Hid (∀ W,Below w1.heap.size w1 W→Calls Tryz.prog 184 #[.slice aR nR cR,.int .i64 (u:Nat),.int .u8 k] W fun r w'=>r=.returned (.int .i64 (tnext L.tr u k:Nat))∧w'=W):=fun W hW=>tnext_any W _ L.tr u k (row_kp T1.out (Kp.below hW)) G1.out hul' hk
   have BB:Hid (Below w.heap.size w (w1.alloc (.cells #[.bool L.cut,.slice aL nL cL,.slice aR nR cR] 234))):=hB.out.alloc hB.out.size _
   have QQ:Hid ((w1.alloc (.cells #[.bool L.cut,.slice aL nL cL,.slice aR nR cR] 234)).heap[w.heap.size]?=some (.cells (spotCell (true,mapTo i (fun j v=>tnext (trAt J j) v k) [p,q,r,s])).toArray 249 (0,0))):=by show _=_;rw [Below.heap_alloc _ _ _ (heap_lt hQ.out)];exact hQ.out
   have RR:Hid ((w1.alloc (.cells #[.bool L.cut,.slice aL nL cL,.slice aR nR cR] 234)).heap[w.heap.size+1]?=some (.cells #[.bool false,.int .i64 0,.int .i64 0,.int .i64 0,.int .i64 0] 249 (0,0))):=by show _=_;rw [Below.heap_alloc _ _ _ (heap_lt hR.out)];exact hR.out
   have fr:=free_of_block QQ.out (1+i)
   go_wp2_with fail
   go_region_law (first
    | (refine step_fn3 rfl 184 (.tmp 20) (.tmp 24) (.tmp 25) _ rfl (enters_of Tryz.func184 (by kernel_rfl) rfl) (.slice aR nR cR) (.int .i64 (u:Nat)) (.int .u8 (k:Nat)) (by simp [Act.eval]) (by simp [Act.eval]) (by simp [Act.eval]) _ (HM.out _ ((below_alloc w1 _).drew)) ?_
       rintro e W1 ⟨rfl,rfl⟩
       refine ⟨_,rfl,?_⟩))
   all_goals go_wp2_with fail
   all_goals go_roundg (J.length - (i+1))
   all_goals first
    | (case measure=>omega)
    | skip
   all_goals refine ⟨i+1,by omega,rfl,by go_num,?_,?_,BB.out.drew.setCell (Nat.le_refl _) _⟩
   all_goals show _=_
   all_goals first
    | (rw [HS.out,← spotCell_set];exact block_setCell QQ.out _ _)
    | exact (setCell_type (by omega)).trans RR.out
  ·have HE:Hid (nextA J (b,[p,q,r,s]) k=trimA J (true,mapTo i (fun j v=>tnext (trAt J j) v k) [p,q,r,s])):=by show _=_;rw [show i=J.length from by omega];rfl
   have HK:Hid (KnownOk J (true,mapTo i (fun j v=>tnext (trAt J j) v k) [p,q,r,s])):=by rw [show i=J.length from by omega];exact nextL_ok HA.out.ok HX.out k _
   obtain ⟨p',q',r',s',el,c0,c1,c2,c3,c4⟩:=spt_cells hQ.out hll
   rw [el] at HE HK
   clear el hll
   go_wp2_with fail
   refine (trim_any w1 _ J vs (true,[p',q',r',s']) (HA.out.below hB.out) hJ HK.out).mono ?_
   rintro rr w2 ⟨rfl,hb2⟩
   obtain ⟨y,hy⟩:∃ y,y=trimA J (true,[p',q',r',s']):=⟨_,rfl⟩
   have hl2:y.2.length=4:=by rw [hy];exact (trim_ok HA.out.ok HK.out).len
   rw [← hy]
   obtain ⟨b2,l2⟩:=y
   obtain ⟨p2,q2,r2,s2,e2⟩:=four hl2
   simp only at e2
   subst e2
   have HE2:Hid (nextA J (b,[p,q,r,s]) k=(b2,[p2,q2,r2,s2])):=HE.out.trans hy.symm
   have R2:Hid (w2.heap[w.heap.size+1]?=some (.cells #[.bool false,.int .i64 0,.int .i64 0,.int .i64 0,.int .i64 0] 249 (0,0))):=by show _=_;rw [hb2.block _ (heap_lt hR.out)];exact hR.out
   have B2:Hid (Below w.heap.size w w2):=hB.out.trans (hb2.mono hB.out.size)
   have d0:=cell_of_block R2.out 0 _ rfl
   have d1:=cell_of_block R2.out 1 _ rfl
   have d2:=cell_of_block R2.out 2 _ rfl
   have d3:=cell_of_block R2.out 3 _ rfl
   have d4:=cell_of_block R2.out 4 _ rfl
   have df:=free_of_block R2.out
   have ev:sptV (b2,[p2,q2,r2,s2])=.agg #[.bool b2,.int .i64 (p2:Nat),.int .i64 (q2:Nat),.int .i64 (r2:Nat),.int .i64 (s2:Nat)]:=rfl
   rw [ev]
   clear hy hb2 hl2
   go_wp2_with fail
   refine bodyPost_ret (results_cell_row rfl _ _ (w.heap.size+1) 249 #[.bool b2,.int .i64 (p2:Nat),.int .i64 (q2:Nat),.int .i64 (r2:Nat),.int .i64 (s2:Nat)] (0,0) _ rfl (set5 R2.out) Tryz.underlying249 rfl (by kernel_rfl)) rfl ?_
   exact ⟨by rw [HE2.out];rfl,below_set5 B2.out (by omega)⟩
end Go.Proofs.YtodagkkjfipbgaaGreatDoor
