import Derived.DeepKeys4
import Derived.Test.YtodagkkjfipbgaaGreatDoorN2toN5
namespace Go.Proofs.YtodagkkjfipbgaaGreatDoor
open Go.RowKit Go.Maps
theorem nextL_ok {J:AJ} (hJ:∀ r ∈ J,ARuleOk r) {x:Spt} (h:KnownOk J x) (k:Nat) (b:Bool):KnownOk J (b,mapTo J.length (fun j v=>tnext (trAt J j) v k) x.2):=by
 refine ⟨(mapTo_len _ _ _).trans h.len,fun j v hv=>?_⟩
 simp only at hv
 rw [mapTo_at] at hv
 cases hx:x.2[j]? with
 | none=>rw [hx] at hv;simp at hv
 | some u =>
  rw [hx] at hv
  have h1:=h.lt j u hx
  simp only [Option.map_some,Option.some.injEq] at hv
  by_cases hj:j<J.length
  ·rw [if_pos hj] at hv
   have hg:=(hJ _ (List.getElem_mem hj)).r
   have h2:=h1.2 hj
   unfold limR at h2
   rw [trAt_eq hj] at h2 hv
   have:=tnext_lt hg (k:=k) h2
   unfold limR
   rw [trAt_eq hj]
   have:=hg.few
   exact ⟨by omega,fun _=>by omega⟩
  ·rw [if_neg hj] at hv;subst hv;exact ⟨h1.1,fun e=>absurd e hj⟩
set_option maxRecDepth 100000 in
set_option maxHeartbeats 2000000 in
theorem later_any (w:World) (v:Value) (J:AJ) (vs:List (Value × Value)) (x:Spt) (k:Nat) (hA:AIn 0 w v J vs) (hJ:J.length<=4) (hx:PastOk J x) (hk:k<8) :
  Calls Tryz.prog 142 #[v,sptV x,.int .u8 k] w fun r w'=>r=.returned (sptV (laterA J x k))/\Below w.heap.size w w':=by
 obtain ⟨b,l⟩:=x
 obtain ⟨p,q,r,s,e⟩:=four hx.len
 simp only at e
 subst e
 obtain ⟨ao,cap,rfl,hf⟩:=hA.form
 have HF:Hid (∀ i (hi:i<J.length),∃ g aL nL cL aR nR cR,ao=some ⟨g,0,none⟩/\g<w.heap.size/\TabIn 0 w (.slice aL nL cL) J[i].tl/\TabIn 0 w (.slice aR nR cR) J[i].tr /\
  w.cell? ⟨g,i * 3,none⟩=some (.bool J[i].cut)/\w.cell? ⟨g,i * 3+1,none⟩=some (.slice aL nL cL)/\w.cell? ⟨g,i * 3+2,none⟩=some (.slice aR nR cR)):=hf
 have HA:Hid (AIn 0 w (.slice ao J.length cap) J vs):=hA
 have HX:Hid (PastOk J (b,[p,q,r,s])):=hx
 clear hA hx hf
 obtain ⟨W0,hW0⟩:∃ W0,W0=(w.alloc (.cells #[.bool true,.int .i64 (p:Nat),.int .i64 (q:Nat),.int .i64 (r:Nat),.int .i64 (s:Nat)] 243)).alloc (.cells #[.bool false,.int .i64 0,.int .i64 0,.int .i64 0,.int .i64 0] 243):=⟨_,rfl⟩
 have HW0:Hid (W0=(w.alloc (.cells #[.bool true,.int .i64 (p:Nat),.int .i64 (q:Nat),.int .i64 (r:Nat),.int .i64 (s:Nat)] 243)).alloc (.cells #[.bool false,.int .i64 0,.int .i64 0,.int .i64 0,.int .i64 0] 243)):=hW0
 have b0:Below w.heap.size w W0:=by rw [hW0];exact (below_alloc w _).alloc (by simp) _
 have hz:W0.heap.size=w.heap.size+2:=by rw [hW0];simp
 have p0:W0.heap[w.heap.size]?=some (.cells (spotCell (true,[p,q,r,s])).toArray 243 (0,0)):=by
  rw [hW0]
  exact (Below.heap_alloc _ _ _ (by simp)).trans (heap_alloc_new w _)
 have p1:W0.heap[w.heap.size+1]?=some (.cells #[.bool false,.int .i64 0,.int .i64 0,.int .i64 0,.int .i64 0] 243 (0,0)):=by
  rw [hW0]
  exact (show ((w.alloc (.cells #[.bool true,.int .i64 (p:Nat),.int .i64 (q:Nat),.int .i64 (r:Nat),.int .i64 (s:Nat)] 243)).heap.size)=w.heap.size+1 by simp) ▸ heap_alloc_new (w.alloc _) _
 have B0:Hid (Below w.heap.size w W0):=b0
 have P0:Hid (W0.heap[w.heap.size]?=some (.cells (spotCell (true,[p,q,r,s])).toArray 243 (0,0))):=p0
 have P1:Hid (W0.heap[w.heap.size+1]?=some (.cells #[.bool false,.int .i64 0,.int .i64 0,.int .i64 0,.int .i64 0] 243 (0,0))):=p1
 clear hW0 p0 p1 b0
 show Calls _ _ #[_,.agg #[.bool b,.int .i64 (p:Nat),.int .i64 (q:Nat),.int .i64 (r:Nat),.int .i64 (s:Nat)],_] _ _
 go_enter Tryz.func142,Tryz.ntmps142
 go_wp2_with fail
 rw [<- HW0.out]
 go_loopg [12] J.length (fun gh iv wx=>∃ i:Nat,i<=J.length/\gh=J.length - i/\iv=.int .i64 i/\Hid (wx.heap[w.heap.size]?=some (.cells (spotCell (true,mapTo i (fun j v=>tnext (tlAt J j) v k) [p,q,r,s])).toArray 243 (0,0)))/\Hid (wx.heap[w.heap.size+1]?=some (.cells #[.bool false,.int .i64 0,.int .i64 0,.int .i64 0,.int .i64 0] 243 (0,0)))/\Hid (Below w.heap.size w wx))
 case atStart=>exact ⟨0,Nat.zero_le _,rfl,rfl,by rw [mapTo_zero];exact P0,P1,B0⟩
 case round =>
  obtain ⟨i,hi,rfl,rfl,hQ,hR,hB⟩:=hrel
  obtain ⟨w1,hw1⟩:∃ w1,w1=wr:=⟨wr,rfl⟩
  subst hw1
  clear P0 P1 B0
  have hll:(mapTo i (fun j v=>tnext (tlAt J j) v k) [p,q,r,s]).length=4:=mapTo_len _ _ _
  by_cases hlt:i<J.length
  ·obtain ⟨g,aL,nL,cL,aR,nR,cR,rfl,hg,hTL,hTR,c0,c1,c2⟩:=HF.out i hlt
   have d0:=(hB.out.cell (p:=⟨g,i * 3,none⟩) hg).trans c0
   have d1:=(hB.out.cell (p:=⟨g,i * 3+1,none⟩) hg).trans c1
   have d2:=(hB.out.cell (p:=⟨g,i * 3+2,none⟩) hg).trans c2
   obtain ⟨u,hu,_,hul⟩:=HX.out.at_ (j:=i) (by omega)
   have hul':=hul hlt
   unfold limL at hul'
   rw [tlAt_eq hlt] at hul'
   have HS:Hid (mapTo (i+1) (fun j v=>tnext (tlAt J j) v k) [p,q,r,s]=(mapTo i (fun j v=>tnext (tlAt J j) v k) [p,q,r,s]).set i (tnext J[i].tl u k)):=by show _=_;rw [mapTo_succ hu,tlAt_eq hlt]
   have hu':=(mapTo_same (n:=i) (fun j v=>tnext (tlAt J j) v k) (l:=[p,q,r,s]) (Nat.le_refl i)).trans hu
   have e1:=cell_of_block hQ.out (1+i) _ ((List.getElem?_toArray ..).trans (spt_at (x:=(true,mapTo i (fun j v=>tnext (tlAt J j) v k) [p,q,r,s])) hu'))
   have T1:Hid (TabIn 0 w1 (.slice aL nL cL) J[i].tl):=row_kp hTL (Kp.below hB.out)
   have G1:Hid (TabGood J[i].tl):=(HA.out.ok _ (List.getElem_mem hlt)).l
   clear hTL hTR c0 c1 c2 hu hu'
   generalize J[i]=L at *
   have hi4:(i:Int)<4:=by omega
   have f0:((w1.alloc (.cells #[.bool L.cut,.slice aL nL cL,.slice aR nR cR] 234)).cell? ⟨w.heap.size,1+i,none⟩=some (.int .i64 (u:Nat))):=((below_alloc w1 _).cell (p:=⟨w.heap.size,1+i,none⟩) (cellLt e1)).trans e1
   have HM:Hid (∀ W,Below w1.heap.size w1 W->Calls Tryz.prog 184 #[.slice aL nL cL,.int .i64 (u:Nat),.int .u8 k] W fun r w'=>r=.returned (.int .i64 (tnext L.tl u k:Nat))/\w'=W):=fun W hW=>tnext_any W _ L.tl u k (row_kp T1.out (Kp.below hW)) G1.out hul' hk
   have BB:Hid (Below w.heap.size w (w1.alloc (.cells #[.bool L.cut,.slice aL nL cL,.slice aR nR cR] 234))):=hB.out.alloc hB.out.size _
   have QQ:Hid ((w1.alloc (.cells #[.bool L.cut,.slice aL nL cL,.slice aR nR cR] 234)).heap[w.heap.size]?=some (.cells (spotCell (true,mapTo i (fun j v=>tnext (tlAt J j) v k) [p,q,r,s])).toArray 243 (0,0))):=by show _=_;rw [Below.heap_alloc _ _ _ (heap_lt hQ.out)];exact hQ.out
   have RR:Hid ((w1.alloc (.cells #[.bool L.cut,.slice aL nL cL,.slice aR nR cR] 234)).heap[w.heap.size+1]?=some (.cells #[.bool false,.int .i64 0,.int .i64 0,.int .i64 0,.int .i64 0] 243 (0,0))):=by show _=_;rw [Below.heap_alloc _ _ _ (heap_lt hR.out)];exact hR.out
   have fr:=free_of_block QQ.out (1+i)
   go_wp2_with fail
   go_region_law (first
    | (refine step_fn3 rfl 184 (.tmp 20) (.tmp 24) (.tmp 25) _ rfl (enters_of Tryz.func184 (by kernel_rfl) rfl) (.slice aL nL cL) (.int .i64 (u:Nat)) (.int .u8 (k:Nat)) (by simp [Act.eval]) (by simp [Act.eval]) (by simp [Act.eval]) _ (HM.out _ ((below_alloc w1 _).drew)) ?_
       rintro e W1 ⟨rfl,rfl⟩
       refine ⟨_,rfl,?_⟩))
   all_goals go_wp2_with fail
   all_goals go_roundg (J.length - (i+1))
   all_goals first
    | (case measure=>omega)
    | skip
   all_goals refine ⟨i+1,by omega,rfl,by go_num,?_,?_,BB.out.drew.setCell (Nat.le_refl _) _⟩
   all_goals show _=_
   all_goals first
    | (rw [HS.out,<- spotCell_set];exact block_setCell QQ.out _ _)
    | exact (setCell_type (by omega)).trans RR.out
  ·have HE:Hid (laterA J (b,[p,q,r,s]) k=(true,mapTo i (fun j v=>tnext (tlAt J j) v k) [p,q,r,s])):=by show _=_;rw [show i=J.length from by omega];rfl
   obtain ⟨p',q',r',s',el,c0,c1,c2,c3,c4⟩:=spt_cells hQ.out hll
   have HL:Hid (mapTo i (fun j v=>tnext (tlAt J j) v k) [p,q,r,s]=[p',q',r',s']):=el
   have d0:=cell_of_block hR.out 0 _ rfl
   have d1:=cell_of_block hR.out 1 _ rfl
   have d2:=cell_of_block hR.out 2 _ rfl
   have d3:=cell_of_block hR.out 3 _ rfl
   have d4:=cell_of_block hR.out 4 _ rfl
   have df:=free_of_block hR.out
   clear el hll
   go_wp2_with fail
   refine bodyPost_ret (results_cell_row rfl _ _ (w.heap.size+1) 243 #[.bool true,.int .i64 (p':Nat),.int .i64 (q':Nat),.int .i64 (r':Nat),.int .i64 (s':Nat)] (0,0) _ rfl (set5 hR.out) Tryz.underlying243 rfl (by kernel_rfl)) rfl ?_
   refine ⟨?_,below_set5 hB.out (by omega)⟩
   rw [HE.out,HL.out]
   rfl
set_option maxRecDepth 100000 in
set_option maxHeartbeats 2000000 in
theorem next_any (w:World) (v:Value) (J:AJ) (vs:List (Value × Value)) (x:Spt) (k:Nat) (hA:AIn 0 w v J vs) (hJ:J.length<=4) (hx:KnownOk J x) (hk:k<8) :
  Calls Tryz.prog 144 #[v,sptV x,.int .u8 k] w fun r w'=>r=.returned (sptV (nextA J x k))/\Below w.heap.size w w':=by
 obtain ⟨b,l⟩:=x
 obtain ⟨p,q,r,s,e⟩:=four hx.len
 simp only at e
 subst e
 obtain ⟨ao,cap,rfl,hf⟩:=hA.form
 have HF:Hid (∀ i (hi:i<J.length),∃ g aL nL cL aR nR cR,ao=some ⟨g,0,none⟩/\g<w.heap.size/\TabIn 0 w (.slice aL nL cL) J[i].tl/\TabIn 0 w (.slice aR nR cR) J[i].tr /\
  w.cell? ⟨g,i * 3,none⟩=some (.bool J[i].cut)/\w.cell? ⟨g,i * 3+1,none⟩=some (.slice aL nL cL)/\w.cell? ⟨g,i * 3+2,none⟩=some (.slice aR nR cR)):=hf
 have HA:Hid (AIn 0 w (.slice ao J.length cap) J vs):=hA
 have HX:Hid (KnownOk J (b,[p,q,r,s])):=hx
 clear hA hx hf
 obtain ⟨W0,hW0⟩:∃ W0,W0=(w.alloc (.cells #[.bool true,.int .i64 (p:Nat),.int .i64 (q:Nat),.int .i64 (r:Nat),.int .i64 (s:Nat)] 249)).alloc (.cells #[.bool false,.int .i64 0,.int .i64 0,.int .i64 0,.int .i64 0] 249):=⟨_,rfl⟩
 have HW0:Hid (W0=(w.alloc (.cells #[.bool true,.int .i64 (p:Nat),.int .i64 (q:Nat),.int .i64 (r:Nat),.int .i64 (s:Nat)] 249)).alloc (.cells #[.bool false,.int .i64 0,.int .i64 0,.int .i64 0,.int .i64 0] 249)):=hW0
 have b0:Below w.heap.size w W0:=by rw [hW0];exact (below_alloc w _).alloc (by simp) _
 have hz:W0.heap.size=w.heap.size+2:=by rw [hW0];simp
 have p0:W0.heap[w.heap.size]?=some (.cells (spotCell (true,[p,q,r,s])).toArray 249 (0,0)):=by
  rw [hW0]
  exact (Below.heap_alloc _ _ _ (by simp)).trans (heap_alloc_new w _)
 have p1:W0.heap[w.heap.size+1]?=some (.cells #[.bool false,.int .i64 0,.int .i64 0,.int .i64 0,.int .i64 0] 249 (0,0)):=by
  rw [hW0]
  exact (show ((w.alloc (.cells #[.bool true,.int .i64 (p:Nat),.int .i64 (q:Nat),.int .i64 (r:Nat),.int .i64 (s:Nat)] 249)).heap.size)=w.heap.size+1 by simp) ▸ heap_alloc_new (w.alloc _) _
 have B0:Hid (Below w.heap.size w W0):=b0
 have P0:Hid (W0.heap[w.heap.size]?=some (.cells (spotCell (true,[p,q,r,s])).toArray 249 (0,0))):=p0
 have P1:Hid (W0.heap[w.heap.size+1]?=some (.cells #[.bool false,.int .i64 0,.int .i64 0,.int .i64 0,.int .i64 0] 249 (0,0))):=p1
 clear hW0 p0 p1 b0
 show Calls _ _ #[_,.agg #[.bool b,.int .i64 (p:Nat),.int .i64 (q:Nat),.int .i64 (r:Nat),.int .i64 (s:Nat)],_] _ _
 go_enter Tryz.func144,Tryz.ntmps144
 go_wp2_with fail
 rw [<- HW0.out]
 go_loopg [12] J.length (fun gh iv wx=>∃ i:Nat,i<=J.length/\gh=J.length - i/\iv=.int .i64 i/\Hid (wx.heap[w.heap.size]?=some (.cells (spotCell (true,mapTo i (fun j v=>tnext (trAt J j) v k) [p,q,r,s])).toArray 249 (0,0)))/\Hid (wx.heap[w.heap.size+1]?=some (.cells #[.bool false,.int .i64 0,.int .i64 0,.int .i64 0,.int .i64 0] 249 (0,0)))/\Hid (Below w.heap.size w wx))
 case atStart=>exact ⟨0,Nat.zero_le _,rfl,rfl,by rw [mapTo_zero];exact P0,P1,B0⟩
 case round =>
  obtain ⟨i,hi,rfl,rfl,hQ,hR,hB⟩:=hrel
  obtain ⟨w1,hw1⟩:∃ w1,w1=wr:=⟨wr,rfl⟩
  subst hw1
  clear P0 P1 B0
  have hll:(mapTo i (fun j v=>tnext (trAt J j) v k) [p,q,r,s]).length=4:=mapTo_len _ _ _
  by_cases hlt:i<J.length
  ·obtain ⟨g,aL,nL,cL,aR,nR,cR,rfl,hg,hTL,hTR,c0,c1,c2⟩:=HF.out i hlt
   have d0:=(hB.out.cell (p:=⟨g,i * 3,none⟩) hg).trans c0
   have d1:=(hB.out.cell (p:=⟨g,i * 3+1,none⟩) hg).trans c1
   have d2:=(hB.out.cell (p:=⟨g,i * 3+2,none⟩) hg).trans c2
   obtain ⟨u,hu,_,hul⟩:=HX.out.at_ (j:=i) (by omega)
   have hul':=hul hlt
   unfold limR at hul'
   rw [trAt_eq hlt] at hul'
   have HS:Hid (mapTo (i+1) (fun j v=>tnext (trAt J j) v k) [p,q,r,s]=(mapTo i (fun j v=>tnext (trAt J j) v k) [p,q,r,s]).set i (tnext J[i].tr u k)):=by show _=_;rw [mapTo_succ hu,trAt_eq hlt]
   have hu':=(mapTo_same (n:=i) (fun j v=>tnext (trAt J j) v k) (l:=[p,q,r,s]) (Nat.le_refl i)).trans hu
   have e1:=cell_of_block hQ.out (1+i) _ ((List.getElem?_toArray ..).trans (spt_at (x:=(true,mapTo i (fun j v=>tnext (trAt J j) v k) [p,q,r,s])) hu'))
   have T1:Hid (TabIn 0 w1 (.slice aR nR cR) J[i].tr):=row_kp hTR (Kp.below hB.out)
   have G1:Hid (TabGood J[i].tr):=(HA.out.ok _ (List.getElem_mem hlt)).r
   clear hTL hTR c0 c1 c2 hu hu'
   generalize J[i]=L at *
   have hi4:(i:Int)<4:=by omega
   have f0:((w1.alloc (.cells #[.bool L.cut,.slice aL nL cL,.slice aR nR cR] 234)).cell? ⟨w.heap.size,1+i,none⟩=some (.int .i64 (u:Nat))):=((below_alloc w1 _).cell (p:=⟨w.heap.size,1+i,none⟩) (cellLt e1)).trans e1
   have HM:Hid (∀ W,Below w1.heap.size w1 W->Calls Tryz.prog 184 #[.slice aR nR cR,.int .i64 (u:Nat),.int .u8 k] W fun r w'=>r=.returned (.int .i64 (tnext L.tr u k:Nat))/\w'=W):=fun W hW=>tnext_any W _ L.tr u k (row_kp T1.out (Kp.below hW)) G1.out hul' hk
   have BB:Hid (Below w.heap.size w (w1.alloc (.cells #[.bool L.cut,.slice aL nL cL,.slice aR nR cR] 234))):=hB.out.alloc hB.out.size _
   have QQ:Hid ((w1.alloc (.cells #[.bool L.cut,.slice aL nL cL,.slice aR nR cR] 234)).heap[w.heap.size]?=some (.cells (spotCell (true,mapTo i (fun j v=>tnext (trAt J j) v k) [p,q,r,s])).toArray 249 (0,0))):=by show _=_;rw [Below.heap_alloc _ _ _ (heap_lt hQ.out)];exact hQ.out
   have RR:Hid ((w1.alloc (.cells #[.bool L.cut,.slice aL nL cL,.slice aR nR cR] 234)).heap[w.heap.size+1]?=some (.cells #[.bool false,.int .i64 0,.int .i64 0,.int .i64 0,.int .i64 0] 249 (0,0))):=by show _=_;rw [Below.heap_alloc _ _ _ (heap_lt hR.out)];exact hR.out
   have fr:=free_of_block QQ.out (1+i)
   go_wp2_with fail
   go_region_law (first
    | (refine step_fn3 rfl 184 (.tmp 20) (.tmp 24) (.tmp 25) _ rfl (enters_of Tryz.func184 (by kernel_rfl) rfl) (.slice aR nR cR) (.int .i64 (u:Nat)) (.int .u8 (k:Nat)) (by simp [Act.eval]) (by simp [Act.eval]) (by simp [Act.eval]) _ (HM.out _ ((below_alloc w1 _).drew)) ?_
       rintro e W1 ⟨rfl,rfl⟩
       refine ⟨_,rfl,?_⟩))
   all_goals go_wp2_with fail
   all_goals go_roundg (J.length - (i+1))
   all_goals first
    | (case measure=>omega)
    | skip
   all_goals refine ⟨i+1,by omega,rfl,by go_num,?_,?_,BB.out.drew.setCell (Nat.le_refl _) _⟩
   all_goals show _=_
   all_goals first
    | (rw [HS.out,<- spotCell_set];exact block_setCell QQ.out _ _)
    | exact (setCell_type (by omega)).trans RR.out
  ·have HE:Hid (nextA J (b,[p,q,r,s]) k=trimA J (true,mapTo i (fun j v=>tnext (trAt J j) v k) [p,q,r,s])):=by show _=_;rw [show i=J.length from by omega];rfl
   have HK:Hid (KnownOk J (true,mapTo i (fun j v=>tnext (trAt J j) v k) [p,q,r,s])):=by rw [show i=J.length from by omega];exact nextL_ok HA.out.ok HX.out k _
   obtain ⟨p',q',r',s',el,c0,c1,c2,c3,c4⟩:=spt_cells hQ.out hll
   rw [el] at HE HK
   clear el hll
   go_wp2_with fail
   refine (trim_any w1 _ J vs (true,[p',q',r',s']) (HA.out.below hB.out) hJ HK.out).mono ?_
   rintro rr w2 ⟨rfl,hb2⟩
   obtain ⟨y,hy⟩:∃ y,y=trimA J (true,[p',q',r',s']):=⟨_,rfl⟩
   have hl2:y.2.length=4:=by rw [hy];exact (trim_ok HA.out.ok HK.out).len
   rw [<- hy]
   obtain ⟨b2,l2⟩:=y
   obtain ⟨p2,q2,r2,s2,e2⟩:=four hl2
   simp only at e2
   subst e2
   have HE2:Hid (nextA J (b,[p,q,r,s]) k=(b2,[p2,q2,r2,s2])):=HE.out.trans hy.symm
   have R2:Hid (w2.heap[w.heap.size+1]?=some (.cells #[.bool false,.int .i64 0,.int .i64 0,.int .i64 0,.int .i64 0] 249 (0,0))):=by show _=_;rw [hb2.block _ (heap_lt hR.out)];exact hR.out
   have B2:Hid (Below w.heap.size w w2):=hB.out.trans (hb2.mono hB.out.size)
   have d0:=cell_of_block R2.out 0 _ rfl
   have d1:=cell_of_block R2.out 1 _ rfl
   have d2:=cell_of_block R2.out 2 _ rfl
   have d3:=cell_of_block R2.out 3 _ rfl
   have d4:=cell_of_block R2.out 4 _ rfl
   have df:=free_of_block R2.out
   have ev:sptV (b2,[p2,q2,r2,s2])=.agg #[.bool b2,.int .i64 (p2:Nat),.int .i64 (q2:Nat),.int .i64 (r2:Nat),.int .i64 (s2:Nat)]:=rfl
   rw [ev]
   clear hy hb2 hl2
   go_wp2_with fail
   refine bodyPost_ret (results_cell_row rfl _ _ (w.heap.size+1) 249 #[.bool b2,.int .i64 (p2:Nat),.int .i64 (q2:Nat),.int .i64 (r2:Nat),.int .i64 (s2:Nat)] (0,0) _ rfl (set5 R2.out) Tryz.underlying249 rfl (by kernel_rfl)) rfl ?_
   exact ⟨by rw [HE2.out];rfl,below_set5 B2.out (by omega)⟩
theorem zero_at {i:Nat} (h:i<4):([0,0,0,0]:List Nat)[i]?=some 0:=by
 match i,h with
 | 0,_=>rfl
 | 1,_=>rfl
 | 2,_=>rfl
 | 3,_=>rfl
theorem startL_step {J:AJ} {i:Nat} {l:List Nat} (hi:i<4):startL J (i+1) l=(startL J i l).set i (if tmatch (tlAt J i) ((l[i]?).getD 0)=true then 0 else 1):=by
 unfold startL
 rw [mapTo_succ (zero_at hi)]
theorem startL_same {J:AJ} {i:Nat} {l:List Nat} (hi:i<4):(startL J i l)[i]?=some 0:=by
 unfold startL
 rw [mapTo_same _ (Nat.le_refl i),zero_at hi]
theorem set_same {l:List Nat} {i x:Nat} (h:l[i]?=some x):l.set i x=l:=by
 apply List.ext_getElem?
 intro j
 rw [List.getElem?_set]
 split
 ·rename_i e;subst e;rw [if_pos (List.getElem?_eq_some_iff.1 h).1,h]
 ·rfl
theorem startL_len (J:AJ) (i:Nat) (l:List Nat):(startL J i l).length=4:=mapTo_len _ _ _
theorem startL_ok {J:AJ} (hJ:∀ r ∈ J,ARuleOk r) (l:List Nat) (b:Bool):KnownOk J (b,startL J J.length l):=by
 refine ⟨startL_len _ _ _,fun j v hv=>?_⟩
 simp only at hv
 unfold startL at hv
 rw [mapTo_at] at hv
 cases hx:([0,0,0,0]:List Nat)[j]? with
 | none=>rw [hx] at hv;simp at hv
 | some u =>
  rw [hx] at hv
  simp only [Option.map_some,Option.some.injEq] at hv
  have hu:u=0:=by have:=List.mem_of_getElem? hx;simp at this;exact this
  have hv1:v<=1:=by
   split at hv
   ·split at hv <;> omega
   ·omega
  refine ⟨by omega,fun hj=>?_⟩
  unfold limR
  rw [trAt_eq hj]
  have:=(hJ _ (List.getElem_mem hj)).two
  omega
set_option maxRecDepth 100000 in
set_option maxHeartbeats 2000000 in
theorem start_any (w:World) (v:Value) (J:AJ) (vs:List (Value × Value)) (x:Spt) (hA:AIn 0 w v J vs) (hJ:J.length<=4) (hx:PastOk J x) :
  Calls Tryz.prog 141 #[v,sptV x] w fun r w'=>r=.returned (sptV (startA J x))/\Below w.heap.size w w':=by
 obtain ⟨b,l⟩:=x
 obtain ⟨p,q,r,s,e⟩:=four hx.len
 simp only at e
 subst e
 obtain ⟨ao,cap,rfl,hf⟩:=hA.form
 have HF:Hid (∀ i (hi:i<J.length),∃ g aL nL cL aR nR cR,ao=some ⟨g,0,none⟩/\g<w.heap.size/\TabIn 0 w (.slice aL nL cL) J[i].tl/\TabIn 0 w (.slice aR nR cR) J[i].tr /\
  w.cell? ⟨g,i * 3,none⟩=some (.bool J[i].cut)/\w.cell? ⟨g,i * 3+1,none⟩=some (.slice aL nL cL)/\w.cell? ⟨g,i * 3+2,none⟩=some (.slice aR nR cR)):=hf
 have HA:Hid (AIn 0 w (.slice ao J.length cap) J vs):=hA
 have HX:Hid (PastOk J (b,[p,q,r,s])):=hx
 clear hA hx hf
 obtain ⟨W0,hW0⟩:∃ W0,W0=((w.alloc (.cells #[.bool b,.int .i64 (p:Nat),.int .i64 (q:Nat),.int .i64 (r:Nat),.int .i64 (s:Nat)] 243)).alloc (.cells #[.bool false,.int .i64 0,.int .i64 0,.int .i64 0,.int .i64 0] 249)).alloc (.cells #[.bool false,.int .i64 0,.int .i64 0,.int .i64 0,.int .i64 0] 249):=⟨_,rfl⟩
 have HW0:Hid (W0=((w.alloc (.cells #[.bool b,.int .i64 (p:Nat),.int .i64 (q:Nat),.int .i64 (r:Nat),.int .i64 (s:Nat)] 243)).alloc (.cells #[.bool false,.int .i64 0,.int .i64 0,.int .i64 0,.int .i64 0] 249)).alloc (.cells #[.bool false,.int .i64 0,.int .i64 0,.int .i64 0,.int .i64 0] 249)):=hW0
 have b0:Below w.heap.size w W0:=by rw [hW0];exact ((below_alloc w _).alloc (by simp) _).alloc (by simp;omega) _
 have hz:W0.heap.size=w.heap.size+3:=by rw [hW0];simp
 have p0:W0.heap[w.heap.size]?=some (.cells (spotCell (b,[p,q,r,s])).toArray 243 (0,0)):=by
  rw [hW0]
  exact (Below.heap_alloc _ _ _ (by simp;omega)).trans ((Below.heap_alloc _ _ _ (by simp)).trans (heap_alloc_new w _))
 have p1:W0.heap[w.heap.size+1]?=some (.cells #[.bool false,.int .i64 0,.int .i64 0,.int .i64 0,.int .i64 0] 249 (0,0)):=by
  rw [hW0]
  exact (Below.heap_alloc _ _ _ (by simp)).trans ((show ((w.alloc (.cells #[.bool b,.int .i64 (p:Nat),.int .i64 (q:Nat),.int .i64 (r:Nat),.int .i64 (s:Nat)] 243)).heap.size)=w.heap.size+1 by simp) ▸ heap_alloc_new (w.alloc _) _)
 have p2:W0.heap[w.heap.size+2]?=some (.cells (spotCell (false,[0,0,0,0])).toArray 249 (0,0)):=by
  rw [hW0]
  exact (show (((w.alloc (.cells #[.bool b,.int .i64 (p:Nat),.int .i64 (q:Nat),.int .i64 (r:Nat),.int .i64 (s:Nat)] 243)).alloc (.cells #[.bool false,.int .i64 0,.int .i64 0,.int .i64 0,.int .i64 0] 249)).heap.size)=w.heap.size+2 by simp) ▸ heap_alloc_new ((w.alloc _).alloc _) _
 have B0:Hid (Below w.heap.size w W0):=b0
 have P0:Hid (W0.heap[w.heap.size]?=some (.cells (spotCell (b,[p,q,r,s])).toArray 243 (0,0))):=p0
 have P1:Hid (W0.heap[w.heap.size+1]?=some (.cells #[.bool false,.int .i64 0,.int .i64 0,.int .i64 0,.int .i64 0] 249 (0,0))):=p1
 have P2:Hid (W0.heap[w.heap.size+2]?=some (.cells (spotCell (false,[0,0,0,0])).toArray 249 (0,0))):=p2
 clear hW0 p0 p1 p2 b0
 show Calls _ _ #[_,.agg #[.bool b,.int .i64 (p:Nat),.int .i64 (q:Nat),.int .i64 (r:Nat),.int .i64 (s:Nat)]] _ _
 go_enter Tryz.func141,Tryz.ntmps141
 go_wp2_with fail
 rw [<- HW0.out]
 go_loopg [10] J.length (fun gh iv wx=>∃ i:Nat,i<=J.length/\gh=J.length - i/\iv=.int .i64 i/\Hid (wx.heap[w.heap.size]?=some (.cells (spotCell (b,[p,q,r,s])).toArray 243 (0,0)))/\Hid (wx.heap[w.heap.size+1]?=some (.cells #[.bool false,.int .i64 0,.int .i64 0,.int .i64 0,.int .i64 0] 249 (0,0)))/\Hid (wx.heap[w.heap.size+2]?=some (.cells (spotCell (false,startL J i [p,q,r,s])).toArray 249 (0,0)))/\Hid (Below w.heap.size w wx))
 case atStart=>exact ⟨0,Nat.zero_le _,rfl,rfl,P0,P1,by unfold startL;rw [mapTo_zero];exact P2,B0⟩
 case round =>
  obtain ⟨i,hi,rfl,rfl,hP,hR,hQ,hB⟩:=hrel
  obtain ⟨w1,hw1⟩:∃ w1,w1=wr:=⟨wr,rfl⟩
  subst hw1
  clear P0 P1 P2 B0
  have hll:(startL J i [p,q,r,s]).length=4:=startL_len _ _ _
  by_cases hlt:i<J.length
  ·obtain ⟨g,aL,nL,cL,aR,nR,cR,rfl,hg,hTL,hTR,c0,c1,c2⟩:=HF.out i hlt
   have d0:=(hB.out.cell (p:=⟨g,i * 3,none⟩) hg).trans c0
   have d1:=(hB.out.cell (p:=⟨g,i * 3+1,none⟩) hg).trans c1
   have d2:=(hB.out.cell (p:=⟨g,i * 3+2,none⟩) hg).trans c2
   obtain ⟨u,hu,_,hul⟩:=HX.out.at_ (j:=i) (by omega)
   have hul':=hul hlt
   unfold limL at hul'
   rw [tlAt_eq hlt] at hul'
   obtain ⟨m,hm⟩:∃ m,m=tmatch J[i].tl u:=⟨_,rfl⟩
   have HS:Hid (startL J (i+1) [p,q,r,s]=(startL J i [p,q,r,s]).set i (if m=true then 0 else 1)):=by show _=_;rw [startL_step (by omega),tlAt_eq hlt,hu,hm];rfl
   have hz0:=startL_same (J:=J) (i:=i) (l:=[p,q,r,s]) (by omega)
   have HS0:Hid (m=true->startL J (i+1) [p,q,r,s]=startL J i [p,q,r,s]):=fun e=>by rw [HS.out,if_pos e,set_same hz0]
   have HS1:Hid (m=false->startL J (i+1) [p,q,r,s]=(startL J i [p,q,r,s]).set i 1):=fun e=>by rw [HS.out,if_neg (by rw [e];decide)]
   clear HS
   have e1:=cell_of_block hP.out (1+i) _ ((List.getElem?_toArray ..).trans (spt_at (x:=(b,[p,q,r,s])) hu))
   have e2:=cell_of_block hQ.out (1+i) _ ((List.getElem?_toArray ..).trans (spt_at (x:=(false,startL J i [p,q,r,s])) hz0))
   have T1:Hid (TabIn 0 w1 (.slice aL nL cL) J[i].tl):=row_kp hTL (Kp.below hB.out)
   have G1:Hid (TabGood J[i].tl):=(HA.out.ok _ (List.getElem_mem hlt)).l
   clear hTL hTR c0 c1 c2 hu hz0
   generalize J[i]=L at *
   have hi4:(i:Int)<4:=by omega
   have f0:((w1.alloc (.cells #[.bool L.cut,.slice aL nL cL,.slice aR nR cR] 234)).cell? ⟨w.heap.size,1+i,none⟩=some (.int .i64 (u:Nat))):=((below_alloc w1 _).cell (p:=⟨w.heap.size,1+i,none⟩) (cellLt e1)).trans e1
   have f2:((w1.alloc (.cells #[.bool L.cut,.slice aL nL cL,.slice aR nR cR] 234)).cell? ⟨w.heap.size+2,1+i,none⟩=some (.int .i64 ((0:Nat):Int))):=((below_alloc w1 _).cell (p:=⟨w.heap.size+2,1+i,none⟩) (cellLt e2)).trans e2
   have HM:Hid (∀ W,Below w1.heap.size w1 W->Calls Tryz.prog 182 #[.slice aL nL cL,.int .i64 (u:Nat)] W fun r w'=>r=.returned (.bool m)/\w'=W):=fun W hW=>by rw [hm];exact match_any W _ L.tl u (row_kp T1.out (Kp.below hW)) G1.out hul'
   have BB:Hid (Below w.heap.size w (w1.alloc (.cells #[.bool L.cut,.slice aL nL cL,.slice aR nR cR] 234))):=hB.out.alloc hB.out.size _
   have PP:Hid ((w1.alloc (.cells #[.bool L.cut,.slice aL nL cL,.slice aR nR cR] 234)).heap[w.heap.size]?=some (.cells (spotCell (b,[p,q,r,s])).toArray 243 (0,0))):=by show _=_;rw [Below.heap_alloc _ _ _ (heap_lt hP.out)];exact hP.out
   have QQ:Hid ((w1.alloc (.cells #[.bool L.cut,.slice aL nL cL,.slice aR nR cR] 234)).heap[w.heap.size+2]?=some (.cells (spotCell (false,startL J i [p,q,r,s])).toArray 249 (0,0))):=by show _=_;rw [Below.heap_alloc _ _ _ (heap_lt hQ.out)];exact hQ.out
   have RR:Hid ((w1.alloc (.cells #[.bool L.cut,.slice aL nL cL,.slice aR nR cR] 234)).heap[w.heap.size+1]?=some (.cells #[.bool false,.int .i64 0,.int .i64 0,.int .i64 0,.int .i64 0] 249 (0,0))):=by show _=_;rw [Below.heap_alloc _ _ _ (heap_lt hR.out)];exact hR.out
   have fr:=free_of_block QQ.out (1+i)
   clear hm
   go_wp2_with fail
   go_region_law (first
    | (refine step_fn2 rfl 182 (.tmp 17) (.tmp 21) _ rfl (enters_of Tryz.func182 (by kernel_rfl) rfl) (.slice aL nL cL) (.int .i64 (u:Nat)) (by simp [Act.eval]) (by simp [Act.eval]) _ (HM.out _ ((below_alloc w1 _).drew)) ?_
       rintro e W1 ⟨rfl,rfl⟩
       refine ⟨_,rfl,?_⟩))
   all_goals cases m
   all_goals go_wp2_with fail
   all_goals go_roundg (J.length - (i+1))
   all_goals first
    | (case measure=>omega)
    | (refine ⟨i+1,by omega,rfl,by go_num,PP,RR,?_,BB.out.drew⟩
       show _=_
       have hs:=HS0.out (by simp)
       rw [hs]
       exact QQ.out)
    | (refine ⟨i+1,by omega,rfl,by go_num,?_,?_,?_,BB.out.drew.setCell (by show w.heap.size≤w.heap.size+2;omega) _⟩
       ·exact (setCell_type (by omega)).trans PP.out
       ·exact (setCell_type (by omega)).trans RR.out
       ·show _=_
        have hs:=HS1.out (by simp)
        exact (block_setCell QQ.out (1+i) (.int .i64 ((1:Nat):Int))).trans (by rw [hs,<- spotCell_set]))
  ·have HE:Hid (startA J (b,[p,q,r,s])=trimA J (false,startL J i [p,q,r,s])):=by show _=_;rw [show i=J.length from by omega];rfl
   have HK:Hid (KnownOk J (false,startL J i [p,q,r,s])):=by rw [show i=J.length from by omega];exact startL_ok HA.out.ok _ _
   obtain ⟨p',q',r',s',el,c0,c1,c2,c3,c4⟩:=spt_cells hQ.out hll
   rw [el] at HE HK
   clear el hll
   go_wp2_with fail
   refine (trim_any w1 _ J vs (false,[p',q',r',s']) (HA.out.below hB.out) hJ HK.out).mono ?_
   rintro rr w2 ⟨rfl,hb2⟩
   obtain ⟨y,hy⟩:∃ y,y=trimA J (false,[p',q',r',s']):=⟨_,rfl⟩
   have hl2:y.2.length=4:=by rw [hy];exact (trim_ok HA.out.ok HK.out).len
   rw [<- hy]
   obtain ⟨b2,l2⟩:=y
   obtain ⟨p2,q2,r2,s2,e2⟩:=four hl2
   simp only at e2
   subst e2
   have HE2:Hid (startA J (b,[p,q,r,s])=(b2,[p2,q2,r2,s2])):=HE.out.trans hy.symm
   have R2:Hid (w2.heap[w.heap.size+1]?=some (.cells #[.bool false,.int .i64 0,.int .i64 0,.int .i64 0,.int .i64 0] 249 (0,0))):=by show _=_;rw [hb2.block _ (heap_lt hR.out)];exact hR.out
   have B2:Hid (Below w.heap.size w w2):=hB.out.trans (hb2.mono hB.out.size)
   have d0:=cell_of_block R2.out 0 _ rfl
   have d1:=cell_of_block R2.out 1 _ rfl
   have d2:=cell_of_block R2.out 2 _ rfl
   have d3:=cell_of_block R2.out 3 _ rfl
   have d4:=cell_of_block R2.out 4 _ rfl
   have df:=free_of_block R2.out
   have ev:sptV (b2,[p2,q2,r2,s2])=.agg #[.bool b2,.int .i64 (p2:Nat),.int .i64 (q2:Nat),.int .i64 (r2:Nat),.int .i64 (s2:Nat)]:=rfl
   rw [ev]
   clear hy hb2 hl2
   go_wp2_with fail
   refine bodyPost_ret (results_cell_row rfl _ _ (w.heap.size+1) 249 #[.bool b2,.int .i64 (p2:Nat),.int .i64 (q2:Nat),.int .i64 (r2:Nat),.int .i64 (s2:Nat)] (0,0) _ rfl (set5 R2.out) Tryz.underlying249 rfl (by kernel_rfl)) rfl ?_
   exact ⟨by rw [HE2.out];rfl,below_set5 B2.out (by omega)⟩
set_option maxRecDepth 100000 in
set_option maxHeartbeats 2000000 in
theorem cuts_any (w:World) (v:Value) (J:AJ) (vs:List (Value × Value)) (x:Spt) (hA:AIn 0 w v J vs) (hJ:J.length<=4) (hx:KnownOk J x) :
  Calls Tryz.prog 143 #[v,sptV x] w fun r w'=>r=.returned (.bool (cutsA J x))/\Below w.heap.size w w':=by
 obtain ⟨b,l⟩:=x
 obtain ⟨p,q,r,s,e⟩:=four hx.len
 simp only at e
 subst e
 obtain ⟨ao,cap,rfl,hf⟩:=hA.form
 have HF:Hid (∀ i (hi:i<J.length),∃ g aL nL cL aR nR cR,ao=some ⟨g,0,none⟩/\g<w.heap.size/\TabIn 0 w (.slice aL nL cL) J[i].tl/\TabIn 0 w (.slice aR nR cR) J[i].tr /\
  w.cell? ⟨g,i * 3,none⟩=some (.bool J[i].cut)/\w.cell? ⟨g,i * 3+1,none⟩=some (.slice aL nL cL)/\w.cell? ⟨g,i * 3+2,none⟩=some (.slice aR nR cR)):=hf
 have HA:Hid (AIn 0 w (.slice ao J.length cap) J vs):=hA
 have HX:Hid (KnownOk J (b,[p,q,r,s])):=hx
 clear hA hx hf
 have B0:Hid (Below w.heap.size w (w.alloc (.cells (spotCell (b,[p,q,r,s])).toArray 249))):=below_alloc w _
 have P0:Hid ((w.alloc (.cells (spotCell (b,[p,q,r,s])).toArray 249)).heap[w.heap.size]?=some (.cells (spotCell (b,[p,q,r,s])).toArray 249 (0,0))):=heap_alloc_new w _
 obtain ⟨f,hfe⟩:∃ f,f=firstA J [p,q,r,s]:=⟨_,rfl⟩
 have hfl:f<=J.length:=by rw [hfe];exact firstA_le J _
 have HC:Hid (cutsA J (b,[p,q,r,s])=(!b || (f == J.length) || cutAt J f)):=by show _=_;rw [hfe];rfl
 show Calls _ _ #[_,.agg #[.bool b,.int .i64 (p:Nat),.int .i64 (q:Nat),.int .i64 (r:Nat),.int .i64 (s:Nat)]] _ _
 go_enter Tryz.func143,Tryz.ntmps143
 go_wp2_with fail
 refine (first_any' _ _ J vs (b,[p,q,r,s]) (HA.out.below B0.out) hJ HX.out).mono ?_
 rw [show firstA J (b,[p,q,r,s]).2=f from hfe.symm]
 rintro rr w1 ⟨rfl,hb1⟩
 have B1:Hid (Below w.heap.size w w1):=B0.out.trans (hb1.mono B0.out.size)
 have p1:w1.cell? ⟨w.heap.size,0,none⟩=some (.bool b):=cell_of_block ((hb1.block _ (heap_lt P0.out)).trans P0.out) 0 _ rfl
 clear hb1 hfe
 cases b
 ·go_wp2_with fail
  go_ret
  exact ⟨by rw [HC.out];rfl,B1.out⟩
 ·by_cases hlt:f<J.length
  ·obtain ⟨g,aL,nL,cL,aR,nR,cR,rfl,hg,hTL,hTR,c0,c1,c2⟩:=HF.out f hlt
   have d0:=(B1.out.cell (p:=⟨g,f * 3,none⟩) hg).trans c0
   have hne:¬ (f:Int)=(J.length:Int):=by omega
   have HC2:Hid (cutsA J (true,[p,q,r,s])=J[f].cut):=by
    show _=_
    rw [HC.out,cutAt_eq hlt]
    have:(f == J.length)=false:=by simp;omega
    rw [this];rfl
   clear hTL hTR c0 c1 c2
   generalize J[f]=L at *
   have hbe:((f:Int) == (J.length:Int))=false:=by simp;omega
   go_wp2_with fail
   go_ret
   exact ⟨by rw [HC2.out];rfl,B1.out⟩
  ·have heq:f=J.length:=by omega
   subst heq
   have HC2:Hid (cutsA J (true,[p,q,r,s])=true):=by show _=_;rw [HC.out];simp
   go_wp2_with fail
   go_ret
   exact ⟨by rw [HC2.out];rfl,B1.out⟩
theorem Tryz.laidOutB:laidOutB Tryz.prog=true:=by kernel_rfl
def spt4 (b:Bool) (p q r s:Nat):Value:=.agg #[.bool b,.int .i64 p,.int .i64 q,.int .i64 r,.int .i64 s]
theorem size3:∃ m,Tryz.prog.types.size+1=m+4:=by
 have h:Tryz.prog.types.size=(Tryz.prog.types.size - 3)+3:=by kernel_rfl
 exact ⟨Tryz.prog.types.size - 3,by omega⟩
theorem lit_wf {a:Nat} (h:a<1000):(Lit.int .i64 (a:Int)).wf=true:=by
 have e:IntKind.i64.min=-9223372036854775808:=by decide
 simp [Lit.wf,e]
 omega
theorem lits_spots {m p q r s:Nat} (hp:p<1000) (hq:q<1000) (hr:r<1000) (hs:s<1000):Tryz.prog.keyLits (m+2) 241 [.int .i64 p,.int .i64 q,.int .i64 r,.int .i64 s]=some [.int .i64 p,.int .i64 q,.int .i64 r,.int .i64 s]:=by
 have c1:Tryz.prog.cellsOf 241=4:=by kernel_rfl
 have c2:Tryz.prog.cellsOf 3=1:=by kernel_rfl
 have e:List.range 4=[0,1,2,3]:=by decide
 simp [Program.keyLits,Tryz.underlying241,Tryz.underlying3,c1,c2,e,lit_wf hp,lit_wf hq,lit_wf hr,lit_wf hs]
theorem keyOf_past {b:Bool} {p q r s:Nat} (hp:p<1000) (hq:q<1000) (hr:r<1000) (hs:s<1000):∃ l,keyOf Tryz.prog 243 (spt4 b p q r s)=some l:=by
 have c1:Tryz.prog.cellsOf 243=5:=by kernel_rfl
 have c2:Tryz.prog.cellsOf 241=4:=by kernel_rfl
 have c3:Tryz.prog.cellsOf 4=1:=by kernel_rfl
 have hk:Tryz.prog.keyType 243=true:=by kernel_rfl
 obtain ⟨m,hm⟩:=size3
 have hl:Tryz.prog.keyLits (m+4) 243 [.bool b,.int .i64 p,.int .i64 q,.int .i64 r,.int .i64 s]=some [.bool b,.int .i64 p,.int .i64 q,.int .i64 r,.int .i64 s]:=by
  have h1:Tryz.prog.keyLits (m+3) 241 [.int .i64 p,.int .i64 q,.int .i64 r,.int .i64 s]=some [.int .i64 p,.int .i64 q,.int .i64 r,.int .i64 s]:=lits_spots (m:=m+1) hp hq hr hs
  have h0:Tryz.prog.keyLits (m+3) 4 [.bool b]=some [.bool b]:=by simp [Program.keyLits,Tryz.underlying4]
  unfold Program.keyLits
  simp [Tryz.underlying243,c1,c2,c3,h1,h0]
 unfold keyOf
 rw [Tryz.underlying243,hm]
 have hf:(spt4 b p q r s).formed Tryz.prog 243=true:=by simp [spt4,Value.formed,Tryz.underlying243,c1]
 simp only [hk,hf,Bool.and_self,if_true]
 have hc:(spt4 b p q r s).cells.toList=[.bool b,.int .i64 p,.int .i64 q,.int .i64 r,.int .i64 s]:=by simp [spt4,Value.cells]
 rw [hc,hl]
 exact ⟨_,rfl⟩
theorem keyOf_known {b:Bool} {p q r s:Nat} (hp:p<1000) (hq:q<1000) (hr:r<1000) (hs:s<1000):∃ l,keyOf Tryz.prog 249 (spt4 b p q r s)=some l:=by
 have c1:Tryz.prog.cellsOf 249=5:=by kernel_rfl
 have c2:Tryz.prog.cellsOf 241=4:=by kernel_rfl
 have c3:Tryz.prog.cellsOf 4=1:=by kernel_rfl
 have hk:Tryz.prog.keyType 249=true:=by kernel_rfl
 obtain ⟨m,hm⟩:=size3
 have hl:Tryz.prog.keyLits (m+4) 249 [.bool b,.int .i64 p,.int .i64 q,.int .i64 r,.int .i64 s]=some [.bool b,.int .i64 p,.int .i64 q,.int .i64 r,.int .i64 s]:=by
  have h1:Tryz.prog.keyLits (m+3) 241 [.int .i64 p,.int .i64 q,.int .i64 r,.int .i64 s]=some [.int .i64 p,.int .i64 q,.int .i64 r,.int .i64 s]:=lits_spots (m:=m+1) hp hq hr hs
  have h0:Tryz.prog.keyLits (m+3) 4 [.bool b]=some [.bool b]:=by simp [Program.keyLits,Tryz.underlying4]
  unfold Program.keyLits
  simp [Tryz.underlying249,c1,c2,c3,h1,h0]
 unfold keyOf
 rw [Tryz.underlying249,hm]
 have hf:(spt4 b p q r s).formed Tryz.prog 249=true:=by simp [spt4,Value.formed,Tryz.underlying249,c1]
 simp only [hk,hf,Bool.and_self,if_true]
 have hc:(spt4 b p q r s).cells.toList=[.bool b,.int .i64 p,.int .i64 q,.int .i64 r,.int .i64 s]:=by simp [spt4,Value.cells]
 rw [hc,hl]
 exact ⟨_,rfl⟩
theorem pastKey:Keyed Tryz.prog 243:=Keyed.of_law (deep_law_laid Tryz.laidOutB (m:=3) (by omega) (of_decide_eq_true (by kernel_rfl)) (by kernel_rfl) (by rw [Tryz.underlying243]))
theorem knownKey:Keyed Tryz.prog 249:=Keyed.of_law (deep_law_laid Tryz.laidOutB (m:=3) (by omega) (of_decide_eq_true (by kernel_rfl)) (by kernel_rfl) (by rw [Tryz.underlying249]))
theorem spt4_inj {b b':Bool} {p q r s p' q' r' s':Nat} (h:spt4 b p q r s=spt4 b' p' q' r' s'):b=b'/\p=p'/\q=q'/\r=r'/\s=s':=by
 unfold spt4 at h
 simp at h
 obtain ⟨h1,h2,h3,h4,h5⟩:=h
 exact ⟨h1,by omega,by omega,by omega,by omega⟩
end Go.Proofs.YtodagkkjfipbgaaGreatDoor
