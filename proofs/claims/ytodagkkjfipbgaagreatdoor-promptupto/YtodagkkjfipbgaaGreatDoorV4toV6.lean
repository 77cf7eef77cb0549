import Derived.Laws.CopyOwn
import Derived.Test.YtodagkkjfipbgaaGreatDoorV2toV3
import Derived.Test.YtodagkkjfipbgaaGreatDoorSh3lone
namespace Go.Proofs.YtodagkkjfipbgaaGreatDoor
open Go.RowKit Go.Maps
theorem grown_t {A B C:World} {r:Option Nat} (h:A.grownBy B r) (k:B.grownBy C r):A.grownBy C r :=
 ⟨k.os.trans h.os,k.tape.trans h.tape,k.output.trans h.output,Nat.le_trans h.size k.size,fun i hi hn=>(k.block i (Nat.lt_of_lt_of_le hi h.size) hn).trans (h.block i hi hn)⟩
theorem grown_of_below {A B:World} (h:Below A.heap.size A B) (r:Option Nat):A.grownBy B r:=⟨h.os,h.tape,h.output,h.size,fun k hk _=>h.block k hk⟩
theorem grown_set (A:World) (N i:Nat) (u:Value):A.grownBy (A.setCell ⟨N,i,none⟩ u) (some N):=by
 have h:=(Below.refl N A).setCell (p:=⟨N,i,none⟩) (Nat.le_refl N) u
 exact ⟨h.os,h.tape,h.output,h.size,fun k _ hn=>setCell_type (fun e=>hn (by rw [e]))⟩
def judgedTo (c:Bool) (fl fr:Nat->Bool) (m:Nat) (cuts:List Bool):List Bool:=cuts.mapIdx fun i b=>if 1<=i/\i<m/\fl i=true/\fr i=true then c else b
theorem judgedTo_len (c:Bool) (fl fr:Nat->Bool) (m:Nat) (cuts:List Bool):(judgedTo c fl fr m cuts).length=cuts.length:=by unfold judgedTo;simp
theorem judgedTo_low (c:Bool) (fl fr:Nat->Bool) {m:Nat} (hm:m<=1) (cuts:List Bool):judgedTo c fl fr m cuts=cuts:=by
 apply List.ext_getElem?
 intro i
 unfold judgedTo
 rw [List.getElem?_mapIdx]
 cases h:cuts[i]? with
 | none=>rfl
 | some b=>rw [Option.map_some,if_neg (by omega)]
theorem judgedTo_one (c:Bool) (fl fr:Nat->Bool) (cuts:List Bool):judgedTo c fl fr 1 cuts=cuts:=judgedTo_low c fl fr (Nat.le_refl _) cuts
theorem judgedTo_yes (c:Bool) (fl fr:Nat->Bool) {m:Nat} {cuts:List Bool} (hm:1<=m) (hl:m<cuts.length) (h1:fl m=true) (h2:fr m=true):judgedTo c fl fr (m+1) cuts=(judgedTo c fl fr m cuts).set m c:=by
 apply List.ext_getElem?
 intro i
 rw [List.getElem?_set,judgedTo_len]
 unfold judgedTo
 rw [List.getElem?_mapIdx,List.getElem?_mapIdx]
 by_cases e:m=i
 ·subst e
  rw [if_pos rfl,if_pos hl,List.getElem?_eq_getElem hl,Option.map_some,if_pos ⟨hm,by omega,h1,h2⟩]
 ·rw [if_neg e]
  cases h:cuts[i]? with
  | none=>rfl
  | some b =>
   rw [Option.map_some,Option.map_some]
   by_cases hc:1<=i/\i<m/\fl i=true/\fr i=true
   ·rw [if_pos hc,if_pos ⟨hc.1,by omega,hc.2.2⟩]
   ·rw [if_neg hc,if_neg (fun h=>hc ⟨h.1,by omega,h.2.2⟩)]
theorem judgedTo_no (c:Bool) (fl fr:Nat->Bool) {m:Nat} (cuts:List Bool) (h:fl m=false\/fr m=false):judgedTo c fl fr (m+1) cuts=judgedTo c fl fr m cuts:=by
 apply List.ext_getElem?
 intro i
 unfold judgedTo
 rw [List.getElem?_mapIdx,List.getElem?_mapIdx]
 cases hi:cuts[i]? with
 | none=>rfl
 | some b =>
  rw [Option.map_some,Option.map_some]
  by_cases hc:1<=i/\i<m/\fl i=true/\fr i=true
  ·rw [if_pos hc,if_pos ⟨hc.1,by omega,hc.2.2⟩]
  ·rw [if_neg hc,if_neg]
   rintro ⟨h1,h2,h3,h4⟩
   by_cases e:i=m
   ·subst e;rcases h with h | h
    ·rw [h] at h3;cases h3
    ·rw [h] at h4;cases h4
   ·exact hc ⟨h1,by omega,h3,h4⟩
theorem told_at (f:Nat->Bool) {n i:Nat} (h:i<n):((List.range n).map f)[i]?=some (f i):=by rw [List.getElem?_map,List.getElem?_range h];rfl
set_option maxRecDepth 100000 in
set_option maxHeartbeats 4000000 in
theorem judge_any (w:World) (c:Bool) (vL vR vK:Value) (tl tr:Tab) (row:List Nat) (N:Nat) (cuts:List Bool) (hL:TabIn 0 w vL tl) (gL:TabGood tl) (hR:TabIn 0 w vR tr) (gR:TabGood tr) (hK:KRow w vK row) (hC:w.heap[N]?=some (.cells (boolCells cuts) 4 (0,0))) (hlen:cuts.length=row.length+1) :
  Calls Tryz.prog 102 #[.agg #[.bool c,vL,vR],vK,.slice (some ⟨N,0,none⟩) (row.length+1) (row.length+1)] w fun r w'=>(∃ v,r=.returned v)/\w'.heap[N]?=some (.cells (boolCells (judgedTo c (fun i=>tmatch tl (leftAt tl row i)) (fun i=>tmatch tr (rightAt tr row i)) row.length cuts)) 4 (0,0))/\w.grownBy w' (some N):=by
 obtain ⟨aoL,capL,rfl⟩:=row_shape hL
 obtain ⟨aoR,capR,rfl⟩:=row_shape hR
 obtain ⟨aoK,capK,rfl⟩:=row_shape hK.own
 obtain ⟨fl,hfl⟩:∃ fl:Nat->Bool,fl=fun i=>tmatch tl (leftAt tl row i):=⟨_,rfl⟩
 obtain ⟨fr,hfr⟩:∃ fr:Nat->Bool,fr=fun i=>tmatch tr (rightAt tr row i):=⟨_,rfl⟩
 rw [<- hfl,<- hfr]
 have hfew:=hK.few
 have hNl:=heap_lt hC
 obtain ⟨W0,hW0⟩:∃ W0,W0=w.alloc (.cells #[.bool c,.slice aoL tl.length capL,.slice aoR tr.length capR] 157):=⟨_,rfl⟩
 have HW0:Hid (W0=w.alloc (.cells #[.bool c,.slice aoL tl.length capL,.slice aoR tr.length capR] 157)):=hW0
 have b0:Below w.heap.size w W0:=by rw [hW0];exact below_alloc w _
 have hz0:W0.heap.size=w.heap.size+1:=by rw [hW0];simp
 have p0:W0.heap[w.heap.size]?=some (.cells #[.bool c,.slice aoL tl.length capL,.slice aoR tr.length capR] 157 (0,0)):=by rw [hW0];exact heap_alloc_new w _
 have BW:Hid (Below w.heap.size w W0):=b0
 have P0:Hid (W0.heap[w.heap.size]?=some (.cells #[.bool c,.slice aoL tl.length capL,.slice aoR tr.length capR] 157 (0,0))):=p0
 have C0:Hid (W0.heap[N]?=some (.cells (boolCells cuts) 4 (0,0))):=(b0.block _ hNl).trans hC
 have CL:Hid (∀ W,Below W0.heap.size W0 W->Calls Tryz.prog 155 #[.agg #[.slice aoL tl.length capL],.slice aoK row.length capK] W fun r w'=>∃ g,r=.returned (.slice (some ⟨g,0,none⟩) (row.length+1) (row.length+1))/\W.heap.size<=g/\w'.heap[g]?=some (.cells (boolCells ((List.range (row.length+1)).map fl)) 4 (0,0))/\Below W.heap.size W w'):=fun W hb=>by
  rw [hfl]
  exact lmatches_any W _ _ tl row (row_kp hL (Kp.below (b0.trans (hb.mono b0.size)))) gL (hK.below (b0.trans (hb.mono b0.size)))
 have CR:Hid (∀ W,Below W0.heap.size W0 W->Calls Tryz.prog 156 #[.agg #[.slice aoR tr.length capR],.slice aoK row.length capK] W fun r w'=>∃ g,r=.returned (.slice (some ⟨g,0,none⟩) (row.length+1) (row.length+1))/\W.heap.size<=g/\w'.heap[g]?=some (.cells (boolCells ((List.range (row.length+1)).map fr)) 4 (0,0))/\Below W.heap.size W w'):=fun W hb=>by
  rw [hfr]
  exact rmatches_any W _ _ tr row (row_kp hR (Kp.below (b0.trans (hb.mono b0.size)))) gR (hK.below (b0.trans (hb.mono b0.size)))
 have m0:W0.cell? ⟨w.heap.size,0,none⟩=some (.bool c):=cell_of_block p0 0 _ rfl
 have m1:W0.cell? ⟨w.heap.size,1,none⟩=some (.slice aoL tl.length capL):=cell_of_block p0 1 _ rfl
 have m2:W0.cell? ⟨w.heap.size,2,none⟩=some (.slice aoR tr.length capR):=cell_of_block p0 2 _ rfl
 clear hW0 b0 p0 hL hR hK hC hfl hfr gL gR
 go_enter Tryz.func102,Tryz.ntmps102
 go_wp2_with fail
 rw [<- HW0.out]
 go_region_held3 (fun w'=>w'.cell? ⟨w.heap.size,0,none⟩=some (.bool c)/\w'.cell? ⟨w.heap.size,1,none⟩=some (.slice aoL tl.length capL)/\w'.cell? ⟨w.heap.size,2,none⟩=some (.slice aoR tr.length capR))
  (first | exact HH.out | exact II.out | go_keep)
  (first
   | (go_at_call 155
      refine (CL.out _ ((Below.refl _ _).drew)).mono ?_
      rintro e W1 ⟨g1,rfl,hg1,hG1,hB1⟩
      have B1:Hid (Below W0.heap.size W0 W1):=below_drew hB1
      have G1:Hid (W1.heap[g1]?=some (.cells (boolCells ((List.range (row.length+1)).map fl)) 4 (0,0))):=hG1
      have L1:Hid (W0.heap.size<=g1):=hg1
      have HH:Hid (W1.cell? ⟨w.heap.size,0,none⟩=some (.bool c)/\W1.cell? ⟨w.heap.size,1,none⟩=some (.slice aoL tl.length capL)/\W1.cell? ⟨w.heap.size,2,none⟩=some (.slice aoR tr.length capR)) :=
       ⟨(B1.out.cell (p:=⟨w.heap.size,0,none⟩) (by show w.heap.size<_;omega)).trans m0,(B1.out.cell (p:=⟨w.heap.size,1,none⟩) (by show w.heap.size<_;omega)).trans m1,(B1.out.cell (p:=⟨w.heap.size,2,none⟩) (by show w.heap.size<_;omega)).trans m2⟩
      clear hG1 hB1 hg1)
   | (go_at_call 156
      refine (CR.out _ B1.out).mono ?_
      rintro e W2 ⟨g2,rfl,hg2,hG2,hB2⟩
      have B2:Hid (Below W0.heap.size W0 W2):=B1.out.trans (hB2.mono B1.out.size)
      have G2:Hid (W2.heap[g2]?=some (.cells (boolCells ((List.range (row.length+1)).map fr)) 4 (0,0))):=hG2
      have G1b:Hid (W2.heap[g1]?=some (.cells (boolCells ((List.range (row.length+1)).map fl)) 4 (0,0))):=(hB2.block _ (heap_lt G1.out)).trans G1.out
      have L2:Hid (W0.heap.size<=g2):=Nat.le_trans B1.out.size hg2
      have II:Hid (W2.cell? ⟨w.heap.size,0,none⟩=some (.bool c)/\W2.cell? ⟨w.heap.size,1,none⟩=some (.slice aoL tl.length capL)/\W2.cell? ⟨w.heap.size,2,none⟩=some (.slice aoR tr.length capR)) :=
       ⟨(B2.out.cell (p:=⟨w.heap.size,0,none⟩) (by show w.heap.size<_;omega)).trans m0,(B2.out.cell (p:=⟨w.heap.size,1,none⟩) (by show w.heap.size<_;omega)).trans m1,(B2.out.cell (p:=⟨w.heap.size,2,none⟩) (by show w.heap.size<_;omega)).trans m2⟩
      clear hG2 hB2 hg2))
 have GW:Hid (w.grownBy W2 (some N)):=grown_of_below (BW.out.trans (B2.out.mono BW.out.size)) _
 have C2:Hid (W2.heap[N]?=some (.cells (boolCells (judgedTo c fl fr 1 cuts)) 4 (0,0))):=by
  show _=_
  rw [judgedTo_one]
  exact (B2.out.block _ (by omega)).trans C0.out
 have P2:Hid (W2.heap[w.heap.size]?=some (.cells #[.bool c,.slice aoL tl.length capL,.slice aoR tr.length capR] 157 (0,0))):=(B2.out.block _ (by omega)).trans P0.out
 have N1:Hid (g1 ≠ N/\g2 ≠ N):=⟨by have:=L1.out;omega,by have:=L2.out;omega⟩
 clear HW0 BW P0 C0 CL CR m0 m1 m2 B1 B2 G1 HH II L1 L2 hz0
 go_wp2_with fail
 go_loopg [8] (row.length - 1) (fun gh iv wx=>∃ i:Nat,1<=i/\gh=row.length - i/\iv=.int .i64 i/\Hid (i<=row.length\/i=1)/\Hid (wx.heap[N]?=some (.cells (boolCells (judgedTo c fl fr i cuts)) 4 (0,0)))/\Hid (wx.heap[w.heap.size]?=some (.cells #[.bool c,.slice aoL tl.length capL,.slice aoR tr.length capR] 157 (0,0)))/\Hid (wx.heap[g1]?=some (.cells (boolCells ((List.range (row.length+1)).map fl)) 4 (0,0)))/\Hid (wx.heap[g2]?=some (.cells (boolCells ((List.range (row.length+1)).map fr)) 4 (0,0)))/\Hid (w.grownBy wx (some N)))
 case atStart=>exact ⟨1,Nat.le_refl _,rfl,rfl,Or.inr rfl,C2,P2,G1b,G2,GW⟩
 case round =>
  obtain ⟨i,hi,rfl,rfl,hD,hC,hP,hG1,hG2,hW⟩:=hrel
  obtain ⟨w3,hw3⟩:∃ w3,w3=wr:=⟨wr,rfl⟩
  subst hw3
  clear C2 P2 G1b G2 GW
  by_cases hlt:i<row.length
  ·obtain ⟨b0,hb0⟩:∃ b0,(judgedTo c fl fr i cuts)[i]?=some b0:=⟨_,List.getElem?_eq_getElem (by rw [judgedTo_len];omega)⟩
   have c0:=cell_of_block hP.out 0 _ rfl
   have cN:=cell_of_block hC.out i _ (boolCells_at hb0)
   have cNf:=free_of_block hC.out i
   have d1:=cell_of_block hG1.out i _ (boolCells_at (told_at fl (show i<row.length+1 by omega)))
   have d2:=cell_of_block hG2.out i _ (boolCells_at (told_at fr (show i<row.length+1 by omega)))
   clear hb0
   cases e1:fl i with
   | false =>
    rw [e1] at d1
    have E:Hid (judgedTo c fl fr (i+1) cuts=judgedTo c fl fr i cuts):=judgedTo_no c fl fr cuts (Or.inl e1)
    clear e1
    go_wp2_with fail
    go_roundg (row.length - (i+1))
    case rel=>exact ⟨i+1,by omega,rfl,by go_num,Or.inl (by omega),by rw [E.out];exact hC,hP,hG1,hG2,hW⟩
    case measure=>omega
   | true =>
    rw [e1] at d1
    cases e2:fr i with
    | false =>
     rw [e2] at d2
     have E:Hid (judgedTo c fl fr (i+1) cuts=judgedTo c fl fr i cuts):=judgedTo_no c fl fr cuts (Or.inr e2)
     clear e1 e2
     go_wp2_with fail
     go_roundg (row.length - (i+1))
     case rel=>exact ⟨i+1,by omega,rfl,by go_num,Or.inl (by omega),by rw [E.out];exact hC,hP,hG1,hG2,hW⟩
     case measure=>omega
    | true =>
     rw [e2] at d2
     have E:Hid (judgedTo c fl fr (i+1) cuts=(judgedTo c fl fr i cuts).set i c):=judgedTo_yes c fl fr hi (by omega) e1 e2
     clear e1 e2
     go_wp2_with fail
     go_roundg (row.length - (i+1))
     case rel =>
      refine ⟨i+1,by omega,rfl,by go_num,Or.inl (by omega),?_,(setCell_type (by omega)).trans hP.out,(setCell_type N1.out.1).trans hG1.out,(setCell_type N1.out.2).trans hG2.out,grown_t hW.out (grown_set _ N i _)⟩
      rw [E.out]
      exact (block_setCell hC.out i _).trans (by rw [boolCells_set])
     case measure=>omega
  ·have E:Hid (judgedTo c fl fr row.length cuts=judgedTo c fl fr i cuts):=by
    show _=_
    rcases hD.out with h | h
    ·rw [show i=row.length from by omega]
    ·rw [judgedTo_low c fl fr (by omega),judgedTo_low c fl fr (by omega)]
   go_wp2_with fail
   go_end0
   exact ⟨⟨_,rfl⟩,by rw [E.out];exact hC.out,hW.out⟩
theorem mul64_one (m:Nat) (hm:m<=2300000) (w:World):Calls Tryz.prog 192 #[.int .u64 1,.int .u64 m] w fun e w'=>e=.returned (.tuple #[.int .u64 0,.int .u64 m])/\w'=w:=by
 have h:=Any.bits_Mul64 Tryz.laysMul 1 m (by omega) (by omega) w
 rw [show Tryz.laysMul_ren.f 264=192 from by kernel_rfl] at h
 rw [show 1 * m / 18446744073709551616=0 from by omega,show 1 * m % 18446744073709551616=m from by omega] at h
 exact h
set_option maxHeartbeats 1000000 in
theorem mul_one_any (m:Nat) (hm:m<=2300000) (w:World):Calls Tryz.prog 153 #[.int .u64 1,.int .u64 m] w fun e w'=>e=.returned (.tuple #[.int .u64 0,.int .u64 m])/\w'=w:=by
 have h:=mul64_one m hm w
 go_enter Tryz.func153,Tryz.ntmps153
 go_wp2_with fail
 refine h.mono ?_
 rintro r w' ⟨rfl,rfl⟩
 go_wp2_with fail
 go_ret2
 exact ⟨rfl,rfl⟩
theorem splice_trues {m n:Nat} (h:n<m):splice ((toldTo (fun _=>true) n m).map Value.bool) n (((toldTo (fun _=>true) n m).map Value.bool).take (min n (m - n)))=(toldTo (fun _=>true) (n+min n (m - n)) m).map Value.bool:=by
 have hl:((toldTo (fun _=>true) n m).map Value.bool).length=m:=by rw [List.length_map,toldTo_len]
 have hk:(((toldTo (fun _=>true) n m).map Value.bool).take (min n (m - n))).length=min n (m - n):=by rw [List.length_take,hl];omega
 have hs:(splice ((toldTo (fun _=>true) n m).map Value.bool) n (((toldTo (fun _=>true) n m).map Value.bool).take (min n (m - n)))).length=m:=by rw [length_splice _ _ _ (by rw [hk,hl];omega),hl]
 have at_:∀ k j,j<m->((toldTo (fun _=>true) k m).map Value.bool)[j]?=some (.bool (decide (j<k))):=fun k j hj=>by
  unfold toldTo
  rw [List.getElem?_map,List.getElem?_map,List.getElem?_range hj]
  by_cases hjk:j<k <;> simp [hjk]
 apply List.ext_getElem?
 intro j
 by_cases hj:j<m
 ·rw [at_ _ j hj]
  unfold splice
  rw [hk]
  by_cases h1:j<n
  ·rw [List.getElem?_append_left (by rw [List.length_take,hl];omega),List.getElem?_take,if_pos h1,at_ _ j hj]
   simp;omega
  ·have hn:(((toldTo (fun _=>true) n m).map Value.bool).take n).length=n:=by rw [List.length_take,hl];omega
   rw [List.getElem?_append_right (by rw [hn];omega),hn]
   by_cases h2:j - n<min n (m - n)
   ·rw [List.getElem?_append_left (by rw [hk];exact h2),List.getElem?_take,if_pos h2,at_ _ _ (by omega)]
    simp;omega
   ·rw [List.getElem?_append_right (by rw [hk];omega),hk,List.getElem?_drop,show n+min n (m - n)+(j - n - min n (m - n))=j from by omega,at_ _ j hj]
    simp;omega
 ·rw [List.getElem?_eq_none (by rw [hs];omega),List.getElem?_eq_none (by rw [List.length_map,toldTo_len];omega)]
set_option maxRecDepth 100000 in
set_option maxHeartbeats 2000000 in
theorem repeat_any (w:World) (q m:Nat) (hq:w.heap[q]?=some (.cells #[.bool true] 4 (0,0))) (h1:1<=m) (hm:m<=2200001) :
  Calls Tryz.prog 100 #[.slice (some ⟨q,0,none⟩) 1 1,.int .i64 m] w fun r w'=>r=.returned (.slice (some ⟨w.heap.size,0,none⟩) m m)/\w'.heap[w.heap.size]?=some (.cells (boolCells (List.replicate m true)) 4 (0,0))/\Below w.heap.size w w':=by
 have hmu:=mul_one_any m (by omega) w
 have hmk:∀ W:World,(Instr.makeSlice 108 (.int .i64 m) (.int .i64 m)).run Tryz.prog W=.ok (.slice (some ⟨W.heap.size,0,none⟩) m m) (W.alloc (.cells (boolCells (List.replicate m false)) 4)):=fun W=>make_bools W m (by omega)
 have HQ:Hid (w.heap[q]?=some (.cells #[.bool true] 4 (0,0))):=hq
 clear hq
 go_enter Tryz.func100,Tryz.ntmps100
 obtain ⟨W0,hW0⟩:∃ W0,W0=w.alloc (.cells (boolCells (List.replicate m false)) 4):=⟨_,rfl⟩
 have b0:Below w.heap.size w W0:=by rw [hW0];exact below_alloc w _
 have G0:W0.heap[w.heap.size]?=some (.cells ((toldTo (fun _=>true) 0 m).map Value.bool).toArray 4 (0,0)):=by rw [hW0,toldTo_zero];exact heap_alloc_new w _
 have hrun:=run_copy_row Tryz.prog W0 108 108 3 4 w.heap.size 0 m m ⟨q,0,none⟩ 1 1 _ 4 [.bool true] Tryz.undRowB (by kernel_rfl) G0 (Nat.min_eq_left h1).symm (fun j v hj=>by
  have hj0:j=0:=by have:=(List.getElem?_eq_some_iff.1 hj).1;simpa using this
  subst hj0
  have hv:v=.bool true:=by simpa using hj.symm
  rw [hv]
  exact (b0.cell (p:=⟨q,0,none⟩) (heap_lt HQ.out)).trans (cell_of_block HQ.out 0 _ rfl)) (by simp [toldTo_len];omega) (by simp [Value.oneCell'])
 obtain ⟨W1,hW1⟩:∃ W1,W1=W0.setRow w.heap.size (((((toldTo (fun _=>true) 0 m).map Value.bool).toArray).toList.take 0++[Value.bool true]++((((toldTo (fun _=>true) 0 m).map Value.bool).toArray).toList.drop (0+[Value.bool true].length))).toArray):=⟨_,rfl⟩
 rw [<- hW1,show goInt [Value.bool true].length=.int .i64 1 from rfl] at hrun
 have G1:Hid (W1.heap[w.heap.size]?=some (.cells ((toldTo (fun _=>true) 1 m).map Value.bool).toArray 4 (0,0))):=by
  show _=_
  rw [hW1]
  refine (setRow_heap W0 _ _ _ _ _ G0).trans ?_
  congr 2
  apply Array.toList_inj.1
  simp only [List.take_zero,List.nil_append,List.length_singleton,Nat.zero_add]
  rw [toldTo_succ _ (by omega)]
  obtain ⟨a,l,hal⟩:∃ a l,toldTo (fun _=>true) 0 m=a :: l:=by
   cases h:toldTo (fun _=>true) 0 m with
   | nil=>have:=congrArg List.length h;rw [toldTo_len] at this;simp at this;omega
   | cons a l=>exact ⟨a,l,rfl⟩
  rw [hal]
  simp
 have B1:Hid (Below w.heap.size w W1):=by rw [hW1];exact below_setRow b0 (Nat.le_refl _) _
 rw [hW0] at hrun
 clear hW1 G0 b0 hW0
 go_wp2_with fail
 refine hmu.mono ?_
 rintro r wq ⟨rfl,rfl⟩
 go_wp2_with fail
 clear hrun hmk hmu HQ
 go_loopg [8] (m - 1) (fun gh iv wx=>∃ n:Nat,1<=n/\n<=m/\gh=m - n/\iv=.int .i64 n/\Hid (wx.heap[wq.heap.size]?=some (.cells ((toldTo (fun _=>true) n m).map Value.bool).toArray 4 (0,0)))/\Hid (Below wq.heap.size wq wx))
 case atStart=>exact ⟨1,Nat.le_refl _,h1,rfl,rfl,G1,B1⟩
 case round =>
  obtain ⟨n,hn1,hnm,rfl,rfl,hG,hB⟩:=hrel
  obtain ⟨w3,hw3⟩:∃ w3,w3=wr:=⟨wr,rfl⟩
  subst hw3
  clear G1 B1
  have hs3:=hB.out.size
  by_cases hlt:n<m
  ·have hne:¬ m=n:=by omega
   obtain ⟨k,hk⟩:∃ k,k=min n (m - n):=⟨_,rfl⟩
   have hk1:1<=k:=by omega
   have hk2:k<=n:=by omega
   have hk3:n+k<=m:=by omega
   have hw1:IntKind.i64.wrap ((n:Int)+k)=(n:Int)+k:=by rw [IntKind.wrap_i64];omega
   obtain ⟨cur,hcur⟩:∃ cur,cur=(toldTo (fun _=>true) n m).map Value.bool:=⟨_,rfl⟩
   obtain ⟨cs,hcs⟩:∃ cs,cs=cur.take k:=⟨_,rfl⟩
   have hl:cur.length=m:=by rw [hcur,List.length_map,toldTo_len]
   have hcl:cs.length=k:=by rw [hcs,List.length_take,hl];omega
   have SP:Hid (splice cur n cs=(toldTo (fun _=>true) (n+k) m).map Value.bool):=by show _=_;rw [hcs,hcur,hk];exact splice_trues hlt
   have HN:Hid (cs.length=Nat.min n (m - n)):=by show _=_;rw [hcl,hk]
   have HF:Hid (n+cs.length<=cur.length):=by show _<=_;rw [hcl,hl];omega
   have H1:Hid (∀ v ∈ cs,v.oneCell'=true):=fun v hv=>by
    rw [hcs,hcur] at hv
    obtain ⟨b,_,rfl⟩:=List.mem_map.1 (List.mem_of_mem_take hv)
    rfl
   have GD:Hid (w3.drew.heap[wq.heap.size]?=some (.cells cur.toArray 4 (0,0))):=by rw [hcur];exact hG.out
   have HP:Hid (∀ j v,cs[j]?=some v->w3.drew.cell? ((⟨wq.heap.size,0,none⟩:Addr).add j)=some v):=fun j v hj=>by
    rw [hcs,List.getElem?_take] at hj
    split at hj
    ·rw [show (⟨wq.heap.size,0,none⟩:Addr).add j=⟨wq.heap.size,j,none⟩ from by simp [Addr.add];omega]
     exact cell_of_block GD.out j v (by simpa using hj)
    ·cases hj
   clear hk hcs hl hcur
   go_wp2_with fail
   go_region_law
    (refine step_copy_splice rfl (.tmp 41) (.tmp 44) 108 108 rfl 4 Tryz.undRowB (by kernel_rfl) (some ⟨wq.heap.size,n,none⟩) (some ⟨wq.heap.size,0,none⟩) (m - n) (m - n) n m (by simp [Act.eval,Act.put]) (by simp [Act.eval,Act.put]) wq.heap.size n cur 4 GD.out cs HN.out (fun _=>⟨rfl,_,rfl,HP.out⟩) HF.out H1.out wq.heap.size wq (hB.out.drew) (Nat.le_refl _) ?_
     intro w4 hG4 hB4)
   all_goals (have G4:Hid (w4.heap[wq.heap.size]?=some (.cells ((toldTo (fun _=>true) (n+k) m).map Value.bool).toArray 4 (0,0))):=by rw [<- SP.out];exact hG4.out)
   all_goals (have B4:Hid (Below wq.heap.size wq w4):=hB4)
   all_goals clear hG4 hB4 HP GD H1 HF HN SP
   all_goals go_wp2_with fail
   all_goals go_roundg (m - (n+k))
   all_goals first
    | (case measure=>omega)
    | exact ⟨n+k,by omega,by omega,rfl,by go_num,G4,B4⟩
  ·obtain rfl:n=m:=by omega
   go_wp2_with fail
   go_ret
   refine ⟨rfl,?_,hB.out⟩
   have h:=hG.out
   rw [toldTo_all] at h
   refine h.trans ?_
   congr 2
   unfold boolCells
   congr 2
   apply List.ext_getElem?
   intro i
   rw [List.getElem?_map,List.getElem?_replicate]
   by_cases hi:i<n
   ·rw [List.getElem?_range hi,if_pos hi];rfl
   ·rw [List.getElem?_eq_none (by simp;omega),if_neg hi];rfl
end Go.Proofs.YtodagkkjfipbgaaGreatDoor
namespace Go.Proofs.YtodagkkjfipbgaaGreatDoor
open Go.RowKit Go.Maps Go.Shelf
attribute [local go_sem] Oper.semAt_some
abbrev PR:Type:=Bool × Tab × Tab
def pCells (J:List PR) (vs:List (Value × Value)):List Value:=(J.zip vs).flatMap fun o=>[.bool o.1.1,o.2.1,o.2.2]
structure PRIn (w:World) (v:Value) (J:List PR) (vs:List (Value × Value)):Prop where
 len:vs.length=J.length
 row:w.ownsRow 0 157 3 v J.length (pCells J vs)
 tab:∀ (i:Nat) (r:PR) (u:Value × Value),J[i]?=some r->vs[i]?=some u->TabIn 0 w u.1 r.2.1/\TabIn 0 w u.2 r.2.2
 ok:∀ r ∈ J,TabGood r.2.1/\TabGood r.2.2
 few:J.length<=100
theorem PRIn.below {w w':World} {v:Value} {J:List PR} {vs:List (Value × Value)} (h:PRIn w v J vs) (hb:Below w.heap.size w w'):PRIn w' v J vs :=
 ⟨h.len,row_kp h.row (Kp.below hb),fun i r u hr hu=>⟨row_kp (h.tab i r u hr hu).1 (Kp.below hb),row_kp (h.tab i r u hr hu).2 (Kp.below hb)⟩,h.ok,h.few⟩
theorem pCells_at:∀ (J:List PR) (vs:List (Value × Value)) (i:Nat) (r:PR) (v:Value × Value),J[i]?=some r->vs[i]?=some v->(pCells J vs)[i * 3]?=some (.bool r.1)/\(pCells J vs)[i * 3+1]?=some v.1/\(pCells J vs)[i * 3+2]?=some v.2:=by
 intro J
 induction J with
 | nil=>intro vs i r v h;simp at h
 | cons a J ih =>
  intro vs i r v h1 h2
  cases vs with
  | nil=>simp at h2
  | cons u vs =>
   cases i with
   | zero=>simp at h1 h2;subst h1;subst h2;simp [pCells]
   | succ i =>
    simp at h1 h2
    have:=ih vs i r v h1 h2
    have e:∀ k,(pCells (a :: J) (u :: vs))[(i+1) * 3+k]?=(pCells J vs)[i * 3+k]?:=by
     intro k;rw [show (i+1) * 3+k=(i * 3+k)+3 from by omega];rfl
    have e0:=e 0
    simp only [Nat.add_zero] at e0
    rw [e0,e 1,e 2];exact this
def ruleSays (row:List Nat) (r:PR) (cs:List Bool):List Bool:=judgedTo r.1 (fun i=>tmatch r.2.1 (leftAt r.2.1 row i)) (fun i=>tmatch r.2.2 (rightAt r.2.2 row i)) row.length cs
def cutsOf (J:List PR) (row:List Nat):List Bool:=J.foldr (ruleSays row) (List.replicate (row.length+1) true)
def stepI (J:List PR) (row:List Nat) (cs:List Bool) (i:Nat):List Bool:=match J[i]? with
 | some r=>ruleSays row r cs
 | none=>cs
theorem ruleSays_len (row:List Nat) (r:PR) (cs:List Bool):(ruleSays row r cs).length=cs.length:=judgedTo_len _ _ _ _ _
theorem stepI_len (J:List PR) (row:List Nat) (cs:List Bool) (i:Nat):(stepI J row cs i).length=cs.length:=by
 unfold stepI;split
 ·exact ruleSays_len _ _ _
 ·rfl
theorem downs_fold (J:List PR) (row:List Nat) (init:List Bool):∀ (d j:Nat),d+j=J.length->(downs J.length j).foldl (stepI J row) init=(J.drop j).foldr (ruleSays row) init:=by
 intro d
 induction d with
 | zero =>
  intro j hj
  obtain rfl:j=J.length:=by omega
  rw [downs_none,List.drop_length];rfl
 | succ d ih =>
  intro j hj
  have hl:j<J.length:=by omega
  rw [downs_snoc hl,List.foldl_append,ih (j+1) (by omega),List.drop_eq_getElem_cons hl,List.foldr_cons]
  show stepI J row _ j=_
  unfold stepI
  rw [List.getElem?_eq_getElem hl]
theorem cutsOf_downs (J:List PR) (row:List Nat):(downs J.length 0).foldl (stepI J row) (List.replicate (row.length+1) true)=cutsOf J row:=downs_fold J row _ J.length 0 rfl
theorem cutsOf_len (J:List PR) (row:List Nat):(cutsOf J row).length=row.length+1:=by
 unfold cutsOf
 induction J with
 | nil=>simp
 | cons a J ih=>rw [List.foldr_cons,ruleSays_len];exact ih
def pVals (J:List PR) (vs:List (Value × Value)):List (Bool × Value × Value):=(J.zip vs).map fun o=>(o.1.1,o.2.1,o.2.2)
theorem pVals_len {J:List PR} {vs:List (Value × Value)} (h:vs.length=J.length):(pVals J vs).length=J.length:=by unfold pVals;rw [List.length_map,List.length_zip,h];omega
theorem pVals_at {J:List PR} {vs:List (Value × Value)} {i:Nat} {x:Bool × Value × Value} (h:(pVals J vs)[i]?=some x):∃ r u,J[i]?=some r/\vs[i]?=some u/\x=(r.1,u.1,u.2):=by
 unfold pVals at h
 rw [List.getElem?_map,Option.map_eq_some_iff] at h
 obtain ⟨⟨r,u⟩,h1,h2⟩:=h
 rw [List.getElem?_zip_eq_some] at h1
 exact ⟨r,u,h1.1,h1.2,h2.symm⟩
structure CMem (n0 N nB:Nat) (W:World) (vJ vK:Value) (m:Nat) (cs:List Bool):Prop where
 b0:W.heap[n0]?=some (.cells #[vJ] 89 (0,0))
 b1:W.heap[n0+1]?=some (.cells #[vK] 91 (0,0))
 b2:W.heap[N]?=some (.cells (boolCells cs) 4 (0,0))
 b3:W.heap[nB]?=some (.cells #[.slice (some ⟨N,0,none⟩) m m] 108 (0,0))
theorem CMem.blocks {n0 N nB:Nat} {W W':World} {vJ vK:Value} {m:Nat} {cs:List Bool} (h:CMem n0 N nB W vJ vK m cs) (hk:∀ (k:Nat) (cs:Array Value) (t:TypeId),W.heap[k]?=some (.cells cs t (0,0))->W'.heap[k]?=some (.cells cs t (0,0))):CMem n0 N nB W' vJ vK m cs :=
 ⟨hk _ _ _ h.b0,hk _ _ _ h.b1,hk _ _ _ h.b2,hk _ _ _ h.b3⟩
theorem CMem.below {n0 N nB:Nat} {W W':World} {vJ vK:Value} {m:Nat} {cs:List Bool} (h:CMem n0 N nB W vJ vK m cs) (hb:Below W.heap.size W W'):CMem n0 N nB W' vJ vK m cs:=h.blocks fun k _ _ hk=>(hb.block k (heap_lt hk)).trans hk
theorem CMem.said {n0 N nB:Nat} {W W':World} {vJ vK:Value} {m:Nat} {cs cs':List Bool} (h:CMem n0 N nB W vJ vK m cs) (h1:n0+1<N) (h2:N<nB) (hg:W.grownBy W' (some N)) (hN:W'.heap[N]?=some (.cells (boolCells cs') 4 (0,0))):CMem n0 N nB W' vJ vK m cs' :=
 ⟨(hg.block _ (heap_lt h.b0) (fun e=>by cases e;omega)).trans h.b0,(hg.block _ (heap_lt h.b1) (fun e=>by cases e;omega)).trans h.b1,hN,(hg.block _ (heap_lt h.b3) (fun e=>by cases e;omega)).trans h.b3⟩
theorem PRIn.part {w:World} {v:Value} {J:List PR} {vs:List (Value × Value)} (h:PRIn w v J vs) {i:Nat} {x:Bool × Value × Value} (hx:(pVals J vs)[i]?=some x) :
  ∃ (r:PR) (al ar:Option Addr) (cl cr:Nat),J[i]?=some r/\x=(r.1,.slice al r.2.1.length cl,.slice ar r.2.2.length cr)/\TabIn 0 w (.slice al r.2.1.length cl) r.2.1/\TabIn 0 w (.slice ar r.2.2.length cr) r.2.2/\TabGood r.2.1/\TabGood r.2.2:=by
 obtain ⟨r,u,h1,h2,rfl⟩:=pVals_at hx
 obtain ⟨t1,t2⟩:=h.tab i r u h1 h2
 obtain ⟨g1,g2⟩:=h.ok r (List.mem_of_getElem? h1)
 obtain ⟨al,cl,e1⟩:=row_shape t1
 obtain ⟨ar,cr,e2⟩:=row_shape t2
 rw [e1] at t1
 rw [e2] at t2
 exact ⟨r,al,ar,cl,cr,h1,by rw [e1,e2],t1,t2,g1,g2⟩
theorem PRIn.cells {w:World} {ao:Option Addr} {cap:Nat} {J:List PR} {vs:List (Value × Value)} (h:PRIn w (.slice ao J.length cap) J vs) {i:Nat} {x:Bool × Value × Value} (hx:(pVals J vs)[i]?=some x) :
  ∃ q,ao=some ⟨q,0,none⟩/\q<w.heap.size/\w.cell? ⟨q,i * 3,none⟩=some (.bool x.1)/\w.cell? ⟨q,i * 3+1,none⟩=some x.2.1/\w.cell? ⟨q,i * 3+2,none⟩=some x.2.2:=by
 obtain ⟨r,u,h1,h2,rfl⟩:=pVals_at hx
 have hi:=(List.getElem?_eq_some_iff.1 h1).1
 have hc:=pCells_at J vs i r u h1 h2
 obtain ⟨q,hq,_,hc0⟩:=row_at h.row hc.1 (by omega)
 obtain ⟨q',hq',_,hc1⟩:=row_at h.row hc.2.1 (by omega)
 obtain ⟨q'',hq'',_,hc2⟩:=row_at h.row hc.2.2 (by omega)
 rw [hq] at hq' hq''
 cases hq'
 cases hq''
 exact ⟨q,hq,cell_lt2 hc0,hc0,hc1,hc2⟩
def saidBy (J:List PR) (row:List Nat) (l:List Nat):List Bool:=l.foldl (stepI J row) (List.replicate (row.length+1) true)
theorem saidBy_len (J:List PR) (row:List Nat):∀ l,(saidBy J row l).length=row.length+1:=by
 apply snoc_ind
 ·unfold saidBy;simp
 ·intro l a ih;unfold saidBy at *;rw [List.foldl_append];exact (stepI_len _ _ _ _).trans ih
theorem saidBy_snoc (J:List PR) (row:List Nat) (l:List Nat) {i:Nat} {r:PR} (h:J[i]?=some r):saidBy J row (l++[i])=ruleSays row r (saidBy J row l):=by
 unfold saidBy
 rw [List.foldl_append]
 show stepI J row _ i=_
 unfold stepI
 rw [h]
set_option maxRecDepth 100000 in
set_option maxHeartbeats 2000000 in
theorem pcuts_any (w:World) (vJ vK:Value) (J:List PR) (vs:List (Value × Value)) (row:List Nat) (hP:PRIn w vJ J vs) (hK:KRow w vK row) :
  Calls Tryz.prog 53 #[.agg #[vJ],vK] w fun r w'=>∃ g,r=.returned (.slice (some ⟨g,0,none⟩) (row.length+1) (row.length+1))/\w.heap.size<=g/\w'.heap[g]?=some (.cells (boolCells (cutsOf J row)) 4 (0,0))/\Below w.heap.size w w':=by
 obtain ⟨aoJ,capJ,rfl⟩:=row_shape hP.row
 obtain ⟨aoK,capK,rfl⟩:=row_shape hK.own
 have HP:Hid (PRIn w (.slice aoJ J.length capJ) J vs):=hP
 have HK:Hid (KRow w (.slice aoK row.length capK) row):=hK
 have hfew:=hK.few
 have hJl:=hP.few
 have HL:Hid ((pVals J vs).length=J.length):=pVals_len hP.len
 obtain ⟨W0,hW0⟩:∃ W0,W0=((w.alloc (.cells #[.slice aoJ J.length capJ] 89)).alloc (.cells #[.slice aoK row.length capK] 91)).alloc (.cells #[.bool true] 4):=⟨_,rfl⟩
 have HW0:Hid (W0=((w.alloc (.cells #[.slice aoJ J.length capJ] 89)).alloc (.cells #[.slice aoK row.length capK] 91)).alloc (.cells #[.bool true] 4)):=hW0
 have hz:W0.heap.size=w.heap.size+3:=by rw [hW0];simp
 have B0:Hid (Below w.heap.size w W0):=by rw [hW0];exact ((below_alloc w _).alloc (by simp) _).alloc (by simp;omega) _
 have p0:W0.heap[w.heap.size]?=some (.cells #[.slice aoJ J.length capJ] 89 (0,0)):=by rw [hW0];exact (Below.heap_alloc _ _ _ (by simp;omega)).trans ((Below.heap_alloc _ _ _ (by simp)).trans (heap_alloc_new w _))
 have p1:W0.heap[w.heap.size+1]?=some (.cells #[.slice aoK row.length capK] 91 (0,0)):=by rw [hW0];exact (Below.heap_alloc _ _ _ (by simp)).trans ((show (w.alloc (.cells #[.slice aoJ J.length capJ] 89)).heap.size=w.heap.size+1 by simp) ▸ heap_alloc_new (w.alloc _) _)
 have p2:W0.heap[w.heap.size+2]?=some (.cells #[.bool true] 4 (0,0)):=by rw [hW0];exact (show ((w.alloc (.cells #[.slice aoJ J.length capJ] 89)).alloc (.cells #[.slice aoK row.length capK] 91)).heap.size=w.heap.size+2 by simp) ▸ heap_alloc_new ((w.alloc _).alloc _) _
 have P0:Hid (W0.heap[w.heap.size]?=some (.cells #[.slice aoJ J.length capJ] 89 (0,0))):=p0
 have P1:Hid (W0.heap[w.heap.size+1]?=some (.cells #[.slice aoK row.length capK] 91 (0,0))):=p1
 have c1:=cell_of_block p1 0 _ rfl
 have hrep:Calls Tryz.prog 100 #[.slice (some ⟨w.heap.size+2,0,none⟩) 1 1,.int .i64 ((row.length:Int)+1)] W0 fun r w'=>r=.returned (.slice (some ⟨W0.heap.size,0,none⟩) (row.length+1) (row.length+1))/\w'.heap[W0.heap.size]?=some (.cells (boolCells (List.replicate (row.length+1) true)) 4 (0,0))/\Below W0.heap.size W0 w':=repeat_any W0 (w.heap.size+2) (row.length+1) p2 (by omega) (by omega)
 rw [hz] at hrep
 have c1':=c1
 rw [hW0] at c1'
 have HREP:Hid (Calls Tryz.prog 100 #[.slice (some ⟨w.heap.size+2,0,none⟩) 1 1,.int .i64 ((row.length:Int)+1)] W0 fun r w'=>r=.returned (.slice (some ⟨w.heap.size+3,0,none⟩) (row.length+1) (row.length+1))/\w'.heap[w.heap.size+3]?=some (.cells (boolCells (List.replicate (row.length+1) true)) 4 (0,0))/\Below (w.heap.size+3) W0 w'):=hrep
 clear hP hK hW0 p0 p1 p2 hrep c1
 refine (callsIn_wide (n:=3)).1 ?_
 refine callsIn_of_wp_marks Tryz.func53 rfl trivial ?_ rfl
 simp only [Tryz.ntmps53,List.size_toArray,List.length_cons,List.length_nil,Nat.reduceAdd,Nat.reduceSub,Array.replicate_succ,Array.replicate_zero,List.push_toArray,List.append_toArray,List.nil_append,List.cons_append]
 gi_wp2
 refine ⟨trivial,?_⟩
 rw [<- HW0.out]
 refine (callsIn_wide.2 HREP.out).mono ?_
 rintro r W1 ⟨rfl,hG,hB⟩
 have hz1:w.heap.size+4<=W1.heap.size:=heap_lt hG
 have B1:Hid (Below w.heap.size w W1):=B0.out.trans (hB.mono (by omega))
 have q0:W1.heap[w.heap.size]?=some (.cells #[.slice aoJ J.length capJ] 89 (0,0)):=(hB.block _ (by omega)).trans P0.out
 have q1:W1.heap[w.heap.size+1]?=some (.cells #[.slice aoK row.length capK] 91 (0,0)):=(hB.block _ (by omega)).trans P1.out
 have Q0:Hid (W1.heap[w.heap.size]?=some (.cells #[.slice aoJ J.length capJ] 89 (0,0))):=q0
 have Q1:Hid (W1.heap[w.heap.size+1]?=some (.cells #[.slice aoK row.length capK] 91 (0,0))):=q1
 have QG:Hid (W1.heap[w.heap.size+3]?=some (.cells (boolCells (List.replicate (row.length+1) true)) 4 (0,0))):=hG
 have c0:=fun o=>((below_alloc W1 o).cell (p:=⟨w.heap.size,0,none⟩) (heap_lt q0)).trans (cell_of_block q0 0 _ rfl)
 clear HW0 B0 P0 P1 hB hG q0 q1 HREP c1' hz
 obtain ⟨nB,hnB⟩:∃ nB,nB=W1.heap.size:=⟨_,rfl⟩
 gi_wp2_with (refine ⟨trivial,?_⟩;gi_at_call 101;refine (bwR_in Fence.wide _ trivial rfl _ _ _ _).mono ?_;rintro e w' ⟨rfl,rfl⟩)
 clear hnB nB
 obtain ⟨W2,hW2⟩:∃ W2,W2=(W1.alloc (.cells #[.slice (some ⟨w.heap.size+3,0,none⟩) (row.length+1) (row.length+1)] 108)).alloc (.cells #[.slice aoJ J.length capJ] 87):=⟨_,rfl⟩
 rw [<- hW2]
 have b12:Below W1.heap.size W1 W2:=by rw [hW2];exact (below_alloc W1 _).alloc (by simp) _
 have hz2:W2.heap.size=W1.heap.size+2:=by rw [hW2];simp
 have hBs:W2.heap[W1.heap.size+1]?=some (.cells #[.slice aoJ J.length capJ] 87 (0,0)):=by rw [hW2];exact (show (W1.alloc (.cells #[.slice (some ⟨w.heap.size+3,0,none⟩) (row.length+1) (row.length+1)] 108)).heap.size=W1.heap.size+1 by simp) ▸ heap_alloc_new (W1.alloc _) _
 have M2:CMem w.heap.size (w.heap.size+3) W1.heap.size W2 (.slice aoJ J.length capJ) (.slice aoK row.length capK) (row.length+1) (saidBy J row (wheres ([]:List (At (pVals J vs))))):=by
  refine ⟨(b12.block _ (by omega)).trans Q0.out,(b12.block _ (by omega)).trans Q1.out,(b12.block _ (by omega)).trans QG.out,?_⟩
  rw [hW2]
  exact (Below.heap_alloc _ _ _ (by simp)).trans (heap_alloc_new W1 _)
 have B2:Below w.heap.size w W2:=B1.out.trans (b12.mono (by omega))
 have hcells:∀ j k,(pVals J vs)[j]?=some k->∃ q,aoJ=some ⟨q,0,none⟩/\q<w.heap.size/\W2.cell? ⟨q,j * 3,none⟩=some (.bool k.1)/\W2.cell? ⟨q,j * 3+1,none⟩=some k.2.1/\W2.cell? ⟨q,j * 3+2,none⟩=some k.2.2:=by
  intro j k hk
  obtain ⟨q,h1,h2,h3,h4,h5⟩:=HP.out.cells hk
  exact ⟨q,h1,h2,(B2.cell (p:=⟨q,j * 3,none⟩) h2).trans h3,(B2.cell (p:=⟨q,j * 3+1,none⟩) h2).trans h4,(B2.cell (p:=⟨q,j * 3+2,none⟩) h2).trans h5⟩
 have hst:=bwR_stops Fence.wide 2 trivial rfl (by omega) (W1.heap.size+1) w.heap.size capJ aoJ (pVals J vs) (by rw [HL.out];omega) W2 87 (by omega) (by rw [HL.out];exact hBs) hcells
 clear hW2 Q0 Q1 QG B1 b12 c0 hcells hBs
 refine wpIn_rangeFunc_ownH rfl (by omega) (gf:=154) (lb:=#[.pointer (some ⟨W1.heap.size+1,0,none⟩)]) rfl trivial (enters_of Tryz.func154 (by kernel_rfl) rfl)
  hst keepsAt_t (keepsAt_b (by omega) (by omega)) (Below.refl _ _) (fun _=>rfl)
  (fun pre W=>CMem w.heap.size (w.heap.size+3) W1.heap.size W (.slice aoJ J.length capJ) (.slice aoK row.length capK) (row.length+1) (saidBy J row (wheres pre))/\(Below w.heap.size w W/\W2.heap.size<=W.heap.size))
  (fun _ _ _=>False)
  (OwnFrom.and (Own.from (fun s A B row hs hg hr=>hs.blocks fun k cs t hk=>block_kept hg hr hk) _) (OwnFrom.and (ownFrom_below (Nat.le_refl _) (by omega)) (fun s A B row hs hg hr=>Nat.le_trans hs hg.size)))
  (fun _ _ _ _ _ hs _ _=>hs)
  ⟨M2,B2,Nat.le_refl _⟩
  (fun x a' W=>∃ Bx,W.heap[Bx]?=some (.cells #[.bool x.1.2.1,x.1.2.2.1,x.1.2.2.2] 157 (0,0))/\a'={ tmps:=#[.agg #[.slice aoJ J.length capJ],.slice aoK row.length capK,.pointer (some ⟨w.heap.size,0,none⟩),.pointer (some ⟨w.heap.size+1,0,none⟩),.slice none 0 0,.pointer (some ⟨W1.heap.size,0,none⟩),undef,.pointer (some ⟨Bx,0,none⟩),.slice (some ⟨w.heap.size+1+1,0,none⟩) 1 1,.slice aoK row.length capK,.int .i64 row.length,.int .i64 (row.length+1),.slice (some ⟨w.heap.size+3,0,none⟩) (row.length+1) (row.length+1),.pointer (some ⟨w.heap.size,0,none⟩),.slice aoJ J.length capJ,.func (.func 154) #[] #[.pointer (some ⟨W1.heap.size+1,0,none⟩)],.int .i64 (x.1.1:Nat),.agg #[.bool x.1.2.1,x.1.2.2.1,x.1.2.2.2],undef,undef,undef,undef,undef],defers:=[] })
  (fun x a' _ X Y row hs hg hr=>by obtain ⟨Bx,h2,h3⟩:=hs;exact ⟨Bx,block_kept hg (fun r e=>(hr r e).2) h2,h3⟩)
  ?assign ?body ?done ?stop
 case assign =>
  rintro l pre ⟨⟨i,x⟩,hx⟩ W K ⟨hM,hB,hS⟩ hK
  obtain ⟨r,al,ar,cl,cr,h1,rfl,t1,t2,g1,g2⟩:=HP.out.part hx
  have HM:Hid (CMem w.heap.size (w.heap.size+3) W1.heap.size W (.slice aoJ J.length capJ) (.slice aoK row.length capK) (row.length+1) (saidBy J row (wheres pre))):=hM
  have HB:Hid (Below w.heap.size w W):=hB
  clear hM hB t1 t2 g1 g2 M2 B2 hst
  gi_wp2
  exact hK _ _ ((KeepsOthers.alloc _ _).from _) ⟨(Below.refl _ W).alloc HB.out.size _,Below.heap_alloc _ _ _ (by omega)⟩ ⟨HM.out.below (below_alloc W _),HB.out.alloc HB.out.size _,by simp;omega⟩ ⟨W.heap.size,heap_alloc_new W _,rfl⟩
 case body =>
  rintro l pre ⟨⟨i,x⟩,hx⟩ a' W hl _ ⟨hM,hB,hS⟩ ⟨Bx,hX,rfl⟩ _
  obtain ⟨r,al,ar,cl,cr,h1,rfl,t1,t2,g1,g2⟩:=HP.out.part hx
  have HM:Hid (CMem w.heap.size (w.heap.size+3) W1.heap.size W (.slice aoJ J.length capJ) (.slice aoK row.length capK) (row.length+1) (saidBy J row (wheres pre))):=hM
  have HB:Hid (Below w.heap.size w W):=hB
  have E:Hid (saidBy J row (wheres (pre++[⟨(i,(r.1,.slice al r.2.1.length cl,.slice ar r.2.2.length cr)),hx⟩]))=ruleSays row r (saidBy J row (wheres pre))):=by
   show _=_
   unfold wheres
   rw [List.map_append]
   exact saidBy_snoc J row _ h1
  have x0:=cell_of_block hX 0 _ rfl
  have x1:=cell_of_block hX 1 _ rfl
  have x2:=cell_of_block hX 2 _ rfl
  have c1:=cell_of_block hM.b1 0 _ rfl
  have c3:=cell_of_block hM.b3 0 _ rfl
  have hcall:=(callsIn_wide (n:=0)).2 (judge_any W r.1 (.slice al r.2.1.length cl) (.slice ar r.2.2.length cr) (.slice aoK row.length capK) r.2.1 r.2.2 row (w.heap.size+3) _ (row_kp t1 (Kp.below hB)) g1 (row_kp t2 (Kp.below hB)) g2 (HK.out.below hB) hM.b2 (saidBy_len J row _))
  clear hM hB t1 t2 g1 g2 M2 B2 hst hX h1
  dsimp only at x0 x1 x2
  have hd:1<=3 - 1 - 1:=by omega
  gi_wp2_with (refine ⟨trivial,?_⟩;gi_at_call 102;refine (CallsIn.inRound l hcall).mono ?_;rintro e W3 ⟨⟨v,rfl⟩,hN,hG⟩)
  have bb:Below w.heap.size W W3:=(Below.refl _ W).grown hG (by omega) (fun k e=>by cases e;omega)
  refine ⟨KeepsFrom.of_grownBy hG (fun j e=>by cases e;omega),⟨bb,hG.block _ (by omega) (fun e=>by have:=Option.some.inj e;omega)⟩,?_,HB.out.trans bb,by have:=hG.size;omega⟩
  rw [E.out]
  exact HM.out.said (by omega) (by omega) hG hN
 case done =>
  rintro D ys W hD hS ⟨hM,hB,_⟩ hK
  have c2:=cell_of_block hM.b3 0 _ rfl
  have HM:Hid (CMem w.heap.size (w.heap.size+3) W1.heap.size W (.slice aoJ J.length capJ) (.slice aoK row.length capK) (row.length+1) (saidBy J row (wheres ys))):=hM
  have HB:Hid (Below w.heap.size w W):=hB
  clear hM hB M2 B2 hst
  gi_wp2
  refine ⟨by simp,.inl ⟨_,_,rfl,run_takeDeferred hK,?_⟩⟩
  refine ⟨_,results_tmp rfl _ _ _,w.heap.size+3,rfl,by omega,?_,HB.out.trans (belowK_b (w:=w) (Nat.le_refl _) W D _ _ (by omega) hK rfl rfl)⟩
  have e:saidBy J row (wheres ys)=cutsOf J row:=by rw [hS,HL.out];exact cutsOf_downs J row
  rw [<- e]
  exact block_put hK rfl _ HM.out.b2
 case stop =>
  rintro D c pre W _ _ h _
  exact h.elim
end Go.Proofs.YtodagkkjfipbgaaGreatDoor
