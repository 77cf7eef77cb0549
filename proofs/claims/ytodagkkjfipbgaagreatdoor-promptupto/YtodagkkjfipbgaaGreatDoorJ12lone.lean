import Derived.Test.YtodagkkjfipbgaaGreatDoorM3toN1
namespace Go.Proofs.YtodagkkjfipbgaaGreatDoor
open Go.RowKit Go.Maps
set_option maxRecDepth 100000 in
set_option maxHeartbeats 4000000 in
theorem pmake_any (lb:Nat) (vL:Value) (Ls:List RuleM) (w:World) (hL:LIn lb w vL Ls) (hok:∀ L ∈ Ls,RuleOk L) (hlen:Ls.length<=100) :
  Calls Tryz.prog 43 #[vL] w fun r w'=>∃ v ao n cap,r=.returned (.agg #[v])/\v=.slice ao n cap/\JIn w.heap.size w' v Ls/\Below w.heap.size w w':=by
 obtain ⟨ao,cap,rfl,hf⟩:=hL.form
 have HF:Hid (∀ i (hi:i<Ls.length),∃ g aL cL aR cR tL tR,ao=some ⟨g,0,none⟩/\g<w.heap.size/\MRow w 0 (.slice aL Ls[i].SL.length cL) Ls[i].SL tL/\MRow w 0 (.slice aR Ls[i].SR.length cR) Ls[i].SR tR /\
  w.cell? ⟨g,i * 5,none⟩=some (.bool Ls[i].cut)/\w.cell? ⟨g,i * 5+1,none⟩=some (.slice aL Ls[i].SL.length cL)/\w.cell? ⟨g,i * 5+2,none⟩=some (.int .i64 (Ls[i].fL:Nat))/\w.cell? ⟨g,i * 5+3,none⟩=some (.slice aR Ls[i].SR.length cR)/\w.cell? ⟨g,i * 5+4,none⟩=some (.int .i64 (Ls[i].fR:Nat))):=hf
 clear hL hf
 have Q0:Hid (((w.alloc (.cells #[.slice none 0 0] 89)).alloc (.cells #[.slice none 0 0] 89)).heap[w.heap.size+1]?=some (.cells #[.slice none 0 0] 89 (0,0))):=by
  show _=_
  exact (show ((w.alloc (.cells #[.slice none 0 0] 89)).heap.size)=w.heap.size+1 by simp) ▸ heap_alloc_new (w.alloc _) _
 have R0:Hid (((w.alloc (.cells #[.slice none 0 0] 89)).alloc (.cells #[.slice none 0 0] 89)).heap[w.heap.size]?=some (.cells #[.slice none 0 0] 89 (0,0))):=by
  show _=_
  rw [Below.heap_alloc _ _ _ (by simp)];exact heap_alloc_new w _
 have B0:Hid (Below w.heap.size w ((w.alloc (.cells #[.slice none 0 0] 89)).alloc (.cells #[.slice none 0 0] 89))):=(below_alloc w _).alloc (by simp) _
 go_enter Tryz.func43,Tryz.ntmps43
 go_wp2_with fail
 go_loopg [8] Ls.length (fun gh iv wx=>∃ (i:Nat) (aoJ:Option Addr) (n capJ:Nat),i<=Ls.length/\gh=Ls.length - i/\iv=.int .i64 i/\Hid (wx.heap[w.heap.size+1]?=some (.cells #[.slice aoJ n capJ] 89 (0,0)))/\Hid (wx.heap[w.heap.size]?=some (.cells #[.slice none 0 0] 89 (0,0)))/\Hid (JIn w.heap.size wx (.slice aoJ n capJ) (Ls.take i))/\Hid (Below w.heap.size w wx))
 case atStart=>exact ⟨0,none,0,0,Nat.zero_le _,rfl,rfl,Q0,R0,JIn.nil _ _,B0⟩
 case round =>
  obtain ⟨i,aoJ,n,capJ,hi,rfl,rfl,hQ,hR,hJ,hB⟩:=hrel
  obtain ⟨w1,hw1⟩:∃ w1,w1=wr:=⟨wr,rfl⟩
  subst hw1
  clear Q0 R0 B0
  have hs1:=hB.out.size
  by_cases hlt:i<Ls.length
  ·obtain ⟨g,aL,cL,aR,cR,tL,tR,rfl,hg,hML,hMR,c0,c1,c2,c3,c4⟩:=HF.out i hlt
   have HOK:Hid (RuleOk Ls[i]):=hok _ (List.getElem_mem hlt)
   have HT:Hid (Ls.take (i+1)=Ls.take i++[Ls[i]]):=by show _=_;rw [List.take_add_one,List.getElem?_eq_getElem hlt];rfl
   generalize Ls[i]=L at *
   have d0:=(hB.out.cell (p:=⟨g,i * 5,none⟩) hg).trans c0
   have d1:=(hB.out.cell (p:=⟨g,i * 5+1,none⟩) hg).trans c1
   have d2:=(hB.out.cell (p:=⟨g,i * 5+2,none⟩) hg).trans c2
   have d3:=(hB.out.cell (p:=⟨g,i * 5+3,none⟩) hg).trans c3
   have d4:=(hB.out.cell (p:=⟨g,i * 5+4,none⟩) hg).trans c4
   clear c0 c1 c2 c3 c4
   obtain ⟨W0,hW0⟩:∃ W0,W0=w1.alloc (.cells #[.bool L.cut,.slice aL L.SL.length cL,.int .i64 (L.fL:Nat),.slice aR L.SR.length cR,.int .i64 (L.fR:Nat)] 148):=⟨_,rfl⟩
   have HW0:Hid (W0=w1.alloc (.cells #[.bool L.cut,.slice aL L.SL.length cL,.int .i64 (L.fL:Nat),.slice aR L.SR.length cR,.int .i64 (L.fR:Nat)] 148)):=hW0
   have b0:Below w1.heap.size w1 W0:=by rw [hW0];exact below_alloc w1 _
   have hz0:W0.heap.size=w1.heap.size+1:=by rw [hW0];simp
   have p0:W0.heap[w1.heap.size]?=some (.cells #[.bool L.cut,.slice aL L.SL.length cL,.int .i64 (L.fL:Nat),.slice aR L.SR.length cR,.int .i64 (L.fR:Nat)] 148 (0,0)):=by rw [hW0];exact heap_alloc_new w1 _
   have hq1:w.heap.size+1<w1.heap.size:=heap_lt hQ.out
   have j0:W0.heap[w.heap.size+1]?=some (.cells #[.slice aoJ n capJ] 89 (0,0)):=by rw [b0.block _ hq1];exact hQ.out
   have P0:Hid (W0.heap[w1.heap.size]?=some (.cells #[.bool L.cut,.slice aL L.SL.length cL,.int .i64 (L.fL:Nat),.slice aR L.SR.length cR,.int .i64 (L.fR:Nat)] 148 (0,0))):=p0
   have J0:Hid (W0.heap[w.heap.size+1]?=some (.cells #[.slice aoJ n capJ] 89 (0,0))):=j0
   have BW:Hid (Below w.heap.size w W0):=hB.out.trans (b0.mono hs1)
   have BB:Hid (Below w1.heap.size w1 W0):=b0
   have CL:Hid (∀ W,Below W0.heap.size W0 W->Calls Tryz.prog 81 #[.agg #[.slice aL L.SL.length cL,.int .i64 (L.fL:Nat)]] W (SidePost (nxA (graphOf true L.SL) L.fL) 0 [reach (graphOf true L.SL) L.fL] (fun v=>.agg #[v]) W)):=fun W hb=>left_any L.SL HOK.out.sl HOK.out.cl _ tL L.fL W ((hML.later (BW.out.trans (hb.mono BW.out.size)))) HOK.out.fl
   have CR:Hid (∀ W,Below W0.heap.size W0 W->Calls Tryz.prog 82 #[.agg #[.slice aR L.SR.length cR,.int .i64 (L.fR:Nat)]] W (SidePost (nxA (graphOf false L.SR) 0) L.fR [reach (graphOf false L.SR) 0] (fun v=>.agg #[v]) W)):=fun W hb=>right_any L.SR HOK.out.sr HOK.out.cr _ tR L.fR W ((hMR.later (BW.out.trans (hb.mono BW.out.size)))) HOK.out.fr
   have m0:W0.cell? ⟨w1.heap.size,0,none⟩=some (.bool L.cut):=cell_of_block p0 0 _ rfl
   have m1:W0.cell? ⟨w1.heap.size,1,none⟩=some (.slice aL L.SL.length cL):=cell_of_block p0 1 _ rfl
   have m2:W0.cell? ⟨w1.heap.size,2,none⟩=some (.int .i64 (L.fL:Nat)):=cell_of_block p0 2 _ rfl
   have m3:W0.cell? ⟨w1.heap.size,3,none⟩=some (.slice aR L.SR.length cR):=cell_of_block p0 3 _ rfl
   have m4:W0.cell? ⟨w1.heap.size,4,none⟩=some (.int .i64 (L.fR:Nat)):=cell_of_block p0 4 _ rfl
   have mj:W0.cell? ⟨w.heap.size+1,0,none⟩=some (.slice aoJ n capJ):=cell_of_block j0 0 _ rfl
   clear hW0 b0 p0 j0 hML hMR
   go_wp2_with fail
   rw [<- HW0.out]
   obtain ⟨vs,jl,jrow,j3⟩:=hJ.out
   have JR:Hid (w1.ownsRow w.heap.size 157 3 (.slice aoJ n capJ) (Ls.take i).length (judgeCells (Ls.take i) vs)):=jrow
   have JL:Hid (vs.length=(Ls.take i).length):=jl
   have J3:Hid (∀ (i':Nat) (L:RuleM) (u:Value × Value),(Ls.take i)[i']?=some L->vs[i']?=some u->LeftIn w1 u.1 L.SL L.fL/\RightIn w1 u.2 L.SR L.fR):=j3
   have hn:n=(Ls.take i).length:=by obtain ⟨_,_,e⟩:=row_shape jrow;injection e
   have hn9:n<=100:=by rw [hn,List.length_take];omega
   have HN:Hid (n=(Ls.take i).length):=hn
   clear jrow jl j3 hn
   go_region_law (first
    | (refine step_fn1 rfl 81 (.tmp 17) _ rfl (enters_of Tryz.func81 (by kernel_rfl) rfl) (.agg #[.slice aL L.SL.length cL,.int .i64 (L.fL:Nat)]) (by simp [Act.eval]) _ (CL.out _ ((Below.refl _ _).drew)) ?_
       intro e W1 hpost
       obtain ⟨v1,ao1,n1,cap1,rfl,rfl,hS1,hB1⟩:=SideIn.of hpost
       refine ⟨_,rfl,?_⟩
       have S1:Hid (LeftIn W1 (.slice ao1 n1 cap1) L.SL L.fL):=hS1
       have B1:Hid (Below W0.heap.size W0 W1):=below_drew hB1
       have n0:=(B1.out.cell (p:=⟨w1.heap.size,0,none⟩) (by show w1.heap.size<_;omega)).trans m0
       have n3:=(B1.out.cell (p:=⟨w1.heap.size,3,none⟩) (by show w1.heap.size<_;omega)).trans m3
       have n4:=(B1.out.cell (p:=⟨w1.heap.size,4,none⟩) (by show w1.heap.size<_;omega)).trans m4
       have nj:=(B1.out.cell (p:=⟨w.heap.size+1,0,none⟩) (by show w.heap.size+1<_;omega)).trans mj
       clear hpost hS1 hB1)
    | (refine step_fn1 rfl 82 (.tmp 20) _ rfl (enters_of Tryz.func82 (by kernel_rfl) rfl) (.agg #[.slice aR L.SR.length cR,.int .i64 (L.fR:Nat)]) (by simp [Act.eval]) _ (CR.out _ B1.out) ?_
       intro e W2 hpost
       obtain ⟨v2,ao2,n2,cap2,rfl,rfl,hS2,hB2⟩:=SideIn.of hpost
       refine ⟨_,rfl,?_⟩
       have S2:Hid (RightIn W2 (.slice ao2 n2 cap2) L.SR L.fR):=hS2
       have S1b:Hid (LeftIn W2 (.slice ao1 n1 cap1) L.SL L.fL):=S1.out.kpa (Kp.below hB2)
       have B2:Hid (Below W0.heap.size W0 W2):=B1.out.trans (hB2.mono B1.out.size)
       have hz2:=B2.out.size
       have B3:Hid (Below w1.heap.size w1 (W2.alloc (.cells #[.bool L.cut,.slice ao1 n1 cap1,.slice ao2 n2 cap2] 157))):=(BB.out.trans (B2.out.mono (by omega))).alloc (by omega) _
       have R3:Hid ((W2.alloc (.cells #[.bool L.cut,.slice ao1 n1 cap1,.slice ao2 n2 cap2] 157)).ownsRow w.heap.size 157 3 (.slice aoJ n capJ) n (judgeCells (Ls.take i) vs)):=by rw [HN.out];exact row_kp (HN.out ▸ JR.out) (Kp.below B3.out)
       have J32:Hid (∀ (i':Nat) (L':RuleM) (u:Value × Value),(Ls.take i)[i']?=some L'->vs[i']?=some u->LeftIn (W2.alloc (.cells #[.bool L.cut,.slice ao1 n1 cap1,.slice ao2 n2 cap2] 157)) u.1 L'.SL L'.fL/\RightIn (W2.alloc (.cells #[.bool L.cut,.slice ao1 n1 cap1,.slice ao2 n2 cap2] 157)) u.2 L'.SR L'.fR):=fun i' L' u h1 h2=>⟨(J3.out i' L' u h1 h2).1.kpa (Kp.below B3.out),(J3.out i' L' u h1 h2).2.kpa (Kp.below B3.out)⟩
       have S3:Hid (RightIn (W2.alloc (.cells #[.bool L.cut,.slice ao1 n1 cap1,.slice ao2 n2 cap2] 157)) (.slice ao2 n2 cap2) L.SR L.fR/\LeftIn (W2.alloc (.cells #[.bool L.cut,.slice ao1 n1 cap1,.slice ao2 n2 cap2] 157)) (.slice ao1 n1 cap1) L.SL L.fL):=⟨S2.out.kpa (Kp.below (below_alloc W2 _)),S1b.out.kpa (Kp.below (below_alloc W2 _))⟩
       have QJ:Hid ((W2.alloc (.cells #[.bool L.cut,.slice ao1 n1 cap1,.slice ao2 n2 cap2] 157)).heap[w.heap.size+1]?=some (.cells #[.slice aoJ n capJ] 89 (0,0))):=by show _=_;rw [B3.out.block _ hq1];exact hQ.out
       have QR:Hid ((W2.alloc (.cells #[.bool L.cut,.slice ao1 n1 cap1,.slice ao2 n2 cap2] 157)).heap[w.heap.size]?=some (.cells #[.slice none 0 0] 89 (0,0))):=by show _=_;rw [B3.out.block _ (heap_lt hR.out)];exact hR.out
       have o0:=(B2.out.cell (p:=⟨w1.heap.size,0,none⟩) (by show w1.heap.size<_;omega)).trans m0
       have oj:=(B2.out.cell (p:=⟨w.heap.size+1,0,none⟩) (by show w.heap.size+1<_;omega)).trans mj
       have oj':=fun o=>((below_alloc W2 o).cell (p:=⟨w.heap.size+1,0,none⟩) (by show w.heap.size+1<_;omega)).trans oj
       clear hpost hS2 hB2)
    | (refine step_push2 rfl (.tmp 13) (.tmp 23) 87 rfl w.heap.size 157 (.agg #[.bool false,.slice none 0 0,.slice none 0 0]) 3 56 Tryz.infoJr Tryz.undJr rfl (by decide) (.slice aoJ n capJ) n (judgeCells (Ls.take i) vs) (by simp [Act.eval]) R3.out W2.heap.size 1 [.bool L.cut,.slice ao1 n1 cap1,.slice ao2 n2 cap2] (by simp [Act.eval]) rfl (three_new W2 L.cut _ _) (three_one _ _ _ rfl rfl) (by omega) (by omega) (by simp;omega) ?_
       intro v' W3 hown hgr hsn
       obtain ⟨ao',cap',rfl⟩:=row_shape hown
       have JN:Hid (JIn w.heap.size W3 (.slice ao' (n+1) cap') (Ls.take (i+1))):=by
        rw [HT.out]
        exact JIn.push (v:=.slice aoJ n capJ) JL.out J32.out (HN.out ▸ R3.out) hgr S3.out.2 S3.out.1 (HN.out ▸ hown)
       have hq3:=kept_grown QJ.out (Kp.refl _ _) R3.out hgr (by decide)
       have QJ3:Hid (W3.heap[w.heap.size+1]?=some (.cells #[.slice aoJ n capJ] 89 (0,0))):=hq3
       have QR3:Hid (W3.heap[w.heap.size]?=some (.cells #[.slice none 0 0] 89 (0,0))):=kept_grown QR.out (Kp.refl _ _) R3.out hgr (by decide)
       have B4:Hid (Below w.heap.size w W3):=(hB.out.trans (B3.out.mono hs1)).grown hgr (by simp;omega) (fun k hk=>(R3.out.lt k hk).1)
       have i0:=cell_of_block hq3 0 _ rfl
       have if0:=free_of_block hq3
       clear hown hgr hsn hq3))
   all_goals go_wp2_with fail
   all_goals go_roundg (Ls.length - (i+1))
   all_goals first
    | (case measure=>omega)
    | skip
   all_goals
    refine ⟨i+1,ao',n+1,cap',by omega,rfl,by go_num,(block_setCell QJ3.out 0 _).trans rfl,?_,JN.out.kp ((Kp.refl _ _).setCell QJ3.out (by decide) _) ((Kp.refl _ _).setCell QJ3.out (by decide) _),B4.out.setCell (by show w.heap.size<=w.heap.size+1;omega) _⟩
    show _=_
    rw [Below.heap_setCell _ _ _ _ (by show w.heap.size ≠ w.heap.size+1;omega)];exact QR3.out
  ·have e:Hid (Ls.take i=Ls):=List.take_of_length_le (by omega)
   have j0:=cell_of_block hQ.out 0 _ rfl
   have r0:=cell_of_block hR.out 0 _ rfl
   have rf:=free_of_block hR.out
   go_wp2_with fail
   refine bodyPost_ret (results_cell_row rfl _ _ w.heap.size 89 #[.slice aoJ n capJ] (0,0) _ rfl ((block_setCell hR.out 0 _).trans rfl) Tryz.underlying89 rfl (by kernel_rfl)) rfl ?_
   refine ⟨_,aoJ,n,capJ,rfl,rfl,?_,hB.out.setCell (Nat.le_refl _) _⟩
   have:=hJ.out
   rw [e.out] at this
   exact this.kp ((Kp.refl _ _).setCell hR.out (by decide) _) ((Kp.refl _ _).setCell hR.out (by decide) _)
end Go.Proofs.YtodagkkjfipbgaaGreatDoor
