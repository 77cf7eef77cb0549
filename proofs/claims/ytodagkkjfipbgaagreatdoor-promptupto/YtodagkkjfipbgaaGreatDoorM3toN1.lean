import Derived.Test.YtodagkkjfipbgaaGreatDoorK9toJ10
namespace Go.Proofs.YtodagkkjfipbgaaGreatDoor
open Go.RowKit Go.Maps
theorem step_fn2 {P:Program} {w:World} {ops:Array Oper} {o:Oper} {a:Act} {K:Act->World->Prop} {Q:Exit->Act->World->Prop} {E:Prop} (hgd:o.guard=none) (f:Nat) (x y:Operand) (ts:Array TypeId)
  (ho:o.op=.call { callee:=.value (.func f),args:=#[x,y],argTypes:=ts }) (he:Go.Proofs.Enters P f) (v0 v1:Value) (hx:a.eval x=v0) (hy:a.eval y=v1) (R:Ending->World->Prop) (hc:Calls P f #[v0,v1] w R)
  (hK:∀ e w',R e w'->∃ v,e=.returned v/\K (a.put o.dst v) w') :
  if Region.wanted o (yielded ops a.tmps)=true then Oper.wp P o a w K Q else E:=by
 have hw:Region.wanted o (yielded ops a.tmps)=true:=by simp [Region.wanted,hgd]
 rw [if_pos hw]
 unfold Go.Proofs.Enters at he
 unfold Oper.wp execOp
 have hfe:a.eval (.func f)=.func (.func f) #[] #[]:=rfl
 simp [ho,resolve,invoke,hx,hy,hfe,Deferred.ofValue,he,Oper.upon_enter]
 refine hc.mono ?_
 intro e w' hr
 obtain ⟨v,rfl,hk⟩:=hK e w' hr
 exact hk
def nxH (g:List (List (Nat × Nat))) (goal:Nat) (S:Nat->Prop) (k:Nat) (x:Nat):Prop:=(S goal/\S x)\/(¬ S goal/\((stepS g S k goal/\x=goal)\/(¬ stepS g S k goal/\stepS g S k x)))
theorem nxH_stay {g:List (List (Nat × Nat))} {goal:Nat} {S:Nat->Prop} {k:Nat} (h:S goal):nxH g goal S k=S:=set_ext fun x=>by unfold nxH;simp [h]
theorem nxH_hit {g:List (List (Nat × Nat))} {goal:Nat} {S:Nat->Prop} {k:Nat} (h:¬ S goal) (h':stepS g S k goal):nxH g goal S k=fun x=>x=goal:=set_ext fun x=>by unfold nxH;simp [h,h']
theorem nxH_go {g:List (List (Nat × Nat))} {goal:Nat} {S:Nat->Prop} {k:Nat} (h:¬ S goal) (h':¬ stepS g S k goal):nxH g goal S k=stepS g S k:=set_ext fun x=>by unfold nxH;simp [h,h']
def allH (S:List St) (first goal:Nat):List (Nat->Prop):=reach (graphOf true S) first :: (fun _=>False) :: (fun x=>x=goal) :: (subl (chars true S)).map fun sub x=>∃ e ∈ sub,reach (graphOf true S) e.2.2 x
theorem allH_len (S:List St) (first goal:Nat) (h:(chars true S).length<=4):(allH S first goal).length<=20:=by
 unfold allH
 rw [List.length_cons,List.length_cons,List.length_cons,List.length_map,subl_len]
 have:2 ^ (chars true S).length<=2 ^ 4:=Nat.pow_le_pow_right (by omega) h
 omega
theorem allH_lt (S:List St) (hS:SOk S) (first goal:Nat) (hf:first<S.length) (hgo:goal<S.length):∀ F ∈ allH S first goal,∀ x,F x->x<S.length:=by
 intro F hF x hx
 have hA:=allA_lt true S hS first hf
 unfold allH at hF
 rw [List.mem_cons,List.mem_cons,List.mem_cons] at hF
 rcases hF with rfl | rfl | rfl | hF
 ·exact hA _ (by unfold allA;exact List.mem_cons_self) x hx
 ·exact hx.elim
 ·subst hx;exact hgo
 ·obtain ⟨sub,h1,rfl⟩:=List.mem_map.1 hF
  refine hA (fun x=>(∃ e ∈ sub,reach (graphOf true S) e.2.2 x)\/reach (graphOf true S) first x) ?_ x (Or.inl hx)
  unfold allA
  rw [List.mem_cons]
  exact Or.inr (List.mem_map.2 ⟨sub,h1,rfl⟩)
theorem allH_next (S:List St) (hS:SOk S) (first goal:Nat) (hf:first<S.length) (hgo:goal<S.length):∀ F ∈ allH S first goal,∀ k,k<8->nxH (graphOf true S) goal F k ∈ allH S first goal:=by
 intro F hF k _
 by_cases h:F goal
 ·rw [nxH_stay h];exact hF
 ·by_cases h':stepS (graphOf true S) F k goal
  ·rw [nxH_hit h h']
   unfold allH
   simp
  ·rw [nxH_go h h']
   obtain ⟨sub,h1,h2⟩:=stepS_chars true S F (allH_lt S hS first goal hf hgo F hF) k
   unfold allH
   rw [List.mem_cons,List.mem_cons,List.mem_cons,List.mem_map]
   exact Or.inr (Or.inr (Or.inr ⟨sub,h1,set_ext fun x=>(h2 x).symm⟩))
set_option maxRecDepth 100000 in
set_option maxHeartbeats 1000000 in
theorem herenext_ok (g:List (List (Nat × Nat))) (hg:GOk g) (v:Value) (goal p1 p2 base:Nat) (wp w0:World) (All:List (Nat->Prop)) (hG:GIn wp v g) (hb:Below wp.heap.size wp w0) (hbase:wp.heap.size<=base) (hgo:goal<g.length) (h1:w0.heap[p1]?=some (.cells #[.int .i64 goal] 3 (0,0)))
  (h2:w0.heap[p2]?=some (.cells #[v] 229 (0,0))) (hp1:p1<base) (hp2:p2<base):NextOk base w0 211 (.pointer (some ⟨p1,0,none⟩)) (.pointer (some ⟨p2,0,none⟩)) g.length (nxH g goal) All:=by
 intro W b k S hW hS _ hk
 have HG:Hid (GIn W v g):=hG.kpa (KpA.below (hb.trans (hW.mono hbase)))
 have HS:Hid (SetAt W b g.length S):=hS
 have c1:W.cell? ⟨p1,0,none⟩=some (.int .i64 goal):=cell_of_block (box_on hp1 hW h1) 0 _ rfl
 have c2:W.cell? ⟨p2,0,none⟩=some v:=cell_of_block (box_on hp2 hW h2) 0 _ rfl
 have l1:p1<W.heap.size:=heap_lt (box_on hp1 hW h1)
 have l2:p2<W.heap.size:=heap_lt (box_on hp2 hW h2)
 have hlen:=hg.len
 obtain ⟨ao,cap,rfl,_⟩:=HG.out.form
 clear hG hS hb h1 h2
 have hmm:=@run_makeMap Tryz.prog
 go_enter Tryz.func211,Tryz.ntmps211
 go_wp2_with fail
 refine (has_any W b g.length goal S HS.out (by omega)).mono ?_
 rintro r w1 ⟨c,rfl,hc,hb1⟩
 have B1:Hid (Below W.heap.size W w1):=hb1
 cases c
 ·have hs:¬ S goal:=fun e=>by have:=hc.2 e;cases this
  have d1:=(hb1.cell (p:=⟨p1,0,none⟩) l1).trans c1
  have d2:=(hb1.cell (p:=⟨p2,0,none⟩) l2).trans c2
  have G1:Hid (GIn w1 (.slice ao g.length cap) g):=HG.out.below hb1
  have S1:Hid (SetAt w1 b g.length S):=HS.out.below hb1
  clear hb1 c1 c2 hc
  go_wp2_with fail
  refine (gstep_any g hg _ w1 b k S G1.out S1.out hk).mono ?_
  rintro r w2 ⟨b',rfl,hge,hS2,hb2⟩
  have S2:Hid (SetAt w2 b' g.length (stepS g S k)):=hS2
  have B2:Hid (Below W.heap.size W w2):=B1.out.trans (hb2.mono B1.out.size)
  have hsz1:=B1.out.size
  have e1:=(hb2.cell (p:=⟨p1,0,none⟩) (Nat.lt_of_lt_of_le l1 hsz1)).trans d1
  have hsz2:=hb2.size
  clear hS2 hb2 d1 d2
  go_wp2_with fail
  refine (has_any w2 b' g.length goal _ S2.out (by omega)).mono ?_
  rintro r w3 ⟨c',rfl,hc',hb3⟩
  have B3:Hid (Below W.heap.size W w3):=B2.out.trans (hb3.mono (Nat.le_trans hsz1 hsz2))
  have S3:Hid (SetAt w3 b' g.length (stepS g S k)):=S2.out.below hb3
  have f1:=(hb3.cell (p:=⟨p1,0,none⟩) (Nat.lt_of_lt_of_le l1 (Nat.le_trans hsz1 hsz2))).trans e1
  have hsz3:=hb3.size
  clear hb3 e1
  cases c'
  ·have hs':¬ stepS g S k goal:=fun e=>by have:=hc'.2 e;cases this
   go_wp2_with fail
   go_ret
   exact ⟨b',rfl,by rw [nxH_go hs hs'];exact S3.out,B3.out⟩
  ·have hs':stepS g S k goal:=hc'.1 rfl
   have hka:=keyOf_nat goal (by omega)
   have N4:Hid (SetD (w3.alloc (.map #[] 0)) w3.heap.size g.length (.map []) (fun _=>False)):=set_made w3 g.length
   have g1:=((below_alloc w3 (.map #[] 0)).cell (p:=⟨p1,0,none⟩) (Nat.lt_of_lt_of_le l1 (Nat.le_trans hsz1 (Nat.le_trans hsz2 hsz3)))).trans f1
   obtain ⟨w4,hrun4,hown4,hg4⟩:=N4.out.own.update intKey Tryz.undSet (by unfold maxLen;simp [Maps.size]) (val:=.agg #[]) hka unitElem_mk
   have C4:Hid (Below W.heap.size W w4):=(B3.out.alloc B3.out.size _).grown hg4 (by have:=B3.out.size;simp;omega) (fun k e=>by have:=B3.out.size;injection e with e;omega)
   have S4:Hid (SetAt w4 w3.heap.size g.length (fun y=>False\/y=goal)):=⟨_,N4.out.put hgo hown4⟩
   clear hown4 hg4
   go_wp2_with fail
   go_ret
   exact ⟨_,rfl,by rw [nxH_hit hs hs'];exact S4.out.congr fun x=>by simp,C4.out⟩
 ·have hs:S goal:=hc.1 rfl
  have S1:Hid (SetAt w1 b g.length S):=HS.out.below hb1
  clear hb1
  go_wp2_with fail
  go_ret
  exact ⟨b,rfl,by rw [nxH_stay hs];exact S1.out,B1.out⟩
def FromPost (g:List (List (Nat × Nat))) (a:Nat) (W:World) (r:Ending) (w':World):Prop:=∃ b,r=.returned (.map (some b))/\W.heap.size<=b/\SetAt w' b g.length (reach g a)/\Below W.heap.size W w'
set_option maxRecDepth 100000 in
set_option maxHeartbeats 1000000 in
theorem fromHere_any (S:List St) (hS:SOk S) (hc:(chars true S).length<=4) (v:Value) (first goal:Nat) (w:World) (hG:GIn w v (graphOf true S)) (hf:first<S.length) (hgo:goal<S.length) :
  Calls Tryz.prog 181 #[v,.int .i64 first,.int .i64 goal] w (SidePost (nxH (graphOf true S) goal) goal [reach (graphOf true S) first,fun _=>False] id w):=by
 have hg:=graph_ok true S hS
 have hl:=graph_len true S
 have hlen:=hS.len
 have HG:Hid (GIn w v (graphOf true S)):=hG
 obtain ⟨ao,cap,hv,_⟩:=hG.form
 rw [hl] at hv
 subst hv
 have HL:Hid ((graphOf true S).length=S.length):=hl
 clear hG hl
 have hen:∀ (args:Array Value) (w:World),(callFunc 211 args).run Tryz.prog w=.ok (.enter 211 args) w:=enters_of Tryz.func211 (by kernel_rfl) rfl
 have hmm:=@run_makeMap Tryz.prog
 go_enter Tryz.func181,Tryz.ntmps181
 obtain ⟨W0,hW0⟩:∃ W0,W0=(w.alloc (.cells #[.slice ao S.length cap] 229)).alloc (.cells #[.int .i64 goal] 3):=⟨_,rfl⟩
 have HW0:Hid (W0=(w.alloc (.cells #[.slice ao S.length cap] 229)).alloc (.cells #[.int .i64 goal] 3)):=hW0
 have b0:Below w.heap.size w W0:=by rw [hW0];exact (below_alloc w _).alloc (by simp) _
 have hz:W0.heap.size=w.heap.size+2:=by rw [hW0];simp
 have p1:W0.heap[w.heap.size]?=some (.cells #[.slice ao S.length cap] 229 (0,0)):=by rw [hW0,Below.heap_alloc _ _ _ (by simp)];exact heap_alloc_new w _
 have p2:W0.heap[w.heap.size+1]?=some (.cells #[.int .i64 goal] 3 (0,0)):=by rw [hW0];exact (show ((w.alloc (.cells #[.slice ao S.length cap] 229)).heap.size)=w.heap.size+1 by simp) ▸ heap_alloc_new (w.alloc _) _
 have HF:Hid (∀ W,Below W0.heap.size W0 W->Calls Tryz.prog 180 #[.slice ao S.length cap,.int .i64 first] W (FromPost (graphOf true S) first W)):=fun W hb=>from_any (graphOf true S) hg _ W first (HG.out.below (b0.trans (hb.mono b0.size))) (by rw [HL.out];exact hf)
 have HT:Hid (∀ (X:World) (b e:Nat),Below W0.heap.size W0 X->SetAt X b (graphOf true S).length (reach (graphOf true S) first)->SetAt X e (graphOf true S).length (fun _=>False) ->
   Calls Tryz.prog 179 #[.func (.func 211) #[] #[.pointer (some ⟨w.heap.size+1,0,none⟩),.pointer (some ⟨w.heap.size,0,none⟩)],.int .i64 goal,.slice (some ⟨X.heap.size,0,none⟩) 2 2] (X.alloc (.cells #[.map (some b),.map (some e)] 296))
    (SidePost (nxH (graphOf true S) goal) goal [reach (graphOf true S) first,fun _=>False] id w)):=by
  intro X b e hX hb he
  have hsX:=hX.size
  have B2:Below w.heap.size w (X.alloc (.cells #[.map (some b),.map (some e)] 296)):=(b0.trans (hX.mono b0.size)).alloc (by omega) _
  have B3:Below W0.heap.size W0 (X.alloc (.cells #[.map (some b),.map (some e)] 296)):=hX.alloc hsX _
  have S3:SRow (X.alloc (.cells #[.map (some b),.map (some e)] 296)) X.heap.size (.slice (some ⟨X.heap.size,0,none⟩) 2 2) (graphOf true S).length [reach (graphOf true S) first,fun _=>False] [b,e]:=by
   refine ⟨rfl,⟨rfl,Or.inr ⟨X.heap.size,2,_,rfl,Nat.le_refl _,heap_alloc_new X _,by simp,by unfold maxLen;omega,rfl,rfl⟩⟩,?_⟩
   intro i c T hc hT
   match i with
   | 0=>simp at hc hT;subst hc;subst hT;exact hb.below (below_alloc X _)
   | 1=>simp at hc hT;subst hc;subst hT;exact he.below (below_alloc X _)
   | i+2=>simp at hc
  have NX:=herenext_ok (graphOf true S) hg (.slice ao S.length cap) goal (w.heap.size+1) w.heap.size X.heap.size w _ (allH S first goal) HG.out B2 (by omega) (by rw [HL.out];exact hgo)
   (by rw [B3.block _ (by omega)];exact p2) (by rw [B3.block _ (by omega)];exact p1) (by omega) (by omega)
  have T3:=table_any X.heap.size _ 211 (w.heap.size+1) w.heap.size (graphOf true S).length goal (nxH (graphOf true S) goal) (allH S first goal) [reach (graphOf true S) first,fun _=>False] _ [b,e] hen NX (allH_next S hS first goal hf hgo) (Nat.le_trans (allH_len S first goal hc) (by omega)) (by rw [HL.out];exact hlen) (by omega) S3
   ⟨by
    rw [List.nodup_cons]
    refine ⟨fun hm=>?_,by simp⟩
    simp at hm
    have hr1:reach (graphOf true S) first first:=reach_refl _ _
    have:=congrFun hm first
    rw [this] at hr1
    exact hr1,fun T hT=>by
    unfold allH
    simp at hT
    rcases hT with rfl | rfl
    ·exact List.mem_cons_self
    ·exact List.mem_cons_of_mem _ List.mem_cons_self,List.prefix_refl _⟩ (by simp)
  refine T3.mono ?_
  rintro r w4 ⟨v4,tab,Ss,rfl,hT4,hl4,hS4,hO4,hB4⟩
  exact ⟨v4,tab,Ss,rfl,row_base hT4 (by omega),hl4,hS4.pre,Nat.le_trans hS4.len (allH_len S first goal hc),hO4,B2.trans (hB4.mono (by omega))⟩
 have m1:W0.cell? ⟨w.heap.size,0,none⟩=some (.slice ao S.length cap):=cell_of_block p1 0 _ rfl
 have m2:W0.cell? ⟨w.heap.size+1,0,none⟩=some (.int .i64 (goal:Nat)):=cell_of_block p2 0 _ rfl
 have q1:=fun o=>((below_alloc W0 o).cell (p:=⟨w.heap.size,0,none⟩) (by show w.heap.size<_;omega)).trans m1
 have q2:=fun o=>((below_alloc W0 o).cell (p:=⟨w.heap.size+1,0,none⟩) (by show w.heap.size+1<_;omega)).trans m2
 clear hW0 p1 p2
 go_wp2_with fail
 rw [<- HW0.out]
 go_region_law (first
  | (refine step_fn2 rfl 180 (.tmp 11) (.tmp 12) _ rfl (enters_of Tryz.func180 (by kernel_rfl) rfl) (.slice ao S.length cap) (.int .i64 first) (by simp [Act.eval]) (by simp [Act.eval]) _ (HF.out _ ((Below.refl _ _).drew)) ?_
     rintro e W1 ⟨b,rfl,hge,hS1,hB1⟩
     refine ⟨_,rfl,?_⟩
     have S1:Hid (SetAt W1 b (graphOf true S).length (reach (graphOf true S) first)):=hS1
     have B1:Hid (Below W0.heap.size W0 W1):=below_drew hB1
     have n2:=(B1.out.cell (p:=⟨w.heap.size+1,0,none⟩) (by show w.heap.size+1<_;omega)).trans m2
     have n3:=fun o=>((below_alloc W1 o).cell (p:=⟨w.heap.size+1,0,none⟩) (by show w.heap.size+1<_;have:=B1.out.size;omega)).trans n2
     have n4:=fun o o'=>((below_alloc (W1.alloc o) o').cell (p:=⟨w.heap.size+1,0,none⟩) (by show w.heap.size+1<_;have:=B1.out.size;simp;omega)).trans (n3 o)
     clear hS1 hB1)
  | (refine step_fn2 rfl 180 (.tmp 11) (.tmp 12) _ rfl (enters_of Tryz.func180 (by kernel_rfl) rfl) (.slice ao S.length cap) (.int .i64 first) (by simp [Act.eval]) (by simp [Act.eval]) _ (HF.out _ ((below_alloc W0 (.map #[] 0)).drew)) ?_
     rintro e W1 ⟨b,rfl,hge,hS1,hB1⟩
     refine ⟨_,rfl,?_⟩
     have S1:Hid (SetAt W1 b (graphOf true S).length (reach (graphOf true S) first)):=hS1
     have BM:Hid (Below (W0.alloc (.map #[] 0)).heap.size (W0.alloc (.map #[] 0)) W1):=below_drew hB1
     have B1:Hid (Below W0.heap.size W0 W1):=(below_alloc W0 _).trans (BM.out.mono (by simp))
     have SE:Hid (SetAt W1 (w.heap.size+2) (graphOf true S).length (fun _=>False)):=by rw [<- hz];exact SetAt.below ⟨_,set_made W0 _⟩ BM.out
     have n2:=(B1.out.cell (p:=⟨w.heap.size+1,0,none⟩) (by show w.heap.size+1<_;omega)).trans m2
     have n3:=fun o=>((below_alloc W1 o).cell (p:=⟨w.heap.size+1,0,none⟩) (by show w.heap.size+1<_;have:=B1.out.size;omega)).trans n2
     clear hS1 hB1)
  | (refine step_fn3 rfl 179 (.tmp 9) (.tmp 10) (.tmp 15) _ rfl (enters_of Tryz.func179 (by kernel_rfl) rfl) _ (.int .i64 (goal:Nat)) _ (by simp [Act.eval]) (by simp [Act.eval]) (by simp [Act.eval]) _ (HT.out (W1.alloc (.map #[] 0)) b W1.heap.size (B1.out.alloc B1.out.size _) (S1.out.below (below_alloc W1 _)) ⟨_,set_made W1 _⟩) ?_
     rintro e W2 ⟨v4,tab,Ss,rfl,hr4⟩
     refine ⟨v4,rfl,?_⟩
     have R4:Hid (SidePost (nxH (graphOf true S) goal) goal [reach (graphOf true S) first,fun _=>False] id w (.returned v4) W2):=⟨v4,tab,Ss,rfl,hr4⟩
     obtain ⟨aoT,capT,rfl⟩:=row_shape hr4.1
     clear hr4)
  | (refine step_fn3 rfl 179 (.tmp 9) (.tmp 10) (.tmp 15) _ rfl (enters_of Tryz.func179 (by kernel_rfl) rfl) _ (.int .i64 (goal:Nat)) _ (by simp [Act.eval]) (by simp [Act.eval]) (by simp [Act.eval]) _ (HT.out W1 b (w.heap.size+2) B1.out S1.out SE.out) ?_
     rintro e W2 ⟨v4,tab,Ss,rfl,hr4⟩
     refine ⟨v4,rfl,?_⟩
     have R4:Hid (SidePost (nxH (graphOf true S) goal) goal [reach (graphOf true S) first,fun _=>False] id w (.returned v4) W2):=⟨v4,tab,Ss,rfl,hr4⟩
     obtain ⟨aoT,capT,rfl⟩:=row_shape hr4.1
     clear hr4))
 all_goals go_wp2_with fail
 all_goals go_ret
 all_goals exact R4.out
set_option maxRecDepth 100000 in
set_option maxHeartbeats 2000000 in
theorem onward_any (S:List St) (hS:SOk S) (hc:(chars true S).length<=4) (vS:Value) (tv:List Value) (first:Nat) (w:World) (hM:MRow w 0 vS S tv) (hf:first<S.length) :
  Calls Tryz.prog 138 #[.agg #[vS,.int .i64 first]] w (SidePost (nxH (graphOf true S) 0) 0 [reach (graphOf true S) first,fun _=>False] (fun v=>.agg #[v]) w):=by
 have HM:Hid (MRow w 0 vS S tv):=hM
 have hl0:=hS.len
 obtain ⟨ao,cap,rfl⟩:=row_shape hM.row
 clear hM
 obtain ⟨W0,hW0⟩:∃ W0,W0=(w.alloc (.cells #[.slice ao S.length cap,.int .i64 first] 146)).alloc (.cells #[.slice none 0 0] 231):=⟨_,rfl⟩
 have HW0:Hid (W0=(w.alloc (.cells #[.slice ao S.length cap,.int .i64 first] 146)).alloc (.cells #[.slice none 0 0] 231)):=hW0
 have b0:Below w.heap.size w W0:=by rw [hW0];exact (below_alloc w _).alloc (by simp) _
 have hz:W0.heap.size=w.heap.size+2:=by rw [hW0];simp
 have p0:W0.heap[w.heap.size]?=some (.cells #[.slice ao S.length cap,.int .i64 first] 146 (0,0)):=by rw [hW0,Below.heap_alloc _ _ _ (by simp)];exact heap_alloc_new w _
 have p1:W0.heap[w.heap.size+1]?=some (.cells #[.slice none 0 0] 231 (0,0)):=by rw [hW0];exact (show ((w.alloc (.cells #[.slice ao S.length cap,.int .i64 first] 146)).heap.size)=w.heap.size+1 by simp) ▸ heap_alloc_new (w.alloc _) _
 have P1:Hid (W0.heap[w.heap.size+1]?=some (.cells #[.slice none 0 0] 231 (0,0))):=p1
 have B0:Hid (Below w.heap.size w W0):=b0
 have HF:Hid (Calls Tryz.prog 136 #[.agg #[.slice ao S.length cap,.int .i64 first]] W0.drew (GPost (graphOf true S) W0.drew)):=forth_any S _ tv first W0.drew (HM.out.later b0.drew) hS
 have m0:W0.cell? ⟨w.heap.size,0,none⟩=some (.slice ao S.length cap):=cell_of_block p0 0 _ rfl
 have m1:W0.cell? ⟨w.heap.size,1,none⟩=some (.int .i64 (first:Nat)):=cell_of_block p0 1 _ rfl
 have r1:W0.cell? ⟨w.heap.size+1,0,none⟩=some (.slice none 0 0):=cell_of_block p1 0 _ rfl
 clear hW0 b0 p0 p1
 go_enter Tryz.func138,Tryz.ntmps138
 go_wp2_with fail
 rw [<- HW0.out]
 go_region_law (first
  | (refine step_fn1 rfl 136 (.tmp 3) _ rfl (enters_of Tryz.func136 (by kernel_rfl) rfl) (.agg #[.slice ao S.length cap,.int .i64 first]) (by simp [Act.eval]) _ HF.out ?_
     rintro e W1 ⟨v1,rfl,hG1,hB1⟩
     refine ⟨v1,rfl,?_⟩
     have G1:Hid (GIn W1 v1 (graphOf true S)):=hG1
     have B1:Hid (Below W0.heap.size W0 W1):=below_drew hB1
     have n1:=(B1.out.cell (p:=⟨w.heap.size,1,none⟩) (by rw [hz];show w.heap.size<_;omega)).trans m1
     obtain ⟨ao1,cap1,rfl,_⟩:=hG1.form
     clear hG1 hB1)
  | (refine step_fn3 rfl 181 (.tmp 4) (.tmp 6) (.const (.int .i64 0)) _ rfl (enters_of Tryz.func181 (by kernel_rfl) rfl) _ (.int .i64 (first:Nat)) (.int .i64 0) (by simp [Act.eval]) (by simp [Act.eval]) (by simp [Act.eval]) _ (fromHere_any S hS hc _ first 0 W1 G1.out hf (by omega)) ?_
     rintro e W2 ⟨v2,tab,Ss,rfl,hT2,hl2,hp2,hn2,hO2,hB2⟩
     refine ⟨v2,rfl,?_⟩
     have B2:Hid (Below W0.heap.size W0 W2):=B1.out.trans (hB2.mono B1.out.size)
     have BB2:Hid (Below w.heap.size w W2):=B0.out.trans (B2.out.mono (by omega))
     have T2:Hid (TabIn w.heap.size W2 v2 tab):=row_base hT2 (Nat.le_trans (by omega) B1.out.size)
     have HR2:Hid (tab.length=Ss.length/\[reach (graphOf true S) first,fun _=>False] <+: Ss/\Ss.length<=20/\TabOk (nxH (graphOf true S) 0) 0 Ss tab):=⟨hl2,hp2,hn2,hO2⟩
     have QB:Hid (W2.heap[w.heap.size+1]?=some (.cells #[.slice none 0 0] 231 (0,0))):=by show _=_;rw [B2.out.block _ (by omega)];exact P1.out
     have o2:=cell_of_block QB.out 0 _ rfl
     have f2:=free_of_block QB.out
     obtain ⟨aoT,capT,hv2⟩:=row_shape hT2
     subst hv2
     clear hT2 hl2 hp2 hn2 hO2 hB2))
 all_goals go_wp2_with fail
 all_goals refine bodyPost_ret (results_cell_row rfl _ _ (w.heap.size+1) 231 #[.slice aoT tab.length capT] (0,0) _ rfl ((block_setCell QB.out 0 _).trans rfl) Tryz.underlying231 rfl (by kernel_rfl)) rfl ?_
 all_goals exact ⟨_,tab,Ss,rfl,row_kp T2.out ((Kp.refl _ _).setCell QB.out (by decide) _),HR2.out.1,HR2.out.2.1,HR2.out.2.2.1,HR2.out.2.2.2,BB2.out.setCell (by show w.heap.size<=w.heap.size+1;omega) _⟩
theorem Tryz.infoJr:(Tryz.prog.info? 157).map (fun i=>(i.zero,i.size,i.bytes))=some (some (.agg #[.bool false,.slice none 0 0,.slice none 0 0]),3,56):=by kernel_rfl
theorem Tryz.undJr:Tryz.prog.underlying 87=some (.slice 157):=by kernel_rfl
def SideIn (w:World) (v:Value) (nx:(Nat->Prop)->Nat->Nat->Prop) (goal:Nat) (Ss0:List (Nat->Prop)):Prop :=
 ∃ tab Ss,TabIn 0 w v tab/\tab.length=Ss.length/\Ss0 <+: Ss/\Ss.length<=20/\TabOk nx goal Ss tab
def LeftIn (w:World) (v:Value) (S:List St) (first:Nat):Prop:=SideIn w v (nxA (graphOf true S) first) 0 [reach (graphOf true S) first]
def RightIn (w:World) (v:Value) (S:List St) (first:Nat):Prop:=SideIn w v (nxA (graphOf false S) 0) first [reach (graphOf false S) 0]
theorem SideIn.kpa {w w':World} {v:Value} {nx:(Nat->Prop)->Nat->Nat->Prop} {goal:Nat} {Ss0:List (Nat->Prop)} (h:SideIn w v nx goal Ss0) (hk:Kp 341 w w'):SideIn w' v nx goal Ss0:=by
 obtain ⟨tab,Ss,h1,h2⟩:=h
 exact ⟨tab,Ss,row_kp h1 hk,h2⟩
theorem SideIn.of {w w':World} {r:Ending} {nx:(Nat->Prop)->Nat->Nat->Prop} {goal:Nat} {Ss0:List (Nat->Prop)} {mkv:Value->Value} (h:SidePost nx goal Ss0 mkv w r w'):∃ v ao n cap,r=.returned (mkv v)/\v=.slice ao n cap/\SideIn w' v nx goal Ss0/\Below w.heap.size w w':=by
 obtain ⟨v,tab,Ss,h1,h2,h3,h4,h5,h6,h7⟩:=h
 obtain ⟨ao,cap,e⟩:=row_shape h2
 exact ⟨v,ao,_,cap,h1,e,⟨tab,Ss,row_base h2 (Nat.zero_le _),h3,h4,h5,h6⟩,h7⟩
structure RuleOk (L:RuleM):Prop where
 sl:SOk L.SL
 sr:SOk L.SR
 cl:(chars true L.SL).length<=4
 cr:(chars false L.SR).length<=4
 cf:(chars true L.SR).length<=4
 fl:L.fL<L.SL.length
 fr:L.fR<L.SR.length
def judgeCells (Ls:List RuleM) (vs:List (Value × Value)):List Value:=(Ls.zip vs).flatMap fun o=>[.bool o.1.cut,o.2.1,o.2.2]
def JIn (base:Nat) (w:World) (v:Value) (Ls:List RuleM):Prop :=
 ∃ vs:List (Value × Value),vs.length=Ls.length/\w.ownsRow base 157 3 v Ls.length (judgeCells Ls vs)/\∀ (i:Nat) (L:RuleM) (u:Value × Value),Ls[i]?=some L->vs[i]?=some u->LeftIn w u.1 L.SL L.fL/\RightIn w u.2 L.SR L.fR
theorem judgeCells_snoc (Ls:List RuleM) (vs:List (Value × Value)) (L:RuleM) (v:Value × Value) (h:vs.length=Ls.length):judgeCells (Ls++[L]) (vs++[v])=judgeCells Ls vs++[.bool L.cut,v.1,v.2]:=by
 unfold judgeCells;rw [List.zip_append h.symm];simp
theorem JIn.kp {base:Nat} {w w':World} {v:Value} {Ls:List RuleM} (h:JIn base w v Ls) (k0:Kp 157 w w') (k1:Kp 341 w w'):JIn base w' v Ls:=by
 obtain ⟨vs,h1,h2,h3⟩:=h
 exact ⟨vs,h1,row_kp h2 k0,fun i L u hL hu=>⟨(h3 i L u hL hu).1.kpa k1,(h3 i L u hL hu).2.kpa k1⟩⟩
theorem JIn.nil (base:Nat) (w:World):JIn base w (.slice none 0 0) []:=⟨[],rfl,World.ownsRow_nil _ _ _ _,fun i L u hL=>by simp at hL⟩
theorem ruleCells_at:∀ (Ls:List RuleM) (vs:List (Value × Value)) (i:Nat) (L:RuleM) (v:Value × Value),Ls[i]?=some L->vs[i]?=some v ->
  (ruleCellsP Ls vs)[i * 5]?=some (.bool L.cut)/\(ruleCellsP Ls vs)[i * 5+1]?=some v.1/\(ruleCellsP Ls vs)[i * 5+2]?=some (.int .i64 (L.fL:Nat))/\(ruleCellsP Ls vs)[i * 5+3]?=some v.2/\(ruleCellsP Ls vs)[i * 5+4]?=some (.int .i64 (L.fR:Nat)):=by
 intro Ls
 induction Ls with
 | nil=>intro vs i L v h;simp at h
 | cons a Ls ih =>
  intro vs i L v h1 h2
  cases vs with
  | nil=>simp at h2
  | cons u vs =>
   cases i with
   | zero=>simp at h1 h2;subst h1;subst h2;simp [ruleCellsP]
   | succ i =>
    simp at h1 h2
    have:=ih vs i L v h1 h2
    have e:∀ k,(ruleCellsP (a :: Ls) (u :: vs))[(i+1) * 5+k]?=(ruleCellsP Ls vs)[i * 5+k]?:=by
     intro k;rw [show (i+1) * 5+k=(i * 5+k)+5 from by omega];rfl
    have e0:=e 0
    simp only [Nat.add_zero] at e0
    rw [e0,e 1,e 2,e 3,e 4];exact this
theorem LIn.form {base:Nat} {w:World} {vL:Value} {Ls:List RuleM} (h:LIn base w vL Ls):∃ ao cap,vL=.slice ao Ls.length cap/\∀ i (hi:i<Ls.length),∃ g aL cL aR cR tL tR,ao=some ⟨g,0,none⟩/\g<w.heap.size/\MRow w 0 (.slice aL Ls[i].SL.length cL) Ls[i].SL tL/\MRow w 0 (.slice aR Ls[i].SR.length cR) Ls[i].SR tR /\
  w.cell? ⟨g,i * 5,none⟩=some (.bool Ls[i].cut)/\w.cell? ⟨g,i * 5+1,none⟩=some (.slice aL Ls[i].SL.length cL)/\w.cell? ⟨g,i * 5+2,none⟩=some (.int .i64 (Ls[i].fL:Nat))/\w.cell? ⟨g,i * 5+3,none⟩=some (.slice aR Ls[i].SR.length cR)/\w.cell? ⟨g,i * 5+4,none⟩=some (.int .i64 (Ls[i].fR:Nat)):=by
 obtain ⟨vs,hl,⟨h2,h3⟩,h4⟩:=h
 rcases h3 with ⟨hv,hn⟩ | ⟨g,cap,cur,hv,hg,hh,hcap,hmx,hsz,hcur⟩
 ·exact ⟨none,0,by rw [hv,hn],fun i hi=>by omega⟩
 ·refine ⟨some ⟨g,0,none⟩,cap,hv,fun i hi=>?_⟩
  obtain ⟨u,hu⟩:∃ u,vs[i]?=some u:=⟨vs[i]'(by omega),List.getElem?_eq_getElem (by omega)⟩
  obtain ⟨⟨tL,hL⟩,tR,hR⟩:=h4 i _ u (List.getElem?_eq_getElem hi) hu
  obtain ⟨aL,cL,eL⟩:=row_shape hL.row
  obtain ⟨aR,cR,eR⟩:=row_shape hR.row
  rw [eL] at hL
  rw [eR] at hR
  have hc:=ruleCells_at Ls vs i _ u (List.getElem?_eq_getElem hi) hu
  rw [<- hcur,List.getElem?_take,List.getElem?_take,List.getElem?_take,List.getElem?_take,List.getElem?_take,if_pos (by omega),if_pos (by omega),if_pos (by omega),if_pos (by omega),if_pos (by omega),eL,eR] at hc
  exact ⟨g,aL,cL,aR,cR,tL,tR,rfl,heap_lt hh,hL,hR,cell_of_block hh _ _ (by simpa using hc.1),cell_of_block hh _ _ (by simpa using hc.2.1),cell_of_block hh _ _ (by simpa using hc.2.2.1),cell_of_block hh _ _ (by simpa using hc.2.2.2.1),cell_of_block hh _ _ (by simpa using hc.2.2.2.2)⟩
theorem three_new (w:World) (c:Bool) (a b:Value):∀ (j:Nat) (u:Value),[Value.bool c,a,b][j]?=some u->(w.alloc (.cells #[.bool c,a,b] 157)).cell? ⟨w.heap.size,j,none⟩=some u:=fun j u hu=>cell_of_block (heap_alloc_new w _) j u (by simpa using hu)
theorem three_one (c:Bool) (a b:Value) (ha:a.oneCell'=true) (hb:b.oneCell'=true):∀ u ∈ [Value.bool c,a,b],u.oneCell'=true:=by
 intro u hu;simp at hu;rcases hu with rfl | rfl | rfl
 ·rfl
 ·exact ha
 ·exact hb
theorem JIn.push {base:Nat} {w w':World} {v v' vl vr:Value} {Ls:List RuleM} {vs:List (Value × Value)} {L:RuleM} (h1:vs.length=Ls.length) (h3:∀ (i:Nat) (L:RuleM) (u:Value × Value),Ls[i]?=some L->vs[i]?=some u->LeftIn w u.1 L.SL L.fL/\RightIn w u.2 L.SR L.fR)
  (hrow:w.ownsRow base 157 3 v Ls.length (judgeCells Ls vs)) (hg:w.grownBy w' v.ownBlock) (hl:LeftIn w vl L.SL L.fL) (hr:RightIn w vr L.SR L.fR) (ho:w'.ownsRow base 157 3 v' (Ls.length+1) (judgeCells Ls vs++[.bool L.cut,vl,vr])):JIn base w' v' (Ls++[L]):=by
 have k:Kp 341 w w':=(Kp.refl _ w).grown hrow hg (by decide)
 refine ⟨vs++[(vl,vr)],by simp [h1],by rw [judgeCells_snoc _ _ _ _ h1,List.length_append];exact ho,?_⟩
 intro i L' u hL hu
 rcases snoc_at hL with ⟨a1,a2⟩ | ⟨a1,rfl⟩
 ·rcases snoc_at hu with ⟨b1,b2⟩ | ⟨b1,rfl⟩
  ·exact ⟨(h3 i L' u a1 b1).1.kpa k,(h3 i L' u a1 b1).2.kpa k⟩
  ·omega
 ·rcases snoc_at hu with ⟨b1,b2⟩ | ⟨b1,rfl⟩
  ·omega
  ·exact ⟨hl.kpa k,hr.kpa k⟩
end Go.Proofs.YtodagkkjfipbgaaGreatDoor
namespace Go.Proofs.YtodagkkjfipbgaaGreatDoor
open Go.RowKit
abbrev Tab:=List (Bool × List Nat)
abbrev Spt:=Bool × List Nat
def tmatch (t:Tab) (i:Nat):Bool:=((t[i]?).map Prod.fst).getD false
def tnext (t:Tab) (i k:Nat):Nat:=((t[i]?).bind fun r=>r.2[k]?).getD 0
structure TabGood (t:Tab):Prop where
 few:t.length<=20
 pos:1<=t.length
 row:∀ r ∈ t,r.2.length=8/\∀ n ∈ r.2,n<t.length
structure ARule where
 cut:Bool
 tl:Tab
 tr:Tab
structure ARuleOk (r:ARule):Prop where
 two:2<=r.tr.length
 l:TabGood r.tl
 r:TabGood r.tr
abbrev AJ:=List ARule
def tlAt (J:AJ) (j:Nat):Tab:=((J[j]?).map ARule.tl).getD []
def trAt (J:AJ) (j:Nat):Tab:=((J[j]?).map ARule.tr).getD []
def cutAt (J:AJ) (j:Nat):Bool:=((J[j]?).map ARule.cut).getD true
theorem tlAt_eq {J:AJ} {j:Nat} (h:j<J.length):tlAt J j=J[j].tl:=by unfold tlAt;rw [List.getElem?_eq_getElem h];rfl
theorem trAt_eq {J:AJ} {j:Nat} (h:j<J.length):trAt J j=J[j].tr:=by unfold trAt;rw [List.getElem?_eq_getElem h];rfl
theorem cutAt_eq {J:AJ} {j:Nat} (h:j<J.length):cutAt J j=J[j].cut:=by unfold cutAt;rw [List.getElem?_eq_getElem h];rfl
def mapTo (n:Nat) (f:Nat->Nat->Nat) (l:List Nat):List Nat:=l.mapIdx fun j x=>if j<n then f j x else x
theorem mapTo_len (n:Nat) (f:Nat->Nat->Nat) (l:List Nat):(mapTo n f l).length=l.length:=by unfold mapTo;simp
theorem mapTo_at (n:Nat) (f:Nat->Nat->Nat) (l:List Nat) (i:Nat):(mapTo n f l)[i]?=(l[i]?).map fun x=>if i<n then f i x else x:=by unfold mapTo;rw [List.getElem?_mapIdx]
theorem mapTo_zero (f:Nat->Nat->Nat) (l:List Nat):mapTo 0 f l=l:=by
 apply List.ext_getElem?
 intro i
 rw [mapTo_at]
 cases l[i]? <;> simp
theorem mapTo_succ {n:Nat} {f:Nat->Nat->Nat} {l:List Nat} {x:Nat} (h:l[n]?=some x):mapTo (n+1) f l=(mapTo n f l).set n (f n x):=by
 apply List.ext_getElem?
 intro i
 rw [mapTo_at,List.getElem?_set,mapTo_len,mapTo_at]
 have hn:=(List.getElem?_eq_some_iff.1 h).1
 by_cases e:n=i
 ·subst e;rw [if_pos rfl,if_pos hn,h];simp
 ·rw [if_neg e]
  cases l[i]? with
  | none=>rfl
  | some y =>
   simp only [Option.map_some,Option.some.injEq]
   by_cases h1:i<n
   ·rw [if_pos (by omega),if_pos h1]
   ·rw [if_neg (by omega),if_neg h1]
theorem mapTo_same {n:Nat} (f:Nat->Nat->Nat) {l:List Nat} {i:Nat} (h:n<=i):(mapTo n f l)[i]?=l[i]?:=by
 rw [mapTo_at]
 cases l[i]? with
 | none=>rfl
 | some y=>simp only [Option.map_some];rw [if_neg (by omega)]
def firstF (J:AJ) (l:List Nat):Nat->Nat->Nat
 | 0,i=>i
 | n+1,i=>if tmatch (trAt J i) ((l[i]?).getD 0)=true then i else firstF J l n (i+1)
def firstA (J:AJ) (l:List Nat):Nat:=firstF J l J.length 0
theorem firstF_le (J:AJ) (l:List Nat):∀ n i,i<=firstF J l n i/\firstF J l n i<=i+n:=by
 intro n
 induction n with
 | zero=>intro i;exact ⟨Nat.le_refl _,Nat.le_refl _⟩
 | succ n ih =>
  intro i
  rw [firstF]
  split
  ·omega
  ·have:=ih (i+1);omega
theorem firstA_le (J:AJ) (l:List Nat):firstA J l<=J.length:=by have:=firstF_le J l J.length 0;unfold firstA;omega
def trimL (f n:Nat) (l:List Nat):List Nat:=mapTo n (fun j x=>if f<j then 1 else x) l
def trimA (J:AJ) (x:Spt):Spt:=(x.1,trimL (firstA J x.2) J.length x.2)
def laterA (J:AJ) (x:Spt) (k:Nat):Spt:=(true,mapTo J.length (fun j v=>tnext (tlAt J j) v k) x.2)
def startL (J:AJ) (n:Nat) (l:List Nat):List Nat:=mapTo n (fun j _=>if tmatch (tlAt J j) ((l[j]?).getD 0)=true then 0 else 1) [0,0,0,0]
def startA (J:AJ) (x:Spt):Spt:=trimA J (false,startL J J.length x.2)
def nextL (J:AJ) (k n:Nat) (l:List Nat):List Nat:=mapTo n (fun j v=>tnext (trAt J j) v k) l
def nextA (J:AJ) (x:Spt) (k:Nat):Spt:=trimA J (true,nextL J k J.length x.2)
def cutsA (J:AJ) (x:Spt):Bool:=!x.1 || (firstA J x.2 == J.length) || cutAt J (firstA J x.2)
structure SOk4 (lim:Nat->Nat) (n:Nat) (x:Spt):Prop where
 len:x.2.length=4
 lt:∀ j v,x.2[j]?=some v->v<20/\(j<n->v<lim j)
def limL (J:AJ) (j:Nat):Nat:=(tlAt J j).length
def limR (J:AJ) (j:Nat):Nat:=(trAt J j).length
abbrev PastOk (J:AJ) (x:Spt):Prop:=SOk4 (limL J) J.length x
abbrev KnownOk (J:AJ) (x:Spt):Prop:=SOk4 (limR J) J.length x
theorem SOk4.at_ {lim:Nat->Nat} {n:Nat} {x:Spt} (h:SOk4 lim n x) {j:Nat} (hj:j<4):∃ v,x.2[j]?=some v/\v<20/\(j<n->v<lim j):=by
 obtain ⟨v,hv⟩:∃ v,x.2[j]?=some v:=⟨x.2[j]'(by rw [h.len];exact hj),List.getElem?_eq_getElem _⟩
 exact ⟨v,hv,h.lt j v hv⟩
theorem tnext_lt {t:Tab} (ht:TabGood t) {i k:Nat} (hi:i<t.length):tnext t i k<t.length:=by
 unfold tnext
 rw [List.getElem?_eq_getElem hi]
 simp only [Option.bind_some]
 cases hk:(t[i].2)[k]? with
 | none=>simp;have:=ht.pos;omega
 | some n=>simp;exact (ht.row _ (List.getElem_mem hi)).2 n (List.mem_of_getElem? hk)
theorem past_zero (J:AJ) (hJ:∀ r ∈ J,ARuleOk r) (b:Bool):PastOk J (b,[0,0,0,0]):=by
 refine ⟨rfl,fun j v hv=>?_⟩
 have e:v=0:=by
  have:=List.mem_of_getElem? hv
  simp at this;exact this
 subst e
 refine ⟨by omega,fun hj=>?_⟩
 unfold limL
 rw [tlAt_eq hj]
 have:=(hJ _ (List.getElem_mem hj)).l.pos
 omega
theorem later_ok {J:AJ} (hJ:∀ r ∈ J,ARuleOk r) {x:Spt} (h:PastOk J x) (k:Nat):PastOk J (laterA J x k):=by
 refine ⟨(mapTo_len _ _ _).trans h.len,fun j v hv=>?_⟩
 unfold laterA at hv
 rw [mapTo_at] at hv
 cases hx:x.2[j]? with
 | none=>rw [hx] at hv;simp at hv
 | some u =>
  rw [hx] at hv
  have h1:=h.lt j u hx
  simp only [Option.map_some,Option.some.injEq] at hv
  by_cases hj:j<J.length
  ·rw [if_pos hj] at hv
   have hg:=(hJ _ (List.getElem_mem hj)).l
   have h2:=h1.2 hj
   unfold limL at h2
   rw [tlAt_eq hj] at h2 hv
   have:=tnext_lt hg (k:=k) h2
   unfold limL
   rw [tlAt_eq hj]
   have:=hg.few
   exact ⟨by omega,fun _=>by omega⟩
  ·rw [if_neg hj] at hv;subst hv;exact ⟨h1.1,fun e=>absurd e hj⟩
theorem trim_ok {J:AJ} (hJ:∀ r ∈ J,ARuleOk r) {x:Spt} (h:KnownOk J x):KnownOk J (trimA J x):=by
 refine ⟨(mapTo_len _ _ _).trans h.len,fun j v hv=>?_⟩
 unfold trimA trimL at hv
 rw [mapTo_at] at hv
 cases hx:x.2[j]? with
 | none=>rw [hx] at hv;simp at hv
 | some u =>
  rw [hx] at hv
  have h1:=h.lt j u hx
  simp only [Option.map_some,Option.some.injEq] at hv
  by_cases hj:j<J.length
  ·rw [if_pos hj] at hv
   split at hv
   ·subst hv
    refine ⟨by omega,fun _=>?_⟩
    unfold limR
    rw [trAt_eq hj]
    have:=(hJ _ (List.getElem_mem hj)).two
    omega
   ·subst hv;exact h1
  ·rw [if_neg hj] at hv;subst hv;exact h1
theorem start_ok {J:AJ} (hJ:∀ r ∈ J,ARuleOk r) (x:Spt):KnownOk J (startA J x):=by
 refine trim_ok hJ ⟨mapTo_len _ _ _,fun j v hv=>?_⟩
 unfold startL at hv
 rw [mapTo_at] at hv
 cases hx:([0,0,0,0]:List Nat)[j]? with
 | none=>rw [hx] at hv;simp at hv
 | some u =>
  rw [hx] at hv
  simp only [Option.map_some,Option.some.injEq] at hv
  have hu:u=0:=by have:=List.mem_of_getElem? hx;simp at this;exact this
  have hv1:v<=1:=by
   split at hv
   ·split at hv <;> omega
   ·omega
  refine ⟨by omega,fun hj=>?_⟩
  unfold limR
  rw [trAt_eq hj]
  have:=(hJ _ (List.getElem_mem hj)).two
  omega
theorem next_ok {J:AJ} (hJ:∀ r ∈ J,ARuleOk r) {x:Spt} (h:KnownOk J x) (k:Nat):KnownOk J (nextA J x k):=by
 refine trim_ok hJ ⟨(mapTo_len _ _ _).trans h.len,fun j v hv=>?_⟩
 unfold nextL at hv
 rw [mapTo_at] at hv
 cases hx:x.2[j]? with
 | none=>rw [hx] at hv;simp at hv
 | some u =>
  rw [hx] at hv
  have h1:=h.lt j u hx
  simp only [Option.map_some,Option.some.injEq] at hv
  by_cases hj:j<J.length
  ·rw [if_pos hj] at hv
   have hg:=(hJ _ (List.getElem_mem hj)).r
   have h2:=h1.2 hj
   unfold limR at h2
   rw [trAt_eq hj] at h2 hv
   have:=tnext_lt hg (k:=k) h2
   unfold limR
   rw [trAt_eq hj]
   have:=hg.few
   exact ⟨by omega,fun _=>by omega⟩
  ·rw [if_neg hj] at hv;subst hv;exact ⟨h1.1,fun e=>absurd e hj⟩
def code4 (x:Spt):Nat:=(if x.1 then 1 else 0)+2 * ((x.2[0]?).getD 0+20 * ((x.2[1]?).getD 0+20 * ((x.2[2]?).getD 0+20 * (x.2[3]?).getD 0)))
theorem four {l:List Nat} (h:l.length=4):∃ a b c d,l=[a,b,c,d]:=by
 match l,h with
 | [a,b,c,d],_=>exact ⟨a,b,c,d,rfl⟩
theorem code4_lt {lim:Nat->Nat} {n:Nat} {x:Spt} (h:SOk4 lim n x):code4 x<320000:=by
 obtain ⟨b,l⟩:=x
 obtain ⟨p,q,r,s,e⟩:=four h.len
 simp only at e
 subst e
 have h0:=(h.lt 0 p rfl).1;have h1:=(h.lt 1 q rfl).1;have h2:=(h.lt 2 r rfl).1;have h3:=(h.lt 3 s rfl).1
 unfold code4
 simp
 split <;> omega
theorem code4_inj {lim:Nat->Nat} {n:Nat} {x y:Spt} (h:SOk4 lim n x) (k:SOk4 lim n y) (e:code4 x=code4 y):x=y:=by
 obtain ⟨b,l⟩:=x
 obtain ⟨b',l'⟩:=y
 obtain ⟨p,q,r,s,e1⟩:=four h.len
 obtain ⟨p',q',r',s',e2⟩:=four k.len
 simp only at e1 e2
 subst e1;subst e2
 have h0:=(h.lt 0 p rfl).1;have h1:=(h.lt 1 q rfl).1;have h2:=(h.lt 2 r rfl).1;have h3:=(h.lt 3 s rfl).1
 have k0:=(k.lt 0 p' rfl).1;have k1:=(k.lt 1 q' rfl).1;have k2:=(k.lt 2 r' rfl).1;have k3:=(k.lt 3 s' rfl).1
 unfold code4 at e
 simp at e
 have:b=b'/\p=p'/\q=q'/\r=r'/\s=s':=by
  cases b <;> cases b' <;> simp at e <;> refine ⟨?_,?_,?_,?_,?_⟩ <;> first | rfl | omega
 obtain ⟨rfl,rfl,rfl,rfl,rfl⟩:=this
 rfl
theorem few4 {lim:Nat->Nat} {n:Nat} {X:List Spt} (hn:X.Nodup) (h:∀ x ∈ X,SOk4 lim n x):X.length<=320000:=by
 have h1:(X.map code4).Nodup:=by
  rw [List.nodup_iff_pairwise_ne,List.pairwise_map]
  refine List.Pairwise.imp_of_mem ?_ hn
  intro x y hx hy hne e
  exact hne (code4_inj (h x hx) (h y hy) e)
 have h2:=List.Nodup.length_le_of_subset (l₂:=List.range 320000) h1 (fun c hc=>by
  obtain ⟨x,hx,rfl⟩:=List.mem_map.1 hc
  exact List.mem_range.2 (code4_lt (h x hx)))
 rw [List.length_map,List.length_range] at h2
 exact h2
end Go.Proofs.YtodagkkjfipbgaaGreatDoor
