import Derived.Test.YtodagkkjfipbgaaGreatDoorN8toN9
namespace Go.Proofs.YtodagkkjfipbgaaGreatDoor
open Go.RowKit Go.Maps
theorem Tryz.infoAr:(Tryz.prog.info? 234).map (fun i=>(i.zero,i.size,i.bytes))=some (some (.agg #[.bool false,.slice none 0 0,.slice none 0 0]),3,56):=by kernel_rfl
theorem Tryz.undAr:Tryz.prog.underlying 159=some (.slice 234):=by kernel_rfl
def SideT (nx:(Nat->Prop)->Nat->Nat->Prop) (goal:Nat) (Ss0:List (Nat->Prop)) (tab:Tab):Prop:=∃ Ss,tab.length=Ss.length/\Ss0 <+: Ss/\Ss.length<=20/\TabOk nx goal Ss tab
theorem SideT.good {nx:(Nat->Prop)->Nat->Nat->Prop} {goal:Nat} {Ss0:List (Nat->Prop)} {tab:Tab} (h:SideT nx goal Ss0 tab) (h0:1<=Ss0.length):TabGood tab/\Ss0.length<=tab.length:=by
 obtain ⟨Ss,h1,h2,h3,h4⟩:=h
 have h5:=h2.length_le
 refine ⟨⟨by omega,by omega,fun r hr=>?_⟩,by omega⟩
 obtain ⟨i,hi⟩:=List.mem_iff_getElem?.1 hr
 obtain ⟨h6,S,_,_,h7⟩:=h4 i r.1 r.2 hi
 refine ⟨h6,fun n hn=>?_⟩
 obtain ⟨k,hk⟩:=List.mem_iff_getElem?.1 hn
 have hkl:=(List.getElem?_eq_some_iff.1 hk).1
 obtain ⟨n',h8,h9⟩:=h7 k (by omega)
 rw [hk] at h8
 cases h8
 rw [h1]
 exact (List.getElem?_eq_some_iff.1 h9).1
def LeftT (S:List St) (first:Nat) (tab:Tab):Prop:=SideT (nxA (graphOf true S) first) 0 [reach (graphOf true S) first] tab
def OnwardT (S:List St) (first:Nat) (tab:Tab):Prop:=SideT (nxH (graphOf true S) 0) 0 [reach (graphOf true S) first,fun _=>False] tab
def JOk (Ls:List RuleM) (J:AJ):Prop:=J.length=Ls.length/\∀ (i:Nat) (L:RuleM) (r:ARule),Ls[i]?=some L->J[i]?=some r->r.cut=L.cut/\LeftT L.SL L.fL r.tl/\OnwardT L.SR L.fR r.tr
theorem SideT.of {w w':World} {r:Ending} {nx:(Nat->Prop)->Nat->Nat->Prop} {goal:Nat} {Ss0:List (Nat->Prop)} {mkv:Value->Value} (h:SidePost nx goal Ss0 mkv w r w'):∃ v ao n cap tab,r=.returned (mkv v)/\v=.slice ao n cap/\TabIn 0 w' v tab/\SideT nx goal Ss0 tab/\Below w.heap.size w w':=by
 obtain ⟨v,tab,Ss,h1,h2,h3,h4,h5,h6,h7⟩:=h
 obtain ⟨ao,cap,e⟩:=row_shape h2
 exact ⟨v,ao,_,cap,tab,h1,e,row_base h2 (Nat.zero_le _),⟨Ss,h3,h4,h5,h6⟩,h7⟩
theorem aCells_snoc (J:AJ) (vs:List (Value × Value)) (r:ARule) (v:Value × Value) (h:vs.length=J.length):aCells (J++[r]) (vs++[v])=aCells J vs++[.bool r.cut,v.1,v.2]:=by
 unfold aCells;rw [List.zip_append h.symm];simp
theorem AIn.nil (base:Nat) (w:World):AIn base w (.slice none 0 0) [] []:=⟨rfl,World.ownsRow_nil _ _ _ _,fun i r u h=>by simp at h,fun r h=>by simp at h⟩
theorem AIn.push {base:Nat} {w w':World} {v v' vl vr:Value} {J:AJ} {vs:List (Value × Value)} {r:ARule} (h:AIn base w v J vs) (hg:w.grownBy w' v.ownBlock) (hl:TabIn 0 w vl r.tl) (hr:TabIn 0 w vr r.tr) (hok:ARuleOk r)
  (ho:w'.ownsRow base 234 3 v' (J.length+1) (aCells J vs++[.bool r.cut,vl,vr])):AIn base w' v' (J++[r]) (vs++[(vl,vr)]):=by
 have k:Kp 341 w w':=(Kp.refl _ w).grown h.row hg (by decide)
 refine ⟨by simp [h.len],by rw [aCells_snoc _ _ _ _ h.len,List.length_append];exact ho,?_,fun x hx=>?_⟩
 ·intro i r' u hr' hu
  rcases snoc_at hr' with ⟨a1,_⟩ | ⟨a1,rfl⟩
  ·rcases snoc_at hu with ⟨b1,_⟩ | ⟨b1,rfl⟩
   ·exact ⟨row_kp (h.tab i r' u a1 b1).1 k,row_kp (h.tab i r' u a1 b1).2 k⟩
   ·have:=(List.getElem?_eq_some_iff.1 a1).1;have:=h.len;omega
  ·rcases snoc_at hu with ⟨b1,b2⟩ | ⟨b1,rfl⟩
   ·have:=(List.getElem?_eq_some_iff.1 b1).1;have:=h.len;omega
   ·exact ⟨row_kp hl k,row_kp hr k⟩
 ·rw [List.mem_append] at hx
  rcases hx with hx | hx
  ·exact h.ok x hx
  ·simp at hx;subst hx;exact hok
theorem JOk.snoc {Ls:List RuleM} {J:AJ} {L:RuleM} {r:ARule} (h:JOk Ls J) (h1:r.cut=L.cut) (h2:LeftT L.SL L.fL r.tl) (h3:OnwardT L.SR L.fR r.tr):JOk (Ls++[L]) (J++[r]):=by
 refine ⟨by simp [h.1],fun i L' r' hL hr=>?_⟩
 rcases snoc_at hL with ⟨a1,_⟩ | ⟨a1,rfl⟩
 ·rcases snoc_at hr with ⟨b1,_⟩ | ⟨b1,rfl⟩
  ·exact h.2 i L' r' a1 b1
  ·have:=(List.getElem?_eq_some_iff.1 a1).1;have:=h.1;omega
 ·rcases snoc_at hr with ⟨b1,_⟩ | ⟨b1,rfl⟩
  ·have:=(List.getElem?_eq_some_iff.1 b1).1;have:=h.1;omega
  ·exact ⟨h1,h2,h3⟩
theorem ar_new (w:World) (c:Bool) (a b:Value):∀ (j:Nat) (u:Value),[Value.bool c,a,b][j]?=some u->(w.alloc (.cells #[.bool c,a,b] 234)).cell? ⟨w.heap.size,j,none⟩=some u:=fun j u hu=>cell_of_block (heap_alloc_new w _) j u (by simpa using hu)
set_option maxRecDepth 100000 in
set_option maxHeartbeats 4000000 in
theorem makeJudge_any (lb:Nat) (vL:Value) (Ls:List RuleM) (w:World) (hL:LIn lb w vL Ls) (hok:∀ L ∈ Ls,RuleOk L) (hlen:Ls.length<=100) :
  Calls Tryz.prog 83 #[vL] w fun r w'=>∃ v J vs,r=.returned v/\AIn w.heap.size w' v J vs/\JOk Ls J/\Below w.heap.size w w':=by
 obtain ⟨ao,cap,rfl,hf⟩:=hL.form
 have HF:Hid (∀ i (hi:i<Ls.length),∃ g aL cL aR cR tL tR,ao=some ⟨g,0,none⟩/\g<w.heap.size/\MRow w 0 (.slice aL Ls[i].SL.length cL) Ls[i].SL tL/\MRow w 0 (.slice aR Ls[i].SR.length cR) Ls[i].SR tR /\
  w.cell? ⟨g,i * 5,none⟩=some (.bool Ls[i].cut)/\w.cell? ⟨g,i * 5+1,none⟩=some (.slice aL Ls[i].SL.length cL)/\w.cell? ⟨g,i * 5+2,none⟩=some (.int .i64 (Ls[i].fL:Nat))/\w.cell? ⟨g,i * 5+3,none⟩=some (.slice aR Ls[i].SR.length cR)/\w.cell? ⟨g,i * 5+4,none⟩=some (.int .i64 (Ls[i].fR:Nat))):=hf
 clear hL hf
 go_enter Tryz.func83,Tryz.ntmps83
 go_wp2_with fail
 go_loopg [3,8] Ls.length (fun gh jv iv wx=>∃ (i:Nat) (aoJ:Option Addr) (capJ:Nat) (J:AJ) (vs:List (Value × Value)),i<=Ls.length/\gh=Ls.length - i/\iv=.int .i64 i/\jv=.slice aoJ J.length capJ/\Hid (J.length=i)/\Hid (AIn w.heap.size wx (.slice aoJ J.length capJ) J vs)/\Hid (JOk (Ls.take i) J)/\Hid (Below w.heap.size w wx))
 case atStart=>exact ⟨0,none,0,[],[],Nat.zero_le _,rfl,rfl,rfl,(rfl:([]:AJ).length=0),AIn.nil _ _,⟨by simp,fun i L r h=>by simp at h⟩,Below.refl _ _⟩
 case round =>
  obtain ⟨i,aoJ,capJ,J,vs,hi,rfl,rfl,rfl,hJi,hJ,hO,hB⟩:=hrel
  obtain ⟨w1,hw1⟩:∃ w1,w1=wr:=⟨wr,rfl⟩
  subst hw1
  have hs1:=hB.out.size
  have hJl:J.length<=100:=by have:=hJi.out;omega
  by_cases hlt:i<Ls.length
  ·obtain ⟨g,aL,cL,aR,cR,tL,tR,rfl,hg,hML,hMR,c0,c1,c2,c3,c4⟩:=HF.out i hlt
   have HOK:Hid (RuleOk Ls[i]):=hok _ (List.getElem_mem hlt)
   have HT:Hid (Ls.take (i+1)=Ls.take i++[Ls[i]]):=by show _=_;rw [List.take_add_one,List.getElem?_eq_getElem hlt];rfl
   generalize Ls[i]=L at *
   have d0:=(hB.out.cell (p:=⟨g,i * 5,none⟩) hg).trans c0
   have d1:=(hB.out.cell (p:=⟨g,i * 5+1,none⟩) hg).trans c1
   have d2:=(hB.out.cell (p:=⟨g,i * 5+2,none⟩) hg).trans c2
   have d3:=(hB.out.cell (p:=⟨g,i * 5+3,none⟩) hg).trans c3
   have d4:=(hB.out.cell (p:=⟨g,i * 5+4,none⟩) hg).trans c4
   clear c0 c1 c2 c3 c4
   obtain ⟨W0,hW0⟩:∃ W0,W0=w1.alloc (.cells #[.bool L.cut,.slice aL L.SL.length cL,.int .i64 (L.fL:Nat),.slice aR L.SR.length cR,.int .i64 (L.fR:Nat)] 148):=⟨_,rfl⟩
   have HW0:Hid (W0=w1.alloc (.cells #[.bool L.cut,.slice aL L.SL.length cL,.int .i64 (L.fL:Nat),.slice aR L.SR.length cR,.int .i64 (L.fR:Nat)] 148)):=hW0
   have b0:Below w1.heap.size w1 W0:=by rw [hW0];exact below_alloc w1 _
   have hz0:W0.heap.size=w1.heap.size+1:=by rw [hW0];simp
   have p0:W0.heap[w1.heap.size]?=some (.cells #[.bool L.cut,.slice aL L.SL.length cL,.int .i64 (L.fL:Nat),.slice aR L.SR.length cR,.int .i64 (L.fR:Nat)] 148 (0,0)):=by rw [hW0];exact heap_alloc_new w1 _
   have BW:Hid (Below w.heap.size w W0):=hB.out.trans (b0.mono hs1)
   have BB:Hid (Below w1.heap.size w1 W0):=b0
   have CL:Hid (∀ W,Below W0.heap.size W0 W->Calls Tryz.prog 81 #[.agg #[.slice aL L.SL.length cL,.int .i64 (L.fL:Nat)]] W (SidePost (nxA (graphOf true L.SL) L.fL) 0 [reach (graphOf true L.SL) L.fL] (fun v=>.agg #[v]) W)):=fun W hb=>left_any L.SL HOK.out.sl HOK.out.cl _ tL L.fL W ((hML.later (BW.out.trans (hb.mono BW.out.size)))) HOK.out.fl
   have CR:Hid (∀ W,Below W0.heap.size W0 W->Calls Tryz.prog 138 #[.agg #[.slice aR L.SR.length cR,.int .i64 (L.fR:Nat)]] W (SidePost (nxH (graphOf true L.SR) 0) 0 [reach (graphOf true L.SR) L.fR,fun _=>False] (fun v=>.agg #[v]) W)):=fun W hb=>onward_any L.SR HOK.out.sr HOK.out.cf _ tR L.fR W ((hMR.later (BW.out.trans (hb.mono BW.out.size)))) HOK.out.fr
   have m0:W0.cell? ⟨w1.heap.size,0,none⟩=some (.bool L.cut):=cell_of_block p0 0 _ rfl
   have m1:W0.cell? ⟨w1.heap.size,1,none⟩=some (.slice aL L.SL.length cL):=cell_of_block p0 1 _ rfl
   have m2:W0.cell? ⟨w1.heap.size,2,none⟩=some (.int .i64 (L.fL:Nat)):=cell_of_block p0 2 _ rfl
   have m3:W0.cell? ⟨w1.heap.size,3,none⟩=some (.slice aR L.SR.length cR):=cell_of_block p0 3 _ rfl
   have m4:W0.cell? ⟨w1.heap.size,4,none⟩=some (.int .i64 (L.fR:Nat)):=cell_of_block p0 4 _ rfl
   have P0:Hid (W0.heap[w1.heap.size]?=some (.cells #[.bool L.cut,.slice aL L.SL.length cL,.int .i64 (L.fL:Nat),.slice aR L.SR.length cR,.int .i64 (L.fR:Nat)] 148 (0,0))):=p0
   clear hW0 b0 p0 hML hMR
   go_wp2_with fail
   rw [<- HW0.out]
   go_region_held3 (fun w'=>w'.cell? ⟨w1.heap.size,0,none⟩=some (.bool L.cut)/\w'.cell? ⟨w1.heap.size,1,none⟩=some (.slice aL L.SL.length cL)/\w'.cell? ⟨w1.heap.size,2,none⟩=some (.int .i64 (L.fL:Nat))/\w'.cell? ⟨w1.heap.size,3,none⟩=some (.slice aR L.SR.length cR)/\w'.cell? ⟨w1.heap.size,4,none⟩=some (.int .i64 (L.fR:Nat)))
    (first | exact HH.out | exact II.out | exact HK.out | go_keep)
    (first
     | (go_at_call 81
        refine (CL.out _ ((Below.refl _ _).drew)).mono ?_
        intro e W1 hpost
        obtain ⟨v1,ao1,n1,cap1,t1,rfl,rfl,hT1,hS1,hB1⟩:=SideT.of hpost
        have T1:Hid (TabIn 0 W1 (.slice ao1 n1 cap1) t1):=hT1
        have S1:Hid (LeftT L.SL L.fL t1):=hS1
        have B1:Hid (Below W0.heap.size W0 W1):=below_drew hB1
        have HH:Hid (W1.cell? ⟨w1.heap.size,0,none⟩=some (.bool L.cut)/\W1.cell? ⟨w1.heap.size,1,none⟩=some (.slice aL L.SL.length cL)/\W1.cell? ⟨w1.heap.size,2,none⟩=some (.int .i64 (L.fL:Nat))/\W1.cell? ⟨w1.heap.size,3,none⟩=some (.slice aR L.SR.length cR)/\W1.cell? ⟨w1.heap.size,4,none⟩=some (.int .i64 (L.fR:Nat))) :=
         ⟨(B1.out.cell (p:=⟨w1.heap.size,0,none⟩) (by show w1.heap.size<_;omega)).trans m0,(B1.out.cell (p:=⟨w1.heap.size,1,none⟩) (by show w1.heap.size<_;omega)).trans m1,(B1.out.cell (p:=⟨w1.heap.size,2,none⟩) (by show w1.heap.size<_;omega)).trans m2,(B1.out.cell (p:=⟨w1.heap.size,3,none⟩) (by show w1.heap.size<_;omega)).trans m3,(B1.out.cell (p:=⟨w1.heap.size,4,none⟩) (by show w1.heap.size<_;omega)).trans m4⟩
        clear hpost hT1 hS1 hB1)
     | (go_at_call 138
        refine (CR.out _ B1.out).mono ?_
        intro e W2 hpost
        obtain ⟨v2,ao2,n2,cap2,t2,rfl,rfl,hT2,hS2,hB2⟩:=SideT.of hpost
        have T2:Hid (TabIn 0 W2 (.slice ao2 n2 cap2) t2):=hT2
        have T1b:Hid (TabIn 0 W2 (.slice ao1 n1 cap1) t1):=row_kp T1.out (Kp.below hB2)
        have S2:Hid (OnwardT L.SR L.fR t2):=hS2
        have B2:Hid (Below W0.heap.size W0 W2):=B1.out.trans (hB2.mono B1.out.size)
        have II:Hid (W2.cell? ⟨w1.heap.size,0,none⟩=some (.bool L.cut)/\W2.cell? ⟨w1.heap.size,1,none⟩=some (.slice aL L.SL.length cL)/\W2.cell? ⟨w1.heap.size,2,none⟩=some (.int .i64 (L.fL:Nat))/\W2.cell? ⟨w1.heap.size,3,none⟩=some (.slice aR L.SR.length cR)/\W2.cell? ⟨w1.heap.size,4,none⟩=some (.int .i64 (L.fR:Nat))) :=
         ⟨(B2.out.cell (p:=⟨w1.heap.size,0,none⟩) (by show w1.heap.size<_;omega)).trans m0,(B2.out.cell (p:=⟨w1.heap.size,1,none⟩) (by show w1.heap.size<_;omega)).trans m1,(B2.out.cell (p:=⟨w1.heap.size,2,none⟩) (by show w1.heap.size<_;omega)).trans m2,(B2.out.cell (p:=⟨w1.heap.size,3,none⟩) (by show w1.heap.size<_;omega)).trans m3,(B2.out.cell (p:=⟨w1.heap.size,4,none⟩) (by show w1.heap.size<_;omega)).trans m4⟩
        have hz2:=B2.out.size
        have B3:Hid (Below w1.heap.size w1 (W2.alloc (.cells #[.bool L.cut,.slice ao1 n1 cap1,.slice ao2 n2 cap2] 234))):=(BB.out.trans (B2.out.mono (by omega))).alloc (by omega) _
        have A3:Hid (AIn w.heap.size (W2.alloc (.cells #[.bool L.cut,.slice ao1 n1 cap1,.slice ao2 n2 cap2] 234)) (.slice aoJ J.length capJ) J vs):=hJ.out.below B3.out
        have TT:Hid (TabIn 0 (W2.alloc (.cells #[.bool L.cut,.slice ao1 n1 cap1,.slice ao2 n2 cap2] 234)) (.slice ao1 n1 cap1) t1/\TabIn 0 (W2.alloc (.cells #[.bool L.cut,.slice ao1 n1 cap1,.slice ao2 n2 cap2] 234)) (.slice ao2 n2 cap2) t2):=⟨row_kp T1b.out (Kp.below (below_alloc W2 _)),row_kp T2.out (Kp.below (below_alloc W2 _))⟩
        have P3:Hid ((W2.alloc (.cells #[.bool L.cut,.slice ao1 n1 cap1,.slice ao2 n2 cap2] 234)).heap[w1.heap.size]?=some (.cells #[.bool L.cut,.slice aL L.SL.length cL,.int .i64 (L.fL:Nat),.slice aR L.SR.length cR,.int .i64 (L.fR:Nat)] 148 (0,0))):=(Below.heap_alloc _ _ _ (by omega)).trans ((B2.out.block _ (by omega)).trans P0.out)
        clear hpost hT2 hS2 hB2)
     | (refine step_push2 rfl (.tmp 12) (.tmp 22) 159 rfl w.heap.size 234 (.agg #[.bool false,.slice none 0 0,.slice none 0 0]) 3 56 Tryz.infoAr Tryz.undAr rfl (by decide) (.slice aoJ J.length capJ) J.length (aCells J vs) (by simp [Act.eval]) A3.out.row W2.heap.size 1 [.bool L.cut,.slice ao1 n1 cap1,.slice ao2 n2 cap2] (by simp [Act.eval]) rfl (ar_new W2 L.cut (.slice ao1 n1 cap1) (.slice ao2 n2 cap2)) (three_one L.cut (.slice ao1 n1 cap1) (.slice ao2 n2 cap2) rfl rfl) (by omega) (by omega) (by simp;omega) ?_
        intro v' W3 hown hgr hsn
        obtain ⟨ao',cap',rfl⟩:=row_shape hown
        have hg1:=S1.out.good (by simp)
        have hg2:=S2.out.good (by simp)
        have A4:Hid (AIn w.heap.size W3 (.slice ao' (J.length+1) cap') (J++[⟨L.cut,t1,t2⟩]) (vs++[(.slice ao1 n1 cap1,.slice ao2 n2 cap2)])):=AIn.push A3.out hgr TT.out.1 TT.out.2 ⟨hg2.2,hg1.1,hg2.1⟩ hown
        have B4:Hid (Below w.heap.size w W3):=(hB.out.trans (B3.out.mono hs1)).grown hgr (by simp;omega) (fun k hk=>(A3.out.row.lt k hk).1)
        have hq3:=kept_grown P3.out (Kp.refl _ _) A3.out.row hgr (by decide)
        have HK:Hid (W3.cell? ⟨w1.heap.size,0,none⟩=some (.bool L.cut)/\W3.cell? ⟨w1.heap.size,1,none⟩=some (.slice aL L.SL.length cL)/\W3.cell? ⟨w1.heap.size,2,none⟩=some (.int .i64 (L.fL:Nat))/\W3.cell? ⟨w1.heap.size,3,none⟩=some (.slice aR L.SR.length cR)/\W3.cell? ⟨w1.heap.size,4,none⟩=some (.int .i64 (L.fR:Nat))):=⟨cell_of_block hq3 0 _ rfl,cell_of_block hq3 1 _ rfl,cell_of_block hq3 2 _ rfl,cell_of_block hq3 3 _ rfl,cell_of_block hq3 4 _ rfl⟩
        clear hown hgr hsn hg1 hg2 hq3))
   all_goals go_wp2_with fail
   all_goals go_roundg (Ls.length - (i+1))
   all_goals first
    | (case measure=>omega)
    | exact ⟨i+1,ao',cap',J++[⟨L.cut,t1,t2⟩],vs++[(.slice ao1 n1 cap1,.slice ao2 n2 cap2)],by omega,rfl,by go_num,by rw [List.length_append];rfl,by show _=_;rw [List.length_append,hJi.out];rfl,by rw [List.length_append];exact A4,by rw [HT.out];exact hO.out.snoc rfl S1.out S2.out,B4⟩
  ·have e:Hid (Ls.take i=Ls):=List.take_of_length_le (by omega)
   go_wp2_with fail
   go_ret
   exact ⟨_,J,vs,rfl,hJ.out,by have:=hO.out;rw [e.out] at this;exact this,hB.out⟩
theorem FoundX.pre {X X':List Spt} {x:Spt} {i:Nat} (h:FoundX X x X' i):X <+: X'/\X'[i]?=some x:=by
 rcases h with ⟨rfl,h2⟩ | ⟨_,rfl,rfl⟩
 ·exact ⟨List.prefix_refl _,h2⟩
 ·exact ⟨List.prefix_append _ _,by simp⟩
theorem FoundX.all {X X':List Spt} {x:Spt} {i:Nat} {P:Spt->Prop} (h:FoundX X x X' i) (hX:∀ y ∈ X,P y) (hx:P x):∀ y ∈ X',P y:=by
 rcases h with ⟨rfl,_⟩ | ⟨_,rfl,_⟩
 ·exact hX
 ·exact all_snoc hX hx
theorem FInP.set_ {base p cap lb o:Nat} {w:World} {X:List Spt} {ao:Option Addr} {mo:Option Nat} {cs:Array Value} {t:TypeId} {m:Nat × Nat} (h:FInP base w p X ao cap mo) (hl:w.heap[lb]?=some (.cells cs t m)) (h1:t ≠ 238) (h2:t ≠ 243) (u:Value):FInP base (w.setCell ⟨lb,o,none⟩ u) p X ao cap mo :=
 h.chg fun k _ hk=>setCell_type fun e=>by
  subst e
  rcases hk with e | e | e
  ·subst e;rw [h.blk] at hl;cases hl;exact h1 rfl
  ·obtain ⟨cs',hk⟩:=row_type h.row k e;rw [hk] at hl;cases hl;exact h2 rfl
  ·exact (h.lt e).2.2 _ _ _ hl
theorem FInK.set_ {base p cap lb o:Nat} {w:World} {X:List Spt} {ao:Option Addr} {mo:Option Nat} {cs:Array Value} {t:TypeId} {m:Nat × Nat} (h:FInK base w p X ao cap mo) (hl:w.heap[lb]?=some (.cells cs t m)) (h1:t ≠ 164) (h2:t ≠ 249) (u:Value):FInK base (w.setCell ⟨lb,o,none⟩ u) p X ao cap mo :=
 h.chg fun k _ hk=>setCell_type fun e=>by
  subst e
  rcases hk with e | e | e
  ·subst e;rw [h.blk] at hl;cases hl;exact h1 rfl
  ·obtain ⟨cs',hk⟩:=row_type h.row k e;rw [hk] at hl;cases hl;exact h2 rfl
  ·exact (h.lt e).2.2 _ _ _ hl
theorem FInK.findP {base p q cap capX:Nat} {w w':World} {X K:List Spt} {ao aoX:Option Addr} {mo moX:Option Nat} (h:FInK base w q K ao cap mo) (hx:FInP base w p X aoX capX moX) (hne:∀ b,moX=some b->mo ≠ some b) (hc:Chg (AtP p X.length aoX capX moX) w w'):FInK base w' q K ao cap mo :=
 h.chg fun k hk hu=>hc.block k hk fun e=>by
  have kt:∀ cs t m,w.heap[k]?=some (.cells cs t m)->t=164\/t=249:=fun cs t m hh=>by
   rcases hu with e1 | e1 | e1
   ·subst e1;rw [h.blk] at hh;cases hh;exact Or.inl rfl
   ·obtain ⟨cs',hk⟩:=row_type h.row k e1;rw [hk] at hh;cases hh;exact Or.inr rfl
   ·exact ((h.lt e1).2.2 _ _ _ hh).elim
  rcases e with e | e | e
  ·subst e;rcases kt _ _ _ hx.blk with h1 | h1 <;> exact absurd h1 (by decide)
  ·obtain ⟨cs',hk'⟩:=row_type hx.row k e;rcases kt _ _ _ hk' with h1 | h1 <;> exact absurd h1 (by decide)
  ·rcases hu with e1 | e1 | e1
   ·subst e1;exact (hx.lt e).2.2 _ _ _ h.blk
   ·obtain ⟨cs',hk'⟩:=row_type h.row k e1;exact (hx.lt e).2.2 _ _ _ hk'
   ·exact hne k e e1
theorem FInP.findK {base p q cap capX:Nat} {w w':World} {X K:List Spt} {ao aoX:Option Addr} {mo moX:Option Nat} (h:FInP base w q K ao cap mo) (hx:FInK base w p X aoX capX moX) (hne:∀ b,moX=some b->mo ≠ some b) (hc:Chg (AtK p X.length aoX capX moX) w w'):FInP base w' q K ao cap mo :=
 h.chg fun k hk hu=>hc.block k hk fun e=>by
  have kt:∀ cs t m,w.heap[k]?=some (.cells cs t m)->t=238\/t=243:=fun cs t m hh=>by
   rcases hu with e1 | e1 | e1
   ·subst e1;rw [h.blk] at hh;cases hh;exact Or.inl rfl
   ·obtain ⟨cs',hk⟩:=row_type h.row k e1;rw [hk] at hh;cases hh;exact Or.inr rfl
   ·exact ((h.lt e1).2.2 _ _ _ hh).elim
  rcases e with e | e | e
  ·subst e;rcases kt _ _ _ hx.blk with h1 | h1 <;> exact absurd h1 (by decide)
  ·obtain ⟨cs',hk'⟩:=row_type hx.row k e;rcases kt _ _ _ hk' with h1 | h1 <;> exact absurd h1 (by decide)
  ·rcases hu with e1 | e1 | e1
   ·subst e1;exact (hx.lt e).2.2 _ _ _ h.blk
   ·obtain ⟨cs',hk'⟩:=row_type h.row k e1;exact (hx.lt e).2.2 _ _ _ hk'
   ·exact hne k e e1
abbrev Hd:=Nat × List Nat
def headCell (h:Hd):List Value:=.int .i64 (h.1:Nat) :: h.2.map fun (n:Nat)=>Value.int .i64 (n:Int)
def headCells (H:List Hd):List Value:=H.flatMap headCell
theorem headCells_snoc (H:List Hd) (h:Hd):headCells (H++[h])=headCells H++headCell h:=by unfold headCells;simp
theorem headCell_one (h:Hd):∀ u ∈ headCell h,u.oneCell'=true:=by
 intro u hu
 unfold headCell at hu
 simp only [List.mem_cons,List.mem_map] at hu
 rcases hu with rfl | ⟨n,_,rfl⟩ <;> rfl
theorem headCell_set (s:Nat) (l:List Nat) (k n:Nat):(headCell (s,l)).toArray.setIfInBounds (1+k) (.int .i64 n)=(headCell (s,l.set k n)).toArray:=by
 unfold headCell
 rw [List.setIfInBounds_toArray,Nat.add_comm 1 k,List.set_cons_succ,List.map_set]
theorem headCell_at {h:Hd} {j v:Nat} (hv:h.2[j]?=some v):(headCell h)[1+j]?=some (.int .i64 (v:Nat)):=by
 unfold headCell
 rw [Nat.add_comm,List.getElem?_cons_succ,List.getElem?_map,hv]
 rfl
def HeadOk (J:AJ) (ks:List Nat) (X K:List Spt) (x:Spt) (h:Hd):Prop:=h.2.length=8/\(∀ k ∈ ks,∃ n,h.2[k]?=some n/\X[n]?=some (laterA J x k))/\(x.1=true->K[h.1]?=some (startA J x))
theorem HeadOk.more {J:AJ} {ks:List Nat} {X X' K K':List Spt} {x:Spt} {h:Hd} (hh:HeadOk J ks X K x h) (hX:X <+: X') (hK:K <+: K'):HeadOk J ks X' K' x h :=
 ⟨hh.1,fun k hk=>by obtain ⟨n,h1,h2⟩:=hh.2.1 k hk;exact ⟨n,h1,at_prefix hX h2⟩,fun e=>at_prefix hK (hh.2.2 e)⟩
def HeadsOk (J:AJ) (ks:List Nat) (X K:List Spt) (H:List Hd):Prop:=∀ (i:Nat) (h:Hd),H[i]?=some h->∃ x,X[i]?=some x/\HeadOk J ks X K x h
theorem HeadsOk.more {J:AJ} {ks:List Nat} {X X' K K':List Spt} {H:List Hd} (hh:HeadsOk J ks X K H) (hX:X <+: X') (hK:K <+: K'):HeadsOk J ks X' K' H:=fun i h hi=>by
 obtain ⟨x,h1,h2⟩:=hh i h hi
 exact ⟨x,at_prefix hX h1,h2.more hX hK⟩
theorem HeadsOk.snoc {J:AJ} {ks:List Nat} {X K:List Spt} {H:List Hd} {x:Spt} {h:Hd} (hh:HeadsOk J ks X K H) (hx:X[H.length]?=some x) (h1:HeadOk J ks X K x h):HeadsOk J ks X K (H++[h]):=fun i g hi=>by
 rcases snoc_at hi with ⟨h2,_⟩ | ⟨h2,rfl⟩
 ·exact hh i g h2
 ·exact ⟨x,by rw [h2];exact hx,h1⟩
def kCells (ks:List Nat):List Value:=ks.map fun (k:Nat)=>Value.int .u8 (k:Int)
structure LBk (base:Nat) (w:World) (p q o:Nat) (J:AJ) (vs:List (Value × Value)) (vJ:Value) (ks:List Nat) (vP:Value) (X:List Spt) (aoX:Option Addr) (capX:Nat) (moX:Option Nat) (K:List Spt) (aoK:Option Addr) (capK:Nat) (moK:Option Nat) (H:List Hd) (aoH:Option Addr) (capH:Nat):Prop where
 fx:FInP base w p X aoX capX moX
 fk:FInK base w q K aoK capK moK
 ap:∀ b,moX=some b->moK ≠ some b
 aj:AIn 0 w vJ J vs
 ps:w.ownsRow 0 169 1 vP ks.length (kCells ks)
 hd:w.ownsRow base 246 9 (.slice aoH H.length capH) H.length (headCells H)
 ob:w.heap[o]?=some (.cells #[vP,.slice aoH H.length capH,.slice none 0 0] 95 (0,0))
theorem LBk.below {base p q o:Nat} {w w':World} {J:AJ} {vs:List (Value × Value)} {vJ:Value} {ks:List Nat} {vP:Value} {X:List Spt} {aoX:Option Addr} {capX:Nat} {moX:Option Nat} {K:List Spt} {aoK:Option Addr} {capK:Nat} {moK:Option Nat} {H:List Hd} {aoH:Option Addr} {capH:Nat} (h:LBk base w p q o J vs vJ ks vP X aoX capX moX K aoK capK moK H aoH capH) (hb:Below w.heap.size w w'):LBk base w' p q o J vs vJ ks vP X aoX capX moX K aoK capK moK H aoH capH :=
 ⟨h.fx.below hb,h.fk.below hb,h.ap,h.aj.below hb,row_kp h.ps (Kp.below hb),row_kp h.hd (Kp.below hb),(hb.block o (heap_lt h.ob)).trans h.ob⟩
theorem LBk.findP {base p q o:Nat} {w w':World} {J:AJ} {vs:List (Value × Value)} {vJ:Value} {ks:List Nat} {vP:Value} {X:List Spt} {aoX:Option Addr} {capX:Nat} {moX:Option Nat} {K:List Spt} {aoK:Option Addr} {capK:Nat} {moK:Option Nat} {H:List Hd} {aoH:Option Addr} {capH:Nat} {x:Spt} {i:Nat} {X':List Spt} {ao':Option Addr} {cap':Nat} {mo':Option Nat} (h:LBk base w p q o J vs vJ ks vP X aoX capX moX K aoK capK moK H aoH capH) (hf:FInP base w' p X' ao' cap' mo') (hm:mo'=moX\/∃ b,mo'=some b/\w.heap.size<=b) (hc:Chg (AtP p X.length aoX capX moX) w w') (_:FoundX X x X' i):LBk base w' p q o J vs vJ ks vP X' ao' cap' mo' K aoK capK moK H aoH capH:=by
 refine ⟨hf,h.fk.findP h.fx h.ap hc,fun b e e'=>?_,h.aj.kp (h.fx.kp hc (by decide) (by decide)) (h.fx.kp hc (by decide) (by decide)),row_kp h.ps (h.fx.kp hc (by decide) (by decide)),row_kp h.hd (h.fx.kp hc (by decide) (by decide)),h.fx.kp hc (by decide) (by decide) _ _ _ h.ob⟩
 rcases hm with e1 | ⟨b',e1,e2⟩
 ·rw [e1] at e;exact h.ap b e e'
 ·rw [e1] at e;cases e;have:=(h.fk.lt e').1;omega
theorem LBk.findK {base p q o:Nat} {w w':World} {J:AJ} {vs:List (Value × Value)} {vJ:Value} {ks:List Nat} {vP:Value} {X:List Spt} {aoX:Option Addr} {capX:Nat} {moX:Option Nat} {K:List Spt} {aoK:Option Addr} {capK:Nat} {moK:Option Nat} {H:List Hd} {aoH:Option Addr} {capH:Nat} {x:Spt} {i:Nat} {K':List Spt} {ao':Option Addr} {cap':Nat} {mo':Option Nat} (h:LBk base w p q o J vs vJ ks vP X aoX capX moX K aoK capK moK H aoH capH) (hf:FInK base w' q K' ao' cap' mo') (hm:mo'=moK\/∃ b,mo'=some b/\w.heap.size<=b) (hc:Chg (AtK q K.length aoK capK moK) w w') (_:FoundX K x K' i):LBk base w' p q o J vs vJ ks vP X aoX capX moX K' ao' cap' mo' H aoH capH:=by
 refine ⟨h.fx.findK h.fk (fun b e e'=>h.ap b e' e) hc,hf,fun b e e'=>?_,h.aj.kp (h.fk.kp hc (by decide) (by decide)) (h.fk.kp hc (by decide) (by decide)),row_kp h.ps (h.fk.kp hc (by decide) (by decide)),row_kp h.hd (h.fk.kp hc (by decide) (by decide)),h.fk.kp hc (by decide) (by decide) _ _ _ h.ob⟩
 rcases hm with e1 | ⟨b',e1,e2⟩
 ·rw [e1] at e';exact h.ap b e e'
 ·rw [e1] at e';cases e';have:=(h.fx.lt e).1;omega
theorem row_setN {base size n lb o:Nat} {w:World} {e:TypeId} {v:Value} {us:List Value} (h:w.ownsRow base e size v n us) (hn:∀ k,v.ownBlock=some k->k ≠ lb) (u:Value):(w.setCell ⟨lb,o,none⟩ u).ownsRow base e size v n us:=by
 obtain ⟨h1,h2⟩:=h
 refine ⟨h1,?_⟩
 rcases h2 with h2 | ⟨g,c,cur,hv,hg,hh,r⟩
 ·exact Or.inl h2
 ·exact Or.inr ⟨g,c,cur,hv,hg,(setCell_type (hn g (by rw [hv];rfl))).trans hh,r⟩
theorem LBk.setHead {base p q o:Nat} {w:World} {J:AJ} {vs:List (Value × Value)} {vJ:Value} {ks:List Nat} {vP:Value} {X:List Spt} {aoX:Option Addr} {capX:Nat} {moX:Option Nat} {K:List Spt} {aoK:Option Addr} {capK:Nat} {moK:Option Nat} {H:List Hd} {aoH:Option Addr} {capH:Nat} {lb f:Nat} {cs:Array Value} (h:LBk base w p q o J vs vJ ks vP X aoX capX moX K aoK capK moK H aoH capH) (hl:w.heap[lb]?=some (.cells cs 246 (0,0))) (hn:∀ k,(Value.slice aoH H.length capH).ownBlock=some k->k ≠ lb) (u:Value):LBk base (w.setCell ⟨lb,f,none⟩ u) p q o J vs vJ ks vP X aoX capX moX K aoK capK moK H aoH capH :=
 ⟨h.fx.set_ hl (by decide) (by decide) u,h.fk.set_ hl (by decide) (by decide) u,h.ap,h.aj.kp ((Kp.refl _ _).setCell hl (by decide) u) ((Kp.refl _ _).setCell hl (by decide) u),row_kp h.ps ((Kp.refl _ _).setCell hl (by decide) u),row_setN h.hd hn u,(Kp.refl _ _).setCell hl (by decide) u _ _ _ h.ob⟩
theorem LBk.push {base p q o:Nat} {w:World} {J:AJ} {vs:List (Value × Value)} {vJ:Value} {ks:List Nat} {vP:Value} {X:List Spt} {aoX:Option Addr} {capX:Nat} {moX:Option Nat} {K:List Spt} {aoK:Option Addr} {capK:Nat} {moK:Option Nat} {H:List Hd} {aoH:Option Addr} {capH:Nat} {w':World} {ao':Option Addr} {cap':Nat} {h0:Hd} (h:LBk base w p q o J vs vJ ks vP X aoX capX moX K aoK capK moK H aoH capH) (hg:w.grownBy w' (Value.slice aoH H.length capH).ownBlock) (hr:w'.ownsRow base 246 9 (.slice ao' (H.length+1) cap') (H.length+1) (headCells H++headCell h0)) :
  LBk base (w'.setCell ⟨o,1,none⟩ (.slice ao' (H.length+1) cap')) p q o J vs vJ ks vP X aoX capX moX K aoK capK moK (H++[h0]) ao' cap':=by
 have ob':=kept_grown h.ob (Kp.refl _ _) h.hd hg (by decide)
 have hbl:∀ k,(∀ cs t m,w.heap[k]?=some (.cells cs t m)->t ≠ 246/\t ≠ 95)->k<w.heap.size->(w'.setCell ⟨o,1,none⟩ (.slice ao' (H.length+1) cap')).heap[k]?=w.heap[k]?:=fun k hk hlt=>by
  rw [setCell_type (fun e=>by subst e;exact (hk _ _ _ h.ob).2 rfl),hg.block k hlt (fun e=>by obtain ⟨cs',hh⟩:=row_type h.hd k e.symm;exact (hk _ _ _ hh).1 rfl)]
 have kp:∀ t:TypeId,t ≠ 246->t ≠ 95->Kp t w (w'.setCell ⟨o,1,none⟩ (.slice ao' (H.length+1) cap')):=fun t h1 h2 k cs m hh=>by
  rw [hbl k (fun cs' t' m' hh'=>by rw [hh] at hh';cases hh';exact ⟨h1,h2⟩) (heap_lt hh)];exact hh
 refine ⟨h.fx.chg fun k hk hu=>hbl k (fun cs t m hh=>?_) hk,h.fk.chg fun k hk hu=>hbl k (fun cs t m hh=>?_) hk,h.ap,h.aj.kp (kp _ (by decide) (by decide)) (kp _ (by decide) (by decide)),row_kp h.ps (kp _ (by decide) (by decide)),?_,?_⟩
 ·rcases hu with e | e | e
  ·subst e;rw [h.fx.blk] at hh;cases hh;decide
  ·obtain ⟨cs',hk⟩:=row_type h.fx.row k e;rw [hk] at hh;cases hh;decide
  ·exact ((h.fx.lt e).2.2 _ _ _ hh).elim
 ·rcases hu with e | e | e
  ·subst e;rw [h.fk.blk] at hh;cases hh;decide
  ·obtain ⟨cs',hk⟩:=row_type h.fk.row k e;rw [hk] at hh;cases hh;decide
  ·exact ((h.fk.lt e).2.2 _ _ _ hh).elim
 ·rw [List.length_append,headCells_snoc];exact row_kp hr ((Kp.refl _ _).setCell ob' (by decide) _)
 ·rw [List.length_append];exact (block_setCell ob' 1 _).trans rfl
end Go.Proofs.YtodagkkjfipbgaaGreatDoor
