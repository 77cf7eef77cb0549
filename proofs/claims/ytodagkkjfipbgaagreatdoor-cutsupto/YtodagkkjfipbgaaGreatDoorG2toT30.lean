import Derived.Test.YtodagkkjfipbgaaGreatDoorM2toN21
import Derived.Test.YtodagkkjfipbgaaGreatDoorJ12lone
import Derived.Test.YtodagkkjfipbgaaGreatDoorV5toV6
import Derived.Test.YtodagkkjfipbgaaGreatDoorA39lone
namespace Go.Proofs.YtodagkkjfipbgaaGreatDoor
open Go.RowKit Go.Maps
theorem results_ttt {P:Program} {fn:Func} {p u v:Tmp} (h:fn.results=#[.tmp p,.tmp u,.tmp v]) (tmps:Array Value) (w:World) :
  (results fn tmps).run P w=.ok (.tuple #[tmps.getD p undef,tmps.getD u undef,tmps.getD v undef]) w:=by
 simp [results,h]
theorem JIn.base0 {base:Nat} {w:World} {v:Value} {Ls:List RuleM} (h:JIn base w v Ls):JIn 0 w v Ls:=by
 obtain ⟨vs,h1,h2,h3⟩:=h
 exact ⟨vs,h1,row_base h2 (Nat.zero_le _),h3⟩
theorem OutIn.below {w w':World} {vP vH vV:Value} {Ls:List RuleM} {ks:List Nat} (h:OutIn w vP vH vV Ls ks) (hb:Below w.heap.size w w'):OutIn w' vP vH vV Ls ks:=by
 obtain ⟨J,X,K,H,V,MC,MJ,h1,h2,h3,h4⟩:=h
 exact ⟨J,X,K,H,V,MC,MJ,h1,row_kp h2 (Kp.below hb),row_kp h3 (Kp.below hb),row_kp h4 (Kp.below hb)⟩
structure RulesIn (w:World) (g:Nat) (T:ByteArray) (vE vJ vP vH vV:Value) (L:List (Int × Int × Nat)):Prop where
 blk:w.heap[g]?=some (.cells #[vE,vJ,vP,vH,vV] 99 (0,0))
 perm:L.Perm (read1 T).l
 row:InRow L
 tab:TRe 0 w vE L
 judge:JIn 0 w vJ (read2 T).2
 out:OutIn w vP vH vV (read2 T).2 (possOf L)
 ok:∀ x ∈ (read2 T).2,RuleOk x
 few:(read2 T).2.length≤4
 spans:L.length≤100000∧∀ o ∈ L,o.2.2<8
def CompPost (T:ByteArray) (w:World) (r:Ending) (w':World):Prop :=
 Below w.heap.size w w'∧∃ vR,r=.returned (.tuple #[vR,.int .i64 (rdT T).err,.int .i64 (rdT T).place])∧((rdT T).err=0→∃ g vE vJ vP vH vV L,vR=.pointer (some ⟨g,0,none⟩)∧w.heap.size≤g∧RulesIn w' g T vE vJ vP vH vV L)∧((rdT T).err ≠ 0→vR=.pointer none)
set_option maxRecDepth 100000 in
set_option maxHeartbeats 4000000 in
theorem compile_all (T:ByteArray) (w:World) (hE:ErrsOk w) (hT2:T.size≤140737488351232) :
  Calls Tryz.prog 15 #[.string T] w (CompPost T w):=by
 have HZ:Hid ((rdT T).err=0→(rdT T).place=0):=read_err0 T
 have HRA:=read_all T w hE hT2
 have HE:Hid (ErrsOk w):=hE
 have HFEW:Hid ((rdT T).err=0→(read2 T).2.length≤4∧∀ x ∈ (read2 T).2,RuleOk x):=read_few T
 have HSP:Hid ((rdT T).err=0→(read1 T).l.length≤100000∧∀ o ∈ (read1 T).l,o.2.2<8):=read_spans T
 unfold CompPost
 generalize (rdT T).err=ee at *
 generalize (rdT T).place=pp at *
 go_enter Tryz.func15,Tryz.ntmps15
 go_wp2_with fail
 refine HRA.mono ?_
 rintro r w1 ⟨hb,_,_,rfl,⟨aE,nE,cE,rfl⟩,⟨aL,nL,cL,rfl⟩,hgood⟩
 have HB:Hid (Below w.heap.size w w1):=hb
 have hs1:=hb.size
 have HGD:Hid (ee=0→TRs (w.heap.size+1) w1 (.slice aE nE cE) (read1 T).l∧LIn (w.heap.size+1) w1 (.slice aL nL cL) (read2 T).2):=hgood
 clear hb hE HRA hgood
 by_cases h0:ee=0
 ·have k0:(ee == 0)=true:=by rw [beq_iff_eq];exact h0
  have K0:Hid (ee=0):=h0
  obtain ⟨⟨L,hpm,hte,hir⟩,hli⟩:=HGD.out h0
  have HFW:=HFEW.out h0
  have HSQ:=HSP.out h0
  have hLl:L.length≤100000:=by rw [hpm.length_eq];exact HSQ.1
  have hLk:∀ o ∈ L,o.2.2<8:=fun o ho=>HSQ.2 o (hpm.mem_iff.1 ho)
  have HPM:Hid (L.Perm (read1 T).l):=hpm
  have HIR:Hid (InRow L):=hir
  have HFX:Hid ((read2 T).2.length≤4∧∀ x ∈ (read2 T).2,RuleOk x):=HFW
  have HLK:Hid (L.length≤100000∧∀ o ∈ L,o.2.2<8):=⟨hLl,hLk⟩
  obtain ⟨W1,hW1⟩:∃ W1,W1=w1.alloc (.cells #[.slice aE nE cE,.slice aL nL cL] 84):=⟨_,rfl⟩
  have HW1:Hid (W1=w1.alloc (.cells #[.slice aE nE cE,.slice aL nL cL] 84)):=hW1
  have b1:Below w1.heap.size w1 W1:=by rw [hW1];exact below_alloc w1 _
  have hz1:W1.heap.size=w1.heap.size+1:=by rw [hW1];simp
  have p1:W1.heap[w1.heap.size]?=some (.cells #[.slice aE nE cE,.slice aL nL cL] 84 (0,0)):=by rw [hW1];exact heap_alloc_new w1 _
  have BW:Hid (Below w.heap.size w W1):=HB.out.trans (b1.mono hs1)
  have T1:Hid (TRe (w.heap.size+1) W1 (.slice aE nE cE) L):=row_kp hte (Kp.below b1)
  have LI1:Hid (LIn (w.heap.size+1) W1 (.slice aL nL cL) (read2 T).2):=hli.below b1
  have m0:W1.cell? ⟨w1.heap.size,0,none⟩=some (.slice aE nE cE):=cell_of_block p1 0 _ rfl
  have m1:W1.cell? ⟨w1.heap.size,1,none⟩=some (.slice aL nL cL):=cell_of_block p1 1 _ rfl
  have PM:Hid (∀ W,Below W1.heap.size W1 W→Calls Tryz.prog 43 #[.slice aL nL cL] W fun r w'=>∃ v ao n cap,r=.returned (.agg #[v])∧v=.slice ao n cap∧JIn W.heap.size w' v (read2 T).2∧Below W.heap.size W w'):=fun W hW=>pmake_any (w.heap.size+1) _ (read2 T).2 W (LI1.out.below hW) HFX.out.2 (by have:=HFX.out.1;omega)
  have PO:Hid (∀ W,Below W1.heap.size W1 W→Calls Tryz.prog 45 #[.pointer (some ⟨w1.heap.size,0,none⟩)] W fun r w'=>∃ v,r=.returned v∧w'.ownsRow W.heap.size 169 1 v (possOf L).length (kCells (possOf L))∧Below W.heap.size W w'):=fun W hW =>
   possible_any W w1.heap.size (w.heap.size+1) _ L ((HE.out.below BW.out).below hW) (row_kp T1.out (Kp.below hW)) HLK.out.2 HLK.out.1 ((hW.cell (p:=⟨w1.heap.size,0,none⟩) (by show w1.heap.size<_;omega)).trans m0)
  have AM:Hid (∀ W vP,Below W1.heap.size W1 W→W.ownsRow 0 169 1 vP (possOf L).length (kCells (possOf L))→Calls Tryz.prog 44 #[.slice aL nL cL,vP] W fun r w'=>∃ vH vV,r=.returned (.agg #[vP,vH,vV])∧(∃ a b c,vH=.slice a b c)∧(∃ a b c,vV=.slice a b c)∧OutIn w' vP vH vV (read2 T).2 (possOf L)∧Below W.heap.size W w'):=fun W vP hW hP =>
   amake_any (w.heap.size+1) _ vP (read2 T).2 (possOf L) W (LI1.out.below hW) HFX.out.2 HFX.out.1 (possOf_lt L) (possOf_len L) hP
  clear h0 hpm hte hir hli HFW HSQ hLl hLk hW1 b1 p1
  go_wp2_with fail
  rw [← HW1.out]
  go_region_held3 (fun w'=>w'.cell? ⟨w1.heap.size,0,none⟩=some (.slice aE nE cE)∧w'.cell? ⟨w1.heap.size,1,none⟩=some (.slice aL nL cL))
   (first | exact HH.out | exact II.out | exact KK.out | go_keep)
   (first
    | (go_at_call 43
       refine (PM.out _ ((Below.refl _ _).drew)).mono ?_
       rintro e W2 ⟨v2,ao2,n2,cap2,rfl,rfl,hJ2,hB2⟩
       have J2:Hid (JIn 0 W2 (.slice ao2 n2 cap2) (read2 T).2):=hJ2.base0
       have B2:Hid (Below W1.heap.size W1 W2):=below_drew hB2
       have HH:Hid (W2.cell? ⟨w1.heap.size,0,none⟩=some (.slice aE nE cE)∧W2.cell? ⟨w1.heap.size,1,none⟩=some (.slice aL nL cL)):=⟨(B2.out.cell (p:=⟨w1.heap.size,0,none⟩) (by show w1.heap.size<_;omega)).trans m0,(B2.out.cell (p:=⟨w1.heap.size,1,none⟩) (by show w1.heap.size<_;omega)).trans m1⟩
       clear hJ2 hB2)
    | (go_at_call 45
       refine (PO.out _ B2.out).mono ?_
       rintro e W3 ⟨vP,rfl,hP3,hB3⟩
       have hs2:=B2.out.size
       have B3:Hid (Below W1.heap.size W1 W3):=B2.out.trans (hB3.mono hs2)
       have J3:Hid (JIn 0 W3 (.slice ao2 n2 cap2) (read2 T).2):=J2.out.kp (Kp.below hB3) (Kp.below hB3)
       have P3:Hid (W3.ownsRow 0 169 1 vP (possOf L).length (kCells (possOf L))):=row_base hP3 (Nat.zero_le _)
       obtain ⟨aoP,capP,rfl⟩:=row_shape hP3
       have II:Hid (W3.cell? ⟨w1.heap.size,0,none⟩=some (.slice aE nE cE)∧W3.cell? ⟨w1.heap.size,1,none⟩=some (.slice aL nL cL)):=⟨(B3.out.cell (p:=⟨w1.heap.size,0,none⟩) (by show w1.heap.size<_;omega)).trans m0,(B3.out.cell (p:=⟨w1.heap.size,1,none⟩) (by show w1.heap.size<_;omega)).trans m1⟩
       clear hP3 hB3)
    | (go_at_call 44
       refine (AM.out _ _ B3.out P3.out).mono ?_
       rintro e W4 ⟨_,_,rfl,⟨aH,nH,cH,rfl⟩,⟨aV,nV,cV,rfl⟩,hO4,hB4⟩
       have hs3:=B3.out.size
       have B4:Hid (Below W1.heap.size W1 W4):=B3.out.trans (hB4.mono hs3)
       have J4:Hid (JIn 0 W4 (.slice ao2 n2 cap2) (read2 T).2):=J3.out.kp (Kp.below hB4) (Kp.below hB4)
       have O4:Hid (OutIn W4 (.slice aoP (possOf L).length capP) (.slice aH nH cH) (.slice aV nV cV) (read2 T).2 (possOf L)):=hO4
       have KK:Hid (W4.cell? ⟨w1.heap.size,0,none⟩=some (.slice aE nE cE)∧W4.cell? ⟨w1.heap.size,1,none⟩=some (.slice aL nL cL)):=⟨(B4.out.cell (p:=⟨w1.heap.size,0,none⟩) (by show w1.heap.size<_;omega)).trans m0,(B4.out.cell (p:=⟨w1.heap.size,1,none⟩) (by show w1.heap.size<_;omega)).trans m1⟩
       clear hO4 hB4))
  all_goals go_wp2_with fail
  all_goals refine bodyPost_ret (results_ttt rfl _ _) rfl ?_
  all_goals obtain rfl:=K0.out
  all_goals obtain rfl:=HZ.out rfl
  all_goals have hs4:=B4.out.size
  all_goals have hsW:=BW.out.size
  all_goals refine ⟨(BW.out.trans (B4.out.mono hsW)).alloc (by omega) _,_,rfl,fun _=>⟨W4.heap.size,_,_,_,_,_,L,rfl,by omega,⟨heap_alloc_new W4 _,HPM.out,HIR.out,row_base (row_kp T1.out (Kp.below (B4.out.alloc hs4 _))) (Nat.zero_le _),J4.out.kp (Kp.below (below_alloc W4 _)) (Kp.below (below_alloc W4 _)),O4.out.below (below_alloc W4 _),HFX.out.2,HFX.out.1,HLK.out⟩⟩,fun h=>absurd rfl h⟩
 ·have k0:(ee == 0)=false:=by rw [beq_eq_false_iff_ne];exact h0
  have K0:Hid (ee ≠ 0):=h0
  clear h0
  go_wp2_with fail
  refine bodyPost_ret (results_ttt rfl _ _) rfl ?_
  exact ⟨HB.out.alloc HB.out.size _,_,rfl,fun h=>absurd h K0.out,fun _=>rfl⟩
open Go.Lib
def RightT (S:List St) (first:Nat) (tab:Tab):Prop:=SideT (nxA (graphOf false S) 0) first [reach (graphOf false S) 0] tab
def PJOk (Ls:List RuleM) (J:List PR):Prop:=J.length=Ls.length∧∀ (i:Nat) (L:RuleM) (r:PR),Ls[i]?=some L→J[i]?=some r→r.1=L.cut∧LeftT L.SL L.fL r.2.1∧RightT L.SR L.fR r.2.2
theorem pick_list {α:Type} (P:Nat→α→Prop):∀ n,(∀ i,i<n→∃ x,P i x)→∃ l:List α,l.length=n∧∀ i x,l[i]?=some x→P i x:=by
 intro n
 induction n with
 | zero=>intro _;exact ⟨[],rfl,fun i x h=>by simp at h⟩
 | succ n ih =>
  intro h
  obtain ⟨l,h1,h2⟩:=ih fun i hi=>h i (by omega)
  obtain ⟨x,hx⟩:=h n (by omega)
  refine ⟨l++[x],by simp [h1],fun i y hy=>?_⟩
  rcases snoc_at hy with ⟨a,b⟩ | ⟨a,rfl⟩
  ·exact h2 i y a
  ·rw [show i=n from by omega];exact hx
theorem pCells_judge:∀ (Ls:List RuleM) (J:List PR) (vs:List (Value × Value)),J.length=Ls.length→(∀ (i:Nat) (L:RuleM) (r:PR),Ls[i]?=some L→J[i]?=some r→r.1=L.cut)→pCells J vs=judgeCells Ls vs:=by
 intro Ls
 induction Ls with
 | nil=>intro J vs h _;cases J with
  | nil=>rfl
  | cons a J=>simp at h
 | cons L Ls ih =>
  intro J vs h hc
  cases J with
  | nil=>simp at h
  | cons r J =>
   cases vs with
   | nil=>rfl
   | cons u vs =>
    have h1:=ih J vs (by simpa using h) (fun i L r h1 h2=>hc (i+1) L r (by simpa using h1) (by simpa using h2))
    have h2:r.1=L.cut:=hc 0 L r rfl rfl
    unfold pCells judgeCells at *
    simp only [List.zip_cons_cons,List.flatMap_cons,h1,h2]
theorem JIn.pr {w:World} {v:Value} {Ls:List RuleM} (h:JIn 0 w v Ls) (hf:Ls.length≤100):∃ J vs,PRIn w v J vs∧PJOk Ls J:=by
 obtain ⟨vs,h1,h2,h3⟩:=h
 obtain ⟨J,j1,j2⟩:=pick_list (fun i (r:PR)=>∀ (L:RuleM) (u:Value × Value),Ls[i]?=some L→vs[i]?=some u→r.1=L.cut∧(TabIn 0 w u.1 r.2.1∧LeftT L.SL L.fL r.2.1)∧(TabIn 0 w u.2 r.2.2∧RightT L.SR L.fR r.2.2)) Ls.length fun i hi=>by
  obtain ⟨L,hL⟩:∃ L,Ls[i]?=some L:=⟨Ls[i],List.getElem?_eq_getElem hi⟩
  obtain ⟨u,hu⟩:∃ u,vs[i]?=some u:=⟨vs[i]'(by omega),List.getElem?_eq_getElem (by omega)⟩
  obtain ⟨⟨tl,Sl,a1,a2,a3,a4,a5⟩,tr,Sr,b1,b2,b3,b4,b5⟩:=h3 i L u hL hu
  refine ⟨(L.cut,tl,tr),fun L' u' hL' hu'=>?_⟩
  rw [hL] at hL'
  rw [hu] at hu'
  cases hL'
  cases hu'
  exact ⟨rfl,⟨a1,Sl,a2,a3,a4,a5⟩,b1,Sr,b2,b3,b4,b5⟩
 have all:∀ (i:Nat) (L:RuleM) (r:PR),Ls[i]?=some L→J[i]?=some r→∃ u,vs[i]?=some u∧r.1=L.cut∧(TabIn 0 w u.1 r.2.1∧LeftT L.SL L.fL r.2.1)∧(TabIn 0 w u.2 r.2.2∧RightT L.SR L.fR r.2.2):=fun i L r hL hr=>by
  have hi:=(List.getElem?_eq_some_iff.1 hL).1
  obtain ⟨u,hu⟩:∃ u,vs[i]?=some u:=⟨vs[i]'(by omega),List.getElem?_eq_getElem (by omega)⟩
  exact ⟨u,hu,j2 i r hr L u hL hu⟩
 have got:∀ (i:Nat) (r:PR),J[i]?=some r→∃ L,Ls[i]?=some L:=fun i r hr=>⟨Ls[i]'(by have:=(List.getElem?_eq_some_iff.1 hr).1;omega),List.getElem?_eq_getElem _⟩
 refine ⟨J,vs,⟨by omega,?_,fun i r u hr hu=>?_,fun r hr=>?_,by omega⟩,j1,fun i L r hL hr=>?_⟩
 ·rw [j1,pCells_judge Ls J vs j1 (fun i L r hL hr=>(all i L r hL hr).choose_spec.2.1)]
  exact h2
 ·obtain ⟨L,hL⟩:=got i r hr
  obtain ⟨u',hu',_,h4,h5⟩:=all i L r hL hr
  rw [hu] at hu'
  cases hu'
  exact ⟨h4.1,h5.1⟩
 ·obtain ⟨i,hi⟩:=List.mem_iff_getElem?.1 hr
  obtain ⟨L,hL⟩:=got i r hi
  obtain ⟨u',hu',_,h4,h5⟩:=all i L r hL hi
  exact ⟨(h4.2.good (by simp)).1,(h5.2.good (by simp)).1⟩
 ·obtain ⟨u',hu',h3,h4,h5⟩:=all i L r hL hr
  exact ⟨h3,h4.2,h5.2⟩
def CutTold (T s:ByteArray) (L:List (Int × Int × Nat)) (told:List ByteArray):Prop:=∃ J ks ns,PJOk (read2 T).2 J∧CharsTo L s s.size ks ns∧told=(segSt s ns (cutsOf J ks) ns.length).2.2
set_option maxRecDepth 100000 in
set_option maxHeartbeats 4000000 in
theorem cut_any (w:World) (g:Nat) (T s:ByteArray) (vE vJ vP vH vV:Value) (L:List (Int × Int × Nat)) (hI:RulesIn w g T vE vJ vP vH vV L) (hT:Utf8Tabs 2 3 w) (hG:2<w.heap.size∧3<w.heap.size) (hlen:s.size≤2200000) :
  Calls Tryz.prog 19 #[.pointer (some ⟨g,0,none⟩),.string s] w fun r w'=>(∃ v told,r=.returned v∧CutTold T s L told∧w'.ownsRow w.heap.size 9 1 v told.length (strCells told))∧Below w.heap.size w w':=by
 obtain ⟨J,vs,hP,hJ⟩:=hI.judge.pr (by have:=hI.few;omega)
 obtain ⟨aoJ,capJ,rfl⟩:=row_shape hP.row
 have hgl:=heap_lt hI.blk
 have hread:=cread_any 0 g 0 vE L s w hT hG (cell_of_block hI.blk 0 _ rfl) hI.tab hI.spans.1 hI.row hI.spans.2 hlen
 have c1:w.cell? ⟨g,1,none⟩=some (.slice aoJ J.length capJ):=cell_of_block hI.blk 1 _ rfl
 have HP:Hid (PRIn w (.slice aoJ J.length capJ) J vs):=hP
 have HJ:Hid (PJOk (read2 T).2 J):=hJ
 have HL:Hid (∀ o ∈ L,o.2.2<8):=hI.spans.2
 clear hI hT hG hP hJ
 go_enter Tryz.func19,Tryz.ntmps19
 go_wp2_with fail
 refine hread.mono ?_
 rintro r w1 ⟨⟨vK,vN,ks,ns,rfl,hch,hRK,hRN⟩,b1⟩
 obtain ⟨aK,cK,rfl⟩:=row_shape hRK
 obtain ⟨aN,cN,rfl⟩:=row_shape hRN
 have hok:=hch.ok HL.out
 have hs1:=b1.size
 obtain ⟨W2,hW2⟩:∃ W2,W2=w1.alloc (.cells #[.slice aK ks.length cK,.slice aN ns.length cN] 104):=⟨_,rfl⟩
 have HW2:Hid (W2=w1.alloc (.cells #[.slice aK ks.length cK,.slice aN ns.length cN] 104)):=hW2
 have b12:Below w1.heap.size w1 W2:=by rw [hW2];exact below_alloc w1 _
 have hz2:W2.heap.size=w1.heap.size+1:=by rw [hW2];simp
 have q2:W2.heap[w1.heap.size]?=some (.cells #[.slice aK ks.length cK,.slice aN ns.length cN] 104 (0,0)):=by rw [hW2];exact heap_alloc_new w1 _
 have BW:Hid (Below w.heap.size w W2):=b1.trans (b12.mono hs1)
 have RK:Hid (KRow W2 (.slice aK ks.length cK) ks):=⟨row_kp (row_base hRK (Nat.zero_le _)) (Kp.below b12),hok.kinds,by have:=hok.len;have:=hok.few;omega⟩
 have RN:Hid (W2.ownsRow 0 5 1 (.slice aN ns.length cN) ns.length (kCells ns)):=row_kp (row_base hRN (Nat.zero_le _)) (Kp.below b12)
 have HCH:Hid (CharsTo L s s.size ks ns):=hch
 have HOK:Hid (CharsOk s s.size ks ns):=hok
 have hkn:ks.length=ns.length:=hok.len
 have CC:Hid (∀ W,Below W2.heap.size W2 W→Calls Tryz.prog 53 #[.agg #[.slice aoJ J.length capJ],.slice aK ks.length cK] W fun r w'=>∃ g,r=.returned (.slice (some ⟨g,0,none⟩) (ks.length+1) (ks.length+1))∧W.heap.size≤g∧w'.heap[g]?=some (.cells (boolCells (cutsOf J ks)) 4 (0,0))∧Below W.heap.size W w'):=fun W hb=>pcuts_any W _ _ J vs ks ((HP.out.below BW.out).below hb) (RK.out.below hb)
 have CS:Hid (∀ W gc,W2.heap.size≤W.heap.size→Below W2.heap.size W2 W→W.heap[gc]?=some (.cells (boolCells (cutsOf J ks)) 4 (0,0))→Calls Tryz.prog 52 #[.string s,.slice aN ns.length cN,.slice (some ⟨gc,0,none⟩) (ks.length+1) (ks.length+1)] W fun r w'=>(∃ v,r=.returned v∧w'.ownsRow W.heap.size 9 1 v (segSt s ns (cutsOf J ks) ns.length).2.2.length (strCells (segSt s ns (cutsOf J ks) ns.length).2.2))∧Below W.heap.size W w'):=fun W gc _ hb hg=>by
  rw [hkn]
  exact segments_any s _ ns gc (cutsOf J ks) W (row_kp RN.out (Kp.below hb)) hg (by rw [cutsOf_len,hkn]) HOK.out.sum (fun n hn=>(HOK.out.sizes n hn).2) hlen (by have:=HOK.out.few;omega)
 have m0:W2.cell? ⟨w1.heap.size,0,none⟩=some (.slice aK ks.length cK):=cell_of_block q2 0 _ rfl
 have m1:W2.cell? ⟨w1.heap.size,1,none⟩=some (.slice aN ns.length cN):=cell_of_block q2 1 _ rfl
 have m2:W2.cell? ⟨g,1,none⟩=some (.slice aoJ J.length capJ):=(BW.out.cell (p:=⟨g,1,none⟩) hgl).trans c1
 have HKN:Hid (ks.length=ns.length):=hkn
 clear hread hch hRK hRN hok hW2 b12 q2 b1 c1 hkn
 go_wp2_with fail
 rw [← HW2.out]
 go_region_held3 (fun w'=>(w'.cell? ⟨w1.heap.size,0,none⟩=some (.slice aK ks.length cK)∧w'.cell? ⟨w1.heap.size,1,none⟩=some (.slice aN ns.length cN)∧w'.cell? ⟨g,1,none⟩=some (.slice aoJ J.length capJ)))
  (first | exact HH.out | exact II.out | go_keep)
  (first
   | (go_at_call 53
      refine (CC.out _ ((Below.refl _ _).drew)).mono ?_
      rintro e W3 ⟨g3,rfl,hg3,hG3,hB3⟩
      have B3:Hid (Below W2.heap.size W2 W3):=below_drew hB3
      have G3:Hid (W3.heap[g3]?=some (.cells (boolCells (cutsOf J ks)) 4 (0,0))):=hG3
      have HH:Hid ((W3.cell? ⟨w1.heap.size,0,none⟩=some (.slice aK ks.length cK)∧W3.cell? ⟨w1.heap.size,1,none⟩=some (.slice aN ns.length cN)∧W3.cell? ⟨g,1,none⟩=some (.slice aoJ J.length capJ))) :=
       ⟨(B3.out.cell (p:=⟨w1.heap.size,0,none⟩) (by show w1.heap.size<_;omega)).trans m0,(B3.out.cell (p:=⟨w1.heap.size,1,none⟩) (by show w1.heap.size<_;omega)).trans m1,(B3.out.cell (p:=⟨g,1,none⟩) (by show g<_;omega)).trans m2⟩
      clear hG3 hB3 hg3)
   | (go_at_call 52
      refine (CS.out _ _ B3.out.size B3.out G3.out).mono ?_
      rintro e W4 ⟨⟨v4,rfl,hR4⟩,hB4⟩
      have B4:Hid (Below W2.heap.size W2 W4):=B3.out.trans (hB4.mono B3.out.size)
      have R4:Hid (W4.ownsRow w.heap.size 9 1 v4 (segSt s ns (cutsOf J ks) ns.length).2.2.length (strCells (segSt s ns (cutsOf J ks) ns.length).2.2)):=row_base hR4 (Nat.le_trans BW.out.size B3.out.size)
      have II:Hid ((W4.cell? ⟨w1.heap.size,0,none⟩=some (.slice aK ks.length cK)∧W4.cell? ⟨w1.heap.size,1,none⟩=some (.slice aN ns.length cN)∧W4.cell? ⟨g,1,none⟩=some (.slice aoJ J.length capJ))) :=
       ⟨(B4.out.cell (p:=⟨w1.heap.size,0,none⟩) (by show w1.heap.size<_;omega)).trans m0,(B4.out.cell (p:=⟨w1.heap.size,1,none⟩) (by show w1.heap.size<_;omega)).trans m1,(B4.out.cell (p:=⟨g,1,none⟩) (by show g<_;omega)).trans m2⟩
      clear hR4 hB4))
 go_wp2_with fail
 go_ret
 exact ⟨⟨v4,_,rfl,⟨J,ks,ns,HJ.out,HCH.out,rfl⟩,R4.out⟩,BW.out.trans (B4.out.mono BW.out.size)⟩
theorem spot_goes {nx:(Nat→Prop)→Nat→Nat→Prop} {goal:Nat} {Ss:List (Nat→Prop)} {tab:Tab} (h:TabOk nx goal Ss tab) (hl:tab.length=Ss.length) {a:Nat} {S:Nat→Prop} (ha:Ss[a]?=some S) {k:Nat} (hk:k<8):Ss[tnext tab a k]?=some (nx S k):=by
 have hal:a<tab.length:=by rw [hl];exact (List.getElem?_eq_some_iff.1 ha).1
 obtain ⟨h1,S',h2,h3,h4⟩:=h a tab[a].1 tab[a].2 (List.getElem?_eq_getElem hal)
 rw [ha] at h2
 cases h2
 obtain ⟨n,h5,h6⟩:=h4 k hk
 unfold tnext
 rw [List.getElem?_eq_getElem hal]
 simp only [Option.bind_some,h5,Option.getD_some]
 exact h6
theorem spot_match {nx:(Nat→Prop)→Nat→Nat→Prop} {goal:Nat} {Ss:List (Nat→Prop)} {tab:Tab} (h:TabOk nx goal Ss tab) (hl:tab.length=Ss.length) {a:Nat} {S:Nat→Prop} (ha:Ss[a]?=some S):tmatch tab a=true↔S goal:=by
 have hal:a<tab.length:=by rw [hl];exact (List.getElem?_eq_some_iff.1 ha).1
 obtain ⟨h1,S',h2,h3,h4⟩:=h a tab[a].1 tab[a].2 (List.getElem?_eq_getElem hal)
 rw [ha] at h2
 cases h2
 unfold tmatch
 rw [List.getElem?_eq_getElem hal]
 exact h3
theorem spot_row {nx:(Nat→Prop)→Nat→Nat→Prop} {goal:Nat} {Ss:List (Nat→Prop)} {tab:Tab} (h:TabOk nx goal Ss tab) (hl:tab.length=Ss.length):∀ (row:List Nat),(∀ k ∈ row,k<8)→∀ (a:Nat) (S:Nat→Prop),Ss[a]?=some S→Ss[row.foldl (fun a k=>tnext tab a k) a]?=some (row.foldl nx S):=by
 intro row
 induction row with
 | nil=>intro _ a S ha;exact ha
 | cons k row ih =>
  intro hk a S ha
  exact ih (fun k' h'=>hk k' (List.mem_cons_of_mem _ h')) _ _ (spot_goes h hl ha (hk k (List.mem_cons_self ..)))
theorem judgedTo_beyond (c:Bool) (fl fr:Nat→Bool) {m i:Nat} (cuts:List Bool) (hi:m≤i):(judgedTo c fl fr m cuts)[i]?=cuts[i]?:=by
 unfold judgedTo
 rw [List.getElem?_mapIdx]
 cases h:cuts[i]? with
 | none=>rfl
 | some b=>rw [Option.map_some,if_neg (by omega)]
theorem cutsOf_end (J:List PR) (row:List Nat):(cutsOf J row)[row.length]?=some true:=by
 unfold cutsOf
 induction J with
 | nil=>simp
 | cons a J ih=>rw [List.foldr_cons];exact (judgedTo_beyond _ _ _ _ (Nat.le_refl _)).trans ih
def joinB (l:List ByteArray):ByteArray:=l.foldl (·++·) ⟨#[]⟩
theorem joinB_snoc (l:List ByteArray) (x:ByteArray):joinB (l++[x])=joinB l++x:=by unfold joinB;rw [List.foldl_append];rfl
theorem ext_app (s:ByteArray) (a b:Nat) (h:a≤b):s.extract 0 a++s.extract a b=s.extract 0 b:=by
 rw [ByteArray.extract_append_extract]
 congr 1 <;> omega
structure SegW (s:ByteArray) (st:SegSt):Prop where
 full:∀ x ∈ st.2.2,1≤x.size
 join:joinB st.2.2=s.extract 0 st.1
theorem segW (s:ByteArray) {ns:List Nat} {cs:List Bool} (h:cs.length=ns.length+1) (h1:∀ n ∈ ns,1≤n) (hs:ns.sum=s.size):∀ i,i≤ns.length→SegW s (segSt s ns cs i):=by
 intro i
 induction i with
 | zero=>intro _;exact ⟨by unfold segSt;simp,by unfold segSt;simp [joinB];rfl⟩
 | succ i ih =>
  intro hi
  have h2:=ih (by omega)
  have h3:=segOk s h i (by omega)
  have hn:ns[i]?=some ns[i]:=List.getElem?_eq_getElem (by omega)
  have hc:cs[i+1]?=some (cs[i+1]'(by omega)):=List.getElem?_eq_getElem (by omega)
  have e1:=sumTake_succ hn
  have e2:=sumTake_le ns (i+1)
  have hp:=h1 ns[i] (List.getElem_mem _)
  rw [segSt_succ hn hc]
  have h4:=h3.end_
  have h5:=h3.order
  generalize segSt s ns cs i=st at *
  generalize (cs[i+1]'(by omega))=c
  unfold segStep
  cases c with
  | true =>
   refine ⟨fun x hx=>?_,?_⟩
   ·rcases List.mem_append.1 hx with hx | hx
    ·exact h2.full x hx
    ·simp only [List.mem_singleton] at hx
     rw [hx,ByteArray.size_extract]
     omega
   ·show joinB (st.2.2++[s.extract st.1 (st.2.1+ns[i])])=_
    rw [joinB_snoc,h2.join,ext_app _ _ _ (by omega)]
    rfl
  | false=>exact ⟨h2.full,h2.join⟩
theorem seg_end (s:ByteArray) {ns:List Nat} {cs:List Bool} (h:cs.length=ns.length+1) (he:cs[ns.length]?=some true) (hs:ns.sum=s.size):(segSt s ns cs ns.length).1=s.size:=by
 cases hn:ns.length with
 | zero =>
  have:ns=[]:=List.eq_nil_of_length_eq_zero hn
  subst this
  simp at hs
  unfold segSt
  simp;omega
 | succ m =>
  have hm:ns[m]?=some (ns[m]'(by omega)):=List.getElem?_eq_getElem (by omega)
  have hc:cs[m+1]?=some true:=by rw [← hn];exact he
  have h3:=(segOk s h m (by omega)).end_
  have e1:=sumTake_succ hm
  rw [segSt_succ hm hc]
  show (segSt s ns cs m).2.1+_=_
  rw [h3,← e1,← hn,List.take_length,hs]
theorem extract_all (s:ByteArray):s.extract 0 s.size=s:=by simp
theorem told_whole {T s:ByteArray} {L:List (Int × Int × Nat)} {told:List ByteArray} (hL:∀ o ∈ L,o.2.2<8) (h:CutTold T s L told):(∀ x ∈ told,1≤x.size)∧joinB told=s∧told.length≤s.size:=by
 obtain ⟨J,ks,ns,_,hc,rfl⟩:=h
 have hok:=hc.ok hL
 have hl:(cutsOf J ks).length=ns.length+1:=by rw [cutsOf_len,hok.len]
 have he:(cutsOf J ks)[ns.length]?=some true:=by rw [← hok.len];exact cutsOf_end J ks
 have hw:=segW s hl (fun n hn=>(hok.sizes n hn).1) hok.sum ns.length (Nat.le_refl _)
 refine ⟨hw.full,?_,Nat.le_trans (segOk s hl ns.length (Nat.le_refl _)).few hok.few⟩
 rw [hw.join,seg_end s hl he hok.sum,extract_all]
abbrev joinT:ByteArray:=⟨#[106,111,105,110,32,124,32,59]⟩
theorem joinB_size:∀ l:List ByteArray,(joinB l).size=(l.map ByteArray.size).sum:=by
 apply snoc_ind
 ·rfl
 ·intro l a ih;rw [joinB_snoc,ByteArray.size_append,ih,List.map_append,List.sum_append];simp
structure VarsOk (w:World):Prop where
 errs:ErrsOk w
 utf:Utf8Tabs 2 3 w
 low:2<w.heap.size∧3<w.heap.size
theorem VarsOk.below {w w':World} (h:VarsOk w) (hB:Below w.heap.size w w'):VarsOk w' :=
 ⟨h.errs.below hB,⟨fun c hc=>(hB.cell (p:=⟨_,c,none⟩) h.low.1).trans (h.utf.1 c hc),fun i hi=>⟨(hB.cell (p:=⟨_,2 * i,none⟩) h.low.2).trans (h.utf.2 i hi).1,(hB.cell (p:=⟨_,2 * i+1,none⟩) h.low.2).trans (h.utf.2 i hi).2⟩⟩,Nat.lt_of_lt_of_le h.low.1 hB.size,Nat.lt_of_lt_of_le h.low.2 hB.size⟩
def RulesAt (T:ByteArray) (w:World) (v:Value):Prop:=∃ g vE vJ vP vH vV L,v=.pointer (some ⟨g,0,none⟩)∧RulesIn w g T vE vJ vP vH vV L
theorem FourM.at {w:World} {lim k:Nat} {m:ByteArray} {u:Value} (h:FourM w lim m u) (hk:k<4):∃ q x,u=.slice (some ⟨q,0,none⟩) 4 4∧w.cell? ⟨q,k,none⟩=some x∧MRowK w lim m x:=by
 obtain ⟨q,v0,v1,v2,v3,h1,_,h3,h4,h5,h6,h7⟩:=h
 rcases k with _ | _ | _ | _ | k
 ·exact ⟨q,v0,h1,cell_of_block h3 0 _ rfl,h4⟩
 ·exact ⟨q,v1,h1,cell_of_block h3 1 _ rfl,h5⟩
 ·exact ⟨q,v2,h1,cell_of_block h3 2 _ rfl,h6⟩
 ·exact ⟨q,v3,h1,cell_of_block h3 3 _ rfl,h7⟩
 ·omega
set_option maxRecDepth 100000 in
set_option maxHeartbeats 8000000 in
theorem looks_any (w:World) (base lim bb n:Nat) (hB:BookIn w base lim bb n) (hn:n≤2100000) :
  Calls Tryz.prog 23 #[.pointer (some ⟨bb,0,none⟩)] w fun r w'=>r=.returned (.bool true)∧Below w.heap.size w w':=by
 have HB:Hid (BookIn w base lim bb n):=hB
 clear hB
 go_enter Tryz.func23,Tryz.ntmps23
 go_wp2_with fail
 go_loopg [2,3] 4 (fun gh sv kv wx=>∃ k:Nat,sv=.bool false∧k≤4∧gh=4 - k∧kv=.int .i64 k∧Hid (Below w.heap.size w wx))
 case atStart=>exact ⟨0,rfl,Nat.zero_le _,rfl,rfl,Below.refl _ _⟩
 case round =>
  obtain ⟨k,rfl,hk,rfl,rfl,hb1⟩:=hrel
  obtain ⟨w1,hw1⟩:∃ w1,w1=wr:=⟨wr,rfl⟩
  subst hw1
  by_cases hk4:k<4
  ·have HK4:Hid (k<4):=hk4
   have hd4:decide ((k:Int)<4)=true:=by simp;omega
   go_wp2_with fail
   go_loopg [2,4] n (fun gh sv iv wx=>∃ i:Nat,sv=.bool false∧i≤n∧gh=n - i∧iv=.int .i64 i∧Hid (Below w.heap.size w wx))
   case atStart=>exact ⟨0,rfl,Nat.zero_le _,rfl,rfl,hb1⟩
   case round =>
    obtain ⟨i,rfl,hi,rfl,rfl,hb2⟩:=hrel
    obtain ⟨w2,hw2⟩:∃ w2,w2=wr:=⟨wr,rfl⟩
    subst hw2
    have HB2:Hid (BookIn w2 base lim bb n):=HB.out.below hb2.out
    obtain ⟨_,vB,us,hblk,hrow,hfour⟩:=HB2.out
    obtain ⟨aoB,capB,rfl⟩:=row_shape hrow
    have hc0:=cell_of_block hblk 0 _ rfl
    clear hblk hrow hfour hb1
    by_cases hin:i<n
    ·have hmk:=markB_any i (by omega) w2
     go_wp2_with fail
     refine hmk.mono ?_
     rintro r w3 ⟨rfl,b3⟩
     have B3:Hid (Below w.heap.size w w3):=hb2.out.trans (b3.mono hb2.out.size)
     have HB3:Hid (BookIn w3 base lim bb n):=HB2.out.below b3
     clear hc0 hmk b3 HB2
     obtain ⟨_,vB,us,hblk,hrow,hfour⟩:=HB3.out
     obtain ⟨aoB,capB,rfl⟩:=row_shape hrow
     have hc0:=cell_of_block hblk 0 _ rfl
     obtain ⟨u,hu⟩:∃ u,us[i]?=some u:=⟨_,List.getElem?_eq_getElem (by have:=hrow.1;omega)⟩
     obtain ⟨gB,hgB,_,hcu⟩:=row_at hrow hu (by omega)
     subst hgB
     obtain ⟨q,x,rfl,hcx,c,hc3,hx,_⟩:=(hfour i u hu).at HK4.out
     obtain ⟨aoX,capX,rfl⟩:=row_shape hx
     have HX:Hid (w3.ownsRow 0 9 1 (.slice aoX c capX) c (marks c (markB i))):=hx
     generalize markB i=m at HX
     clear hblk hrow hfour hx hu HB3
     go_wp2_with fail
     go_loopg [2,6] c (fun gh sv jv wx=>∃ j:Nat,sv=.bool false∧j≤c∧gh=c - j∧jv=.int .i64 j∧wx=w3)
     case atStart=>exact ⟨0,rfl,Nat.zero_le _,rfl,rfl,rfl⟩
     case round =>
      obtain ⟨j,rfl,hj,rfl,rfl,rfl⟩:=hrel
      by_cases hjc:j<c
      ·obtain ⟨gX,hgX,_,hcj⟩:=row_at HX.out (marks_at m hjc) (by omega)
       subst hgX
       go_wp2_with fail
       go_roundg (c - (j+1))
       case measure=>omega
       case rel=>exact ⟨j+1,rfl,by omega,rfl,by go_num,rfl⟩
      ·obtain rfl:j=c:=by omega
       go_wp2_with fail
       go_roundg (n - (i+1))
       case measure=>omega
       case rel=>exact ⟨i+1,rfl,by omega,rfl,by go_num,B3⟩
    ·obtain rfl:i=n:=by omega
     go_wp2_with fail
     go_roundg (4 - (k+1))
     case measure=>have:=HK4.out;omega
     case rel=>exact ⟨k+1,rfl,HK4.out,rfl,by go_num,hb2⟩
  ·obtain rfl:k=4:=by omega
   go_wp2_with fail
   go_ret
   exact ⟨rfl,hb1.out⟩
end Go.Proofs.YtodagkkjfipbgaaGreatDoor
namespace Go.Proofs.YtodagkkjfipbgaaGreatDoor
open Go.RowKit Go.Maps
def runG (g:List (List (Nat × Nat))):List Nat→Nat→Nat→Prop
 | [],x,y=>reach g x y
 | k :: r,x,y=>∃ a t z,reach g x a∧(t,z) ∈ grow g a∧t.testBit k=true∧runG g r z y
theorem runG_reach {g:List (List (Nat × Nat))} {x z:Nat} (h:reach g x z):∀ {r:List Nat} {y:Nat},runG g r z y→runG g r x y:=by
 intro r y k
 cases r with
 | nil=>exact reach_trans h k
 | cons c r =>
  obtain ⟨a,t,u,h1,h2⟩:=k
  exact ⟨a,t,u,reach_trans h h1,h2⟩
theorem runG_snoc {g:List (List (Nat × Nat))} {k a t u y:Nat} (h2:(t,u) ∈ grow g a) (h3:t.testBit k=true) (h4:reach g u y):∀ (r:List Nat) (x:Nat),runG g r x a→runG g (r++[k]) x y:=by
 intro r
 induction r with
 | nil=>intro x h;exact ⟨a,t,u,h,h2,h3,h4⟩
 | cons c r ih =>
  intro x h
  obtain ⟨b,s,v,h5,h6,h7,h8⟩:=h
  exact ⟨b,s,v,h5,h6,h7,ih v h8⟩
theorem fold_run (g:List (List (Nat × Nat))):∀ (row:List Nat) (F:Nat→Prop),closedS g F→∀ y,(row.foldl (stepS g) F) y↔∃ x,F x∧runG g row x y:=by
 intro row
 induction row with
 | nil=>intro F hF y;exact ⟨fun h=>⟨y,h,reach_refl g y⟩,fun ⟨x,h1,h2⟩=>closed_reach hF h1 h2⟩
 | cons k row ih =>
  intro F hF y
  rw [List.foldl_cons,ih _ (step_closed g F k) y]
  constructor
  ·rintro ⟨x,⟨a,t,z,h1,h2,h3,h4⟩,h5⟩
   exact ⟨a,h1,a,t,z,reach_refl g a,h2,h3,runG_reach h4 h5⟩
  ·rintro ⟨x,h1,a,t,z,h2,h3,h4,h5⟩
   exact ⟨z,⟨a,t,z,closed_reach hF h1 h2,h3,h4,reach_refl g z⟩,h5⟩
theorem fold_from (g:List (List (Nat × Nat))) (first:Nat) (row:List Nat) (y:Nat):(row.foldl (stepS g) (reach g first)) y↔runG g row first y:=by
 rw [fold_run g row _ (reach_closed g first) y]
 exact ⟨fun ⟨x,h1,h2⟩=>runG_reach h1 h2,fun h=>⟨first,reach_refl g first,h⟩⟩
theorem rev_reach {g g':List (List (Nat × Nat))} (h:∀ t x y,(t,y) ∈ grow g x→(t,x) ∈ grow g' y) {x y:Nat} (k:reach g x y):reach g' y x:=by
 obtain ⟨n,hn⟩:=k
 induction n generalizing x with
 | zero=>cases hn;exact reach_refl g' _
 | succ n ih =>
  obtain ⟨z,h1,h2⟩:=hn
  exact reach_trans (ih h2) (reach_eps (h 0 x z h1) (reach_refl g' x))
theorem rev_run {g g':List (List (Nat × Nat))} (h:∀ t x y,(t,y) ∈ grow g x→(t,x) ∈ grow g' y):∀ (row:List Nat) (x y:Nat),runG g row x y→runG g' row.reverse y x:=by
 intro row
 induction row with
 | nil=>intro x y k;exact rev_reach h k
 | cons c row ih =>
  intro x y k
  obtain ⟨a,t,z,h1,h2,h3,h4⟩:=k
  rw [List.reverse_cons]
  exact runG_snoc (h t a z h2) h3 (rev_reach h h1) _ _ (ih z y h4)
theorem graph_rev (fw:Bool) {S:List St} (hS:SOk S) (t x y:Nat) (h:(t,y) ∈ grow (graphOf fw S) x):(t,x) ∈ grow (graphOf (!fw) S) y:=by
 have hx:x<S.length:=by
  rcases Nat.lt_or_ge x S.length with h1 | h1
  ·exact h1
  ·unfold grow at h
   rw [List.getElem?_eq_none (by rw [graph_len];exact h1)] at h
   simp at h
 obtain ⟨j,s,h1,h2,h3⟩:=(graph_mem fw S x (t,y) hx).1 h
 have hj:=(List.getElem?_eq_some_iff.1 h1).1
 cases fw with
 | true =>
  simp at h3
  have hy:=hS.to_ s (List.mem_of_getElem? h1) y h3.2
  exact (graph_mem false S y (t,x) hy).2 ⟨j,s,h1,h2,by simp;exact h3⟩
 | false =>
  simp at h3
  exact (graph_mem true S y (t,x) (by omega)).2 ⟨j,s,h1,h2,by simp;exact h3⟩
theorem run_back {S:List St} (hS:SOk S) (row:List Nat) (x y:Nat):runG (graphOf false S) row.reverse y x↔runG (graphOf true S) row x y:=by
 constructor
 ·intro h
  have:=rev_run (graph_rev false hS) row.reverse y x h
  rwa [List.reverse_reverse] at this
 ·intro h
  exact rev_run (graph_rev true hS) row x y h
theorem fold_any (g:List (List (Nat × Nat))) (first:Nat):∀ (row:List Nat) (y:Nat),(row.foldl (nxA g first) (reach g first)) y↔∃ i,i≤row.length∧runG g (row.drop i) first y:=by
 apply snoc_ind
 ·intro y
  constructor
  ·intro h;exact ⟨0,Nat.le_refl _,h⟩
  ·rintro ⟨i,_,h⟩
   rw [List.drop_nil] at h
   exact h
 ·intro row k ih y
  rw [List.foldl_append]
  show stepS g (row.foldl (nxA g first) (reach g first)) k y∨reach g first y↔_
  have step:∀ (r:List Nat) (y:Nat),runG g (r++[k]) first y↔∃ a t z,runG g r first a∧(t,z) ∈ grow g a∧t.testBit k=true∧reach g z y:=fun r y=>by
   rw [← fold_from,List.foldl_append]
   show stepS g (r.foldl (stepS g) (reach g first)) k y↔_
   constructor
   ·rintro ⟨a,t,z,h1,h2⟩;exact ⟨a,t,z,(fold_from g first r a).1 h1,h2⟩
   ·rintro ⟨a,t,z,h1,h2⟩;exact ⟨a,t,z,(fold_from g first r a).2 h1,h2⟩
  constructor
  ·rintro (⟨a,t,z,h1,h2,h3,h4⟩ | h)
   ·obtain ⟨i,hi,h5⟩:=(ih a).1 h1
    refine ⟨i,by simp;omega,?_⟩
    rw [List.drop_append_of_le_length hi]
    exact (step _ y).2 ⟨a,t,z,h5,h2,h3,h4⟩
   ·exact ⟨(row++[k]).length,Nat.le_refl _,by rw [List.drop_length];exact h⟩
  ·rintro ⟨i,hi,h⟩
   rcases Nat.lt_or_ge row.length i with h1 | h1
   ·simp at hi
    rw [List.drop_eq_nil_of_le (by simp;omega)] at h
    exact Or.inr h
   ·rw [List.drop_append_of_le_length h1] at h
    obtain ⟨a,t,z,h5,h2,h3,h4⟩:=(step _ y).1 h
    exact Or.inl ⟨a,t,z,(ih a).2 ⟨i,h1,h5⟩,h2,h3,h4⟩
def hitG (g:List (List (Nat × Nat))) (first goal:Nat) (row:List Nat):Prop:=∃ m,m≤row.length∧runG g (row.take m) first goal
end Go.Proofs.YtodagkkjfipbgaaGreatDoor
