import Derived.Test.YtodagkkjfipbgaaGreatDoorM2toN21
import Derived.Test.YtodagkkjfipbgaaGreatDoorJ12lone
import Derived.Test.YtodagkkjfipbgaaGreatDoorV4toV6
namespace Go.Proofs.YtodagkkjfipbgaaGreatDoor
open Go.RowKit Go.Maps
theorem results_ttt {P:Program} {fn:Func} {p u v:Tmp} (h:fn.results=#[.tmp p,.tmp u,.tmp v]) (tmps:Array Value) (w:World) :
  (results fn tmps).run P w=.ok (.tuple #[tmps.getD p undef,tmps.getD u undef,tmps.getD v undef]) w:=by
 simp [results,h]
theorem JIn.base0 {base:Nat} {w:World} {v:Value} {Ls:List RuleM} (h:JIn base w v Ls):JIn 0 w v Ls:=by
 obtain ⟨vs,h1,h2,h3⟩:=h
 exact ⟨vs,h1,row_base h2 (Nat.zero_le _),h3⟩
theorem OutIn.below {w w':World} {vP vH vV:Value} {Ls:List RuleM} {ks:List Nat} (h:OutIn w vP vH vV Ls ks) (hb:Below w.heap.size w w'):OutIn w' vP vH vV Ls ks:=by
 obtain ⟨J,X,K,H,V,MC,MJ,h1,h2,h3,h4⟩:=h
 exact ⟨J,X,K,H,V,MC,MJ,h1,row_kp h2 (Kp.below hb),row_kp h3 (Kp.below hb),row_kp h4 (Kp.below hb)⟩
structure RulesIn (w:World) (g:Nat) (T:ByteArray) (vE vJ vP vH vV:Value) (L:List (Int × Int × Nat)):Prop where
 blk:w.heap[g]?=some (.cells #[vE,vJ,vP,vH,vV] 99 (0,0))
 perm:L.Perm (read1 T).l
 row:InRow L
 tab:TRe 0 w vE L
 judge:JIn 0 w vJ (read2 T).2
 out:OutIn w vP vH vV (read2 T).2 (possOf L)
 ok:∀ x ∈ (read2 T).2,RuleOk x
 few:(read2 T).2.length<=4
 spans:L.length<=100000/\∀ o ∈ L,o.2.2<8
def CompPost (T:ByteArray) (w:World) (r:Ending) (w':World):Prop :=
 Below w.heap.size w w'/\∃ vR,r=.returned (.tuple #[vR,.int .i64 (rdT T).err,.int .i64 (rdT T).place])/\((rdT T).err=0->∃ g vE vJ vP vH vV L,vR=.pointer (some ⟨g,0,none⟩)/\w.heap.size<=g/\RulesIn w' g T vE vJ vP vH vV L)/\((rdT T).err ≠ 0->vR=.pointer none)
set_option maxRecDepth 100000 in
set_option maxHeartbeats 4000000 in
theorem compile_all (T:ByteArray) (w:World) (hE:ErrsOk w) (hT2:T.size<=140737488351232) :
  Calls Tryz.prog 15 #[.string T] w (CompPost T w):=by
 have HZ:Hid ((rdT T).err=0->(rdT T).place=0):=read_err0 T
 have HRA:=read_all T w hE hT2
 have HE:Hid (ErrsOk w):=hE
 have HFEW:Hid ((rdT T).err=0->(read2 T).2.length<=4/\∀ x ∈ (read2 T).2,RuleOk x):=read_few T
 have HSP:Hid ((rdT T).err=0->(read1 T).l.length<=100000/\∀ o ∈ (read1 T).l,o.2.2<8):=read_spans T
 unfold CompPost
 generalize (rdT T).err=ee at *
 generalize (rdT T).place=pp at *
 go_enter Tryz.func15,Tryz.ntmps15
 go_wp2_with fail
 refine HRA.mono ?_
 rintro r w1 ⟨hb,_,_,rfl,⟨aE,nE,cE,rfl⟩,⟨aL,nL,cL,rfl⟩,hgood⟩
 have HB:Hid (Below w.heap.size w w1):=hb
 have hs1:=hb.size
 have HGD:Hid (ee=0->TRs (w.heap.size+1) w1 (.slice aE nE cE) (read1 T).l/\LIn (w.heap.size+1) w1 (.slice aL nL cL) (read2 T).2):=hgood
 clear hb hE HRA hgood
 by_cases h0:ee=0
 ·have k0:(ee == 0)=true:=by rw [beq_iff_eq];exact h0
  have K0:Hid (ee=0):=h0
  obtain ⟨⟨L,hpm,hte,hir⟩,hli⟩:=HGD.out h0
  have HFW:=HFEW.out h0
  have HSQ:=HSP.out h0
  have hLl:L.length<=100000:=by rw [hpm.length_eq];exact HSQ.1
  have hLk:∀ o ∈ L,o.2.2<8:=fun o ho=>HSQ.2 o (hpm.mem_iff.1 ho)
  have HPM:Hid (L.Perm (read1 T).l):=hpm
  have HIR:Hid (InRow L):=hir
  have HFX:Hid ((read2 T).2.length<=4/\∀ x ∈ (read2 T).2,RuleOk x):=HFW
  have HLK:Hid (L.length<=100000/\∀ o ∈ L,o.2.2<8):=⟨hLl,hLk⟩
  obtain ⟨W1,hW1⟩:∃ W1,W1=w1.alloc (.cells #[.slice aE nE cE,.slice aL nL cL] 84):=⟨_,rfl⟩
  have HW1:Hid (W1=w1.alloc (.cells #[.slice aE nE cE,.slice aL nL cL] 84)):=hW1
  have b1:Below w1.heap.size w1 W1:=by rw [hW1];exact below_alloc w1 _
  have hz1:W1.heap.size=w1.heap.size+1:=by rw [hW1];simp
  have p1:W1.heap[w1.heap.size]?=some (.cells #[.slice aE nE cE,.slice aL nL cL] 84 (0,0)):=by rw [hW1];exact heap_alloc_new w1 _
  have BW:Hid (Below w.heap.size w W1):=HB.out.trans (b1.mono hs1)
  have T1:Hid (TRe (w.heap.size+1) W1 (.slice aE nE cE) L):=row_kp hte (Kp.below b1)
  have LI1:Hid (LIn (w.heap.size+1) W1 (.slice aL nL cL) (read2 T).2):=hli.below b1
  have m0:W1.cell? ⟨w1.heap.size,0,none⟩=some (.slice aE nE cE):=cell_of_block p1 0 _ rfl
  have m1:W1.cell? ⟨w1.heap.size,1,none⟩=some (.slice aL nL cL):=cell_of_block p1 1 _ rfl
  have PM:Hid (∀ W,Below W1.heap.size W1 W->Calls Tryz.prog 43 #[.slice aL nL cL] W fun r w'=>∃ v ao n cap,r=.returned (.agg #[v])/\v=.slice ao n cap/\JIn W.heap.size w' v (read2 T).2/\Below W.heap.size W w'):=fun W hW=>pmake_any (w.heap.size+1) _ (read2 T).2 W (LI1.out.below hW) HFX.out.2 (by have:=HFX.out.1;omega)
  have PO:Hid (∀ W,Below W1.heap.size W1 W->Calls Tryz.prog 45 #[.pointer (some ⟨w1.heap.size,0,none⟩)] W fun r w'=>∃ v,r=.returned v/\w'.ownsRow W.heap.size 169 1 v (possOf L).length (kCells (possOf L))/\Below W.heap.size W w'):=fun W hW =>
   possible_any W w1.heap.size (w.heap.size+1) _ L ((HE.out.below BW.out).below hW) (row_kp T1.out (Kp.below hW)) HLK.out.2 HLK.out.1 ((hW.cell (p:=⟨w1.heap.size,0,none⟩) (by show w1.heap.size<_;omega)).trans m0)
  have AM:Hid (∀ W vP,Below W1.heap.size W1 W->W.ownsRow 0 169 1 vP (possOf L).length (kCells (possOf L))->Calls Tryz.prog 44 #[.slice aL nL cL,vP] W fun r w'=>∃ vH vV,r=.returned (.agg #[vP,vH,vV])/\(∃ a b c,vH=.slice a b c)/\(∃ a b c,vV=.slice a b c)/\OutIn w' vP vH vV (read2 T).2 (possOf L)/\Below W.heap.size W w'):=fun W vP hW hP =>
   amake_any (w.heap.size+1) _ vP (read2 T).2 (possOf L) W (LI1.out.below hW) HFX.out.2 HFX.out.1 (possOf_lt L) (possOf_len L) hP
  clear h0 hpm hte hir hli HFW HSQ hLl hLk hW1 b1 p1
  go_wp2_with fail
  rw [<- HW1.out]
  go_region_held3 (fun w'=>w'.cell? ⟨w1.heap.size,0,none⟩=some (.slice aE nE cE)/\w'.cell? ⟨w1.heap.size,1,none⟩=some (.slice aL nL cL))
   (first | exact HH.out | exact II.out | exact KK.out | go_keep)
   (first
    | (go_at_call 43
       refine (PM.out _ ((Below.refl _ _).drew)).mono ?_
       rintro e W2 ⟨v2,ao2,n2,cap2,rfl,rfl,hJ2,hB2⟩
       have J2:Hid (JIn 0 W2 (.slice ao2 n2 cap2) (read2 T).2):=hJ2.base0
       have B2:Hid (Below W1.heap.size W1 W2):=below_drew hB2
       have HH:Hid (W2.cell? ⟨w1.heap.size,0,none⟩=some (.slice aE nE cE)/\W2.cell? ⟨w1.heap.size,1,none⟩=some (.slice aL nL cL)):=⟨(B2.out.cell (p:=⟨w1.heap.size,0,none⟩) (by show w1.heap.size<_;omega)).trans m0,(B2.out.cell (p:=⟨w1.heap.size,1,none⟩) (by show w1.heap.size<_;omega)).trans m1⟩
       clear hJ2 hB2)
    | (go_at_call 45
       refine (PO.out _ B2.out).mono ?_
       rintro e W3 ⟨vP,rfl,hP3,hB3⟩
       have hs2:=B2.out.size
       have B3:Hid (Below W1.heap.size W1 W3):=B2.out.trans (hB3.mono hs2)
       have J3:Hid (JIn 0 W3 (.slice ao2 n2 cap2) (read2 T).2):=J2.out.kp (Kp.below hB3) (Kp.below hB3)
       have P3:Hid (W3.ownsRow 0 169 1 vP (possOf L).length (kCells (possOf L))):=row_base hP3 (Nat.zero_le _)
       obtain ⟨aoP,capP,rfl⟩:=row_shape hP3
       have II:Hid (W3.cell? ⟨w1.heap.size,0,none⟩=some (.slice aE nE cE)/\W3.cell? ⟨w1.heap.size,1,none⟩=some (.slice aL nL cL)):=⟨(B3.out.cell (p:=⟨w1.heap.size,0,none⟩) (by show w1.heap.size<_;omega)).trans m0,(B3.out.cell (p:=⟨w1.heap.size,1,none⟩) (by show w1.heap.size<_;omega)).trans m1⟩
       clear hP3 hB3)
    | (go_at_call 44
       refine (AM.out _ _ B3.out P3.out).mono ?_
       rintro e W4 ⟨_,_,rfl,⟨aH,nH,cH,rfl⟩,⟨aV,nV,cV,rfl⟩,hO4,hB4⟩
       have hs3:=B3.out.size
       have B4:Hid (Below W1.heap.size W1 W4):=B3.out.trans (hB4.mono hs3)
       have J4:Hid (JIn 0 W4 (.slice ao2 n2 cap2) (read2 T).2):=J3.out.kp (Kp.below hB4) (Kp.below hB4)
       have O4:Hid (OutIn W4 (.slice aoP (possOf L).length capP) (.slice aH nH cH) (.slice aV nV cV) (read2 T).2 (possOf L)):=hO4
       have KK:Hid (W4.cell? ⟨w1.heap.size,0,none⟩=some (.slice aE nE cE)/\W4.cell? ⟨w1.heap.size,1,none⟩=some (.slice aL nL cL)):=⟨(B4.out.cell (p:=⟨w1.heap.size,0,none⟩) (by show w1.heap.size<_;omega)).trans m0,(B4.out.cell (p:=⟨w1.heap.size,1,none⟩) (by show w1.heap.size<_;omega)).trans m1⟩
       clear hO4 hB4))
  all_goals go_wp2_with fail
  all_goals refine bodyPost_ret (results_ttt rfl _ _) rfl ?_
  all_goals obtain rfl:=K0.out
  all_goals obtain rfl:=HZ.out rfl
  all_goals have hs4:=B4.out.size
  all_goals have hsW:=BW.out.size
  all_goals refine ⟨(BW.out.trans (B4.out.mono hsW)).alloc (by omega) _,_,rfl,fun _=>⟨W4.heap.size,_,_,_,_,_,L,rfl,by omega,⟨heap_alloc_new W4 _,HPM.out,HIR.out,row_base (row_kp T1.out (Kp.below (B4.out.alloc hs4 _))) (Nat.zero_le _),J4.out.kp (Kp.below (below_alloc W4 _)) (Kp.below (below_alloc W4 _)),O4.out.below (below_alloc W4 _),HFX.out.2,HFX.out.1,HLK.out⟩⟩,fun h=>absurd rfl h⟩
 ·have k0:(ee == 0)=false:=by rw [beq_eq_false_iff_ne];exact h0
  have K0:Hid (ee ≠ 0):=h0
  clear h0
  go_wp2_with fail
  refine bodyPost_ret (results_ttt rfl _ _) rfl ?_
  exact ⟨HB.out.alloc HB.out.size _,_,rfl,fun h=>absurd h K0.out,fun _=>rfl⟩
open Go.Lib
def RightT (S:List St) (first:Nat) (tab:Tab):Prop:=SideT (nxA (graphOf false S) 0) first [reach (graphOf false S) 0] tab
def PJOk (Ls:List RuleM) (J:List PR):Prop:=J.length=Ls.length/\∀ (i:Nat) (L:RuleM) (r:PR),Ls[i]?=some L->J[i]?=some r->r.1=L.cut/\LeftT L.SL L.fL r.2.1/\RightT L.SR L.fR r.2.2
theorem pick_list {α:Type} (P:Nat->α->Prop):∀ n,(∀ i,i<n->∃ x,P i x)->∃ l:List α,l.length=n/\∀ i x,l[i]?=some x->P i x:=by
 intro n
 induction n with
 | zero=>intro _;exact ⟨[],rfl,fun i x h=>by simp at h⟩
 | succ n ih =>
  intro h
  obtain ⟨l,h1,h2⟩:=ih fun i hi=>h i (by omega)
  obtain ⟨x,hx⟩:=h n (by omega)
  refine ⟨l++[x],by simp [h1],fun i y hy=>?_⟩
  rcases snoc_at hy with ⟨a,b⟩ | ⟨a,rfl⟩
  ·exact h2 i y a
  ·rw [show i=n from by omega];exact hx
theorem pCells_judge:∀ (Ls:List RuleM) (J:List PR) (vs:List (Value × Value)),J.length=Ls.length->(∀ (i:Nat) (L:RuleM) (r:PR),Ls[i]?=some L->J[i]?=some r->r.1=L.cut)->pCells J vs=judgeCells Ls vs:=by
 intro Ls
 induction Ls with
 | nil=>intro J vs h _;cases J with
  | nil=>rfl
  | cons a J=>simp at h
 | cons L Ls ih =>
  intro J vs h hc
  cases J with
  | nil=>simp at h
  | cons r J =>
   cases vs with
   | nil=>rfl
   | cons u vs =>
    have h1:=ih J vs (by simpa using h) (fun i L r h1 h2=>hc (i+1) L r (by simpa using h1) (by simpa using h2))
    have h2:r.1=L.cut:=hc 0 L r rfl rfl
    unfold pCells judgeCells at *
    simp only [List.zip_cons_cons,List.flatMap_cons,h1,h2]
theorem JIn.pr {w:World} {v:Value} {Ls:List RuleM} (h:JIn 0 w v Ls) (hf:Ls.length<=100):∃ J vs,PRIn w v J vs/\PJOk Ls J:=by
 obtain ⟨vs,h1,h2,h3⟩:=h
 obtain ⟨J,j1,j2⟩:=pick_list (fun i (r:PR)=>∀ (L:RuleM) (u:Value × Value),Ls[i]?=some L->vs[i]?=some u->r.1=L.cut/\(TabIn 0 w u.1 r.2.1/\LeftT L.SL L.fL r.2.1)/\(TabIn 0 w u.2 r.2.2/\RightT L.SR L.fR r.2.2)) Ls.length fun i hi=>by
  obtain ⟨L,hL⟩:∃ L,Ls[i]?=some L:=⟨Ls[i],List.getElem?_eq_getElem hi⟩
  obtain ⟨u,hu⟩:∃ u,vs[i]?=some u:=⟨vs[i]'(by omega),List.getElem?_eq_getElem (by omega)⟩
  obtain ⟨⟨tl,Sl,a1,a2,a3,a4,a5⟩,tr,Sr,b1,b2,b3,b4,b5⟩:=h3 i L u hL hu
  refine ⟨(L.cut,tl,tr),fun L' u' hL' hu'=>?_⟩
  rw [hL] at hL'
  rw [hu] at hu'
  cases hL'
  cases hu'
  exact ⟨rfl,⟨a1,Sl,a2,a3,a4,a5⟩,b1,Sr,b2,b3,b4,b5⟩
 have all:∀ (i:Nat) (L:RuleM) (r:PR),Ls[i]?=some L->J[i]?=some r->∃ u,vs[i]?=some u/\r.1=L.cut/\(TabIn 0 w u.1 r.2.1/\LeftT L.SL L.fL r.2.1)/\(TabIn 0 w u.2 r.2.2/\RightT L.SR L.fR r.2.2):=fun i L r hL hr=>by
  have hi:=(List.getElem?_eq_some_iff.1 hL).1
  obtain ⟨u,hu⟩:∃ u,vs[i]?=some u:=⟨vs[i]'(by omega),List.getElem?_eq_getElem (by omega)⟩
  exact ⟨u,hu,j2 i r hr L u hL hu⟩
 have got:∀ (i:Nat) (r:PR),J[i]?=some r->∃ L,Ls[i]?=some L:=fun i r hr=>⟨Ls[i]'(by have:=(List.getElem?_eq_some_iff.1 hr).1;omega),List.getElem?_eq_getElem _⟩
 refine ⟨J,vs,⟨by omega,?_,fun i r u hr hu=>?_,fun r hr=>?_,by omega⟩,j1,fun i L r hL hr=>?_⟩
 ·rw [j1,pCells_judge Ls J vs j1 (fun i L r hL hr=>(all i L r hL hr).choose_spec.2.1)]
  exact h2
 ·obtain ⟨L,hL⟩:=got i r hr
  obtain ⟨u',hu',_,h4,h5⟩:=all i L r hL hr
  rw [hu] at hu'
  cases hu'
  exact ⟨h4.1,h5.1⟩
 ·obtain ⟨i,hi⟩:=List.mem_iff_getElem?.1 hr
  obtain ⟨L,hL⟩:=got i r hi
  obtain ⟨u',hu',_,h4,h5⟩:=all i L r hL hi
  exact ⟨(h4.2.good (by simp)).1,(h5.2.good (by simp)).1⟩
 ·obtain ⟨u',hu',h3,h4,h5⟩:=all i L r hL hr
  exact ⟨h3,h4.2,h5.2⟩
def CutTold (T s:ByteArray) (L:List (Int × Int × Nat)) (told:List ByteArray):Prop:=∃ J ks ns,PJOk (read2 T).2 J/\CharsTo L s s.size ks ns/\told=(segSt s ns (cutsOf J ks) ns.length).2.2
set_option maxRecDepth 100000 in
set_option maxHeartbeats 4000000 in
theorem cut_any (w:World) (g:Nat) (T s:ByteArray) (vE vJ vP vH vV:Value) (L:List (Int × Int × Nat)) (hI:RulesIn w g T vE vJ vP vH vV L) (hT:Utf8Tabs 2 3 w) (hG:2<w.heap.size/\3<w.heap.size) (hlen:s.size<=2200000) :
  Calls Tryz.prog 19 #[.pointer (some ⟨g,0,none⟩),.string s] w fun r w'=>(∃ v told,r=.returned v/\CutTold T s L told/\w'.ownsRow w.heap.size 9 1 v told.length (strCells told))/\Below w.heap.size w w':=by
 obtain ⟨J,vs,hP,hJ⟩:=hI.judge.pr (by have:=hI.few;omega)
 obtain ⟨aoJ,capJ,rfl⟩:=row_shape hP.row
 have hgl:=heap_lt hI.blk
 have hread:=cread_any 0 g 0 vE L s w hT hG (cell_of_block hI.blk 0 _ rfl) hI.tab hI.spans.1 hI.row hI.spans.2 hlen
 have c1:w.cell? ⟨g,1,none⟩=some (.slice aoJ J.length capJ):=cell_of_block hI.blk 1 _ rfl
 have HP:Hid (PRIn w (.slice aoJ J.length capJ) J vs):=hP
 have HJ:Hid (PJOk (read2 T).2 J):=hJ
 have HL:Hid (∀ o ∈ L,o.2.2<8):=hI.spans.2
 clear hI hT hG hP hJ
 go_enter Tryz.func19,Tryz.ntmps19
 go_wp2_with fail
 refine hread.mono ?_
 rintro r w1 ⟨⟨vK,vN,ks,ns,rfl,hch,hRK,hRN⟩,b1⟩
 obtain ⟨aK,cK,rfl⟩:=row_shape hRK
 obtain ⟨aN,cN,rfl⟩:=row_shape hRN
 have hok:=hch.ok HL.out
 have hs1:=b1.size
 obtain ⟨W2,hW2⟩:∃ W2,W2=w1.alloc (.cells #[.slice aK ks.length cK,.slice aN ns.length cN] 104):=⟨_,rfl⟩
 have HW2:Hid (W2=w1.alloc (.cells #[.slice aK ks.length cK,.slice aN ns.length cN] 104)):=hW2
 have b12:Below w1.heap.size w1 W2:=by rw [hW2];exact below_alloc w1 _
 have hz2:W2.heap.size=w1.heap.size+1:=by rw [hW2];simp
 have q2:W2.heap[w1.heap.size]?=some (.cells #[.slice aK ks.length cK,.slice aN ns.length cN] 104 (0,0)):=by rw [hW2];exact heap_alloc_new w1 _
 have BW:Hid (Below w.heap.size w W2):=b1.trans (b12.mono hs1)
 have RK:Hid (KRow W2 (.slice aK ks.length cK) ks):=⟨row_kp (row_base hRK (Nat.zero_le _)) (Kp.below b12),hok.kinds,by have:=hok.len;have:=hok.few;omega⟩
 have RN:Hid (W2.ownsRow 0 5 1 (.slice aN ns.length cN) ns.length (kCells ns)):=row_kp (row_base hRN (Nat.zero_le _)) (Kp.below b12)
 have HCH:Hid (CharsTo L s s.size ks ns):=hch
 have HOK:Hid (CharsOk s s.size ks ns):=hok
 have hkn:ks.length=ns.length:=hok.len
 have CC:Hid (∀ W,Below W2.heap.size W2 W->Calls Tryz.prog 53 #[.agg #[.slice aoJ J.length capJ],.slice aK ks.length cK] W fun r w'=>∃ g,r=.returned (.slice (some ⟨g,0,none⟩) (ks.length+1) (ks.length+1))/\W.heap.size<=g/\w'.heap[g]?=some (.cells (boolCells (cutsOf J ks)) 4 (0,0))/\Below W.heap.size W w'):=fun W hb=>pcuts_any W _ _ J vs ks ((HP.out.below BW.out).below hb) (RK.out.below hb)
 have CS:Hid (∀ W gc,W2.heap.size<=W.heap.size->Below W2.heap.size W2 W->W.heap[gc]?=some (.cells (boolCells (cutsOf J ks)) 4 (0,0))->Calls Tryz.prog 52 #[.string s,.slice aN ns.length cN,.slice (some ⟨gc,0,none⟩) (ks.length+1) (ks.length+1)] W fun r w'=>(∃ v,r=.returned v/\w'.ownsRow W.heap.size 9 1 v (segSt s ns (cutsOf J ks) ns.length).2.2.length (strCells (segSt s ns (cutsOf J ks) ns.length).2.2))/\Below W.heap.size W w'):=fun W gc _ hb hg=>by
  rw [hkn]
  exact segments_any s _ ns gc (cutsOf J ks) W (row_kp RN.out (Kp.below hb)) hg (by rw [cutsOf_len,hkn]) HOK.out.sum (fun n hn=>(HOK.out.sizes n hn).2) hlen (by have:=HOK.out.few;omega)
 have m0:W2.cell? ⟨w1.heap.size,0,none⟩=some (.slice aK ks.length cK):=cell_of_block q2 0 _ rfl
 have m1:W2.cell? ⟨w1.heap.size,1,none⟩=some (.slice aN ns.length cN):=cell_of_block q2 1 _ rfl
 have m2:W2.cell? ⟨g,1,none⟩=some (.slice aoJ J.length capJ):=(BW.out.cell (p:=⟨g,1,none⟩) hgl).trans c1
 have HKN:Hid (ks.length=ns.length):=hkn
 clear hread hch hRK hRN hok hW2 b12 q2 b1 c1 hkn
 go_wp2_with fail
 rw [<- HW2.out]
 go_region_held3 (fun w'=>(w'.cell? ⟨w1.heap.size,0,none⟩=some (.slice aK ks.length cK)/\w'.cell? ⟨w1.heap.size,1,none⟩=some (.slice aN ns.length cN)/\w'.cell? ⟨g,1,none⟩=some (.slice aoJ J.length capJ)))
  (first | exact HH.out | exact II.out | go_keep)
  (first
   | (go_at_call 53
      refine (CC.out _ ((Below.refl _ _).drew)).mono ?_
      rintro e W3 ⟨g3,rfl,hg3,hG3,hB3⟩
      have B3:Hid (Below W2.heap.size W2 W3):=below_drew hB3
      have G3:Hid (W3.heap[g3]?=some (.cells (boolCells (cutsOf J ks)) 4 (0,0))):=hG3
      have HH:Hid ((W3.cell? ⟨w1.heap.size,0,none⟩=some (.slice aK ks.length cK)/\W3.cell? ⟨w1.heap.size,1,none⟩=some (.slice aN ns.length cN)/\W3.cell? ⟨g,1,none⟩=some (.slice aoJ J.length capJ))) :=
       ⟨(B3.out.cell (p:=⟨w1.heap.size,0,none⟩) (by show w1.heap.size<_;omega)).trans m0,(B3.out.cell (p:=⟨w1.heap.size,1,none⟩) (by show w1.heap.size<_;omega)).trans m1,(B3.out.cell (p:=⟨g,1,none⟩) (by show g<_;omega)).trans m2⟩
      clear hG3 hB3 hg3)
   | (go_at_call 52
      refine (CS.out _ _ B3.out.size B3.out G3.out).mono ?_
      rintro e W4 ⟨⟨v4,rfl,hR4⟩,hB4⟩
      have B4:Hid (Below W2.heap.size W2 W4):=B3.out.trans (hB4.mono B3.out.size)
      have R4:Hid (W4.ownsRow w.heap.size 9 1 v4 (segSt s ns (cutsOf J ks) ns.length).2.2.length (strCells (segSt s ns (cutsOf J ks) ns.length).2.2)):=row_base hR4 (Nat.le_trans BW.out.size B3.out.size)
      have II:Hid ((W4.cell? ⟨w1.heap.size,0,none⟩=some (.slice aK ks.length cK)/\W4.cell? ⟨w1.heap.size,1,none⟩=some (.slice aN ns.length cN)/\W4.cell? ⟨g,1,none⟩=some (.slice aoJ J.length capJ))) :=
       ⟨(B4.out.cell (p:=⟨w1.heap.size,0,none⟩) (by show w1.heap.size<_;omega)).trans m0,(B4.out.cell (p:=⟨w1.heap.size,1,none⟩) (by show w1.heap.size<_;omega)).trans m1,(B4.out.cell (p:=⟨g,1,none⟩) (by show g<_;omega)).trans m2⟩
      clear hR4 hB4))
 go_wp2_with fail
 go_ret
 exact ⟨⟨v4,_,rfl,⟨J,ks,ns,HJ.out,HCH.out,rfl⟩,R4.out⟩,BW.out.trans (B4.out.mono BW.out.size)⟩
theorem spot_goes {nx:(Nat->Prop)->Nat->Nat->Prop} {goal:Nat} {Ss:List (Nat->Prop)} {tab:Tab} (h:TabOk nx goal Ss tab) (hl:tab.length=Ss.length) {a:Nat} {S:Nat->Prop} (ha:Ss[a]?=some S) {k:Nat} (hk:k<8):Ss[tnext tab a k]?=some (nx S k):=by
 have hal:a<tab.length:=by rw [hl];exact (List.getElem?_eq_some_iff.1 ha).1
 obtain ⟨h1,S',h2,h3,h4⟩:=h a tab[a].1 tab[a].2 (List.getElem?_eq_getElem hal)
 rw [ha] at h2
 cases h2
 obtain ⟨n,h5,h6⟩:=h4 k hk
 unfold tnext
 rw [List.getElem?_eq_getElem hal]
 simp only [Option.bind_some,h5,Option.getD_some]
 exact h6
theorem spot_match {nx:(Nat->Prop)->Nat->Nat->Prop} {goal:Nat} {Ss:List (Nat->Prop)} {tab:Tab} (h:TabOk nx goal Ss tab) (hl:tab.length=Ss.length) {a:Nat} {S:Nat->Prop} (ha:Ss[a]?=some S):tmatch tab a=true↔S goal:=by
 have hal:a<tab.length:=by rw [hl];exact (List.getElem?_eq_some_iff.1 ha).1
 obtain ⟨h1,S',h2,h3,h4⟩:=h a tab[a].1 tab[a].2 (List.getElem?_eq_getElem hal)
 rw [ha] at h2
 cases h2
 unfold tmatch
 rw [List.getElem?_eq_getElem hal]
 exact h3
theorem spot_row {nx:(Nat->Prop)->Nat->Nat->Prop} {goal:Nat} {Ss:List (Nat->Prop)} {tab:Tab} (h:TabOk nx goal Ss tab) (hl:tab.length=Ss.length):∀ (row:List Nat),(∀ k ∈ row,k<8)->∀ (a:Nat) (S:Nat->Prop),Ss[a]?=some S->Ss[row.foldl (fun a k=>tnext tab a k) a]?=some (row.foldl nx S):=by
 intro row
 induction row with
 | nil=>intro _ a S ha;exact ha
 | cons k row ih =>
  intro hk a S ha
  exact ih (fun k' h'=>hk k' (List.mem_cons_of_mem _ h')) _ _ (spot_goes h hl ha (hk k (List.mem_cons_self ..)))
theorem side_always {g:List (List (Nat × Nat))} {first goal:Nat} {tab:Tab} (h:SideT (nxA g first) goal [reach g first] tab) (hr:reach g first goal) (row:List Nat) (hk:∀ k ∈ row,k<8):tmatch tab (row.foldl (fun a k=>tnext tab a k) 0)=true:=by
 obtain ⟨Ss,h1,h2,_,h4⟩:=h
 have h0:Ss[0]?=some (reach g first):=at_prefix h2 rfl
 rw [spot_match h4 h1 (spot_row h4 h1 row hk 0 _ h0)]
 have hin:∀ (row:List Nat) (S:Nat->Prop),S goal->(row.foldl (nxA g first) S) goal:=by
  intro row
  induction row with
  | nil=>intro S hS;exact hS
  | cons k row ih=>intro S _;exact ih _ (Or.inr hr)
 exact hin row _ hr
theorem judgedTo_beyond (c:Bool) (fl fr:Nat->Bool) {m i:Nat} (cuts:List Bool) (hi:m<=i):(judgedTo c fl fr m cuts)[i]?=cuts[i]?:=by
 unfold judgedTo
 rw [List.getElem?_mapIdx]
 cases h:cuts[i]? with
 | none=>rfl
 | some b=>rw [Option.map_some,if_neg (by omega)]
theorem cutsOf_end (J:List PR) (row:List Nat):(cutsOf J row)[row.length]?=some true:=by
 unfold cutsOf
 induction J with
 | nil=>simp
 | cons a J ih=>rw [List.foldr_cons];exact (judgedTo_beyond _ _ _ _ (Nat.le_refl _)).trans ih
def joinB (l:List ByteArray):ByteArray:=l.foldl (·++·) ⟨#[]⟩
theorem joinB_snoc (l:List ByteArray) (x:ByteArray):joinB (l++[x])=joinB l++x:=by unfold joinB;rw [List.foldl_append];rfl
theorem ext_app (s:ByteArray) (a b:Nat) (h:a<=b):s.extract 0 a++s.extract a b=s.extract 0 b:=by
 rw [ByteArray.extract_append_extract]
 congr 1 <;> omega
structure SegW (s:ByteArray) (st:SegSt):Prop where
 full:∀ x ∈ st.2.2,1<=x.size
 join:joinB st.2.2=s.extract 0 st.1
theorem segW (s:ByteArray) {ns:List Nat} {cs:List Bool} (h:cs.length=ns.length+1) (h1:∀ n ∈ ns,1<=n) (hs:ns.sum=s.size):∀ i,i<=ns.length->SegW s (segSt s ns cs i):=by
 intro i
 induction i with
 | zero=>intro _;exact ⟨by unfold segSt;simp,by unfold segSt;simp [joinB];rfl⟩
 | succ i ih =>
  intro hi
  have h2:=ih (by omega)
  have h3:=segOk s h i (by omega)
  have hn:ns[i]?=some ns[i]:=List.getElem?_eq_getElem (by omega)
  have hc:cs[i+1]?=some (cs[i+1]'(by omega)):=List.getElem?_eq_getElem (by omega)
  have e1:=sumTake_succ hn
  have e2:=sumTake_le ns (i+1)
  have hp:=h1 ns[i] (List.getElem_mem _)
  rw [segSt_succ hn hc]
  have h4:=h3.end_
  have h5:=h3.order
  generalize segSt s ns cs i=st at *
  generalize (cs[i+1]'(by omega))=c
  unfold segStep
  cases c with
  | true =>
   refine ⟨fun x hx=>?_,?_⟩
   ·rcases List.mem_append.1 hx with hx | hx
    ·exact h2.full x hx
    ·simp only [List.mem_singleton] at hx
     rw [hx,ByteArray.size_extract]
     omega
   ·show joinB (st.2.2++[s.extract st.1 (st.2.1+ns[i])])=_
    rw [joinB_snoc,h2.join,ext_app _ _ _ (by omega)]
    rfl
  | false=>exact ⟨h2.full,h2.join⟩
theorem seg_end (s:ByteArray) {ns:List Nat} {cs:List Bool} (h:cs.length=ns.length+1) (he:cs[ns.length]?=some true) (hs:ns.sum=s.size):(segSt s ns cs ns.length).1=s.size:=by
 cases hn:ns.length with
 | zero =>
  have:ns=[]:=List.eq_nil_of_length_eq_zero hn
  subst this
  simp at hs
  unfold segSt
  simp;omega
 | succ m =>
  have hm:ns[m]?=some (ns[m]'(by omega)):=List.getElem?_eq_getElem (by omega)
  have hc:cs[m+1]?=some true:=by rw [<- hn];exact he
  have h3:=(segOk s h m (by omega)).end_
  have e1:=sumTake_succ hm
  rw [segSt_succ hm hc]
  show (segSt s ns cs m).2.1+_=_
  rw [h3,<- e1,<- hn,List.take_length,hs]
theorem extract_all (s:ByteArray):s.extract 0 s.size=s:=by simp
theorem told_whole {T s:ByteArray} {L:List (Int × Int × Nat)} {told:List ByteArray} (hL:∀ o ∈ L,o.2.2<8) (h:CutTold T s L told):(∀ x ∈ told,1<=x.size)/\joinB told=s/\told.length<=s.size:=by
 obtain ⟨J,ks,ns,_,hc,rfl⟩:=h
 have hok:=hc.ok hL
 have hl:(cutsOf J ks).length=ns.length+1:=by rw [cutsOf_len,hok.len]
 have he:(cutsOf J ks)[ns.length]?=some true:=by rw [<- hok.len];exact cutsOf_end J ks
 have hw:=segW s hl (fun n hn=>(hok.sizes n hn).1) hok.sum ns.length (Nat.le_refl _)
 refine ⟨hw.full,?_,Nat.le_trans (segOk s hl ns.length (Nat.le_refl _)).few hok.few⟩
 rw [hw.join,seg_end s hl he hok.sum,extract_all]
theorem seg_joined (s:ByteArray) {ns:List Nat} {cs:List Bool} (hf:∀ i,1<=i->i<ns.length->cs[i]?=some false):∀ i,i<ns.length->segSt s ns cs i=(0,(ns.take i).sum,[]):=by
 intro i
 induction i with
 | zero=>intro _;rfl
 | succ i ih =>
  intro hi
  have hn:ns[i]?=some ns[i]:=List.getElem?_eq_getElem (by omega)
  rw [segSt_succ hn (hf (i+1) (by omega) hi),ih (by omega),sumTake_succ hn]
  rfl
theorem seg_one (s:ByteArray) {ns:List Nat} {cs:List Bool} (hf:∀ i,1<=i->i<ns.length->cs[i]?=some false) (he:cs[ns.length]?=some true) (hs:ns.sum=s.size) (h0:1<=s.size):(segSt s ns cs ns.length).2.2=[s]:=by
 cases hn:ns.length with
 | zero =>
  have:ns=[]:=List.eq_nil_of_length_eq_zero hn
  subst this
  simp at hs
  omega
 | succ m =>
  have hm:ns[m]?=some (ns[m]'(by omega)):=List.getElem?_eq_getElem (by omega)
  have hc:cs[m+1]?=some true:=by rw [<- hn];exact he
  have e1:=sumTake_succ hm
  rw [segSt_succ hm hc,seg_joined s hf m (by omega)]
  show [s.extract 0 ((ns.take m).sum+_)]=_
  rw [<- e1,<- hn,List.take_length,hs,extract_all]
abbrev joinT:ByteArray:=⟨#[106,111,105,110,32,124,32,59]⟩
theorem joinT_read:(rdT joinT).err=0/\(rdT joinT).place=0:=⟨by kernel_rfl,by kernel_rfl⟩
theorem joinT_rules:(read2 joinT).2.map (fun L=>(L.cut,L.fL,L.fR))=[(false,0,0)]:=by kernel_rfl
theorem told_joined {s:ByteArray} {L:List (Int × Int × Nat)} {told:List ByteArray} (hL:∀ o ∈ L,o.2.2<8) (h:CutTold joinT s L told) (h0:1<=s.size):told=[s]:=by
 obtain ⟨J,ks,ns,⟨hj1,hj2⟩,hc,rfl⟩:=h
 have hok:=hc.ok hL
 have hl:(cutsOf J ks).length=ns.length+1:=by rw [cutsOf_len,hok.len]
 have he:(cutsOf J ks)[ns.length]?=some true:=by rw [<- hok.len];exact cutsOf_end J ks
 have hr:=joinT_rules
 have hlen:(read2 joinT).2.length=1:=by have:=congrArg List.length hr;rw [List.length_map] at this;exact this
 obtain ⟨R,hR⟩:∃ R,(read2 joinT).2=[R]:=by
  cases h:(read2 joinT).2 with
  | nil=>rw [h] at hlen;simp at hlen
  | cons a l=>rw [h] at hlen;simp at hlen;exact ⟨a,by rw [hlen]⟩
 rw [hR] at hr hj1 hj2
 simp only [List.map_cons,List.map_nil,List.cons.injEq,Prod.mk.injEq,and_true] at hr
 obtain ⟨r,hJ⟩:∃ r,J=[r]:=by
  cases J with
  | nil=>simp at hj1
  | cons a l=>simp at hj1;exact ⟨a,by rw [hj1]⟩
 subst hJ
 obtain ⟨c1,c2,c3⟩:=hj2 0 R r rfl rfl
 rw [hr.1] at c1
 rw [hr.2.1] at c2
 rw [hr.2.2] at c3
 refine seg_one s (fun i h1 h2=>?_) he hok.sum h0
 show (ruleSays ks r (List.replicate (ks.length+1) true))[i]?=some false
 unfold ruleSays judgedTo
 have hi:i<ks.length:=by have:=hok.len;omega
 rw [List.getElem?_mapIdx,List.getElem?_replicate,if_pos (by omega),Option.map_some,if_pos,c1]
 refine ⟨h1,hi,?_,?_⟩
 ·exact side_always c2 (reach_refl _ 0) (ks.take i) (fun k hk=>hok.kinds k (List.mem_of_mem_take hk))
 ·exact side_always c3 (reach_refl _ 0) (ks.drop i).reverse (fun k hk=>hok.kinds k (List.mem_of_mem_drop (List.mem_reverse.1 hk)))
theorem ba_ext {x y:ByteArray} (h:x.toList=y.toList):x=y:=by
 rw [ByteArray.toList_eq,ByteArray.toList_eq] at h
 obtain ⟨a⟩:=x
 obtain ⟨b⟩:=y
 have h':a=b:=Array.toList_inj.1 h
 rw [h']
theorem joinB_size:∀ l:List ByteArray,(joinB l).size=(l.map ByteArray.size).sum:=by
 apply snoc_ind
 ·rfl
 ·intro l a ih;rw [joinB_snoc,ByteArray.size_append,ih,List.map_append,List.sum_append];simp
theorem joinB_take (l:List ByteArray) (i:Nat):(joinB (l.take i)).size<=(joinB l).size:=by
 rw [joinB_size,joinB_size,List.map_take]
 exact sumTake_le _ i
set_option maxRecDepth 100000 in
set_option maxHeartbeats 2000000 in
theorem keepSame_any (ba bb:Nat) (va vb:Value) (la lb:List ByteArray) (w:World) (ha:w.ownsRow ba 9 1 va la.length (strCells la)) (hb:w.ownsRow bb 9 1 vb lb.length (strCells lb)) (hla:la.length<=2200000) :
  Calls Tryz.prog 28 #[va,vb] w fun r w'=>r=.returned (.bool (decide (la=lb)))/\Below w.heap.size w w':=by
 obtain ⟨aa,ca,rfl⟩:=row_shape ha
 obtain ⟨ab,cb,rfl⟩:=row_shape hb
 have HA:Hid (w.ownsRow ba 9 1 (.slice aa la.length ca) la.length (strCells la)):=ha
 have HB:Hid (w.ownsRow bb 9 1 (.slice ab lb.length cb) lb.length (strCells lb)):=hb
 clear ha hb
 by_cases hlen:la.length=lb.length
 ·have HL:Hid (la.length=lb.length):=hlen
  have hd:((la.length:Int) == (lb.length:Int))=true:=by simp [hlen]
  clear hlen
  go_enter Tryz.func28,Tryz.ntmps28
  go_wp2_with fail
  go_loopg [5] la.length (fun gh iv wx=>∃ i:Nat,i<=la.length/\gh=la.length - i/\iv=.int .i64 i/\Hid (la.take i=lb.take i)/\Hid (Below w.heap.size w wx))
  case atStart=>exact ⟨0,Nat.zero_le _,rfl,rfl,rfl,Below.refl _ _⟩
  case round =>
   obtain ⟨i,hi,rfl,rfl,hE,hB⟩:=hrel
   obtain ⟨w1,hw1⟩:∃ w1,w1=wr:=⟨wr,rfl⟩
   subst hw1
   by_cases hlt:i<la.length
   ·obtain ⟨x,hx⟩:∃ x,la[i]?=some x:=⟨la[i],List.getElem?_eq_getElem hlt⟩
    have hltb:i<lb.length:=by rw [<- HL.out];exact hlt
    obtain ⟨y,hy⟩:∃ y,lb[i]?=some y:=⟨lb[i],List.getElem?_eq_getElem hltb⟩
    obtain ⟨q,hq,_,hc⟩:=row_at (row_kp HA.out (Kp.below hB.out)) (strCells_at hx) (by omega)
    subst hq
    obtain ⟨q',hq',_,hc'⟩:=row_at (row_kp HB.out (Kp.below hB.out)) (strCells_at hy) (by omega)
    subst hq'
    by_cases e:x=y
    ·subst e
     have E2:Hid (la.take (i+1)=lb.take (i+1)):=by show _=_;rw [List.take_add_one,List.take_add_one,hx,hy,hE.out]
     clear hx hy hE
     go_wp2_with fail
     go_quiet (fail)
     go_wp2_with fail
     go_roundg (la.length - (i+1))
     case measure=>omega
     case rel=>exact ⟨i+1,by omega,rfl,by go_num,E2,bdrew hB.out _⟩
    ·have E2:Hid (decide (la=lb)=false):=by
      show _=_
      simp only [decide_eq_false_iff_not]
      intro h
      rw [h,hy] at hx
      exact e (Option.some.inj hx).symm
     have hne:(x.toList == y.toList)=false:=by
      rw [beq_eq_false_iff_ne]
      exact fun h=>e (ba_ext h)
     clear hx hy hE e
     go_wp2_with fail
     go_quiet (fail)
     go_wp2_with fail
     go_ret
     exact ⟨by rw [E2.out];rfl,bdrew hB.out _⟩
   ·obtain rfl:i=la.length:=by omega
    have E2:Hid (decide (la=lb)=true):=by
     show _=_
     have h:=hE.out
     rw [List.take_length,HL.out,List.take_length] at h
     simp [h]
    go_wp2_with fail
    go_ret
    exact ⟨by rw [E2.out];rfl,hB.out⟩
 ·have E:decide (la=lb)=false:=by simp;intro e;exact hlen (by rw [e])
  rw [E]
  have hd:((la.length:Int) == (lb.length:Int))=false:=by simp;omega
  clear hlen E
  go_enter Tryz.func28,Tryz.ntmps28
  go_wp2_with fail
  go_ret
  exact ⟨rfl,Below.refl _ _⟩
structure VarsOk (w:World):Prop where
 errs:ErrsOk w
 utf:Utf8Tabs 2 3 w
 low:2<w.heap.size/\3<w.heap.size
theorem VarsOk.below {w w':World} (h:VarsOk w) (hB:Below w.heap.size w w'):VarsOk w' :=
 ⟨h.errs.below hB,⟨fun c hc=>(hB.cell (p:=⟨_,c,none⟩) h.low.1).trans (h.utf.1 c hc),fun i hi=>⟨(hB.cell (p:=⟨_,2 * i,none⟩) h.low.2).trans (h.utf.2 i hi).1,(hB.cell (p:=⟨_,2 * i+1,none⟩) h.low.2).trans (h.utf.2 i hi).2⟩⟩,Nat.lt_of_lt_of_le h.low.1 hB.size,Nat.lt_of_lt_of_le h.low.2 hB.size⟩
def RulesAt (T:ByteArray) (w:World) (v:Value):Prop:=∃ g vE vJ vP vH vV L,v=.pointer (some ⟨g,0,none⟩)/\RulesIn w g T vE vJ vP vH vV L
set_option maxRecDepth 100000 in
set_option maxHeartbeats 2000000 in
theorem keepRules_ok (T:ByteArray) (w:World) (hE:ErrsOk w) (hT:T.size<=140737488351232) (h0:(rdT T).err=0) :
  Calls Tryz.prog 27 #[.string T] w fun r w'=>(∃ v,r=.returned v/\RulesAt T w' v)/\Below w.heap.size w w':=by
 have hc:=compile_all T w hE hT
 have hp:(rdT T).place=0:=read_err0 T h0
 have H0:Hid ((rdT T).err=0):=h0
 have HP:Hid ((rdT T).place=0):=hp
 clear h0 hp
 go_enter Tryz.func27,Tryz.ntmps27
 go_wp2_with fail
 refine hc.mono ?_
 rintro r w1 ⟨b1,v1,rfl,h1,-⟩
 obtain ⟨g,vE,vJ,vP,vH,vV,L,rfl,_,hR⟩:=h1 H0.out
 have HR:Hid (RulesIn w1 g T vE vJ vP vH vV L):=hR
 rw [H0.out,HP.out]
 clear h1 hc hR
 go_wp2_with fail
 go_ret
 exact ⟨⟨_,rfl,g,vE,vJ,vP,vH,vV,L,rfl,HR.out⟩,b1⟩
set_option maxRecDepth 100000 in
set_option maxHeartbeats 4000000 in
theorem given_any (T:ByteArray) (w:World) (hV:VarsOk w) (hT:T.size<=140737488351232) :
  Calls Tryz.prog 24 #[.string T] w fun r w'=>(∃ v,r=.returned (.tuple #[v,.bool true])/\((rdT T).err=0->RulesAt T w' v)/\((rdT T).err ≠ 0->v=.pointer none))/\Below w.heap.size w w':=by
 have HV:Hid (VarsOk w):=hV
 have hr:=keepRules_ok joinT w hV.errs (by decide) joinT_read.1
 clear hV
 go_enter Tryz.func24,Tryz.ntmps24
 go_wp2_with fail
 refine hr.mono ?_
 rintro r w1 ⟨⟨v1,rfl,g,vE,vJ,vP,vH,vV,L,rfl,hR⟩,b1⟩
 have HL:Hid (∀ o ∈ L,o.2.2<8):=hR.spans.2
 have V1:Hid (VarsOk w1):=HV.out.below b1
 have hcut:=cut_any w1 g joinT ⟨#[97,98]⟩ vE vJ vP vH vV L hR V1.out.utf V1.out.low (by decide)
 have B1:Hid (Below w.heap.size w w1):=b1
 clear hr hR b1
 go_wp2_with fail
 refine hcut.mono ?_
 rintro r w2 ⟨⟨v2,told,rfl,hct,hrow⟩,b2⟩
 obtain rfl:=told_joined HL.out hct (by decide)
 have B2:Hid (Below w.heap.size w w2):=B1.out.trans (b2.mono B1.out.size)
 obtain ⟨ao2,cap2,rfl⟩:=row_shape hrow
 obtain ⟨W3,hW3⟩:∃ W3,W3=w2.alloc (.cells #[.string ⟨#[97,98]⟩] 9):=⟨_,rfl⟩
 have HW3:Hid (W3=w2.alloc (.cells #[.string ⟨#[97,98]⟩] 9)):=hW3
 have b23:Below w2.heap.size w2 W3:=by rw [hW3];exact below_alloc w2 _
 have B3:Hid (Below w.heap.size w W3):=B2.out.trans (b23.mono B2.out.size)
 have hown:W3.ownsRow 0 9 1 (.slice (some ⟨w2.heap.size,0,none⟩) 1 1) [(⟨#[97,98]⟩:ByteArray)].length (strCells [⟨#[97,98]⟩]):=by
  rw [hW3]
  exact ⟨rfl,Or.inr ⟨w2.heap.size,1,#[.string ⟨#[97,98]⟩],rfl,Nat.zero_le _,heap_alloc_new w2 _,Nat.le_refl _,by decide,rfl,rfl⟩⟩
 have hsame:=keepSame_any w1.heap.size 0 _ _ [⟨#[97,98]⟩] [⟨#[97,98]⟩] W3 (row_kp hrow (Kp.below b23)) hown (by decide)
 rw [show decide ([(⟨#[97,98]⟩:ByteArray)]=[⟨#[97,98]⟩])=true from by simp] at hsame
 clear hcut hct hrow b2 hW3 b23 hown HL
 go_wp2_with fail
 rw [<- HW3.out]
 refine hsame.mono ?_
 rintro r w4 ⟨rfl,b4⟩
 have B4:Hid (Below w.heap.size w w4):=B3.out.trans (b4.mono B3.out.size)
 have V4:Hid (VarsOk w4):=HV.out.below B4.out
 have hcomp:=compile_all T w4 V4.out.errs hT
 clear hsame b4 HW3
 go_wp2_with fail
 refine hcomp.mono ?_
 rintro r w5 ⟨b5,v5,rfl,h5,h6⟩
 have B5:Hid (Below w.heap.size w w5):=B4.out.trans (b5.mono B4.out.size)
 by_cases e0:(rdT T).err=0
 ·obtain ⟨g5,vE5,vJ5,vP5,vH5,vV5,L5,rfl,_,hR⟩:=h5 e0
  have HR:Hid (RulesAt T w5 (.pointer (some ⟨g5,0,none⟩))):=⟨g5,vE5,vJ5,vP5,vH5,vV5,L5,rfl,hR⟩
  have E0:Hid ((rdT T).err=0):=e0
  rw [e0]
  clear h5 h6 hR hcomp b5 e0
  go_wp2_with fail
  go_ret2
  exact ⟨⟨_,rfl,fun _=>HR.out,fun h=>absurd E0.out h⟩,B5.out⟩
 ·obtain rfl:=h6 e0
  have E0:Hid (¬ (rdT T).err=0):=e0
  have hd:(((rdT T).err:Int) == 0)=false:=by simp;omega
  generalize (rdT T).place=pl
  generalize (rdT T).err=er at hd ⊢
  clear h5 h6 hcomp b5 e0
  go_wp2_with fail
  go_ret2
  exact ⟨⟨_,rfl,fun h=>absurd h E0.out,fun _=>rfl⟩,B5.out⟩
end Go.Proofs.YtodagkkjfipbgaaGreatDoor
