import Derived.Maps.AppendAt
import Derived.Lib.SliceRun
import Derived.Test.YtodagkkjfipbgaaGreatDoorM2toN21
import Derived.Test.YtodagkkjfipbgaaGreatDoorJ12lone
import Derived.Test.YtodagkkjfipbgaaGreatDoorV2toV6
import Derived.Test.YtodagkkjfipbgaaGreatDoorT12lone
namespace Go.Proofs.YtodagkkjfipbgaaGreatDoor
open Go.RowKit Go.Maps
theorem results_ttt {P:Program} {fn:Func} {p u v:Tmp} (h:fn.results=#[.tmp p,.tmp u,.tmp v]) (tmps:Array Value) (w:World) :
  (results fn tmps).run P w=.ok (.tuple #[tmps.getD p undef,tmps.getD u undef,tmps.getD v undef]) w:=by
 simp [results,h]
theorem JIn.base0 {base:Nat} {w:World} {v:Value} {Ls:List RuleM} (h:JIn base w v Ls):JIn 0 w v Ls:=by
 obtain ⟨vs,h1,h2,h3⟩:=h
 exact ⟨vs,h1,row_base h2 (Nat.zero_le _),h3⟩
theorem OutIn.below {w w':World} {vP vH vV:Value} {Ls:List RuleM} {ks:List Nat} (h:OutIn w vP vH vV Ls ks) (hb:Below w.heap.size w w'):OutIn w' vP vH vV Ls ks:=by
 obtain ⟨J,X,K,H,V,MC,MJ,h1,h2,h3,h4⟩:=h
 exact ⟨J,X,K,H,V,MC,MJ,h1,row_kp h2 (Kp.below hb),row_kp h3 (Kp.below hb),row_kp h4 (Kp.below hb)⟩
structure RulesIn (w:World) (g:Nat) (T:ByteArray) (vE vJ vP vH vV:Value) (L:List (Int × Int × Nat)):Prop where
 blk:w.heap[g]?=some (.cells #[vE,vJ,vP,vH,vV] 99 (0,0))
 perm:L.Perm (read1 T).l
 row:InRow L
 tab:TRe 0 w vE L
 judge:JIn 0 w vJ (read2 T).2
 out:OutIn w vP vH vV (read2 T).2 (possOf L)
 ok:∀ x ∈ (read2 T).2,RuleOk x
 few:(read2 T).2.length≤4
 spans:L.length≤100000∧∀ o ∈ L,o.2.2<8
def CompPost (T:ByteArray) (w:World) (r:Ending) (w':World):Prop :=
 Below w.heap.size w w'∧∃ vR,r=.returned (.tuple #[vR,.int .i64 (rdT T).err,.int .i64 (rdT T).place])∧((rdT T).err=0→∃ g vE vJ vP vH vV L,vR=.pointer (some ⟨g,0,none⟩)∧w.heap.size≤g∧RulesIn w' g T vE vJ vP vH vV L)∧((rdT T).err ≠ 0→vR=.pointer none)
set_option maxRecDepth 100000 in
set_option maxHeartbeats 4000000 in
theorem compile_all (T:ByteArray) (w:World) (hE:ErrsOk w) (hT2:T.size≤140737488351232) :
  Calls Tryz.prog 15 #[.string T] w (CompPost T w):=by
 have HZ:Hid ((rdT T).err=0→(rdT T).place=0):=read_err0 T
 have HRA:=read_all T w hE hT2
 have HE:Hid (ErrsOk w):=hE
 have HFEW:Hid ((rdT T).err=0→(read2 T).2.length≤4∧∀ x ∈ (read2 T).2,RuleOk x):=read_few T
 have HSP:Hid ((rdT T).err=0→(read1 T).l.length≤100000∧∀ o ∈ (read1 T).l,o.2.2<8):=read_spans T
 unfold CompPost
 generalize (rdT T).err=ee at *
 generalize (rdT T).place=pp at *
 go_enter Tryz.func15,Tryz.ntmps15
 go_wp2_with fail
 refine HRA.mono ?_
 rintro r w1 ⟨hb,_,_,rfl,⟨aE,nE,cE,rfl⟩,⟨aL,nL,cL,rfl⟩,hgood⟩
 have HB:Hid (Below w.heap.size w w1):=hb
 have hs1:=hb.size
 have HGD:Hid (ee=0→TRs (w.heap.size+1) w1 (.slice aE nE cE) (read1 T).l∧LIn (w.heap.size+1) w1 (.slice aL nL cL) (read2 T).2):=hgood
 clear hb hE HRA hgood
 by_cases h0:ee=0
 ·have k0:(ee == 0)=true:=by rw [beq_iff_eq];exact h0
  have K0:Hid (ee=0):=h0
  obtain ⟨⟨L,hpm,hte,hir⟩,hli⟩:=HGD.out h0
  have HFW:=HFEW.out h0
  have HSQ:=HSP.out h0
  have hLl:L.length≤100000:=by rw [hpm.length_eq];exact HSQ.1
  have hLk:∀ o ∈ L,o.2.2<8:=fun o ho=>HSQ.2 o (hpm.mem_iff.1 ho)
  have HPM:Hid (L.Perm (read1 T).l):=hpm
  have HIR:Hid (InRow L):=hir
  have HFX:Hid ((read2 T).2.length≤4∧∀ x ∈ (read2 T).2,RuleOk x):=HFW
  have HLK:Hid (L.length≤100000∧∀ o ∈ L,o.2.2<8):=⟨hLl,hLk⟩
  obtain ⟨W1,hW1⟩:∃ W1,W1=w1.alloc (.cells #[.slice aE nE cE,.slice aL nL cL] 84):=⟨_,rfl⟩
  have HW1:Hid (W1=w1.alloc (.cells #[.slice aE nE cE,.slice aL nL cL] 84)):=hW1
  have b1:Below w1.heap.size w1 W1:=by rw [hW1];exact below_alloc w1 _
  have hz1:W1.heap.size=w1.heap.size+1:=by rw [hW1];simp
  have p1:W1.heap[w1.heap.size]?=some (.cells #[.slice aE nE cE,.slice aL nL cL] 84 (0,0)):=by rw [hW1];exact heap_alloc_new w1 _
  have BW:Hid (Below w.heap.size w W1):=HB.out.trans (b1.mono hs1)
  have T1:Hid (TRe (w.heap.size+1) W1 (.slice aE nE cE) L):=row_kp hte (Kp.below b1)
  have LI1:Hid (LIn (w.heap.size+1) W1 (.slice aL nL cL) (read2 T).2):=hli.below b1
  have m0:W1.cell? ⟨w1.heap.size,0,none⟩=some (.slice aE nE cE):=cell_of_block p1 0 _ rfl
  have m1:W1.cell? ⟨w1.heap.size,1,none⟩=some (.slice aL nL cL):=cell_of_block p1 1 _ rfl
  have PM:Hid (∀ W,Below W1.heap.size W1 W→Calls Tryz.prog 43 #[.slice aL nL cL] W fun r w'=>∃ v ao n cap,r=.returned (.agg #[v])∧v=.slice ao n cap∧JIn W.heap.size w' v (read2 T).2∧Below W.heap.size W w'):=fun W hW=>pmake_any (w.heap.size+1) _ (read2 T).2 W (LI1.out.below hW) HFX.out.2 (by have:=HFX.out.1;omega)
  have PO:Hid (∀ W,Below W1.heap.size W1 W→Calls Tryz.prog 45 #[.pointer (some ⟨w1.heap.size,0,none⟩)] W fun r w'=>∃ v,r=.returned v∧w'.ownsRow W.heap.size 169 1 v (possOf L).length (kCells (possOf L))∧Below W.heap.size W w'):=fun W hW =>
   possible_any W w1.heap.size (w.heap.size+1) _ L ((HE.out.below BW.out).below hW) (row_kp T1.out (Kp.below hW)) HLK.out.2 HLK.out.1 ((hW.cell (p:=⟨w1.heap.size,0,none⟩) (by show w1.heap.size<_;omega)).trans m0)
  have AM:Hid (∀ W vP,Below W1.heap.size W1 W→W.ownsRow 0 169 1 vP (possOf L).length (kCells (possOf L))→Calls Tryz.prog 44 #[.slice aL nL cL,vP] W fun r w'=>∃ vH vV,r=.returned (.agg #[vP,vH,vV])∧(∃ a b c,vH=.slice a b c)∧(∃ a b c,vV=.slice a b c)∧OutIn w' vP vH vV (read2 T).2 (possOf L)∧Below W.heap.size W w'):=fun W vP hW hP =>
   amake_any (w.heap.size+1) _ vP (read2 T).2 (possOf L) W (LI1.out.below hW) HFX.out.2 HFX.out.1 (possOf_lt L) (possOf_len L) hP
  clear h0 hpm hte hir hli HFW HSQ hLl hLk hW1 b1 p1
  go_wp2_with fail
  rw [← HW1.out]
  go_region_held3 (fun w'=>w'.cell? ⟨w1.heap.size,0,none⟩=some (.slice aE nE cE)∧w'.cell? ⟨w1.heap.size,1,none⟩=some (.slice aL nL cL))
   (first | exact HH.out | exact II.out | exact KK.out | go_keep)
   (first
    | (go_at_call 43
       refine (PM.out _ ((Below.refl _ _).drew)).mono ?_
       rintro e W2 ⟨v2,ao2,n2,cap2,rfl,rfl,hJ2,hB2⟩
       have J2:Hid (JIn 0 W2 (.slice ao2 n2 cap2) (read2 T).2):=hJ2.base0
       have B2:Hid (Below W1.heap.size W1 W2):=below_drew hB2
       have HH:Hid (W2.cell? ⟨w1.heap.size,0,none⟩=some (.slice aE nE cE)∧W2.cell? ⟨w1.heap.size,1,none⟩=some (.slice aL nL cL)):=⟨(B2.out.cell (p:=⟨w1.heap.size,0,none⟩) (by show w1.heap.size<_;omega)).trans m0,(B2.out.cell (p:=⟨w1.heap.size,1,none⟩) (by show w1.heap.size<_;omega)).trans m1⟩
       clear hJ2 hB2)
    | (go_at_call 45
       refine (PO.out _ B2.out).mono ?_
       rintro e W3 ⟨vP,rfl,hP3,hB3⟩
       have hs2:=B2.out.size
       have B3:Hid (Below W1.heap.size W1 W3):=B2.out.trans (hB3.mono hs2)
       have J3:Hid (JIn 0 W3 (.slice ao2 n2 cap2) (read2 T).2):=J2.out.kp (Kp.below hB3) (Kp.below hB3)
       have P3:Hid (W3.ownsRow 0 169 1 vP (possOf L).length (kCells (possOf L))):=row_base hP3 (Nat.zero_le _)
       obtain ⟨aoP,capP,rfl⟩:=row_shape hP3
       have II:Hid (W3.cell? ⟨w1.heap.size,0,none⟩=some (.slice aE nE cE)∧W3.cell? ⟨w1.heap.size,1,none⟩=some (.slice aL nL cL)):=⟨(B3.out.cell (p:=⟨w1.heap.size,0,none⟩) (by show w1.heap.size<_;omega)).trans m0,(B3.out.cell (p:=⟨w1.heap.size,1,none⟩) (by show w1.heap.size<_;omega)).trans m1⟩
       clear hP3 hB3)
    | (go_at_call 44
       refine (AM.out _ _ B3.out P3.out).mono ?_
       rintro e W4 ⟨_,_,rfl,⟨aH,nH,cH,rfl⟩,⟨aV,nV,cV,rfl⟩,hO4,hB4⟩
       have hs3:=B3.out.size
       have B4:Hid (Below W1.heap.size W1 W4):=B3.out.trans (hB4.mono hs3)
       have J4:Hid (JIn 0 W4 (.slice ao2 n2 cap2) (read2 T).2):=J3.out.kp (Kp.below hB4) (Kp.below hB4)
       have O4:Hid (OutIn W4 (.slice aoP (possOf L).length capP) (.slice aH nH cH) (.slice aV nV cV) (read2 T).2 (possOf L)):=hO4
       have KK:Hid (W4.cell? ⟨w1.heap.size,0,none⟩=some (.slice aE nE cE)∧W4.cell? ⟨w1.heap.size,1,none⟩=some (.slice aL nL cL)):=⟨(B4.out.cell (p:=⟨w1.heap.size,0,none⟩) (by show w1.heap.size<_;omega)).trans m0,(B4.out.cell (p:=⟨w1.heap.size,1,none⟩) (by show w1.heap.size<_;omega)).trans m1⟩
       clear hO4 hB4))
  all_goals go_wp2_with fail
  all_goals refine bodyPost_ret (results_ttt rfl _ _) rfl ?_
  all_goals obtain rfl:=K0.out
  all_goals obtain rfl:=HZ.out rfl
  all_goals have hs4:=B4.out.size
  all_goals have hsW:=BW.out.size
  all_goals refine ⟨(BW.out.trans (B4.out.mono hsW)).alloc (by omega) _,_,rfl,fun _=>⟨W4.heap.size,_,_,_,_,_,L,rfl,by omega,⟨heap_alloc_new W4 _,HPM.out,HIR.out,row_base (row_kp T1.out (Kp.below (B4.out.alloc hs4 _))) (Nat.zero_le _),J4.out.kp (Kp.below (below_alloc W4 _)) (Kp.below (below_alloc W4 _)),O4.out.below (below_alloc W4 _),HFX.out.2,HFX.out.1,HLK.out⟩⟩,fun h=>absurd rfl h⟩
 ·have k0:(ee == 0)=false:=by rw [beq_eq_false_iff_ne];exact h0
  have K0:Hid (ee ≠ 0):=h0
  clear h0
  go_wp2_with fail
  refine bodyPost_ret (results_ttt rfl _ _) rfl ?_
  exact ⟨HB.out.alloc HB.out.size _,_,rfl,fun h=>absurd h K0.out,fun _=>rfl⟩
open Go.Lib
def RightT (S:List St) (first:Nat) (tab:Tab):Prop:=SideT (nxA (graphOf false S) 0) first [reach (graphOf false S) 0] tab
def PJOk (Ls:List RuleM) (J:List PR):Prop:=J.length=Ls.length∧∀ (i:Nat) (L:RuleM) (r:PR),Ls[i]?=some L→J[i]?=some r→r.1=L.cut∧LeftT L.SL L.fL r.2.1∧RightT L.SR L.fR r.2.2
theorem pick_list {α:Type} (P:Nat→α→Prop):∀ n,(∀ i,i<n→∃ x,P i x)→∃ l:List α,l.length=n∧∀ i x,l[i]?=some x→P i x:=by
 intro n
 induction n with
 | zero=>intro _;exact ⟨[],rfl,fun i x h=>by simp at h⟩
 | succ n ih =>
  intro h
  obtain ⟨l,h1,h2⟩:=ih fun i hi=>h i (by omega)
  obtain ⟨x,hx⟩:=h n (by omega)
  refine ⟨l++[x],by simp [h1],fun i y hy=>?_⟩
  rcases snoc_at hy with ⟨a,b⟩ | ⟨a,rfl⟩
  ·exact h2 i y a
  ·rw [show i=n from by omega];exact hx
theorem pCells_judge:∀ (Ls:List RuleM) (J:List PR) (vs:List (Value × Value)),J.length=Ls.length→(∀ (i:Nat) (L:RuleM) (r:PR),Ls[i]?=some L→J[i]?=some r→r.1=L.cut)→pCells J vs=judgeCells Ls vs:=by
 intro Ls
 induction Ls with
 | nil=>intro J vs h _;cases J with
  | nil=>rfl
  | cons a J=>simp at h
 | cons L Ls ih =>
  intro J vs h hc
  cases J with
  | nil=>simp at h
  | cons r J =>
   cases vs with
   | nil=>rfl
   | cons u vs =>
    have h1:=ih J vs (by simpa using h) (fun i L r h1 h2=>hc (i+1) L r (by simpa using h1) (by simpa using h2))
    have h2:r.1=L.cut:=hc 0 L r rfl rfl
    unfold pCells judgeCells at *
    simp only [List.zip_cons_cons,List.flatMap_cons,h1,h2]
theorem JIn.pr {w:World} {v:Value} {Ls:List RuleM} (h:JIn 0 w v Ls) (hf:Ls.length≤100):∃ J vs,PRIn w v J vs∧PJOk Ls J:=by
 obtain ⟨vs,h1,h2,h3⟩:=h
 obtain ⟨J,j1,j2⟩:=pick_list (fun i (r:PR)=>∀ (L:RuleM) (u:Value × Value),Ls[i]?=some L→vs[i]?=some u→r.1=L.cut∧(TabIn 0 w u.1 r.2.1∧LeftT L.SL L.fL r.2.1)∧(TabIn 0 w u.2 r.2.2∧RightT L.SR L.fR r.2.2)) Ls.length fun i hi=>by
  obtain ⟨L,hL⟩:∃ L,Ls[i]?=some L:=⟨Ls[i],List.getElem?_eq_getElem hi⟩
  obtain ⟨u,hu⟩:∃ u,vs[i]?=some u:=⟨vs[i]'(by omega),List.getElem?_eq_getElem (by omega)⟩
  obtain ⟨⟨tl,Sl,a1,a2,a3,a4,a5⟩,tr,Sr,b1,b2,b3,b4,b5⟩:=h3 i L u hL hu
  refine ⟨(L.cut,tl,tr),fun L' u' hL' hu'=>?_⟩
  rw [hL] at hL'
  rw [hu] at hu'
  cases hL'
  cases hu'
  exact ⟨rfl,⟨a1,Sl,a2,a3,a4,a5⟩,b1,Sr,b2,b3,b4,b5⟩
 have all:∀ (i:Nat) (L:RuleM) (r:PR),Ls[i]?=some L→J[i]?=some r→∃ u,vs[i]?=some u∧r.1=L.cut∧(TabIn 0 w u.1 r.2.1∧LeftT L.SL L.fL r.2.1)∧(TabIn 0 w u.2 r.2.2∧RightT L.SR L.fR r.2.2):=fun i L r hL hr=>by
  have hi:=(List.getElem?_eq_some_iff.1 hL).1
  obtain ⟨u,hu⟩:∃ u,vs[i]?=some u:=⟨vs[i]'(by omega),List.getElem?_eq_getElem (by omega)⟩
  exact ⟨u,hu,j2 i r hr L u hL hu⟩
 have got:∀ (i:Nat) (r:PR),J[i]?=some r→∃ L,Ls[i]?=some L:=fun i r hr=>⟨Ls[i]'(by have:=(List.getElem?_eq_some_iff.1 hr).1;omega),List.getElem?_eq_getElem _⟩
 refine ⟨J,vs,⟨by omega,?_,fun i r u hr hu=>?_,fun r hr=>?_,by omega⟩,j1,fun i L r hL hr=>?_⟩
 ·rw [j1,pCells_judge Ls J vs j1 (fun i L r hL hr=>(all i L r hL hr).choose_spec.2.1)]
  exact h2
 ·obtain ⟨L,hL⟩:=got i r hr
  obtain ⟨u',hu',_,h4,h5⟩:=all i L r hL hr
  rw [hu] at hu'
  cases hu'
  exact ⟨h4.1,h5.1⟩
 ·obtain ⟨i,hi⟩:=List.mem_iff_getElem?.1 hr
  obtain ⟨L,hL⟩:=got i r hi
  obtain ⟨u',hu',_,h4,h5⟩:=all i L r hL hi
  exact ⟨(h4.2.good (by simp)).1,(h5.2.good (by simp)).1⟩
 ·obtain ⟨u',hu',h3,h4,h5⟩:=all i L r hL hr
  exact ⟨h3,h4.2,h5.2⟩
def CutTold (T s:ByteArray) (L:List (Int × Int × Nat)) (told:List ByteArray):Prop:=∃ J ks ns,PJOk (read2 T).2 J∧CharsTo L s s.size ks ns∧told=(segSt s ns (cutsOf J ks) ns.length).2.2
theorem spot_goes {nx:(Nat→Prop)→Nat→Nat→Prop} {goal:Nat} {Ss:List (Nat→Prop)} {tab:Tab} (h:TabOk nx goal Ss tab) (hl:tab.length=Ss.length) {a:Nat} {S:Nat→Prop} (ha:Ss[a]?=some S) {k:Nat} (hk:k<8):Ss[tnext tab a k]?=some (nx S k):=by
 have hal:a<tab.length:=by rw [hl];exact (List.getElem?_eq_some_iff.1 ha).1
 obtain ⟨h1,S',h2,h3,h4⟩:=h a tab[a].1 tab[a].2 (List.getElem?_eq_getElem hal)
 rw [ha] at h2
 cases h2
 obtain ⟨n,h5,h6⟩:=h4 k hk
 unfold tnext
 rw [List.getElem?_eq_getElem hal]
 simp only [Option.bind_some,h5,Option.getD_some]
 exact h6
theorem spot_match {nx:(Nat→Prop)→Nat→Nat→Prop} {goal:Nat} {Ss:List (Nat→Prop)} {tab:Tab} (h:TabOk nx goal Ss tab) (hl:tab.length=Ss.length) {a:Nat} {S:Nat→Prop} (ha:Ss[a]?=some S):tmatch tab a=true↔S goal:=by
 have hal:a<tab.length:=by rw [hl];exact (List.getElem?_eq_some_iff.1 ha).1
 obtain ⟨h1,S',h2,h3,h4⟩:=h a tab[a].1 tab[a].2 (List.getElem?_eq_getElem hal)
 rw [ha] at h2
 cases h2
 unfold tmatch
 rw [List.getElem?_eq_getElem hal]
 exact h3
theorem spot_row {nx:(Nat→Prop)→Nat→Nat→Prop} {goal:Nat} {Ss:List (Nat→Prop)} {tab:Tab} (h:TabOk nx goal Ss tab) (hl:tab.length=Ss.length):∀ (row:List Nat),(∀ k ∈ row,k<8)→∀ (a:Nat) (S:Nat→Prop),Ss[a]?=some S→Ss[row.foldl (fun a k=>tnext tab a k) a]?=some (row.foldl nx S):=by
 intro row
 induction row with
 | nil=>intro _ a S ha;exact ha
 | cons k row ih =>
  intro hk a S ha
  exact ih (fun k' h'=>hk k' (List.mem_cons_of_mem _ h')) _ _ (spot_goes h hl ha (hk k (List.mem_cons_self ..)))
theorem judgedTo_beyond (c:Bool) (fl fr:Nat→Bool) {m i:Nat} (cuts:List Bool) (hi:m≤i):(judgedTo c fl fr m cuts)[i]?=cuts[i]?:=by
 unfold judgedTo
 rw [List.getElem?_mapIdx]
 cases h:cuts[i]? with
 | none=>rfl
 | some b=>rw [Option.map_some,if_neg (by omega)]
theorem cutsOf_end (J:List PR) (row:List Nat):(cutsOf J row)[row.length]?=some true:=by
 unfold cutsOf
 induction J with
 | nil=>simp
 | cons a J ih=>rw [List.foldr_cons];exact (judgedTo_beyond _ _ _ _ (Nat.le_refl _)).trans ih
def joinB (l:List ByteArray):ByteArray:=l.foldl (·++·) ⟨#[]⟩
theorem joinB_snoc (l:List ByteArray) (x:ByteArray):joinB (l++[x])=joinB l++x:=by unfold joinB;rw [List.foldl_append];rfl
theorem ext_app (s:ByteArray) (a b:Nat) (h:a≤b):s.extract 0 a++s.extract a b=s.extract 0 b:=by
 rw [ByteArray.extract_append_extract]
 congr 1 <;> omega
structure SegW (s:ByteArray) (st:SegSt):Prop where
 full:∀ x ∈ st.2.2,1≤x.size
 join:joinB st.2.2=s.extract 0 st.1
theorem extract_all (s:ByteArray):s.extract 0 s.size=s:=by simp
abbrev joinT:ByteArray:=⟨#[106,111,105,110,32,124,32,59]⟩
theorem ba_ext {x y:ByteArray} (h:x.toList=y.toList):x=y:=by
 rw [ByteArray.toList_eq,ByteArray.toList_eq] at h
 obtain ⟨a⟩:=x
 obtain ⟨b⟩:=y
 have h':a=b:=Array.toList_inj.1 h
 rw [h']
theorem joinB_size:∀ l:List ByteArray,(joinB l).size=(l.map ByteArray.size).sum:=by
 apply snoc_ind
 ·rfl
 ·intro l a ih;rw [joinB_snoc,ByteArray.size_append,ih,List.map_append,List.sum_append];simp
theorem joinB_take (l:List ByteArray) (i:Nat):(joinB (l.take i)).size≤(joinB l).size:=by
 rw [joinB_size,joinB_size,List.map_take]
 exact sumTake_le _ i
set_option maxRecDepth 100000 in
set_option maxHeartbeats 2000000 in
theorem keepSame_any (ba bb:Nat) (va vb:Value) (la lb:List ByteArray) (w:World) (ha:w.ownsRow ba 9 1 va la.length (strCells la)) (hb:w.ownsRow bb 9 1 vb lb.length (strCells lb)) (hla:la.length≤2200000) :
  Calls Tryz.prog 28 #[va,vb] w fun r w'=>r=.returned (.bool (decide (la=lb)))∧Below w.heap.size w w':=by
 obtain ⟨aa,ca,rfl⟩:=row_shape ha
 obtain ⟨ab,cb,rfl⟩:=row_shape hb
 have HA:Hid (w.ownsRow ba 9 1 (.slice aa la.length ca) la.length (strCells la)):=ha
 have HB:Hid (w.ownsRow bb 9 1 (.slice ab lb.length cb) lb.length (strCells lb)):=hb
 clear ha hb
 by_cases hlen:la.length=lb.length
 ·have HL:Hid (la.length=lb.length):=hlen
  have hd:((la.length:Int) == (lb.length:Int))=true:=by simp [hlen]
  clear hlen
  go_enter Tryz.func28,Tryz.ntmps28
  go_wp2_with fail
  go_loopg [5] la.length (fun gh iv wx=>∃ i:Nat,i≤la.length∧gh=la.length - i∧iv=.int .i64 i∧Hid (la.take i=lb.take i)∧Hid (Below w.heap.size w wx))
  case atStart=>exact ⟨0,Nat.zero_le _,rfl,rfl,rfl,Below.refl _ _⟩
  case round =>
   obtain ⟨i,hi,rfl,rfl,hE,hB⟩:=hrel
   obtain ⟨w1,hw1⟩:∃ w1,w1=wr:=⟨wr,rfl⟩
   subst hw1
   by_cases hlt:i<la.length
   ·obtain ⟨x,hx⟩:∃ x,la[i]?=some x:=⟨la[i],List.getElem?_eq_getElem hlt⟩
    have hltb:i<lb.length:=by rw [← HL.out];exact hlt
    obtain ⟨y,hy⟩:∃ y,lb[i]?=some y:=⟨lb[i],List.getElem?_eq_getElem hltb⟩
    obtain ⟨q,hq,_,hc⟩:=row_at (row_kp HA.out (Kp.below hB.out)) (strCells_at hx) (by omega)
    subst hq
    obtain ⟨q',hq',_,hc'⟩:=row_at (row_kp HB.out (Kp.below hB.out)) (strCells_at hy) (by omega)
    subst hq'
    by_cases e:x=y
    ·subst e
     have E2:Hid (la.take (i+1)=lb.take (i+1)):=by show _=_;rw [List.take_add_one,List.take_add_one,hx,hy,hE.out]
     clear hx hy hE
     go_wp2_with fail
     go_quiet (fail)
     go_wp2_with fail
     go_roundg (la.length - (i+1))
     case measure=>omega
     case rel=>exact ⟨i+1,by omega,rfl,by go_num,E2,bdrew hB.out _⟩
    ·have E2:Hid (decide (la=lb)=false):=by
      show _=_
      simp only [decide_eq_false_iff_not]
      intro h
      rw [h,hy] at hx
      exact e (Option.some.inj hx).symm
     have hne:(x.toList == y.toList)=false:=by
      rw [beq_eq_false_iff_ne]
      exact fun h=>e (ba_ext h)
     clear hx hy hE e
     go_wp2_with fail
     go_quiet (fail)
     go_wp2_with fail
     go_ret
     exact ⟨by rw [E2.out];rfl,bdrew hB.out _⟩
   ·obtain rfl:i=la.length:=by omega
    have E2:Hid (decide (la=lb)=true):=by
     show _=_
     have h:=hE.out
     rw [List.take_length,HL.out,List.take_length] at h
     simp [h]
    go_wp2_with fail
    go_ret
    exact ⟨by rw [E2.out];rfl,hB.out⟩
 ·have E:decide (la=lb)=false:=by simp;intro e;exact hlen (by rw [e])
  rw [E]
  have hd:((la.length:Int) == (lb.length:Int))=false:=by simp;omega
  clear hlen E
  go_enter Tryz.func28,Tryz.ntmps28
  go_wp2_with fail
  go_ret
  exact ⟨rfl,Below.refl _ _⟩
structure VarsOk (w:World):Prop where
 errs:ErrsOk w
 utf:Utf8Tabs 2 3 w
 low:2<w.heap.size∧3<w.heap.size
theorem VarsOk.below {w w':World} (h:VarsOk w) (hB:Below w.heap.size w w'):VarsOk w' :=
 ⟨h.errs.below hB,⟨fun c hc=>(hB.cell (p:=⟨_,c,none⟩) h.low.1).trans (h.utf.1 c hc),fun i hi=>⟨(hB.cell (p:=⟨_,2 * i,none⟩) h.low.2).trans (h.utf.2 i hi).1,(hB.cell (p:=⟨_,2 * i+1,none⟩) h.low.2).trans (h.utf.2 i hi).2⟩⟩,Nat.lt_of_lt_of_le h.low.1 hB.size,Nat.lt_of_lt_of_le h.low.2 hB.size⟩
def RulesAt (T:ByteArray) (w:World) (v:Value):Prop:=∃ g vE vJ vP vH vV L,v=.pointer (some ⟨g,0,none⟩)∧RulesIn w g T vE vJ vP vH vV L
set_option maxRecDepth 100000 in
set_option maxHeartbeats 2000000 in
theorem keepRules_ok (T:ByteArray) (w:World) (hE:ErrsOk w) (hT:T.size≤140737488351232) (h0:(rdT T).err=0) :
  Calls Tryz.prog 27 #[.string T] w fun r w'=>(∃ v,r=.returned v∧RulesAt T w' v)∧Below w.heap.size w w':=by
 have hc:=compile_all T w hE hT
 have hp:(rdT T).place=0:=read_err0 T h0
 have H0:Hid ((rdT T).err=0):=h0
 have HP:Hid ((rdT T).place=0):=hp
 clear h0 hp
 go_enter Tryz.func27,Tryz.ntmps27
 go_wp2_with fail
 refine hc.mono ?_
 rintro r w1 ⟨b1,v1,rfl,h1,-⟩
 obtain ⟨g,vE,vJ,vP,vH,vV,L,rfl,_,hR⟩:=h1 H0.out
 have HR:Hid (RulesIn w1 g T vE vJ vP vH vV L):=hR
 rw [H0.out,HP.out]
 clear h1 hc hR
 go_wp2_with fail
 go_ret
 exact ⟨⟨_,rfl,g,vE,vJ,vP,vH,vV,L,rfl,HR.out⟩,b1⟩
def byCells (s:ByteArray):List Value:=s.data.toList.map fun x=>Value.int .u8 (x.toNat:Int)
theorem byCells_len (s:ByteArray):(byCells s).length=s.size:=by unfold byCells;simp
theorem byCells_at (s:ByteArray) (j:Nat) (h:j<s.size):(byCells s)[j]?=some (.int .u8 ((s.get! j).toNat:Nat)):=by
 unfold byCells
 rw [List.getElem?_map,Utf8W.get!_of_lt s j h]
 have:s.data.toList[j]?=some (s.data[j]'h):=by simp
 rw [this]
 rfl
theorem byCells_app (a b:ByteArray):byCells (a++b)=byCells a++byCells b:=by unfold byCells;simp
def TxtIn (w:World) (S:Nat→Prop) (v:Value) (s:ByteArray):Prop:=(s.size=0∧∃ ao cap,v=.slice ao 0 cap)∨∃ q o cap,v=.slice (some ⟨q,o,none⟩) s.size cap∧¬ S q∧ByAt w q o s∧s.size≤cap∧∃ cs m,w.heap[q]?=some (.cells cs 5 m)
theorem TxtIn.shape {w:World} {S:Nat→Prop} {v:Value} {s:ByteArray} (h:TxtIn w S v s):∃ ao cap,v=.slice ao s.size cap:=by
 rcases h with ⟨h0,ao,cap,rfl⟩ | ⟨q,o,cap,rfl,_⟩
 ·exact ⟨ao,cap,by rw [h0]⟩
 ·exact ⟨_,cap,rfl⟩
theorem TxtIn.keep {w w':World} {S:Nat→Prop} {v:Value} {s:ByteArray} (h:TxtIn w S v s) (hk:∀ (k:Nat) (cs:Array Value) (m:Nat × Nat),w.heap[k]?=some (.cells cs 5 m)→w'.heap[k]?=some (.cells cs 5 m)):TxtIn w' S v s:=by
 rcases h with h | ⟨q,o,cap,h1,h2,h3,h4,cs,m,h5⟩
 ·exact Or.inl h
 ·refine Or.inr ⟨q,o,cap,h1,h2,fun j hj=>?_,h4,cs,m,hk q cs m h5⟩
  have h6:=h3 j hj
  unfold World.cell? at h6 ⊢
  rw [hk q cs m h5]
  rw [h5] at h6
  exact h6
theorem TxtIn.of_row {w:World} {base:Nat} {S:Nat→Prop} {v:Value} {s:ByteArray} (h:w.ownsRow base 5 1 v s.size (byCells s)) (hS:∀ k,v.ownBlock=some k→¬ S k):TxtIn w S v s:=by
 obtain ⟨h1,h2⟩:=h
 rcases h2 with ⟨hv,hn⟩ | ⟨q,cap,cur,hv,hg,hh,hcap,hmx,hsz,hcur⟩
 ·exact Or.inl ⟨hn,none,0,hv⟩
 ·refine Or.inr ⟨q,0,cap,hv,hS q (by rw [hv];rfl),fun j hj=>?_,hcap,cur,_,hh⟩
  refine cell_of_block hh _ _ ?_
  have:=byCells_at s j hj
  rw [← hcur,List.getElem?_take,if_pos (by omega)] at this
  rw [Nat.zero_add]
  simpa using this
theorem one_by (s:ByteArray):∀ u ∈ byCells s,u.oneCell'=true:=by
 intro u hu
 unfold byCells at hu
 obtain ⟨x,_,rfl⟩:=List.mem_map.1 hu
 rfl
set_option maxRecDepth 100000 in
set_option maxHeartbeats 1000000 in
theorem bclone_any (w:World) (S:Nat→Prop) (base:Nat) (v:Value) (s:ByteArray) (h:TxtIn w S v s) (hs:s.size≤1500000) (hb:base≤w.heap.size) :
  Calls Tryz.prog 122 #[v] w fun r w'=>(∃ v',r=.returned v'∧w'.ownsRow base 5 1 v' s.size (byCells s))∧Below w.heap.size w w':=by
 obtain ⟨i,hi,hz0,hz1,hz2⟩:=info_parts Tryz.infoU8
 obtain ⟨ao,cap,rfl⟩:=h.shape
 have hnil:=fun (W:World) (a:Option Addr) (n c n' c':Nat)=>Lib.run_eql_slice_nil (P:=Tryz.prog) W 63 5 a n c n' c' Tryz.underlying63
 cases ao with
 | none =>
  have h0:s.size=0:=by
   rcases h with ⟨h0,_⟩ | ⟨q,o,cap,e,_⟩
   ·exact h0
   ·simp at e
  have hcs:byCells s=[]:=List.eq_nil_of_length_eq_zero (by rw [byCells_len];exact h0)
  rw [h0,hcs]
  go_enter Tryz.func122,Tryz.ntmps122
  go_wp2_with fail
  go_ret
  exact ⟨⟨_,rfl,World.ownsRow_nil _ _ _ _⟩,Below.refl _ _⟩
 | some a =>
  have hnews:∀ W',Below w.heap.size w W'→∀ j u,(byCells s)[j]?=some u→W'.cell? (a.add j)=some u:=fun W' hW j u hu=>by
   have hj:j<s.size:=by rw [← byCells_len];exact (List.getElem?_eq_some_iff.1 hu).1
   rcases h with ⟨h0,_⟩ | ⟨q,o,cap',e,_,h3,_,_⟩
   ·omega
   ·injection e with e _ _
    injection e with e
    subst e
    rw [show (⟨q,o,none⟩:Addr).add j=⟨q,o+j,none⟩ from by unfold Addr.add;split <;> simp_all]
    rw [byCells_at s j hj] at hu
    cases hu
    exact (hW.cell (p:=⟨q,o+j,none⟩) (cell_ltT (h3 j hj))).trans (h3 j hj)
  have OWN:Hid ((w.alloc (.cells #[] 5)).ownsRow base 5 1 (.slice (some ⟨w.heap.size,0,none⟩) 0 0) 0 []):=⟨rfl,Or.inr ⟨w.heap.size,0,#[],rfl,hb,heap_alloc_new w _,Nat.le_refl _,by decide,rfl,rfl⟩⟩
  have NW:Hid (∀ j u,(byCells s)[j]?=some u→(w.alloc (.cells #[] 5)).cell? (a.add j)=some u):=hnews _ (below_alloc w _)
  have HL:Hid ((byCells s).length=s.size * 1):=by show _=_;rw [byCells_len,Nat.mul_one]
  have hbA:base≤(w.alloc (.cells #[] 5)).heap.size:=Nat.le_trans hb (below_alloc w _).size
  have hm1:0+s.size≤maxLen:=by unfold maxLen;omega
  have hm2:(0+s.size) * 1≤140737488355328:=by omega
  clear h hnews
  go_enter Tryz.func122,Tryz.ntmps122
  go_wp2_with (at_builtin;go_loud (refine wpList_append_own_at _ rfl (.tmp 5) (.tmp 6) 63 rfl base 5 i (.int .u8 0) 1 1 Tryz.underlying63 hi hz0 hz1 hz2 rfl (by decide) (.slice (some ⟨w.heap.size,0,none⟩) 0 0) 0 [] rfl OWN.out a s.size cap (byCells s) rfl HL.out NW.out (one_by s) hm1 hm2 hbA ?_);intro v' W3 hown hgr hnl hat;have O3:Hid (W3.ownsRow base 5 1 v' (0+s.size) ([]++byCells s)):=hown;have G3:Hid ((w.alloc (.cells #[] 5)).grownBy W3 (some w.heap.size)):=hgr;clear hown hgr hnl hat;obtain ⟨ao3,c3,rfl⟩:=row_shape O3.out)
  go_ret
  refine ⟨⟨_,rfl,?_⟩,(below_alloc w _).grown G3.out (by simp) (fun k e=>by cases e;exact Nat.le_refl _)⟩
  have:=O3.out
  rw [Nat.zero_add,List.nil_append] at this
  exact this
def FloC (gR b:Nat) (vT:Value) (kn:Nat):Array Value:=#[.pointer (some ⟨gR,0,none⟩),.pointer (some ⟨b,0,none⟩),vT,.int .i64 kn]
structure FEnv (w0:World) (gR:Nat) (H:List Hd) (V:List Vw) (L:List (Int × Int × Nat)) (ks:List Nat):Prop where
 vars:VarsOk w0
 lk:Look w0 gR 2 H V
 tab:∃ vE,w0.cell? ⟨gR,0,none⟩=some vE∧TRe 0 w0 vE L
 few:L.length≤100000
 row:InRow L
 kinds:∀ o ∈ L,o.2.2<8
 pos:∀ (s:ByteArray) (k n:Nat),1≤s.size→CharIs L s k n→k ∈ ks
 lt8:∀ k ∈ ks,k<8
 bad:7 ∈ ks
 h0:∃ h,H[0]?=some h
 nxt:∀ k ∈ ks,∀ v,v<V.length→nxV V k v<V.length
 hds:∀ k ∈ ks,∀ (hd:Nat) (h1:Hd),H[hd]?=some h1→∃ hd' h2,h1.2[k]?=some hd'∧H[hd']?=some h2∧h2.1<V.length
theorem Chg.low {p:Nat→Prop} {w w':World} (h:Chg p w w') {B:Nat} (hB:B≤w.heap.size) (hp:∀ k,p k→B≤k):Below B w w':=h.below hB fun k hk hpk=>by have:=hp k hpk;omega
abbrev Sav (S:Nat→Prop) (w w':World):Prop:=Chg (fun k=>¬ S k) w w'
structure Kept (S:Nat→Prop) (w0 w:World):Prop where
 lo:∀ k,k<w0.heap.size→S k
 hi:∀ k,S k→k<w.heap.size
theorem Kept.grow {S:Nat→Prop} {w0 w w':World} (h:Kept S w0 w) (hz:w.heap.size≤w'.heap.size):Kept S w0 w':=⟨h.lo,fun k hk=>Nat.lt_of_lt_of_le (h.hi k hk) hz⟩
theorem Kept.le {S:Nat→Prop} {w0 w:World} (h:Kept S w0 w) {k:Nat} (hk:¬ S k):w0.heap.size≤k:=Nat.le_of_not_lt fun h9=>hk (h.lo k h9)
theorem Kept.new {S:Nat→Prop} {w0 w:World} (h:Kept S w0 w) {k:Nat} (hk:w.heap.size≤k):¬ S k:=fun h9=>absurd (h.hi k h9) (Nat.not_lt.2 hk)
theorem Kept.below {S:Nat→Prop} {w0 w:World} (h:Kept S w0 w) {a b:World} (hs:Sav S a b) (ha:w0.heap.size≤a.heap.size):Below w0.heap.size a b:=hs.low ha fun _ hk=>h.le hk
structure FP (w0:World) (S:Nat→Prop) (w:World) (f gR b m1 m2:Nat) (vT:Value) (H:List Hd) (V:List Vw) (txt:ByteArray) (kn:Nat) (A:List AP) (hd bg:Nat):Prop where
 hf:w.heap[f]?=some (.cells (FloC gR b vT kn) 215 (0,0))
 ht:TxtIn w S vT txt
 hw:∃ ns g,WOk w b gR 2 H V hd ns g bg m1 m2∧Abs ns g A∧∀ x ∈ ns,¬ S x.p
 lo:¬ S f∧¬ S b∧¬ S m1∧¬ S m2
 bel:Below w0.heap.size w0 w
 hdl:∃ h1,H[hd]?=some h1
 fits:kn≤txt.size∧txt.size≤1500000
 kept:Kept S w0 w
def FOk (w0:World) (S:Nat→Prop) (w:World) (f gR:Nat) (H:List Hd) (V:List Vw) (txt:ByteArray) (kn:Nat) (A:List AP) (hd bg:Nat):Prop:=∃ b m1 m2 vT,FP w0 S w f gR b m1 m2 vT H V txt kn A hd bg
theorem Look.only {w w':World} {gO oO:Nat} {H:List Hd} {V:List Vw} (h:Look w gO oO H V) (hk:∀ (k:Nat) (cs:Array Value) (t:TypeId),(t=99∨t=254∨t=246)→w.heap[k]?=some (.cells cs t (0,0))→w'.heap[k]?=some (.cells cs t (0,0))):Look w' gO oO H V:=by
 obtain ⟨⟨⟨vV,g1,g5,g6⟩,g3,g4⟩,⟨⟨vH,h1,h5,h6⟩,h3,h4⟩,cs,hg⟩:=h
 have hg':=hk gO cs _ (Or.inl rfl) hg
 have hc:∀ o,w'.cell? ⟨gO,o,none⟩=w.cell? ⟨gO,o,none⟩:=fun o=>by unfold World.cell?;rw [hg,hg']
 refine ⟨⟨⟨vV,(hc _).trans g1,g5,?_⟩,g3,g4⟩,⟨⟨vH,(hc _).trans h1,h5,?_⟩,h3,h4⟩,cs,hg'⟩
 ·rcases g6 with g6 | ⟨g,cap,cur,hv',hb',hh,r⟩
  ·exact Or.inl g6
  ·exact Or.inr ⟨g,cap,cur,hv',hb',hk _ _ _ (Or.inr (Or.inl rfl)) hh,r⟩
 ·rcases h6 with h6 | ⟨g,cap,cur,hv',hb',hh,r⟩
  ·exact Or.inl h6
  ·exact Or.inr ⟨g,cap,cur,hv',hb',hk _ _ _ (Or.inr (Or.inr rfl)) hh,r⟩
def WTy (t:TypeId):Prop:=t=99∨t=254∨t=246∨t=330∨t=271
theorem WOk.other {w w':World} {b gO oO:Nat} {H:List Hd} {V:List Vw} {hd:Nat} {ns:List Nd} {g:Nat→List Nat} {bg m1 m2:Nat} (h:WOk w b gO oO H V hd ns g bg m1 m2) (hk:∀ (k:Nat) (cs:Array Value) (t:TypeId),WTy t→w.heap[k]?=some (.cells cs t (0,0))→w'.heap[k]?=some (.cells cs t (0,0))) (hm:∀ (k:Nat) (es:Array MapEntry) (c:Nat),w.heap[k]?=some (.map es c)→w'.heap[k]?=some (.map es c)):WOk w' b gO oO H V hd ns g bg m1 m2:=by
 obtain ⟨⟨la,h1,h2⟩,h3,h4,⟨D,h5⟩,⟨D2,h6⟩,h7,h8,h9⟩:=h
 obtain ⟨e1,e2,e3⟩:=h5.blk
 obtain ⟨f1,f2,f3⟩:=h6.blk
 exact ⟨⟨la,hk _ _ _ (Or.inr (Or.inr (Or.inr (Or.inr rfl)))) h1,h2⟩,fun i x hx=>hk _ _ _ (Or.inr (Or.inr (Or.inr (Or.inl rfl)))) (h3 i x hx),h4,⟨D,h5.keep ((hm _ _ _ e3).trans e3.symm)⟩,⟨D2,h6.keep ((hm _ _ _ f3).trans f3.symm)⟩,h7,h8.only fun k cs t ht hh=>hk k cs t (ht.elim Or.inl fun h=>Or.inr (h.elim Or.inl fun h=>Or.inr (Or.inl h))) hh,h9⟩
theorem FP.turn {w0 w w':World} {S:Nat→Prop} {f gR b m1 m2:Nat} {vT vT':Value} {H:List Hd} {V:List Vw} {txt txt':ByteArray} {kn kn':Nat} {A:List AP} {hd bg:Nat} (h:FP w0 S w f gR b m1 m2 vT H V txt kn A hd bg) (hf:w'.heap[f]?=some (.cells (FloC gR b vT' kn') 215 (0,0))) (ht:TxtIn w' S vT' txt')
  (hk:∀ (k:Nat) (cs:Array Value) (t:TypeId),WTy t→w.heap[k]?=some (.cells cs t (0,0))→w'.heap[k]?=some (.cells cs t (0,0))) (hm:∀ (k:Nat) (es:Array MapEntry) (c:Nat),w.heap[k]?=some (.map es c)→w'.heap[k]?=some (.map es c)) (hb:Sav S w w') (hfit:kn'≤txt'.size∧txt'.size≤1500000):FP w0 S w' f gR b m1 m2 vT' H V txt' kn' A hd bg:=by
 obtain ⟨ns,g,h1,h2,h3⟩:=h.hw
 exact ⟨hf,ht,⟨ns,g,h1.other hk hm,h2,h3⟩,h.lo,h.bel.trans (h.kept.below hb h.bel.size),h.hdl,hfit,h.kept.grow hb.size⟩
theorem FP.below {w0 w w':World} {S:Nat→Prop} {f gR b m1 m2:Nat} {vT:Value} {H:List Hd} {V:List Vw} {txt:ByteArray} {kn:Nat} {A:List AP} {hd bg:Nat} (h:FP w0 S w f gR b m1 m2 vT H V txt kn A hd bg) (hb:Below w.heap.size w w'):FP w0 S w' f gR b m1 m2 vT H V txt kn A hd bg :=
 h.turn ((hb.block _ (heap_lt h.hf)).trans h.hf) (h.ht.keep fun k _ _ hh=>(hb.block k (heap_lt hh)).trans hh) (fun k _ _ _ hh=>(hb.block k (heap_lt hh)).trans hh) (fun k _ _ hh=>(hb.block k (heap_lt hh)).trans hh) (Chg.of_below hb) h.fits
set_option maxRecDepth 100000 in
theorem untold_any (w:World) (f gR b n kn cap:Nat) (ao:Option Addr) (hf:w.heap[f]?=some (.cells (FloC gR b (.slice ao n cap) kn) 215 (0,0))) :
  Calls Tryz.prog 73 #[.pointer (some ⟨f,0,none⟩)] w fun r w'=>r=.returned (.int .i64 n)∧w'=w:=by
 have c2:w.cell? ⟨f,2,none⟩=some (.slice ao n cap):=cell_of_block hf 2 _ rfl
 clear hf
 go_enter Tryz.func73,Tryz.ntmps73
 go_wp2_with fail
 go_ret
 exact ⟨rfl,rfl⟩
theorem ByAt.part {w:World} {q o:Nat} {s:ByteArray} (h:ByAt w q o s) (a b:Nat) (hb:b≤s.size):ByAt w q (o+a) (s.extract a b):=by
 intro j hj
 rw [ByteArray.size_extract] at hj
 have h1:=h (a+j) (by omega)
 rw [Nat.add_assoc,h1]
 have e:(s.extract a b).get! j=s.get! (a+j):=by
  rw [Utf8W.get!_of_lt s (a+j) (by omega),Utf8W.get!_of_lt (s.extract a b) j (by rw [ByteArray.size_extract];omega)]
  simp [ByteArray.getElem_extract]
 rw [e]
set_option maxRecDepth 100000 in
set_option maxHeartbeats 4000000 in
theorem fnext_any (w0 w:World) (S:Nat→Prop) (f gR b kn:Nat) (vT:Value) (txt:ByteArray) (H:List Hd) (V:List Vw) (L:List (Int × Int × Nat)) (ks:List Nat) (hE:FEnv w0 gR H V L ks) (hB:Below w0.heap.size w0 w) (hf:w.heap[f]?=some (.cells (FloC gR b vT kn) 215 (0,0))) (hT:TxtIn w S vT txt) (hkn:kn≤txt.size) (hlen:txt.size≤1500000) :
  Calls Tryz.prog 119 #[.pointer (some ⟨f,0,none⟩)] w fun r w'=>(∃ k n:Nat,r=.returned (.tuple #[.int .u8 k,.int .i64 n])∧NextIs L (txt.extract kn txt.size) k n)∧Below w.heap.size w w':=by
 have c0:w.cell? ⟨f,0,none⟩=some (.pointer (some ⟨gR,0,none⟩)):=cell_of_block hf 0 _ rfl
 have c2:w.cell? ⟨f,2,none⟩=some vT:=cell_of_block hf 2 _ rfl
 have c3:w.cell? ⟨f,3,none⟩=some (.int .i64 kn):=cell_of_block hf 3 _ rfl
 have hfl:=heap_lt hf
 have hxs:(txt.extract kn txt.size).size=txt.size - kn:=by rw [ByteArray.size_extract];omega
 obtain ⟨vE,hvE,hTR⟩:=hE.tab
 have hvw:=(hE.vars).below hB
 have CN:∀ (ao:Option Addr) (cap:Nat),((txt.extract kn txt.size).size=0∨∃ b o,ao=some ⟨b,o,none⟩∧ByAt w b o (txt.extract kn txt.size))→txt.size - kn≤cap→∀ W',Below w.heap.size w W'→Calls Tryz.prog 165 #[.slice ao (txt.size - kn) cap,.pointer (some ⟨gR,0,none⟩)] W' fun r w'=>(∃ k n:Nat,r=.returned (.tuple #[.int .u8 k,.int .i64 n])∧NextIs L (txt.extract kn txt.size) k n)∧Below W'.heap.size W' w':=fun ao cap hh hcap W' hW=>by
  have hB':=hB.trans (hW.mono hB.size)
  have hv':=hE.vars.below hB'
  have:=cnext_any 0 gR 0 vE L (txt.extract kn txt.size) ao cap W' hv'.utf hv'.low ((hB'.cell (p:=⟨gR,0,none⟩) (cellLt hvE)).trans hvE) (row_kp hTR (Kp.below hB')) hE.few hE.row (hh.imp id fun ⟨b,o,e,h⟩=>⟨b,o,e,h.below hW⟩) (by omega) (by omega)
  rw [hxs] at this
  exact this
 have HT:Hid (TxtIn w S vT txt):=hT
 clear hE hB hf hvE hTR hvw
 rcases hT with ⟨h0,ao,cap,rfl⟩ | ⟨q,o,cap,rfl,_,h3,h4,_⟩
 ·have hk0:kn=0:=by omega
  subst hk0
  have C1:Hid (∀ (ao:Option Addr) (cap:Nat) (W':World),Below w.heap.size w W'→Calls Tryz.prog 165 #[.slice ao 0 cap,.pointer (some ⟨gR,0,none⟩)] W' fun r w'=>(∃ k n:Nat,r=.returned (.tuple #[.int .u8 k,.int .i64 n])∧NextIs L (txt.extract 0 txt.size) k n)∧Below W'.heap.size W' w'):=fun ao cap W' hW=>by
   have:=CN ao cap (Or.inl (by omega)) (by omega) W' hW
   rw [h0] at this
   rw [h0]
   exact this
  clear CN
  cases ao with
  | none =>
   have HD:Hid ((w.drew.cell? ⟨f,0,none⟩=some (.pointer (some ⟨gR,0,none⟩))∧w.drew.cell? ⟨f,2,none⟩=some (.slice none 0 cap)∧w.drew.cell? ⟨f,3,none⟩=some (.int .i64 (0:Nat)))):=⟨c0,c2,c3⟩
   clear c0 c2 c3
   go_enter Tryz.func119,Tryz.ntmps119
   go_wp2_with fail
   go_region_held3 (fun w'=>(w'.cell? ⟨f,0,none⟩=some (.pointer (some ⟨gR,0,none⟩))∧w'.cell? ⟨f,2,none⟩=some (.slice none 0 cap)∧w'.cell? ⟨f,3,none⟩=some (.int .i64 (0:Nat))))
    (first | exact H3.out | exact HD.out)
    (first
     | (go_at_call 165
        refine (C1.out _ _ _ ((Below.refl _ _).drew)).mono ?_
        rintro e W3 ⟨⟨k,n,rfl,hN⟩,hb3⟩
        have HN:Hid (NextIs L (txt.extract 0 txt.size) k n):=hN
        have B3:Hid (Below w.heap.size w W3):=below_drew hb3
        have H3:Hid ((W3.cell? ⟨f,0,none⟩=some (.pointer (some ⟨gR,0,none⟩))∧W3.cell? ⟨f,2,none⟩=some (.slice none 0 cap)∧W3.cell? ⟨f,3,none⟩=some (.int .i64 (0:Nat)))):=⟨(B3.out.cell (p:=⟨f,0,none⟩) hfl).trans HD.out.1,(B3.out.cell (p:=⟨f,2,none⟩) hfl).trans HD.out.2.1,(B3.out.cell (p:=⟨f,3,none⟩) hfl).trans HD.out.2.2⟩
        clear hN hb3))
   go_wp2_with fail
   go_ret2
   exact ⟨⟨k,n,rfl,HN.out⟩,B3.out⟩
  | some a =>
   have HD:Hid ((w.drew.cell? ⟨f,0,none⟩=some (.pointer (some ⟨gR,0,none⟩))∧w.drew.cell? ⟨f,2,none⟩=some (.slice (some a) 0 cap)∧w.drew.cell? ⟨f,3,none⟩=some (.int .i64 (0:Nat)))):=⟨c0,c2,c3⟩
   clear c0 c2 c3
   go_enter Tryz.func119,Tryz.ntmps119
   go_wp2_with fail
   go_region_held3 (fun w'=>(w'.cell? ⟨f,0,none⟩=some (.pointer (some ⟨gR,0,none⟩))∧w'.cell? ⟨f,2,none⟩=some (.slice (some a) 0 cap)∧w'.cell? ⟨f,3,none⟩=some (.int .i64 (0:Nat))))
    (first | exact H3.out | exact HD.out)
    (first
     | (go_at_call 165
        refine (C1.out _ _ _ ((Below.refl _ _).drew)).mono ?_
        rintro e W3 ⟨⟨k,n,rfl,hN⟩,hb3⟩
        have HN:Hid (NextIs L (txt.extract 0 txt.size) k n):=hN
        have B3:Hid (Below w.heap.size w W3):=below_drew hb3
        have H3:Hid ((W3.cell? ⟨f,0,none⟩=some (.pointer (some ⟨gR,0,none⟩))∧W3.cell? ⟨f,2,none⟩=some (.slice (some a) 0 cap)∧W3.cell? ⟨f,3,none⟩=some (.int .i64 (0:Nat)))):=⟨(B3.out.cell (p:=⟨f,0,none⟩) hfl).trans HD.out.1,(B3.out.cell (p:=⟨f,2,none⟩) hfl).trans HD.out.2.1,(B3.out.cell (p:=⟨f,3,none⟩) hfl).trans HD.out.2.2⟩
        clear hN hb3))
   go_wp2_with fail
   go_ret2
   exact ⟨⟨k,n,rfl,HN.out⟩,B3.out⟩
 ·by_cases e:cap=kn
  ·have e2:txt.size=kn:=by omega
   have C1:Hid (∀ (ao:Option Addr) (cap:Nat) (W':World),Below w.heap.size w W'→Calls Tryz.prog 165 #[.slice ao 0 cap,.pointer (some ⟨gR,0,none⟩)] W' fun r w'=>(∃ k n:Nat,r=.returned (.tuple #[.int .u8 k,.int .i64 n])∧NextIs L (txt.extract kn txt.size) k n)∧Below W'.heap.size W' w'):=fun ao cap W' hW=>by
    have:=CN ao cap (Or.inl (by omega)) (by omega) W' hW
    rw [show txt.size - kn=0 from by omega] at this
    exact this
   subst e
   rw [e2] at c2
   have HT2:Hid (txt.size=cap):=e2
   clear hxs HT e2
   have HD:Hid ((w.drew.cell? ⟨f,0,none⟩=some (.pointer (some ⟨gR,0,none⟩))∧w.drew.cell? ⟨f,2,none⟩=some (.slice (some ⟨q,o,none⟩) cap cap)∧w.drew.cell? ⟨f,3,none⟩=some (.int .i64 cap))):=⟨c0,c2,c3⟩
   clear CN h3 c0 c2 c3
   go_enter Tryz.func119,Tryz.ntmps119
   go_wp2_with fail
   go_region_held3 (fun w'=>(w'.cell? ⟨f,0,none⟩=some (.pointer (some ⟨gR,0,none⟩))∧w'.cell? ⟨f,2,none⟩=some (.slice (some ⟨q,o,none⟩) cap cap)∧w'.cell? ⟨f,3,none⟩=some (.int .i64 cap)))
    (first | exact H3.out | exact HD.out)
    (first
     | (go_at_call 165
        refine (C1.out _ _ _ ((Below.refl _ _).drew)).mono ?_
        rintro e W3 ⟨⟨k,n,rfl,hN⟩,hb3⟩
        have HN:Hid (NextIs L (txt.extract cap txt.size) k n):=hN
        have B3:Hid (Below w.heap.size w W3):=below_drew hb3
        have H3:Hid ((W3.cell? ⟨f,0,none⟩=some (.pointer (some ⟨gR,0,none⟩))∧W3.cell? ⟨f,2,none⟩=some (.slice (some ⟨q,o,none⟩) cap cap)∧W3.cell? ⟨f,3,none⟩=some (.int .i64 cap))):=⟨(B3.out.cell (p:=⟨f,0,none⟩) hfl).trans HD.out.1,(B3.out.cell (p:=⟨f,2,none⟩) hfl).trans HD.out.2.1,(B3.out.cell (p:=⟨f,3,none⟩) hfl).trans HD.out.2.2⟩
        clear hN hb3))
   go_wp2_with fail
   go_ret2
   exact ⟨⟨k,n,rfl,HN.out⟩,B3.out⟩
  ·have C1:Hid (∀ W',Below w.heap.size w W'→Calls Tryz.prog 165 #[.slice (some ⟨q,o+kn,none⟩) (txt.size - kn) (cap - kn),.pointer (some ⟨gR,0,none⟩)] W' fun r w'=>(∃ k n:Nat,r=.returned (.tuple #[.int .u8 k,.int .i64 n])∧NextIs L (txt.extract kn txt.size) k n)∧Below W'.heap.size W' w'):=CN _ _ (Or.inr ⟨q,o+kn,rfl,h3.part kn txt.size (Nat.le_refl _)⟩) (by omega)
   have HD:Hid ((w.drew.cell? ⟨f,0,none⟩=some (.pointer (some ⟨gR,0,none⟩))∧w.drew.cell? ⟨f,2,none⟩=some (.slice (some ⟨q,o,none⟩) txt.size cap)∧w.drew.cell? ⟨f,3,none⟩=some (.int .i64 kn))):=⟨c0,c2,c3⟩
   clear CN h3 c0 c2 c3
   go_enter Tryz.func119,Tryz.ntmps119
   go_wp2_with fail
   go_region_held3 (fun w'=>(w'.cell? ⟨f,0,none⟩=some (.pointer (some ⟨gR,0,none⟩))∧w'.cell? ⟨f,2,none⟩=some (.slice (some ⟨q,o,none⟩) txt.size cap)∧w'.cell? ⟨f,3,none⟩=some (.int .i64 kn)))
    (first | exact H3.out | exact HD.out)
    (first
     | (go_at_call 165
        refine (C1.out _ ((Below.refl _ _).drew)).mono ?_
        rintro e W3 ⟨⟨k,n,rfl,hN⟩,hb3⟩
        have HN:Hid (NextIs L (txt.extract kn txt.size) k n):=hN
        have B3:Hid (Below w.heap.size w W3):=below_drew hb3
        have H3:Hid ((W3.cell? ⟨f,0,none⟩=some (.pointer (some ⟨gR,0,none⟩))∧W3.cell? ⟨f,2,none⟩=some (.slice (some ⟨q,o,none⟩) txt.size cap)∧W3.cell? ⟨f,3,none⟩=some (.int .i64 kn))):=⟨(B3.out.cell (p:=⟨f,0,none⟩) hfl).trans HD.out.1,(B3.out.cell (p:=⟨f,2,none⟩) hfl).trans HD.out.2.1,(B3.out.cell (p:=⟨f,3,none⟩) hfl).trans HD.out.2.2⟩
        clear hN hb3))
   go_wp2_with fail
   go_ret2
   exact ⟨⟨k,n,rfl,HN.out⟩,B3.out⟩
end Go.Proofs.YtodagkkjfipbgaaGreatDoor
