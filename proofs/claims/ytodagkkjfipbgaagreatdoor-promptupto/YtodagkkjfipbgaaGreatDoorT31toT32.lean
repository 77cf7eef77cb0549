import Derived.Test.YtodagkkjfipbgaaGreatDoorT29toT30
namespace Go.Proofs.YtodagkkjfipbgaaGreatDoor
open Go.RowKit Go.Maps
def saysB:List (Bool × Bool)->Bool
 | []=>true
 | x :: r=>if x.2 then x.1 else saysB r
theorem says_eq:∀ (A B:List (Bool × Bool)),A.length=B.length->(∀ (j:Nat) (a b:Bool × Bool),A[j]?=some a->B[j]?=some b->a.1=b.1/\(a.2=true↔(∀ j'<j,∀ b',B[j']?=some b'->b'.2=false)/\b.2=true))->saysB A=saysB B:=by
 intro A
 induction A with
 | nil=>intro B h _;cases B with
  | nil=>rfl
  | cons b B=>simp at h
 | cons a A ih =>
  intro B h hs
  cases B with
  | nil=>simp at h
  | cons b B =>
   obtain ⟨e1,e2⟩:=hs 0 a b rfl rfl
   have e3:a.2=true↔b.2=true:=⟨fun h=>(e2.1 h).2,fun h=>e2.2 ⟨fun j' hj=>by omega,h⟩⟩
   cases hb:b.2 with
   | true =>
    have ha:=e3.2 hb
    unfold saysB
    rw [ha,hb]
    exact e1
   | false =>
    have ha:a.2=false:=by
     cases h9:a.2 with
     | false=>rfl
     | true=>rw [e3.1 h9] at hb;cases hb
    unfold saysB
    rw [ha,hb]
    show saysB A=saysB B
    refine ih B (by simpa using h) fun j x y hx hy=>?_
    obtain ⟨f1,f2⟩:=hs (j+1) x y (by simpa using hx) (by simpa using hy)
    refine ⟨f1,f2.trans ⟨fun h=>⟨fun j' hj b' hb'=>h.1 (j'+1) (by omega) b' (by simpa using hb'),h.2⟩,fun h=>⟨fun j' hj b' hb'=>?_,h.2⟩⟩⟩
    cases j' with
    | zero=>simp at hb';rw [<- hb'];exact hb
    | succ j'=>exact h.1 j' (by omega) b' (by simpa using hb')
def matchA (J:AJ) (l:List Nat) (j:Nat):Bool:=tmatch (trAt J j) ((l[j]?).getD 0)
theorem first_says (J:AJ) (l:List Nat):∀ n i,i+n=J.length->((firstF J l n i == J.length) || cutAt J (firstF J l n i))=saysB ((List.range' i n).map fun j=>(cutAt J j,matchA J l j)):=by
 intro n
 induction n with
 | zero=>intro i hi;rw [firstF];simp at hi;simp [hi,saysB]
 | succ n ih =>
  intro i hi
  rw [firstF,List.range'_succ,List.map_cons,saysB]
  unfold matchA
  cases hm:tmatch (trAt J i) ((l[i]?).getD 0) with
  | true =>
   rw [if_pos rfl]
   have:(i == J.length)=false:=by simp;omega
   rw [this]
   rfl
  | false =>
   rw [if_neg (by simp),ih (i+1) (by omega)]
   rfl
theorem first_spec (J:AJ) (l:List Nat):∀ n i,(∀ j,i<=j->j<firstF J l n i->matchA J l j=false)/\(firstF J l n i<i+n->matchA J l (firstF J l n i)=true):=by
 intro n
 induction n with
 | zero=>intro i;rw [firstF];exact ⟨fun j h1 h2=>by omega,fun h=>by omega⟩
 | succ n ih =>
  intro i
  rw [firstF]
  cases hm:tmatch (trAt J i) ((l[i]?).getD 0) with
  | true =>
   rw [if_pos rfl]
   exact ⟨fun j h1 h2=>by omega,fun _=>hm⟩
  | false =>
   rw [if_neg (by simp)]
   obtain ⟨h1,h2⟩:=ih (i+1)
   refine ⟨fun j h3 h4=>?_,fun h=>h2 (by omega)⟩
   rcases Nat.lt_or_ge i j with h5 | h5
   ·exact h1 j (by omega) h4
   ·rw [show j=i from by omega];exact hm
theorem cutsA_says (J:AJ) (x:Spt):cutsA J x=(!x.1 || saysB ((List.range' 0 J.length).map fun j=>(cutAt J j,matchA J x.2 j))):=by
 unfold cutsA
 rw [<- first_says J x.2 J.length 0 (by omega),Bool.or_assoc]
 rfl
def OnAt (L:RuleM) (tab:Tab) (v:Nat) (F:Nat->Prop):Prop:=∃ Ss,tab.length=Ss.length/\[reach (graphOf true L.SR) L.fR,fun _=>False] <+: Ss/\TabOk (nxH (graphOf true L.SR) 0) 0 Ss tab/\Ss[v]?=some F
theorem OnAt.start {L:RuleM} {tab:Tab} (h:OnwardT L.SR L.fR tab):OnAt L tab 0 (reach (graphOf true L.SR) L.fR):=by
 obtain ⟨Ss,h1,h2,_,h4⟩:=h
 exact ⟨Ss,h1,h2,h4,at_prefix h2 rfl⟩
theorem OnAt.dead {L:RuleM} {tab:Tab} (h:OnwardT L.SR L.fR tab):OnAt L tab 1 (fun _=>False):=by
 obtain ⟨Ss,h1,h2,_,h4⟩:=h
 exact ⟨Ss,h1,h2,h4,at_prefix h2 rfl⟩
theorem OnAt.goes {L:RuleM} {tab:Tab} {v:Nat} {F:Nat->Prop} (h:OnAt L tab v F) {k:Nat} (hk:k<8):OnAt L tab (tnext tab v k) (nxH (graphOf true L.SR) 0 F k):=by
 obtain ⟨Ss,h1,h2,h4,h5⟩:=h
 exact ⟨Ss,h1,h2,h4,spot_goes h4 h1 h5 hk⟩
theorem OnAt.hit {L:RuleM} {tab:Tab} {v:Nat} {F:Nat->Prop} (h:OnAt L tab v F):tmatch tab v=true↔F 0:=by
 obtain ⟨Ss,h1,_,h4,h5⟩:=h
 exact spot_match h4 h1 h5
def SpInv (Ls:List RuleM) (J:AJ) (l:List Nat) (B:Nat->Nat->Prop):Prop:=l.length=4/\∀ (j:Nat) (L:RuleM),Ls[j]?=some L->∃ v,l[j]?=some v/\OnAt L (trAt J j) v (B j)
theorem SpInv.hit {Ls:List RuleM} {J:AJ} {l:List Nat} {B:Nat->Nat->Prop} (h:SpInv Ls J l B) {j:Nat} (hj:j<Ls.length):matchA J l j=true↔B j 0:=by
 obtain ⟨v,h1,h2⟩:=h.2 j Ls[j] (List.getElem?_eq_getElem hj)
 unfold matchA
 rw [h1]
 exact h2.hit
theorem JOk.onward {Ls:List RuleM} {J:AJ} (h:JOk Ls J) {j:Nat} {L:RuleM} (hL:Ls[j]?=some L):OnwardT L.SR L.fR (trAt J j)/\LeftT L.SL L.fL (tlAt J j)/\cutAt J j=L.cut:=by
 have hj:j<J.length:=by rw [h.1];exact (List.getElem?_eq_some_iff.1 hL).1
 have:=h.2 j L J[j] hL (List.getElem?_eq_getElem hj)
 rw [trAt_eq hj,tlAt_eq hj,cutAt_eq hj]
 exact ⟨this.2.2,this.2.1,this.1⟩
theorem SpInv.trim {Ls:List RuleM} {J:AJ} {l:List Nat} {B G:Nat->Nat->Prop} {M:Nat->Prop} (hJ:JOk Ls J) (h:SpInv Ls J l B) (h1:∀ j,j<Ls.length->B j 0->M j) (h2:∀ j,j<Ls.length->(∀ j'<j,¬ M j')->B j=G j) (h3:∀ j,j<Ls.length->M j->G j 0) :
  SpInv Ls J (trimL (firstA J l) J.length l) (fun j x=>(∀ j'<j,¬ M j')/\G j x):=by
 refine ⟨by unfold trimL;rw [mapTo_len];exact h.1,fun j L hL=>?_⟩
 have hj:j<Ls.length:=(List.getElem?_eq_some_iff.1 hL).1
 obtain ⟨v,hv,hO⟩:=h.2 j L hL
 have hat:(trimL (firstA J l) J.length l)[j]?=some (if firstA J l<j then 1 else v):=by
  unfold trimL
  rw [mapTo_at,hv,Option.map_some,if_pos (by rw [hJ.1];exact hj)]
 refine ⟨_,hat,?_⟩
 obtain ⟨s1,s2⟩:=first_spec J l J.length 0
 by_cases hf:firstA J l<j
 ·rw [if_pos hf]
  have hm:M (firstA J l):=by
   have:=s2 (by unfold firstA at hf;have:=hJ.1;omega)
   exact h1 _ (by omega) ((h.hit (by omega)).1 this)
  have e:(fun x=>(∀ j'<j,¬ M j')/\G j x)=fun _=>False:=set_ext fun x=>⟨fun h=>h.1 _ hf hm,fun h=>h.elim⟩
  show OnAt L (trAt J j) 1 (fun x=>(∀ j'<j,¬ M j')/\G j x)
  rw [e]
  exact OnAt.dead (hJ.onward hL).1
 ·rw [if_neg hf]
  have hno:∀ j',j'<j->¬ M j':=by
   intro j'
   induction j' using Nat.strongRecOn with
   | _ j' ih =>
    intro hlt hM
    have hb:B j' 0:=by rw [h2 j' (by omega) fun i hi=>ih i hi (by omega)];exact h3 j' (by omega) hM
    have:=s1 j' (by omega) (by unfold firstA at hf;omega)
    rw [(h.hit (by omega)).2 hb] at this
    cases this
  have e:(fun x=>(∀ j'<j,¬ M j')/\G j x)=B j:=by
   rw [h2 j hj hno]
   exact set_ext fun x=>⟨fun h=>h.2,fun h=>⟨hno,h⟩⟩
  show OnAt L (trAt J j) v (fun x=>(∀ j'<j,¬ M j')/\G j x)
  rw [e]
  exact hO
def onS (L:RuleM) (lf:Prop) (r:List Nat) (x:Nat):Prop:=lf/\(r.foldl (nxH (graphOf true L.SR) 0) (reach (graphOf true L.SR) L.fR)) x
theorem onS_next (L:RuleM) (lf:Prop) (r:List Nat) (k:Nat):nxH (graphOf true L.SR) 0 (onS L lf r) k=onS L lf (r++[k]):=by
 by_cases h:lf
 ·have e:∀ r,onS L lf r=r.foldl (nxH (graphOf true L.SR) 0) (reach (graphOf true L.SR) L.fR):=fun r=>set_ext fun x=>⟨fun h=>h.2,fun h9=>⟨h,h9⟩⟩
  rw [e,e,List.foldl_append]
  rfl
 ·have e:∀ r,onS L lf r=fun _=>False:=fun r=>set_ext fun x=>⟨fun h9=>h h9.1,fun h=>h.elim⟩
  rw [e,e,fold_dead]
def onJ (Ls:List RuleM) (lf:Nat->Prop) (r:List Nat) (j:Nat) (x:Nat):Prop:=∃ L,Ls[j]?=some L/\onS L (lf j) r x
def metJ (Ls:List RuleM) (lf:Nat->Prop) (r:List Nat) (j:Nat):Prop:=∃ L,Ls[j]?=some L/\lf j/\hitG (graphOf true L.SR) L.fR 0 r
theorem onJ_at {Ls:List RuleM} {j:Nat} {L:RuleM} (hL:Ls[j]?=some L) (lf:Nat->Prop) (r:List Nat):onJ Ls lf r j=onS L (lf j) r:=set_ext fun x=>⟨fun ⟨L',h1,h2⟩=>by rw [hL] at h1;cases h1;exact h2,fun h=>⟨L,hL,h⟩⟩
theorem on_met (Ls:List RuleM) (lf:Nat->Prop) (r:List Nat) (j:Nat):onJ Ls lf r j 0↔metJ Ls lf r j:=by
 constructor
 ·rintro ⟨L,h1,h2,h3⟩;exact ⟨L,h1,h2,(fold_hits _ _ _ _).1 h3⟩
 ·rintro ⟨L,h1,h2,h3⟩;exact ⟨L,h1,h2,(fold_hits _ _ _ _).2 h3⟩
theorem met_more {Ls:List RuleM} {lf:Nat->Prop} {r:List Nat} {j:Nat} (h:metJ Ls lf r j) (k:Nat):metJ Ls lf (r++[k]) j:=by
 obtain ⟨L,h1,h2,h3⟩:=h
 exact ⟨L,h1,h2,hit_more h3 k⟩
def SeenAt (Ls:List RuleM) (J:AJ) (lf:Nat->Prop) (r:List Nat) (x:Spt):Prop:=x.1=!r.isEmpty/\SpInv Ls J x.2 fun j y=>(∀ j'<j,¬ metJ Ls lf r j')/\onJ Ls lf r j y
theorem SeenAt.start {Ls:List RuleM} {J:AJ} (hJ:JOk Ls J) (hl:Ls.length<=4) (p:Spt):SeenAt Ls J (fun j=>tmatch (tlAt J j) ((p.2[j]?).getD 0)=true) [] (startA J p):=by
 refine ⟨rfl,?_⟩
 show SpInv Ls J (trimL (firstA J (startL J J.length p.2)) J.length (startL J J.length p.2)) _
 refine SpInv.trim (B:=onJ Ls (fun j=>tmatch (tlAt J j) ((p.2[j]?).getD 0)=true) []) hJ ⟨by unfold startL;rw [mapTo_len];rfl,fun j L hL=>?_⟩ (fun j _ h=>(on_met _ _ _ _).1 h) (fun j _ _=>rfl) (fun j _ h=>(on_met _ _ _ _).2 h)
 have hj:j<Ls.length:=(List.getElem?_eq_some_iff.1 hL).1
 have h4:([0,0,0,0]:List Nat)[j]?=some 0:=by
  rcases j with _ | _ | _ | _ | j <;> first | rfl | omega
 refine ⟨_,by unfold startL;rw [mapTo_at,h4,Option.map_some,if_pos (by rw [hJ.1];exact hj)],?_⟩
 rw [onJ_at hL]
 cases hm:tmatch (tlAt J j) ((p.2[j]?).getD 0) with
 | true =>
  rw [if_pos rfl,show onS L (true=true) []=reach (graphOf true L.SR) L.fR from set_ext fun x=>⟨fun h=>h.2,fun h=>⟨rfl,h⟩⟩]
  exact OnAt.start (hJ.onward hL).1
 | false =>
  rw [if_neg (by simp),show onS L (false=true) []=fun _=>False from set_ext fun x=>⟨fun h=>(by cases h.1),fun h=>h.elim⟩]
  exact OnAt.dead (hJ.onward hL).1
theorem SeenAt.next {Ls:List RuleM} {J:AJ} (hJ:JOk Ls J) {lf:Nat->Prop} {r:List Nat} {x:Spt} (h:SeenAt Ls J lf r x) {k:Nat} (hk:k<8):SeenAt Ls J lf (r++[k]) (nextA J x k):=by
 refine ⟨by show true=_;simp,?_⟩
 show SpInv Ls J (trimL (firstA J (nextL J k J.length x.2)) J.length (nextL J k J.length x.2)) _
 obtain ⟨_,h4,h5⟩:=h
 have key:∀ j,j<Ls.length->((∀ j'<j,¬ metJ Ls lf r j')->nxH (graphOf true (Ls[j]?.getD ⟨true,[],0,[],0⟩).SR) 0 (fun y=>(∀ j'<j,¬ metJ Ls lf r j')/\onJ Ls lf r j y) k=onJ Ls lf (r++[k]) j)/\(¬ (∀ j'<j,¬ metJ Ls lf r j')->nxH (graphOf true (Ls[j]?.getD ⟨true,[],0,[],0⟩).SR) 0 (fun y=>(∀ j'<j,¬ metJ Ls lf r j')/\onJ Ls lf r j y) k=fun _=>False):=fun j hj=>by
  have hL:Ls[j]?=some Ls[j]:=List.getElem?_eq_getElem hj
  rw [hL,Option.getD_some]
  refine ⟨fun hn=>?_,fun hn=>?_⟩
  ·have e:(fun y=>(∀ j'<j,¬ metJ Ls lf r j')/\onJ Ls lf r j y)=onS Ls[j] (lf j) r:=by rw [<- onJ_at hL];exact set_ext fun y=>⟨fun h=>h.2,fun h=>⟨hn,h⟩⟩
   rw [e,onS_next,onJ_at hL]
  ·have e:(fun y=>(∀ j'<j,¬ metJ Ls lf r j')/\onJ Ls lf r j y)=fun _=>False:=set_ext fun y=>⟨fun h=>hn h.1,fun h=>h.elim⟩
   rw [e,fold_dead]
 refine SpInv.trim (B:=fun j=>nxH (graphOf true (Ls[j]?.getD ⟨true,[],0,[],0⟩).SR) 0 (fun y=>(∀ j'<j,¬ metJ Ls lf r j')/\onJ Ls lf r j y) k) hJ ⟨by unfold nextL;rw [mapTo_len];exact h4,fun j L hL=>?_⟩ (fun j hj h=>?_) (fun j hj h=>?_) (fun j _ h=>(on_met _ _ _ _).2 h)
 ·have hj:j<Ls.length:=(List.getElem?_eq_some_iff.1 hL).1
  obtain ⟨v,h6,h7⟩:=h5 j L hL
  refine ⟨_,by unfold nextL;rw [mapTo_at,h6,Option.map_some,if_pos (by rw [hJ.1];exact hj)],?_⟩
  simp only [hL,Option.getD_some]
  exact h7.goes hk
 ·by_cases hn:∀ j'<j,¬ metJ Ls lf r j'
  ·simp only [(key j hj).1 hn] at h
   exact (on_met _ _ _ _).1 h
  ·simp only [(key j hj).2 hn] at h
 ·exact (key j hj).1 fun j' hj' hm=>h j' hj' (met_more hm k)
theorem SeenAt.row {Ls:List RuleM} {J:AJ} (hJ:JOk Ls J) {lf:Nat->Prop} {x:Spt} (h:SeenAt Ls J lf [] x):∀ r:List Nat,(∀ k ∈ r,k<8)->SeenAt Ls J lf r (r.foldl (nextA J) x):=by
 apply snoc_ind
 ·intro _;exact h
 ·intro r k ih hk
  rw [List.foldl_append]
  exact (ih fun c hc=>hk c (List.mem_append_left _ hc)).next hJ (hk k (by simp))
def pastK (J:AJ) (row:List Nat):Spt:=row.foldl (laterA J) (false,[0,0,0,0])
theorem pastK_snoc (J:AJ) (row:List Nat) (k:Nat):pastK J (row++[k])=laterA J (pastK J row) k:=by unfold pastK;rw [List.foldl_append];rfl
theorem pastK_at (J:AJ):∀ (row:List Nat) (j:Nat),j<J.length->j<4->(pastK J row).2[j]?=some (row.foldl (fun a k=>tnext (tlAt J j) a k) 0):=by
 apply snoc_ind
 ·intro j _ h4
  rcases j with _ | _ | _ | _ | j <;> first | rfl | omega
 ·intro row k ih j hj h4
  rw [pastK_snoc,List.foldl_append]
  show (mapTo J.length (fun j v=>tnext (tlAt J j) v k) (pastK J row).2)[j]?=_
  rw [mapTo_at,ih j hj h4,Option.map_some,if_pos hj]
  rfl
def seenK (J:AJ) (row:List Nat) (i:Nat):Spt:=(row.drop i).foldl (nextA J) (startA J (pastK J (row.take i)))
theorem cutsOf_at (row:List Nat) {i:Nat} (h1:1<=i) (h2:i<row.length):∀ J:List PR,(cutsOf J row)[i]?=some (saysB (J.map fun r=>(r.1,tmatch r.2.1 (leftAt r.2.1 row i) && tmatch r.2.2 (rightAt r.2.2 row i)))):=by
 intro J
 induction J with
 | nil=>unfold cutsOf;rw [List.foldr_nil,List.getElem?_replicate,if_pos (by omega)];rfl
 | cons r J ih =>
  unfold cutsOf at ih ⊢
  rw [List.foldr_cons]
  show (judgedTo r.1 _ _ row.length _)[i]?=_
  unfold judgedTo
  rw [List.getElem?_mapIdx,ih,Option.map_some,List.map_cons,saysB]
  congr 1
  cases ha:tmatch r.2.1 (leftAt r.2.1 row i) with
  | false=>rw [if_neg (by simp [ha])];rfl
  | true =>
   cases hb:tmatch r.2.2 (rightAt r.2.2 row i) with
   | false=>rw [if_neg (by simp [hb])];rfl
   | true=>rw [if_pos ⟨h1,h2,ha,hb⟩];rfl
theorem seen_cuts {Ls:List RuleM} {J:AJ} (hJ:JOk Ls J) (hl:Ls.length<=4) (hok:∀ L ∈ Ls,RuleOk L) {J':List PR} (hJ':PJOk Ls J') {row:List Nat} (hk:∀ k ∈ row,k<8) {i:Nat} (h1:1<=i) (h2:i<=row.length):(cutsOf J' row)[i]?=some (cutsA J (seenK J row i)):=by
 obtain ⟨e1,e2⟩:=SeenAt.row hJ (SeenAt.start hJ hl (pastK J (row.take i))) (row.drop i) fun k hm=>hk k (List.mem_of_mem_drop hm)
 rw [cutsA_says]
 change (seenK J row i).1=_ at e1
 change SpInv Ls J (seenK J row i).2 _ at e2
 rcases Nat.lt_or_ge i row.length with h3 | h3
 ·have e3:(!(seenK J row i).1)=false:=by
   rw [e1]
   have:(row.drop i).isEmpty=false:=by
    rw [List.isEmpty_eq_false_iff]
    intro h
    have:=congrArg List.length h
    simp at this
    omega
   rw [this]
   rfl
  rw [e3,Bool.false_or,cutsOf_at row h1 h3 J']
  congr 1
  symm
  have hn1:=hJ.1
  have hn2:=hJ'.1
  have met:∀ j (L:RuleM) (r:PR),Ls[j]?=some L->J'[j]?=some r->((tmatch r.2.1 (leftAt r.2.1 row i) && tmatch r.2.2 (rightAt r.2.2 row i))=true↔metJ Ls (fun j=>tmatch (tlAt J j) (((pastK J (row.take i)).2[j]?).getD 0)=true) (row.drop i) j):=fun j L r hL hr=>by
   have hj:j<Ls.length:=(List.getElem?_eq_some_iff.1 hL).1
   obtain ⟨_,⟨Sl,a1,a2,_,a4⟩,⟨Sr,b1,b2,_,b4⟩⟩:=hJ'.2 j L r hL hr
   obtain ⟨_,⟨Tl,c1,c2,_,c4⟩,_⟩:=hJ.onward hL
   have hk1:∀ k ∈ row.take i,k<8:=fun k hm=>hk k (List.mem_of_mem_take hm)
   have hk2:∀ k ∈ (row.drop i).reverse,k<8:=fun k hm=>hk k (List.mem_of_mem_drop (List.mem_reverse.1 hm))
   have m1:=spot_match a4 a1 (spot_row a4 a1 (row.take i) hk1 0 _ (at_prefix a2 rfl))
   have m2:=spot_match b4 b1 (spot_row b4 b1 (row.drop i).reverse hk2 0 _ (at_prefix b2 rfl))
   have m3:=spot_match c4 c1 (spot_row c4 c1 (row.take i) hk1 0 _ (at_prefix c2 rfl))
   rw [fold_back (hok L (List.mem_of_getElem? hL)).sr] at m2
   rw [Bool.and_eq_true]
   have p1:=pastK_at J (row.take i) j (by omega) (by omega)
   constructor
   ·rintro ⟨g1,g2⟩
    refine ⟨L,hL,?_,m2.1 g2⟩
    show tmatch (tlAt J j) (((pastK J (row.take i)).2[j]?).getD 0)=true
    rw [p1]
    exact m3.2 (m1.1 g1)
   ·rintro ⟨L',hL',g1,g2⟩
    rw [hL] at hL'
    cases hL'
    change tmatch (tlAt J j) (((pastK J (row.take i)).2[j]?).getD 0)=true at g1
    rw [p1] at g1
    exact ⟨m1.2 (m3.1 g1),m2.2 g2⟩
  refine says_eq _ _ (by simp;omega) fun j a b ha hb=>?_
  rw [List.getElem?_map] at ha hb
  obtain ⟨j9,hj9,rfl⟩:=Option.map_eq_some_iff.1 ha
  obtain ⟨r,hr,rfl⟩:=Option.map_eq_some_iff.1 hb
  have hjl:j<J'.length:=(List.getElem?_eq_some_iff.1 hr).1
  rw [List.getElem?_range' (by omega)] at hj9
  simp at hj9
  subst hj9
  have hL:Ls[j]?=some (Ls[j]'(by omega)):=List.getElem?_eq_getElem _
  refine ⟨?_,?_⟩
  ·show cutAt J j=r.1
   rw [(hJ.onward hL).2.2,(hJ'.2 j _ r hL hr).1]
  ·show matchA J (seenK J row i).2 j=true↔_
   rw [e2.hit (by omega),on_met]
   constructor
   ·rintro ⟨g1,g2⟩
    refine ⟨fun j' hj' b' hb'=>?_,(met j _ r hL hr).2 g2⟩
    rw [List.getElem?_map] at hb'
    obtain ⟨r',hr',rfl⟩:=Option.map_eq_some_iff.1 hb'
    have hL':Ls[j']?=some (Ls[j']'(by omega)):=List.getElem?_eq_getElem _
    cases h9:(tmatch r'.2.1 (leftAt r'.2.1 row i) && tmatch r'.2.2 (rightAt r'.2.2 row i)) with
    | false=>rfl
    | true=>exact absurd ((met j' _ r' hL' hr').1 h9) (g1 j' hj')
   ·rintro ⟨g1,g2⟩
    refine ⟨fun j' hj' hm=>?_,(met j _ r hL hr).1 g2⟩
    have hr':J'[j']?=some (J'[j']'(by omega)):=List.getElem?_eq_getElem _
    have hL':Ls[j']?=some (Ls[j']'(by omega)):=List.getElem?_eq_getElem _
    have:=g1 j' hj' _ (by rw [List.getElem?_map,hr'];rfl)
    exact Bool.noConfusion ((show _=true from (met j' _ _ hL' hr').2 hm).symm.trans this)
 ·have hi:i=row.length:=by omega
  have e3:(!(seenK J row i).1)=true:=by
   rw [e1,List.drop_eq_nil_of_le (by omega)]
   rfl
  rw [e3,Bool.true_or,hi]
  exact cutsOf_end J' row
theorem nxV_set (n:Nat) (f:Nat->Bool) (V:List Vw) (k v:Nat):nxV (setTo n f V) k v=nxV V k v:=by
 unfold nxV
 rw [setTo_at]
 cases V[v]? with
 | none=>rfl
 | some x=>simp only [Option.map_some,Option.bind_some];split <;> rfl
theorem cutV_set (n:Nat) (f:Nat->Bool) (V:List Vw) (v:Nat):cutV (setTo n f V) v=cutV V v:=by
 unfold cutV
 rw [setTo_at]
 cases V[v]? with
 | none=>rfl
 | some x=>simp only [Option.map_some];split <;> rfl
theorem stlV_set {n:Nat} {f:Nat->Bool} {V:List Vw} {v:Nat} (hv:v<V.length) (hn:V.length<=n):stlV (setTo n f V) v=f v:=by
 unfold stlV
 rw [setTo_at,List.getElem?_eq_getElem hv]
 simp only [Option.map_some]
 rw [if_pos (by omega)]
 rfl
theorem views_at {Ls:List RuleM} {ks:List Nat} {J:AJ} {X K:List Spt} {H:List Hd} {V:List Vw} {MC MJ:List Bool} (h:OutS Ls ks J X K H V MC MJ) (n:Nat) (f:Nat->Bool):∀ row:List Nat,(∀ k ∈ row,k ∈ ks)->X[(viewsK H (setTo n f V) row).2]?=some (pastK J row)/\∀ i,i<row.length->∃ v,(viewsK H (setTo n f V) row).1[i]?=some v/\K[v]?=some (seenK J row (i+1)):=by
 apply snoc_ind
 ·intro _
  exact ⟨h.first,fun i hi=>by simp at hi⟩
 ·intro row k ih hks
  obtain ⟨i1,i2⟩:=ih fun c hc=>hks c (List.mem_append_left _ hc)
  have hk:k ∈ ks:=hks k (by simp)
  have hhd:(viewsK H (setTo n f V) row).2<H.length:=by rw [h.hlen];exact (List.getElem?_eq_some_iff.1 i1).1
  obtain ⟨x,hx,_,hh2,_⟩:=h.heads _ _ (List.getElem?_eq_getElem hhd)
  rw [i1] at hx
  cases hx
  obtain ⟨m,hm1,hm2⟩:=hh2 k hk
  have ehd:hdN H (viewsK H (setTo n f V) row).2 k=m:=by
   unfold hdN
   rw [List.getElem?_eq_getElem hhd,Option.bind_some,hm1]
   rfl
  rw [viewsK_snoc]
  show X[hdN H (viewsK H (setTo n f V) row).2 k]?=_/\∀ i,i<(row++[k]).length->∃ v,((viewsK H (setTo n f V) row).1.map (nxV (setTo n f V) k)++[stH H (hdN H (viewsK H (setTo n f V) row).2 k)])[i]?=some v/\_
  rw [ehd]
  refine ⟨by rw [hm2,pastK_snoc],fun i hi=>?_⟩
  have hlen:=viewsK_len H (setTo n f V) row
  rcases Nat.lt_or_ge i row.length with h1 | h1
  ·obtain ⟨v,h2,h3⟩:=i2 i h1
   refine ⟨nxV (setTo n f V) k v,?_,?_⟩
   ·rw [List.getElem?_append_left (by rw [List.length_map];omega),List.getElem?_map,h2]
    rfl
   ·have hvl:v<V.length:=by rw [h.vlen];exact (List.getElem?_eq_some_iff.1 h3).1
    obtain ⟨y,hy,_,_,hy2⟩:=h.views v _ (List.getElem?_eq_getElem hvl)
    rw [h3] at hy
    cases hy
    obtain ⟨q,hq1,hq2⟩:=hy2 k hk
    rw [nxV_set]
    unfold nxV
    rw [List.getElem?_eq_getElem hvl,Option.bind_some,hq1]
    show K[q]?=_
    rw [hq2]
    unfold seenK
    rw [List.drop_append_of_le_length (by omega),List.take_append_of_le_length (by omega),List.foldl_append]
    rfl
  ·have hi2:i=row.length:=by simp at hi;omega
   subst hi2
   refine ⟨stH H m,?_,?_⟩
   ·rw [List.getElem?_append_right (by rw [List.length_map];omega),List.length_map,hlen,Nat.sub_self]
    rfl
   ·have hml:m<H.length:=by rw [h.hlen];exact (List.getElem?_eq_some_iff.1 hm2).1
    obtain ⟨y,hy,_,_,hy3⟩:=h.heads _ _ (List.getElem?_eq_getElem hml)
    rw [hm2] at hy
    cases hy
    unfold stH
    rw [List.getElem?_eq_getElem hml]
    show K[H[m].1]?=_
    rw [hy3 rfl]
    unfold seenK
    rw [List.drop_eq_nil_of_le (by simp),List.take_of_length_le (by simp),pastK_snoc]
    rfl
theorem views_cuts {Ls:List RuleM} {ks:List Nat} {J:AJ} {X K:List Spt} {H:List Hd} {V:List Vw} {MC MJ:List Bool} (h:OutS Ls ks J X K H V MC MJ) (hl:Ls.length<=4) (hok:∀ L ∈ Ls,RuleOk L) (n:Nat) (f:Nat->Bool) {J':List PR} (hJ':PJOk Ls J') {row:List Nat} (hk:∀ k ∈ row,k ∈ ks) (h8:∀ k ∈ ks,k<8):(viewsK H (setTo n f V) row).1.map (cutV (setTo n f V))=(cutsOf J' row).drop 1:=by
 apply List.ext_getElem?
 intro i
 rw [List.getElem?_map,List.getElem?_drop]
 have hlen:=viewsK_len H (setTo n f V) row
 rcases Nat.lt_or_ge i row.length with h1 | h1
 ·obtain ⟨v,h2,h3⟩:=(views_at h n f row hk).2 i h1
  have hvl:v<V.length:=by rw [h.vlen];exact (List.getElem?_eq_some_iff.1 h3).1
  obtain ⟨y,hy,_,hy1,_⟩:=h.views v _ (List.getElem?_eq_getElem hvl)
  rw [h3] at hy
  cases hy
  rw [h2,Option.map_some,cutV_set,show 1+i=i+1 from by omega,seen_cuts h.rules hl hok hJ' (fun k hm=>h8 k (hk k hm)) (by omega) (by omega)]
  unfold cutV
  rw [List.getElem?_eq_getElem hvl]
  show some V[v].1=_
  rw [hy1]
 ·rw [List.getElem?_eq_none (by omega),List.getElem?_eq_none (by rw [cutsOf_len];omega)]
  rfl
theorem plain_at (V:List Vw) (v:Nat):(plainV V)[v]?=(V[v]?).map fun x=>(x.1,x.2.2):=by unfold plainV;rw [List.getElem?_map]
theorem stays_of {Ls:List RuleM} {ks:List Nat} {J:AJ} {X K:List Spt} {H:List Hd} {V:List Vw} {MC MJ:List Bool} (h:OutS Ls ks J X K H V MC MJ):StaysV (setTo V.length (setF MC MJ) V) ks:=by
 intro v hs k hk
 have hvl:v<V.length:=by
  rcases Nat.lt_or_ge v V.length with h1 | h1
  ·exact h1
  ·unfold stlV at hs
   rw [List.getElem?_eq_none (by rw [setTo_len];exact h1)] at hs
   cases hs
 obtain ⟨y,hy,_,_,hy2⟩:=h.views v _ (List.getElem?_eq_getElem hvl)
 obtain ⟨q,hq1,hq2⟩:=hy2 k hk
 have hql:q<V.length:=by rw [h.vlen];exact (List.getElem?_eq_some_iff.1 hq2).1
 have enx:nxV (setTo V.length (setF MC MJ) V) k v=q:=by
  rw [nxV_set]
  unfold nxV
  rw [List.getElem?_eq_getElem hvl,Option.bind_some,hq1]
  rfl
 have hlead:leadsV ks (plainV V) v q:=⟨k,hk,by rw [plain_at,List.getElem?_eq_getElem hvl];exact hq1⟩
 rw [enx,stlV_set hql (Nat.le_refl _),cutV_set,cutV_set]
 rw [stlV_set hvl (Nat.le_refl _)] at hs
 have may:∀ i,i<V.length->((MC[i]?).getD false=true↔mayV ks (plainV V) true i)/\((MJ[i]?).getD false=true↔mayV ks (plainV V) false i):=fun i hi=>by
  have e1:∀ (M:List Bool),M.length=V.length->((M[i]?).getD false=true↔M[i]?=some true):=fun M hM=>by
   rw [List.getElem?_eq_getElem (by omega)]
   simp
  exact ⟨(e1 MC h.mc.1).trans (h.mc.2 i),(e1 MJ h.mj.1).trans (h.mj.2 i)⟩
 have here:∀ i (hi:i<V.length) c,cutV V i=c->mayV ks (plainV V) c i:=fun i hi c hc=>may_here (by rw [plain_at,List.getElem?_eq_getElem hi];unfold cutV at hc;rw [List.getElem?_eq_getElem hi] at hc;simpa using hc)
 unfold setF at hs ⊢
 rw [Bool.or_eq_true] at hs ⊢
 have cutIs:∀ (i:Nat) (hi:i<V.length) (c:Bool),¬ mayV ks (plainV V) c i->cutV V i=!c:=fun i hi c hn=>by
  cases hc:cutV V i with
  | true=>cases c with
   | true=>exact absurd (here i hi true hc) hn
   | false=>rfl
  | false=>cases c with
   | false=>exact absurd (here i hi false hc) hn
   | true=>rfl
 have neg:∀ {b:Bool} {P:Prop},(b=true↔P)->((!b)=true↔¬ P):=fun {b P} h=>by
  rw [<- h];cases b <;> simp
 rcases hs with hs | hs
 ·have n1:=(neg (may v hvl).1).1 hs
  have n2:¬ mayV ks (plainV V) true q:=fun h9=>n1 (may_back hlead h9)
  exact ⟨Or.inl ((neg (may q hql).1).2 n2),by rw [cutIs q hql true n2,cutIs v hvl true n1]⟩
 ·have n1:=(neg (may v hvl).2).1 hs
  have n2:¬ mayV ks (plainV V) false q:=fun h9=>n1 (may_back hlead h9)
  exact ⟨Or.inr ((neg (may q hql).2).2 n2),by rw [cutIs q hql false n2,cutIs v hvl false n1]⟩
open Go.Lib
theorem BadLen.det {s:ByteArray} {n m:Nat} (h:BadLen s n) (k:BadLen s m):n=m:=by
 have no:∀ {a b:Nat},BadLen s a->BadLen s b->a<b->False:=fun {a b} ha hb hlt=>by
  rcases ha.shut with h1 | h1
  ·have:=hb.fits;omega
  ·have:=hb.open_ (a+1) (by have:=ha.pos;omega) (by omega)
   rw [h1] at this
   cases this
 rcases Nat.lt_trichotomy n m with h1 | h1 | h1
 ·exact (no h k h1).elim
 ·exact h1
 ·exact (no k h h1).elim
theorem KindOf.det {L:List (Int × Int × Nat)} (hL:InRow L) {c:Int} {k m:Nat} (h:KindOf L c k) (h':KindOf L c m):k=m:=by
 rcases h with ⟨o,ho,h1,h2,rfl⟩ | ⟨hn,rfl⟩
 ·rcases h' with ⟨u,hu,g1,g2,rfl⟩ | ⟨gn,rfl⟩
  ·obtain ⟨i,hi⟩:=List.mem_iff_getElem?.1 ho
   obtain ⟨j,hj⟩:=List.mem_iff_getElem?.1 hu
   rcases Nat.lt_trichotomy i j with e | e | e
   ·have:=hL.2 i j o u e hi hj;omega
   ·subst e;rw [hi] at hj;cases hj;rfl
   ·have:=hL.2 j i u o e hj hi;omega
  ·exact absurd ⟨h1,h2⟩ (gn o ho)
 ·rcases h' with ⟨u,hu,g1,g2,rfl⟩ | ⟨gn,rfl⟩
  ·exact absurd ⟨g1,g2⟩ (hn u hu)
  ·rfl
theorem CharIs.det {L:List (Int × Int × Nat)} (hL:InRow L) {s:ByteArray} {k n k' n':Nat} (h:CharIs L s k n) (h':CharIs L s k' n'):k=k'/\n=n':=by
 rcases h with ⟨a1,a2,rfl,a3⟩ | ⟨a1,rfl,a2⟩
 ·rcases h' with ⟨_,_,rfl,b3⟩ | ⟨b1,_⟩
  ·exact ⟨rfl,a3.det b3⟩
  ·exact absurd ⟨a1,a2⟩ b1
 ·rcases h' with ⟨b1,b2,_⟩ | ⟨_,rfl,b2⟩
  ·exact absurd ⟨b1,b2⟩ a1
  ·exact ⟨a2.det hL b2,rfl⟩
theorem pairs_eq:∀ {C D:List (Nat × Nat)},(C.map fun c=>c.1)=(D.map fun c=>c.1)->(C.map fun c=>c.2)=(D.map fun c=>c.2)->C=D:=by
 intro C
 induction C with
 | nil=>intro D h _;cases D with
  | nil=>rfl
  | cons d D=>simp at h
 | cons c C ih =>
  intro D h1 h2
  cases D with
  | nil=>simp at h1
  | cons d D =>
   simp only [List.map_cons,List.cons.injEq] at h1 h2
   rw [ih h1.2 h2.2,Prod.ext h1.1 h2.1]
theorem CharsTo.same {L:List (Int × Int × Nat)} (hL:InRow L) {s:ByteArray} {p:Nat} {ks ns:List Nat} (h:CharsTo L s p ks ns):∀ {q:Nat} {ks' ns':List Nat},CharsTo L s q ks' ns'->ks.length=ks'.length->p=q/\ks=ks'/\ns=ns':=by
 induction h with
 | nil =>
  intro q ks' ns' h' hl
  cases h' with
  | nil=>exact ⟨rfl,rfl,rfl⟩
  | snoc h2 _ _=>simp at hl
 | @snoc p ks ns k n h hp hc ih =>
  intro q ks' ns' h' hl
  cases h' with
  | nil=>simp at hl
  | @snoc p' ks' ns' k' n' h2 hp2 hc2 =>
   obtain ⟨rfl,rfl,rfl⟩:=ih h2 (by simpa using hl)
   obtain ⟨rfl,rfl⟩:=hc.det hL hc2
   exact ⟨rfl,rfl,rfl⟩
theorem CharsTo.cut_to {L:List (Int × Int × Nat)} {s:ByteArray} {p:Nat} {ks ns:List Nat} (h:CharsTo L s p ks ns):∀ i,i<=ks.length->CharsTo L s ((ns.take i).sum) (ks.take i) (ns.take i):=by
 induction h with
 | nil=>intro i _;simp;exact .nil
 | @snoc p ks ns k n h hp hc ih =>
  intro i hi
  have hln:ks.length=ns.length:=by
   clear ih hi hc hp
   induction h with
   | nil=>rfl
   | snoc _ _ _ ih=>simp [ih]
  have hs:ns.sum=p:=by
   clear ih hi hc hp hln
   induction h with
   | nil=>rfl
   | snoc _ _ _ ih=>simp [ih]
  rcases Nat.lt_or_ge ks.length i with h1 | h1
  ·simp at hi
   rw [List.take_of_length_le (by simp;omega),List.take_of_length_le (by simp;omega),List.sum_append,hs]
   simp only [List.sum_cons,List.sum_nil,Nat.add_zero]
   exact .snoc h hp hc
  ·rw [List.take_append_of_le_length (by omega),List.take_append_of_le_length h1]
   exact ih i h1
theorem chars_pre {L:List (Int × Int × Nat)} (hL:InRow L) (hk:∀ o ∈ L,o.2.2<8) {T:ByteArray} {p q:Nat} {C D:List (Nat × Nat)} (h:CharsTo L T p (C.map fun c=>c.1) (C.map fun c=>c.2)) (k:CharsTo L T q (D.map fun c=>c.1) (D.map fun c=>c.2)) (hpq:p<=q):∃ E,D=C++E:=by
 have o1:=h.ok hk
 have o2:=k.ok hk
 have hl:C.length<=D.length:=by
  rcases Nat.lt_or_ge D.length C.length with h1 | h1
  ·exfalso
   obtain ⟨e1,e2,e3⟩:=(h.cut_to D.length (by simp;omega)).same hL k (by simp;omega)
   have h2:(C.map fun c=>c.2)=(C.map fun c=>c.2).take D.length++(C.map fun c=>c.2).drop D.length:=(List.take_append_drop _ _).symm
   have h3:∃ n r,(C.map fun c=>c.2).drop D.length=n :: r:=by
    cases hd:(C.map fun c=>c.2).drop D.length with
    | nil=>have:=congrArg List.length hd;simp at this;omega
    | cons n r=>exact ⟨n,r,rfl⟩
   obtain ⟨n,r,h4⟩:=h3
   have h5:=o1.sum
   rw [h2,List.sum_append,e1,h4,List.sum_cons] at h5
   have h6:=(o1.sizes n (by rw [h2,h4];simp)).1
   omega
  ·exact h1
 obtain ⟨_,e2,e3⟩:=(k.cut_to C.length (by simp;omega)).same hL h (by simp;omega)
 refine ⟨D.drop C.length,?_⟩
 have e:D.take C.length=C:=pairs_eq (by rw [List.map_take];exact e2) (by rw [List.map_take];exact e3)
 conv=>lhs;rw [<- List.take_append_drop C.length D]
 rw [e]
theorem chars_one {L:List (Int × Int × Nat)} (hL:InRow L) (hk:∀ o ∈ L,o.2.2<8) {T:ByteArray} {p:Nat} {C D:List (Nat × Nat)} (h:CharsTo L T p (C.map fun c=>c.1) (C.map fun c=>c.2)) (k:CharsTo L T p (D.map fun c=>c.1) (D.map fun c=>c.2)):D=C:=by
 obtain ⟨E,e⟩:=chars_pre hL hk h k (Nat.le_refl _)
 obtain ⟨F,f⟩:=chars_pre hL hk k h (Nat.le_refl _)
 have:=congrArg List.length e
 have h2:=congrArg List.length f
 simp at this h2
 have:E=[]:=List.eq_nil_of_length_eq_zero (by omega)
 rw [e,this,List.append_nil]
def FullC (T:ByteArray) (C:List (Nat × Nat)):Prop:=∀ C' c D,C=C'++c :: D->fullS (T.extract (sumC C') T.size)=true
theorem FullC.nil (T:ByteArray):FullC T []:=fun C' c D h=>by simp at h
theorem begins_right (T x:ByteArray) {p:Nat} (hp:p<=T.size):Begins (T.extract p T.size) ((T++x).extract p (T++x).size):=by
 rw [extract_right T x p hp]
 exact begins_app _ _
theorem FullC.more {T:ByteArray} {C:List (Nat × Nat)} (h:FullC T C) (hC:sumC C<=T.size) (x:ByteArray):FullC (T++x) C:=fun C' c D e=>by
 have:sumC C'<=sumC C:=by rw [e];unfold sumC;simp
 exact begins_full (begins_right T x (by omega)) (h C' c D e)
theorem FullC.step {T:ByteArray} {C:List (Nat × Nat)} (h:FullC T C) (c:Nat × Nat) (hf:fullS (T.extract (sumC C) T.size)=true):FullC T (C++[c]):=fun C' d D e=>by
 rcases List.eq_nil_or_concat D with rfl | ⟨D',d',rfl⟩
 ·have:=List.append_inj' e rfl
  rw [<- this.1]
  exact hf
 ·have:C++[c]=(C'++d :: D')++[d']:=by rw [e];simp
  exact h C' d D' (List.append_inj' this rfl).1
theorem Flows.takes {H:List Hd} {V:List Vw} {L:List (Int × Int × Nat)} (hL:∀ o ∈ L,o.2.2<8) {T:ByteArray} {l0:List ByteArray} {s s2:FS} (ht:TakeR H V L s s2):∀ C,Flows H V L T C l0 s->FullC T C->∃ C2,Flows H V L T C2 l0 s2/\fullS s2.rest=false/\FullC T C2:=by
 induction ht with
 | stop h=>intro C hF hC;exact ⟨C,hF,h,hC⟩
 | step h hc _ ih=>intro C hF hC;exact ih _ (hF.step hL h hc) (hC.step _ (by rw [<- hF.rest.1];exact h))
structure Rests (H:List Hd) (V:List Vw) (L:List (Int × Int × Nat)) (T:ByteArray) (C:List (Nat × Nat)) (l:List ByteArray) (s:FS):Prop where
 fl:Flows H V L T C l s
 told:s.told=[]
 shut:fullS s.rest=false
 full:FullC T C
theorem Rests.new (H:List Hd) (V:List Vw) (L:List (Int × Int × Nat)):Rests H V L ⟨#[]⟩ [] [] FS.new:=⟨Flows.new H V L,rfl,rfl,FullC.nil _⟩
theorem Rests.take {H:List Hd} {V:List Vw} {L:List (Int × Int × Nat)} (hL:∀ o ∈ L,o.2.2<8) {T:ByteArray} {C:List (Nat × Nat)} {l:List ByteArray} {s s2:FS} (h:Rests H V L T C l s) (x:ByteArray) (ht:TakeR H V L { s with txt:=s.txt++x } s2):∃ C2,Rests H V L (T++x) C2 (l++s2.told) { s2 with told:=[] }:=by
 obtain ⟨C2,h1,h2,h3⟩:=Flows.takes hL ht C (h.fl.more x) (h.full.more h.fl.known.1 x)
 exact ⟨C2,h1.aside,rfl,h2,h3⟩
theorem Rests.size {H:List Hd} {V:List Vw} {L:List (Int × Int × Nat)} {T:ByteArray} {C:List (Nat × Nat)} {l:List ByteArray} {s:FS} (h:Rests H V L T C l s):joinB l++s.txt=T/\(joinB l).size+s.txt.size=T.size:=by
 have h0:sumA (runC H V C).1+0<=T.size:=by rw [sumA_run];exact h.fl.known.1
 have h1:=(tellF_join (runC H V C).1 0 T [] h0).1
 rw [h.fl.hist.tel,h.told,List.append_nil] at h1
 simp only at h1
 have e0:joinB []++T=T:=by
  apply ba_ext
  rw [ByteArray.toList_eq,ByteArray.toList_eq]
  unfold joinB
  simp
 rw [e0] at h1
 exact ⟨h1,by rw [<- h1,ByteArray.size_append]⟩
theorem Rests.one {H:List Hd} {V:List Vw} {L:List (Int × Int × Nat)} (hR:InRow L) (hL:∀ o ∈ L,o.2.2<8) {T:ByteArray} {C C2:List (Nat × Nat)} {l l2:List ByteArray} {s s2:FS} (h:Rests H V L T C l s) (k:Rests H V L T C2 l2 s2):l=l2:=by
 have no:∀ {C D:List (Nat × Nat)} {l l2:List ByteArray} {s s2:FS},Rests H V L T C l s->Rests H V L T D l2 s2->sumC C<=sumC D->D=C:=fun {C D l l2 s s2} h k hle=>by
  have c1:=h.fl.known.2 ⟨#[]⟩
  have c2:=k.fl.known.2 ⟨#[]⟩
  rw [app_nil] at c1 c2
  obtain ⟨E,e⟩:=chars_pre hR hL c1 c2 hle
  cases E with
  | nil=>rw [e,List.append_nil]
  | cons c E =>
   have:=k.full C c E e
   rw [<- h.fl.rest.1,h.shut] at this
   cases this
 have e:C=C2:=by
  rcases Nat.le_total (sumC C) (sumC C2) with h1 | h1
  ·exact (no h k h1).symm
  ·exact no k h h1
 subst e
 have t1:=h.fl.hist.tel
 have t2:=k.fl.hist.tel
 rw [h.told,List.append_nil] at t1
 rw [k.told,List.append_nil] at t2
 rw [t1] at t2
 injection t2 with _ t2
 injection t2 with _ t2
 injection t2
structure RulP (Ls:List RuleM) (L:List (Int × Int × Nat)) (ks:List Nat) (H:List Hd) (V:List Vw):Prop where
 out:∃ J X K V0 MC MJ,OutS Ls ks J X K H V0 MC MJ/\V=setTo V0.length (setF MC MJ) V0
 few:Ls.length<=4
 ok:∀ x ∈ Ls,RuleOk x
 lt8:∀ k ∈ ks,k<8
 row:InRow L
 kinds:∀ o ∈ L,o.2.2<8
 pos:∀ (s:ByteArray) (k n:Nat),1<=s.size->CharIs L s k n->k ∈ ks
theorem chars_in {L:List (Int × Int × Nat)} {ks:List Nat} (hp:∀ (s:ByteArray) (k n:Nat),1<=s.size->CharIs L s k n->k ∈ ks) {T:ByteArray} {p:Nat} {ks' ns:List Nat} (h:CharsTo L T p ks' ns):∀ k ∈ ks',k ∈ ks:=by
 induction h with
 | nil=>intro k hk;simp at hk
 | @snoc p ks' ns k n h hp' hc ih =>
  intro c hc'
  rcases List.mem_append.1 hc' with h1 | h1
  ·exact ih c h1
  ·simp at h1
   subst h1
   exact hp _ _ _ (by rw [ByteArray.size_extract];omega) hc
theorem RulP.stays {Ls:List RuleM} {L:List (Int × Int × Nat)} {ks:List Nat} {H:List Hd} {V:List Vw} (h:RulP Ls L ks H V):StaysV V ks:=by
 obtain ⟨J,X,K,V0,MC,MJ,h1,rfl⟩:=h.out
 exact stays_of h1
theorem RulP.segs {Ls:List RuleM} {L:List (Int × Int × Nat)} {ks:List Nat} {H:List Hd} {V:List Vw} (h:RulP Ls L ks H V) {J':List PR} (hJ':PJOk Ls J') {T:ByteArray} {C:List (Nat × Nat)} (hC:CharsTo L T T.size (C.map fun c=>c.1) (C.map fun c=>c.2)) :
  (tellF ((runC H V C).1.map (endA V)) 0 T []).2.2.2=(segSt T (C.map fun c=>c.2) (cutsOf J' (C.map fun c=>c.1)) (C.map fun c=>c.2).length).2.2:=by
 have hin:=chars_in h.pos hC
 have hok:=hC.ok h.kinds
 rw [end_segs H h.stays T C (fun c hc=>hin c.1 (List.mem_map.2 ⟨c,hc,rfl⟩)) (by rw [hok.sum];exact Nat.le_refl _),List.length_map]
 obtain ⟨J,X,K,V0,MC,MJ,h1,rfl⟩:=h.out
 rw [views_cuts h1 h.few h.ok _ _ hJ' hin h.lt8]
 unfold segSt
 rw [List.drop_one,List.tail_cons]
theorem unzip_pairs:∀ (ks ns:List Nat),ks.length=ns.length->((ks.zip ns).map fun c=>c.1)=ks/\((ks.zip ns).map fun c=>c.2)=ns:=fun ks ns h=>⟨List.map_fst_zip (by omega),List.map_snd_zip (by omega)⟩
theorem CutTold.pairs {Tr s:ByteArray} {L:List (Int × Int × Nat)} (hk:∀ o ∈ L,o.2.2<8) {told:List ByteArray} (h:CutTold Tr s L told):∃ (J:List PR) (C:List (Nat × Nat)),PJOk (read2 Tr).2 J/\CharsTo L s s.size (C.map fun c=>c.1) (C.map fun c=>c.2)/\told=(segSt s (C.map fun c=>c.2) (cutsOf J (C.map fun c=>c.1)) (C.map fun c=>c.2).length).2.2:=by
 obtain ⟨J,ks,ns,h1,h2,h3⟩:=h
 obtain ⟨e1,e2⟩:=unzip_pairs ks ns (h2.ok hk).len
 exact ⟨J,ks.zip ns,h1,by rw [e1,e2];exact h2,by rw [e1,e2];exact h3⟩
theorem runC_app (H:List Hd) (V:List Vw) (C:List (Nat × Nat)):∀ E:List (Nat × Nat),∃ g R,(∀ (a:AP) c,a.2=.inr c->g a=a)/\(runC H V (C++E)).1=(runC H V C).1.map g++R:=by
 apply snoc_ind
 ·exact ⟨id,[],fun _ _ _=>rfl,by rw [List.append_nil,List.append_nil,List.map_id]⟩
 ·intro E c ih
  obtain ⟨g,R,h1,h2⟩:=ih
  refine ⟨fun a=>mvA V c.1 (g a),R.map (mvA V c.1)++[stA V c.2 (stH H (hdN H (runC H V (C++E)).2 c.1))],fun a b hb=>?_,?_⟩
  ·show mvA V c.1 (g a)=a
   rw [h1 a b hb,mvA_fixed V c.1 a b hb]
  ·rw [<- List.append_assoc,runC_snoc]
   show (runC H V (C++E)).1.map (mvA V c.1)++[_]=_
   rw [h2,List.map_append,List.map_map,List.append_assoc]
   rfl
theorem Rests.safe {Tr:ByteArray} {L:List (Int × Int × Nat)} {ks:List Nat} {H:List Hd} {V:List Vw} (hR:RulP (read2 Tr).2 L ks H V) {T:ByteArray} {C:List (Nat × Nat)} {l:List ByteArray} {s:FS} (h:Rests H V L T C l s) {x:ByteArray} {all:List ByteArray} (hc:CutTold Tr (T++x) L all):l <+: all:=by
 obtain ⟨J',D,hJ',hD,rfl⟩:=hc.pairs hR.kinds
 obtain ⟨E,rfl⟩:=chars_pre hR.row hR.kinds (h.fl.known.2 x) hD (by rw [ByteArray.size_append];have:=h.fl.known.1;omega)
 rw [<- hR.segs hJ' hD]
 obtain ⟨g,R,g1,g2⟩:=runC_app H V C E
 rw [g2,List.map_append,List.map_map]
 have t:=h.fl.hist.tel
 rw [h.told,List.append_nil] at t
 have tm:=tellF_more (runC H V C).1 0 T x [] (by rw [sumA_run];exact h.fl.known.1)
 rw [t] at tm
 have h1:=tellF_later (runC H V C).1 (endA V ∘ g) (fun a c ha=>by show endA V (g a)=a;rw [g1 a c ha,endA_fixed V a c ha]) (R.map (endA V)) 0 (T++x) []
 rw [tm] at h1
 simp only at h1
 rw [<- h1]
 have h3:=tellF_acc (s.A.map (endA V ∘ g)++R.map (endA V)) s.bg (s.txt++x) l []
 rw [List.append_nil] at h3
 rw [h3]
 exact List.prefix_append _ _
theorem Rests.whole {Tr:ByteArray} {L:List (Int × Int × Nat)} {ks:List Nat} {H:List Hd} {V:List Vw} (hR:RulP (read2 Tr).2 L ks H V) {T:ByteArray} {C:List (Nat × Nat)} {l:List ByteArray} {s:FS} (h:Rests H V L T C l s) {all:List ByteArray} (hc:CutTold Tr T L all):l++(endS H V s).told=all:=by
 obtain ⟨J',D,hJ',hD,rfl⟩:=hc.pairs hR.kinds
 obtain ⟨C2,hC2,e⟩:=h.fl.end h.shut
 rw [h.told,List.append_nil] at e
 rw [e,<- chars_one hR.row hR.kinds hC2 hD]
 exact hR.segs hJ' hD
end Go.Proofs.YtodagkkjfipbgaaGreatDoor
