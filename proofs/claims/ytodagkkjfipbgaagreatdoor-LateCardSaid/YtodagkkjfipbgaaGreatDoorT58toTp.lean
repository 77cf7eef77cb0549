import Derived.Laws.AppendOwnNone
import Derived.Test.YtodagkkjfipbgaaGreatDoorY1toT57
namespace Go.Proofs.YtodagkkjfipbgaaGreatDoor
open Go.RowKit Go.Maps Go.Lib
theorem not_within {V:List Vw} {ks:List Nat} {k:Nat} (hk:k ∈ ks):∀ (m v:Nat),(∀ j,j≤m→stlV V ((List.replicate j k).foldl (fun v k=>nxV V k v) v)=false)→¬ within V ks m v:=by
 intro m
 induction m with
 | zero =>
  intro v h hw
  have h1:stlV V v=false:=h 0 (Nat.le_refl _)
  have h2:stlV V v=true:=hw
  rw [h1] at h2
  cases h2
 | succ m ih =>
  intro v h hw
  have h1:stlV V v=false:=h 0 (Nat.zero_le _)
  exact ih (nxV V k v) (fun j hj=>h (j+1) (by omega)) (within_down h1 hk hw).2
theorem set_fold (n:Nat) (f:Nat→Bool) (V:List Vw):∀ (d:List Nat) (v:Nat),d.foldl (fun v k=>nxV (setTo n f V) k v) v=d.foldl (fun v k=>nxV V k v) v:=by
 intro d
 induction d with
 | nil=>intro v;rfl
 | cons k d ih=>intro v;rw [List.foldl_cons,List.foldl_cons,ih,nxV_set]
theorem view_xa {Ls:List RuleM} {J:AJ} {X K:List Spt} {H:List Hd} {V:List Vw} {MC MJ:List Bool} (h:OutS Ls KsL J X K H V MC MJ):∃ v,v<V.length∧K[v]?=some (seenK J [6,0] 2):=by
 obtain ⟨v,_,hv⟩:=(views_at h 0 (fun _=>false) [6,0] (by decide)).2 1 (by decide)
 exact ⟨v,(view_flag h hv).1,hv⟩
theorem not_settled {Ls:List RuleM} {ks:List Nat} {J:AJ} {X K:List Spt} {H:List Hd} {V:List Vw} {MC MJ:List Bool} (h:OutS Ls ks J X K H V MC MJ) {R:List Nat} {i v:Nat} (hi:i≤R.length) (hv:K[v]?=some (seenK J R i)) {b c d:List Nat} (hb:∀ k ∈ b,k ∈ ks) (hc:∀ k ∈ c,k ∈ ks) (hd:∀ k ∈ d,k ∈ ks) (hne:flagK J (R++(b++c)) i ≠ flagK J (R++(b++d)) i):stlV (setTo V.length (setF MC MJ) V) (b.foldl (fun v k=>nxV (setTo V.length (setF MC MJ) V) k v) v)=false:=by
 rw [set_fold]
 have h1:=view_ext h hi hv b hb
 cases hs:stlV (setTo V.length (setF MC MJ) V) (b.foldl (fun v k=>nxV V k v) v) with
 | false=>rfl
 | true =>
  exfalso
  obtain ⟨x,hx⟩:=(stl_text h (by rw [List.length_append];omega) h1).1 hs
  apply hne
  rw [← List.append_assoc,← List.append_assoc,hx c hc,hx d hd]
theorem reps_in (m:Nat):∀ k ∈ List.replicate m 1,k ∈ KsL:=fun k hk=>by rw [(List.mem_replicate.1 hk).2];decide
theorem endless_text {Ls:List RuleM} {J:AJ} {X K:List Spt} {H:List Hd} {V:List Vw} {MC MJ:List Bool} (h:OutS Ls KsL J X K H V MC MJ) (hne:∀ m,flagK J (rowXA m 0) 2 ≠ flagK J (rowXA m 6) 2) {z:Int} (hz:delayIs (setTo V.length (setF MC MJ) V) KsL z):z=-1:=by
 rcases hz with ⟨hz,_⟩ | ⟨n,_,hz,_⟩
 ·exact hz
 ·exfalso
  obtain ⟨v,hvl,hv⟩:=view_xa h
  refine not_within (k:=1) (by decide) n v (fun j _=>?_) (hz v (by rw [setTo_len];exact hvl))
  exact not_settled h (by decide) hv (b:=List.replicate j 1) (c:=[0]) (d:=[6]) (reps_in j) (by decide) (by decide) (hne j)
theorem delay_e {L:List (Int × Int × Nat)} {H:List Hd} {V:List Vw} (hR:RulP (read2 lateE).2 L KsL H V) {z:Int} (hz:delayIs V KsL z):z=-1:=by
 obtain ⟨J,X,K,V0,MC,MJ,hO,rfl⟩:=hR.out
 refine endless_text hO (fun m=>?_) hz
 rw [flag_e hO.rules m 0 (by decide),flag_e hO.rules m 6 (by decide)]
 decide
theorem delay_f {L:List (Int × Int × Nat)} {H:List Hd} {V:List Vw} (hR:RulP (read2 lateF).2 L KsL H V) {z:Int} (hz:delayIs V KsL z):z=-1:=by
 obtain ⟨J,X,K,V0,MC,MJ,hO,rfl⟩:=hR.out
 refine endless_text hO (fun m=>?_) hz
 rw [flag_f hO.rules m 0 (by decide),flag_f hO.rules m 6 (by decide)]
 decide
theorem within_late {n:Nat} (h1:1≤n) (h4:n≤4) {J:AJ} {X K:List Spt} {H:List Hd} {V:List Vw} {MC MJ:List Bool} (h:OutS (read2 (lateT n)).2 KsL J X K H V MC MJ) {v:Nat} (hv:v<V.length):within (setTo V.length (setF MC MJ) V) KsL n v:=by
 refine within_all n v fun c hc hck=>?_
 rw [set_fold]
 have hvk:v<K.length:=by rw [← h.vlen];exact hv
 obtain ⟨_,row,i,hrow,hi1,hi2,hx⟩:=h.knowns _ (List.getElem_mem hvk)
 have hKv:K[v]?=some (seenK J row i):=by rw [List.getElem?_eq_getElem hvk,hx]
 have hv2:=view_ext h hi2 hKv c hck
 rw [stl_text h (by rw [List.length_append];omega) hv2]
 obtain ⟨j,rfl⟩:∃ j,i=j+1:=⟨i - 1,by omega⟩
 have hjl:j<row.length:=by omega
 refine ⟨!(decide (row[j]=0) && decide (((row++c).drop (j+1)).take n=List.replicate n 1)),fun d hd=>?_⟩
 have hall:∀ k ∈ row++c++d,k ∈ KsL:=fun k hk=>by
  rcases List.mem_append.1 hk with hk | hk
  ·rcases List.mem_append.1 hk with hk | hk
   ·exact hrow k hk
   ·exact hck k hk
  ·exact hd k hk
 rw [late_flag h1 h4 h.rules hall (i:=j) (c:=row[j]) (by simp;omega) (by rw [List.append_assoc,List.getElem?_append_left hjl,List.getElem?_eq_getElem hjl])]
 rw [List.drop_append_of_le_length (l₂:=d) (by simp;omega),List.take_append_of_le_length (l₂:=d) (by simp;omega)]
theorem reps_take (n m:Nat) (k:Nat) (h:m<n) (hk:k ≠ 1):¬ (List.replicate m 1++[k]).take n=List.replicate n 1:=by
 rw [List.take_of_length_le (by simp;omega)]
 intro e
 have h1:k ∈ List.replicate n 1:=by rw [← e];simp
 exact hk (List.mem_replicate.1 h1).2
theorem delay_late {n:Nat} (h1:1≤n) (h4:n≤4) {L:List (Int × Int × Nat)} {H:List Hd} {V:List Vw} (hR:RulP (read2 (lateT n)).2 L KsL H V) {z:Int} (hz:delayIs V KsL z):z=n:=by
 obtain ⟨J,X,K,V0,MC,MJ,hO,rfl⟩:=hR.out
 have hw:∀ v,v<(setTo V0.length (setF MC MJ) V0).length→within (setTo V0.length (setF MC MJ) V0) KsL n v:=fun v hv=>within_late h1 h4 hO (by rw [setTo_len] at hv;exact hv)
 rcases hz with ⟨_,v,hv,he⟩ | ⟨m,hm,hall,hmost⟩
 ·exact absurd (hw v hv) (he n)
 ·rw [hm]
  have hle:m≤n:=by
   rcases hmost with h0 | ⟨v,hv,hwait⟩
   ·omega
   ·rcases Nat.lt_or_ge n m with h | h
    ·exact absurd (hw v hv) (hwait.2 n h)
    ·exact h
  rcases Nat.lt_or_ge m n with h | h
  ·exfalso
   obtain ⟨v,hvl,hv⟩:=view_xa hO
   refine not_within (k:=1) (by decide) m v (fun j hj=>?_) (hall v (by rw [setTo_len];exact hvl))
   refine not_settled hO (by decide) hv (b:=List.replicate j 1) (c:=[6]) (d:=List.replicate (n - j) 1) (reps_in j) (by decide) (reps_in _) ?_
   have e1:flagK J ([6,0]++(List.replicate j 1++[6])) 2=true:=by
    have hq:=late_flag h1 h4 hO.rules (R:=[6,0]++(List.replicate j 1++[6])) (rowXA_in (m:=j) (k:=6) (by decide)) (i:=1) (c:=0) (by simp) rfl
    have e:([6,0]++(List.replicate j 1++[6])).drop (1+1)=List.replicate j 1++[6]:=rfl
    have:=reps_take n j 6 (by omega) (by decide)
    rw [e] at hq
    rw [hq]
    simp only [this,decide_false,Bool.and_false,Bool.not_false]
   have e2:flagK J ([6,0]++(List.replicate j 1++List.replicate (n - j) 1)) 2=false:=by
    rw [List.replicate_append_replicate,show j+(n - j)=n from by omega]
    have hq:=late_flag h1 h4 hO.rules (R:=[6,0]++List.replicate n 1) (fun k hk=>by
     rcases List.mem_append.1 hk with hk | hk
     ·simp at hk;rcases hk with rfl | rfl <;> decide
     ·exact reps_in n k hk) (i:=1) (c:=0) (by simp;omega) rfl
    have e:([6,0]++List.replicate n 1).drop (1+1)=List.replicate n 1:=rfl
    rw [e,List.take_of_length_le (by simp)] at hq
    rw [hq]
    simp
   rw [e1,e2]
   decide
  ·rw [show m=n from by omega]
def lateS (m:Nat):ByteArray:=⟨(([120,97]++List.replicate m 98:List UInt8)).toArray⟩
def lateX (m:Nat):ByteArray:=lateS m++⟨#[120]⟩
def lateW (m:Nat):List ByteArray:=[⟨#[120]⟩,⟨#[97]⟩]++List.replicate m ⟨#[98]⟩
def kfL (c:Nat):Nat:=if c=97 then 0 else if c=98 then 1 else 6
def asciiB (s:ByteArray):Bool:=(List.range s.size).all fun i=>decide (byte s i<128)
theorem ascii_of {s:ByteArray} (h:asciiB s=true):Ascii s:=fun i hi=>by
 unfold asciiB at h
 rw [List.all_eq_true] at h
 exact of_decide_eq_true (h i (List.mem_range.2 hi))
theorem toThree {P:Nat→Prop} (h0:P 0) (h1:P 1) (h2:P 2) (h3:P 3):∀ n,n<4→P n:=fun n hb=>by
 rcases (show n=0∨n=1∨n=2∨n=3 by omega) with rfl | rfl | rfl | rfl
 ·exact h0
 ·exact h1
 ·exact h2
 ·exact h3
def rowOf (s:ByteArray):List Nat:=(List.range s.size).map fun i=>kfL (byte s i)
theorem lateS_ascii:∀ m,m<4→asciiB (lateS m)=true:=toThree (by kernel_rfl) (by kernel_rfl) (by kernel_rfl) (by kernel_rfl)
theorem lateX_ascii:∀ m,m<4→asciiB (lateX m)=true:=toThree (by kernel_rfl) (by kernel_rfl) (by kernel_rfl) (by kernel_rfl)
theorem lateS_row:∀ m,m<4→rowOf (lateS m)=[6,0]++List.replicate m 1:=toThree (by kernel_rfl) (by kernel_rfl) (by kernel_rfl) (by kernel_rfl)
theorem lateX_row:∀ m,m<4→rowOf (lateX m)=rowXA m 6:=toThree (by kernel_rfl) (by kernel_rfl) (by kernel_rfl) (by kernel_rfl)
theorem lateX_told:∀ m,m<4→(tellF (List.replicate (m+3) (1,.inr true)) 0 (lateX m) []).2.2.2=lateW m++[⟨#[120]⟩]:=toThree (by kernel_rfl) (by kernel_rfl) (by kernel_rfl) (by kernel_rfl)
theorem lateS_first:∀ m,m<4→(lateS m).extract 0 (0+1)=⟨#[120]⟩:=toThree (by kernel_rfl) (by kernel_rfl) (by kernel_rfl) (by kernel_rfl)
theorem rest_row {L:List (Int × Int × Nat)} (hp:L.Perm lateL) {H:List Hd} {V:List Vw} {T:ByteArray} (hT:Ascii T) {C:List (Nat × Nat)} {l:List ByteArray} {s:FS} (h:Rests H V L T C l s):C=(rowOf T).map fun k=>(k,1):=by
 obtain ⟨_,h2,h3⟩:=h.ascii hT
 obtain ⟨e1,e2⟩:=chars_ascii hp late_kinds hT h3
 refine pairs_eq ?_ ?_
 ·rw [e1,List.map_map]
  conv=>rhs;rw [show ((fun c:Nat × Nat=>c.1) ∘ fun k=>(k,1))=id from rfl,List.map_id]
  rfl
 ·rw [e2,List.map_map]
  unfold rowOf
  rw [List.map_map]
  refine List.ext_getElem? fun i=>?_
  rw [List.getElem?_replicate,List.getElem?_map]
  split
  ·rename_i hi;rw [List.getElem?_range hi];rfl
  ·rename_i hi;rw [List.getElem?_eq_none (by simp;omega)];rfl
theorem run_at {Ls:List RuleM} {ks:List Nat} {J:AJ} {X K:List Spt} {H:List Hd} {V:List Vw} {MC MJ:List Bool} (h:OutS Ls ks J X K H V MC MJ) (hV:StaysV (setTo V.length (setF MC MJ) V) ks) {R:List Nat} (hR:∀ k ∈ R,k ∈ ks) {i:Nat} (hi:i<R.length):∃ v,(runC H (setTo V.length (setF MC MJ) V) (R.map fun k=>(k,1))).1[i]?=some (stA (setTo V.length (setF MC MJ) V) 1 v)∧K[v]?=some (seenK J R (i+1)):=by
 have e1:(R.map fun k=>(k,1)).map (fun c=>c.1)=R:=by rw [List.map_map];exact List.map_id R
 obtain ⟨v,h1,h2⟩:=(views_at h V.length (setF MC MJ) R hR).2 i hi
 refine ⟨v,?_,h2⟩
 rw [(run_views H hV _ (fun c hc=>by obtain ⟨k,hk,rfl⟩:=List.mem_map.1 hc;exact hR k hk)).2,e1,List.getElem?_map]
 have h3:((R.map fun k=>(k,1)).map fun c=>c.2)[i]?=some 1:=by rw [List.map_map,List.getElem?_map,List.getElem?_eq_getElem hi];rfl
 have h4:(((R.map fun k=>(k,1)).map fun c=>c.2).zip (viewsK H (setTo V.length (setF MC MJ) V) R).1)[i]?=some (1,v):=List.getElem?_zip_eq_some.2 ⟨h3,h1⟩
 rw [h4]
 rfl
theorem stA_cut {Ls:List RuleM} {ks:List Nat} {J:AJ} {X K:List Spt} {H:List Hd} {V:List Vw} {MC MJ:List Bool} (h:OutS Ls ks J X K H V MC MJ) {R:List Nat} {i v:Nat} (hi:i≤R.length) (hv:K[v]?=some (seenK J R i)) (hc:∀ d:List Nat,(∀ k ∈ d,k ∈ ks)→flagK J (R++d) i=true):stA (setTo V.length (setF MC MJ) V) 1 v=(1,.inr true):=by
 have h1:stlV (setTo V.length (setF MC MJ) V) v=true:=(stl_text h hi hv).2 ⟨true,hc⟩
 rw [stA_settled 1 h1,cutV_set,(view_flag h hv).2]
 have:=hc [] (fun k hk=>by simp at hk)
 rw [List.append_nil] at this
 rw [this]
theorem late_cut {n:Nat} (h1:1≤n) (h4:n≤4) {J:AJ} (hJ:JOk (read2 (lateT n)).2 J) {R:List Nat} (hk:∀ k ∈ R,k ∈ KsL) {i c:Nat} (hc:R[i]?=some c) (hno:c ≠ 0∨∀ d:List Nat,¬ ((R.drop (i+1))++d).take n=List.replicate n 1):∀ d:List Nat,(∀ k ∈ d,k ∈ KsL)→flagK J (R++d) (i+1)=true:=by
 intro d hd
 have hi:=(List.getElem?_eq_some_iff.1 hc).1
 have hall:∀ k ∈ R++d,k ∈ KsL:=fun k hm=>by
  rcases List.mem_append.1 hm with hm | hm
  ·exact hk k hm
  ·exact hd k hm
 rcases Nat.lt_or_ge (i+1) (R++d).length with hl | hl
 ·rw [late_flag h1 h4 hJ hall hl (c:=c) (by rw [List.getElem?_append_left hi];exact hc),List.drop_append_of_le_length (by omega)]
  rcases hno with h0 | h0
  ·simp [h0]
  ·simp [h0 d]
 ·have e:i+1=(R++d).length:=by rw [List.length_append] at hl ⊢;omega
  rw [e]
  exact flag_end J _
theorem late_all {n m:Nat} (h1:1≤n) (h4:n≤4) (hm:m<n) {L:List (Int × Int × Nat)} (hp:L.Perm lateL) {H:List Hd} {V:List Vw} (hR:RulP (read2 (lateT n)).2 L KsL H V) {C:List (Nat × Nat)} {l:List ByteArray} {s:FS} (h:Rests H V L (lateX m) C l s):l=lateW m++[⟨#[120]⟩]:=by
 have hC:=rest_row hp (ascii_of (lateX_ascii m (by omega))) h
 rw [lateX_row m (by omega)] at hC
 have hst:=hR.stays
 obtain ⟨J,X,K,V0,MC,MJ,hO,rfl⟩:=hR.out
 have hin:=rowXA_in (m:=m) (k:=6) (by decide)
 have hlen:(rowXA m 6).length=m+3:=by unfold rowXA;simp
 have hrun:(runC H (setTo V0.length (setF MC MJ) V0) C).1=List.replicate (m+3) (1,.inr true):=by
  refine List.ext_getElem? fun i=>?_
  rw [List.getElem?_replicate]
  split
  ·rename_i hi
   obtain ⟨v,g1,g2⟩:=run_at hO hst hin (i:=i) (by omega)
   rw [hC,g1]
   have hil:i<(rowXA m 6).length:=by omega
   refine congrArg some (stA_cut hO (by omega) g2 (late_cut h1 h4 hO.rules hin (List.getElem?_eq_getElem hil) ?_))
   by_cases hi1:i=1
   ·right
    subst hi1
    intro d
    rw [show (rowXA m 6).drop (1+1)=List.replicate m 1++[6] from rfl]
    intro e
    have e2:(((List.replicate m 1++[6])++d).take n)[m]?=(List.replicate n 1)[m]?:=by rw [e]
    rw [List.getElem?_take,if_pos hm,List.getElem?_replicate,if_pos hm,List.getElem?_append_left (by simp),List.getElem?_append_right (by simp)] at e2
    simp at e2
   ·left
    intro e
    have e2:(rowXA m 6)[i]?=some 0:=by rw [List.getElem?_eq_getElem hil,e]
    unfold rowXA at e2
    match i,hi1,e2 with
    | 0,_,e2=>simp at e2
    | i+2,_,e2 =>
     have e3:(List.replicate m 1++[6])[i]?=some 0:=e2
     have:=List.mem_of_getElem? e3
     simp at this
  ·rename_i hi
   rw [List.getElem?_eq_none]
   rw [runC_len,hC,List.length_map,hlen]
   omega
 have t:=h.fl.hist.tel
 rw [h.told,List.append_nil,hrun] at t
 have t2:=lateX_told m (by omega)
 rw [t] at t2
 exact t2
theorem late_rest {n m:Nat} (h1:1≤n) (h4:n≤4) (hm:m<n) {L:List (Int × Int × Nat)} (hp:L.Perm lateL) {H:List Hd} {V:List Vw} (hR:RulP (read2 (lateT n)).2 L KsL H V) {C:List (Nat × Nat)} {l:List ByteArray} {s:FS} (h:Rests H V L (lateS m) C l s):l=[⟨#[120]⟩]:=by
 have hC:=rest_row hp (ascii_of (lateS_ascii m (by omega))) h
 rw [lateS_row m (by omega)] at hC
 have hst:=hR.stays
 obtain ⟨J,X,K,V0,MC,MJ,hO,rfl⟩:=hR.out
 have hin:∀ k ∈ [6,0]++List.replicate m 1,k ∈ KsL:=fun k hk=>by
  rcases List.mem_append.1 hk with hk | hk
  ·simp at hk;rcases hk with rfl | rfl <;> decide
  ·exact reps_in m k hk
 obtain ⟨u,g1,g2⟩:=run_at hO hst hin (i:=0) (by simp)
 obtain ⟨v,k1,k2⟩:=run_at hO hst hin (i:=1) (by simp)
 rw [← hC] at g1 k1
 rw [stA_cut hO (by simp) g2 (late_cut h1 h4 hO.rules hin (i:=0) (c:=6) rfl (Or.inl (by decide)))] at g1
 have hun:stlV (setTo V0.length (setF MC MJ) V0) v=false:=by
  have hq:=not_settled hO (R:=[6,0]++List.replicate m 1) (i:=2) (v:=v) (by simp) k2 (b:=[]) (c:=[6]) (d:=List.replicate (n - m) 1) (fun k hk=>by simp at hk) (by decide) (reps_in _) ?_
  ·exact hq
  ·have e1:flagK J (([6,0]++List.replicate m 1)++([]++[6])) 2=true:=by
    have hq:=late_flag h1 h4 hO.rules (R:=[6,0]++(List.replicate m 1++[6])) (rowXA_in (m:=m) (k:=6) (by decide)) (i:=1) (c:=0) (by simp) rfl
    have e:([6,0]++(List.replicate m 1++[6])).drop (1+1)=List.replicate m 1++[6]:=rfl
    have:=reps_take n m 6 (by omega) (by decide)
    rw [e] at hq
    rw [List.nil_append,List.append_assoc,hq]
    simp only [this,decide_false,Bool.and_false,Bool.not_false]
   have e2:flagK J (([6,0]++List.replicate m 1)++([]++List.replicate (n - m) 1)) 2=false:=by
    rw [List.nil_append,List.append_assoc,List.replicate_append_replicate,show m+(n - m)=n from by omega]
    have hq:=late_flag h1 h4 hO.rules (R:=[6,0]++List.replicate n 1) (fun k hk=>by
     rcases List.mem_append.1 hk with hk | hk
     ·simp at hk;rcases hk with rfl | rfl <;> decide
     ·exact reps_in n k hk) (i:=1) (c:=0) (by simp;omega) rfl
    have e:([6,0]++List.replicate n 1).drop (1+1)=List.replicate n 1:=rfl
    rw [e,List.take_of_length_le (by simp)] at hq
    rw [hq]
    simp
   rw [e1,e2]
   decide
 have e2:stA (setTo V0.length (setF MC MJ) V0) 1 v=(1,.inl v):=by unfold stA stG;rw [hun];rfl
 rw [e2] at k1
 obtain ⟨Y,hY⟩:∃ Y,(runC H (setTo V0.length (setF MC MJ) V0) C).1=(1,.inr true) :: (1,.inl v) :: Y:=by
  generalize (runC H (setTo V0.length (setF MC MJ) V0) C).1=A at g1 k1
  match A,g1,k1 with
  | a :: b :: Y,g1,k1 =>
   simp at g1 k1
   exact ⟨Y,by rw [g1,k1]⟩
 have t:=h.fl.hist.tel
 rw [h.told,List.append_nil,hY] at t
 have t2:[(lateS m).extract 0 (0+1)]=l:=congrArg (fun x=>x.2.2.2) t
 rw [← t2,lateS_first m (by omega)]
end Go.Proofs.YtodagkkjfipbgaaGreatDoor
namespace Go.Proofs.YtodagkkjfipbgaaGreatDoor
open Go.RowKit Go.Maps
def asciiP (s:ByteArray):ByteArray:=⟨s.data.map (· &&& 127)⟩
theorem cell_of_mark {w:World} {b:Nat} {cs:Array Value} {t:TypeId} {m:Nat × Nat} (h:w.heap[b]?=some (.cells cs t m)) (o:Nat) (v:Value) (hv:cs[o]?=some v):w.cell? ⟨b,o,none⟩=some v:=by
 simp [World.cell?,h,hv]
theorem free_of_mark {w:World} {b:Nat} {cs:Array Value} {t:TypeId} {m n:Nat} (h:w.heap[b]?=some (.cells cs t (m,n))) (o:Nat) (ho:o<m):w.frozen? ⟨b,o,none⟩=false:=by
 simp [World.frozen?,h]
 omega
theorem mark_setCell {w:World} {b:Nat} {cs:Array Value} {t:TypeId} {m:Nat × Nat} (h:w.heap[b]?=some (.cells cs t m)) (o:Nat) (u:Value) :
  (w.setCell ⟨b,o,none⟩ u).heap[b]?=some (.cells (cs.setIfInBounds o u) t m):=by
 simp [World.setCell,Array.getElem?_modify,h]
theorem alloc_mark (w:World) (o:Obj):(w.drew.alloc o).heap[w.heap.size]?=some o:=by
 show (w.heap.push o)[w.heap.size]?=_
 simp
def half (s:ByteArray) (i j:Nat):Nat:=if j<i then (s.get! j).toNat % 128 else (s.get! j).toNat
structure HalfIn (w0 w:World) (s:ByteArray) (i m:Nat):Prop where
 blk:∃ C,w.heap[w0.heap.size]?=some (.cells C 5 (m,m+1))∧∀ j,j<s.size→C[j]?=some (.int .u8 (half s i j:Nat))
 fits:s.size≤m
 bel:Below w0.heap.size w0 w
theorem HalfIn.next {w0 w:World} {s:ByteArray} {i m:Nat} (h:HalfIn w0 w s i m) (hi:i<s.size):HalfIn w0 (w.setCell ⟨w0.heap.size,i,none⟩ (.int .u8 ((s.get! i).toNat % 128:Nat))) s (i+1) m:=by
 obtain ⟨⟨C,h1,h2⟩,h3,h4⟩:=h
 refine ⟨⟨_,mark_setCell h1 i _,fun j hj=>?_⟩,h3,h4.setCell (Nat.le_refl _) _⟩
 have hiC:i<C.size:=by
  rcases Nat.lt_or_ge i C.size with h | h
  ·exact h
  ·have:=h2 i hi;rw [Array.getElem?_eq_none h] at this;cases this
 rw [Array.getElem?_setIfInBounds]
 by_cases e:i=j
 ·subst e
  rw [if_pos rfl,if_pos hiC]
  unfold half
  rw [if_pos (by omega)]
 ·rw [if_neg e,h2 j hj]
  unfold half
  by_cases e2:j<i
  ·rw [if_pos e2,if_pos (by omega)]
  ·rw [if_neg e2,if_neg (by omega)]
theorem HalfIn.cell {w0 w:World} {s:ByteArray} {i m:Nat} (h:HalfIn w0 w s i m) {j:Nat} (hj:j<s.size):w.cell? ⟨w0.heap.size,j,none⟩=some (.int .u8 (half s i j:Nat))∧w.frozen? ⟨w0.heap.size,j,none⟩=false:=by
 obtain ⟨⟨C,h1,h2⟩,h3,h4⟩:=h
 exact ⟨cell_of_mark h1 j _ (h2 j hj),free_of_mark h1 j (by omega)⟩
theorem get_data (s:ByteArray) (j:Nat) (hj:j<s.size):s.get! j=s.data[j]'hj:=by
 have:s.get! j=s.data[j]!:=rfl
 rw [this,getElem!_pos s.data j hj]
open Go.Lib
theorem strCells_app (a b:List ByteArray):strCells (a++b)=strCells a++strCells b:=by unfold strCells;simp
theorem strCells_len (a:List ByteArray):(strCells a).length=a.length:=by unfold strCells;simp
theorem one_strs (l:List ByteArray):∀ u ∈ strCells l,u.oneCell'=true:=by
 intro u hu
 unfold strCells at hu
 obtain ⟨x,_,rfl⟩:=List.mem_map.1 hu
 rfl
theorem bytes_in (W:World) (x:ByteArray) (c:Nat) (m:Nat × Nat):∀ j u,(byCells x)[j]?=some u→(W.drew.alloc (.cells (bytesRow x c) 5 m)).cell? ((⟨W.heap.size,0,none⟩:Addr).add j)=some u:=fun j u hu=>by
 have hj:j<x.size:=by rw [← byCells_len];exact (List.getElem?_eq_some_iff.1 hu).1
 rw [show (⟨W.heap.size,0,none⟩:Addr).add j=⟨W.heap.size,0+j,none⟩ from by unfold Addr.add;split <;> simp_all,Nat.zero_add]
 refine cell_of_mark (alloc_mark W _) j u ?_
 rw [bytesRow_at x c j hj,← hu,byCells_at x j hj,get_data x j hj]
def KPost (w:World) (H:List Hd) (V:List Vw) (L:List (Int × Int × Nat)) (P:List ByteArray) (cl:Bool) (r:Ending) (w':World):Prop:=∃ v told C l s,r=.returned (.tuple #[v,.bool true])∧w'.ownsRow w.heap.size 9 1 v told.length (strCells told)∧told.length≤5000∧Below w.heap.size w w'∧Rests H V L (joinB P) C l s∧told=if cl then l++(endS H V s).told else l
set_option maxRecDepth 100000 in
set_option maxHeartbeats 8000000 in
theorem kflow_any (w:World) (gR:Nat) (H:List Hd) (V:List Vw) (L:List (Int × Int × Nat)) (ks:List Nat) (hE:FEnv w gR H V L ks) (P:List ByteArray) (vP:Value) (base:Nat) (hP:w.ownsRow base 9 1 vP P.length (strCells P)) (hsz:(joinB P).size≤5000) (hl:P.length≤1500000) (cl:Bool) :
  Calls Tryz.prog 37 #[.pointer (some ⟨gR,0,none⟩),vP,.bool cl] w fun r w'=>KPost w H V L P cl r w':=by
 have kc:=fun (W:World) (x:ByteArray)=>run_bytes_of_string (P:=Tryz.prog) W 9 63 5 x Tryz.underlying9 Tryz.underlying63 Tryz.underlying5
 obtain ⟨iS,hiS,hz0,hz1,hz2⟩:=info_parts Tryz.infoSg
 obtain ⟨aoP,capP,rfl⟩:=row_shape hP
 have ho:=open_any w gR 100000 H V L ks hE (by decide) (by decide)
 have HE:Hid (FEnv w gR H V L ks):=hE
 have HP:Hid (w.ownsRow base 9 1 (.slice aoP P.length capP) P.length (strCells P)):=hP
 clear hE hP
 go_enter Tryz.func37,Tryz.ntmps37
 go_wp2_with fail
 refine ho.mono ?_
 rintro r w1 ⟨p,f,rfl,hp,hS,b1⟩
 have K0:Hid (KF w w1 p f gR H V L ⟨#[]⟩ (.slice none 0 0) []):=KF.start L hS b1
 clear ho hp hS b1
 go_wp2_with fail
 go_loopg [10,11] P.length (fun gh ov iv wx=>∃ (i:Nat) (told:List ByteArray) (ao:Option Addr) (cap:Nat),i≤P.length∧gh=P.length - i∧ov=.slice ao told.length cap∧iv=.int .i64 i∧Hid (KF w wx p f gR H V L (joinB (P.take i)) (.slice ao told.length cap) told))
 case atStart=>exact ⟨0,[],none,0,Nat.zero_le _,rfl,rfl,rfl,K0⟩
 case round =>
  obtain ⟨i,told,ao,cap,hi,rfl,rfl,rfl,hK⟩:=hrel
  obtain ⟨w2,hw2⟩:∃ w2,w2=wr:=⟨wr,rfl⟩
  subst hw2
  clear K0
  have hjt:=joinB_take P i
  by_cases hlt:i<P.length
  ·obtain ⟨x,hx⟩:∃ x,P[i]?=some x:=⟨P[i],List.getElem?_eq_getElem hlt⟩
   have hd1:decide ((i:Int)<(P.length:Int))=true:=decide_eq_true (by omega)
   have HJ:Hid (joinB (P.take (i+1))=joinB (P.take i)++x):=by
    show _=_
    rw [List.take_add_one,hx]
    exact joinB_snoc _ _
   have hax:(joinB (P.take i)).size+x.size≤5000:=by
    have h1:=joinB_take P (i+1)
    rw [HJ.out,ByteArray.size_append] at h1
    exact Nat.le_trans h1 hsz
   obtain ⟨q,hq,_,hc⟩:=row_at (row_kp HP.out (Kp.below hK.out.bel)) (strCells_at hx) (by omega)
   subst hq
   obtain ⟨cb,hcb⟩:∃ cb,cb=grownCap w2 x.size 0 5:=⟨_,rfl⟩
   obtain ⟨m,hm⟩:∃ m,m=((bytesRow x cb).size,(bytesRow x cb).size+1):=⟨_,rfl⟩
   have hwr:=hK.out.write HE.out (x:=x) (by omega) (wy:=w2.drew.alloc (.cells (bytesRow x cb) 5 m)) (((Below.refl _ _).drew).alloc (Nat.le_refl _) _) (ad:=⟨w2.heap.size,0,none⟩) (cb:=cb) (bytes_in w2 x cb m)
   clear hx hK hjt
   generalize joinB (P.take i)=T at HJ hax hwr
   subst hm
   subst hcb
   go_wp2_with fail
   refine hwr.mono ?_
   rintro r w3 ⟨ao3,cap3,news,rfl,hrow3,hN⟩
   have N3:Hid (KFN w w3 p f gR H V L (T++x) (.slice ao told.length cap) told news):=hN
   have R3:Hid (∃ base,w3.ownsRow base 9 1 (.slice ao3 news.length cap3) news.length (strCells news)):=⟨_,hrow3⟩
   have hfw:=hN.few
   have hfz:(T++x).size=T.size+x.size:=ByteArray.size_append
   clear hwr hrow3 hN
   cases ao3 with
   | none =>
    have h0:news=[]∧cap3=0:=by
     obtain ⟨bs3,hr3⟩:=R3.out
     rcases hr3.2 with ⟨e1,e2⟩ | ⟨g,c,cur,e1,_⟩
     ·injection e1 with _ _ e3
      exact ⟨List.eq_nil_of_length_eq_zero e2,e3⟩
     ·simp at e1
    obtain ⟨rfl,rfl⟩:=h0
    have K3:Hid (KF w w3 p f gR H V L (T++x) (.slice ao told.length cap) told):=N3.out.none
    clear N3 R3
    go_wp2_with (at_builtin;go_loud (refine wpList_append_own_none rfl (.tmp 45) (.tmp 46) 30 rfl w.heap.size 9 iS 1 Tryz.undSg hiS (.slice ao told.length cap) told.length (strCells told) rfl K3.out.row rfl ?_))
    go_roundg (P.length - (i+1))
    case measure=>omega
    case rel=>exact ⟨i+1,told,ao,cap,by omega,rfl,rfl,by go_num,by rw [HJ.out];exact K3⟩
   | some a3 =>
    obtain ⟨bs3,hr3⟩:=R3.out
    have ha3:∃ g3,a3=⟨g3,0,none⟩:=by
     rcases hr3.2 with ⟨e1,_⟩ | ⟨g,c,cur,e1,_⟩
     ·simp at e1
     ·injection e1 with e1 _ _
      injection e1 with e1
      exact ⟨g,e1⟩
    obtain ⟨g3,rfl⟩:=ha3
    have NW:Hid (∀ j u,(strCells news)[j]?=some u→w3.cell? ((⟨g3,0,none⟩:Addr).add j)=some u):=hr3.cells (g:=g3) rfl
    have HL:Hid ((strCells news).length=news.length * 1):=by show _=_;rw [strCells_len,Nat.mul_one]
    have LA:w.heap.size≤w3.heap.size:=N3.out.bel.size
    have hm1:told.length+news.length≤maxLen:=by unfold maxLen;omega
    have hm2:(told.length+news.length) * 16≤140737488355328:=by omega
    clear hr3 R3
    go_wp2_with (at_builtin;go_loud (refine wpList_append_own_at _ rfl (.tmp 45) (.tmp 46) 30 rfl w.heap.size 9 iS (.string ⟨#[]⟩) 1 16 Tryz.undSg hiS hz0 hz1 hz2 rfl (by decide) (.slice ao told.length cap) told.length (strCells told) rfl N3.out.row ⟨g3,0,none⟩ news.length cap3 (strCells news) rfl HL.out NW.out (one_strs news) hm1 hm2 LA ?_);intro v' W4 hown hgr hnl hat;obtain ⟨ao4,cap4,rfl⟩:=row_shape hown;have E4:Hid (told.length+news.length=(told++news).length):=(List.length_append).symm;have K4:Hid (KF w W4 p f gR H V L (T++x) (.slice ao4 (told.length+news.length) cap4) (told++news)):=(N3.out.app HE.out hgr (by rw [strCells_app,← E4.out];exact hown) hat);clear hown hgr hnl hat)
    go_wp2_with fail
    go_roundg (P.length - (i+1))
    case measure=>omega
    case rel=>exact ⟨i+1,told++news,ao4,cap4,by omega,rfl,by rw [← E4.out],by go_num,by rw [HJ.out,← E4.out];exact K4⟩
  ·obtain rfl:i=P.length:=by omega
   have hd1:decide ((P.length:Int)<(P.length:Int))=false:=decide_eq_false (by omega)
   rw [List.take_length] at hK hjt
   cases cl with
   | false =>
    obtain ⟨S,s,C,_,_,hR,_⟩:=hK.out.ex
    have RR:Hid (Rests H V L (joinB P) C told s):=hR
    have hfw:=hR.few HE.out.kinds
    clear hR
    go_wp2_with fail
    go_ret2
    exact ⟨_,told,C,told,s,rfl,hK.out.row,by omega,hK.out.bel,RR.out,rfl⟩
   | true =>
    have hcl:=hK.out.close HE.out
    clear hK
    go_wp2_with fail
    refine hcl.mono ?_
    rintro r w3 ⟨ao3,cap3,news,C,s,rfl,hrow3,hrow0,hb3,hR,hnw,hfw⟩
    have R3:Hid (∃ base,w3.ownsRow base 9 1 (.slice ao3 news.length cap3) news.length (strCells news)):=⟨_,hrow3⟩
    have R0:Hid (w3.ownsRow w.heap.size 9 1 (.slice ao told.length cap) told.length (strCells told)):=hrow0
    have B3:Hid (Below w.heap.size w w3):=hb3
    have RR:Hid (Rests H V L (joinB P) C told s):=hR
    have NN:Hid (news=(endS H V s).told):=hnw
    clear hcl hrow3 hrow0 hb3 hR hnw
    cases ao3 with
    | none =>
     have h0:news=[]∧cap3=0:=by
      obtain ⟨bs3,hr3⟩:=R3.out
      rcases hr3.2 with ⟨e1,e2⟩ | ⟨g,c,cur,e1,_⟩
      ·injection e1 with _ _ e3
       exact ⟨List.eq_nil_of_length_eq_zero e2,e3⟩
      ·simp at e1
     obtain ⟨e0,rfl⟩:=h0
     have EE:Hid (told=told++(endS H V s).told):=by show _=_;rw [← NN.out,e0,List.append_nil]
     rw [show news.length=0 from by rw [e0];rfl]
     clear R3 e0 NN
     go_wp2_with (at_builtin;go_loud (refine wpList_append_own_none rfl (.tmp 56) (.tmp 57) 30 rfl w.heap.size 9 iS 1 Tryz.undSg hiS (.slice ao told.length cap) told.length (strCells told) rfl R0.out rfl ?_))
     go_ret2
     exact ⟨_,told,C,told,s,rfl,R0.out,by omega,B3.out,RR.out,EE.out⟩
    | some a3 =>
     obtain ⟨bs3,hr3⟩:=R3.out
     have ha3:∃ g3,a3=⟨g3,0,none⟩:=by
      rcases hr3.2 with ⟨e1,_⟩ | ⟨g,c,cur,e1,_⟩
      ·simp at e1
      ·injection e1 with e1 _ _
       injection e1 with e1
       exact ⟨g,e1⟩
     obtain ⟨g3,rfl⟩:=ha3
     have NW:Hid (∀ j u,(strCells news)[j]?=some u→w3.cell? ((⟨g3,0,none⟩:Addr).add j)=some u):=hr3.cells (g:=g3) rfl
     have HL:Hid ((strCells news).length=news.length * 1):=by show _=_;rw [strCells_len,Nat.mul_one]
     have LA:w.heap.size≤w3.heap.size:=B3.out.size
     have hm1:told.length+news.length≤maxLen:=by unfold maxLen;omega
     have hm2:(told.length+news.length) * 16≤140737488355328:=by omega
     have EE:Hid (told++news=told++(endS H V s).told):=by show _=_;rw [← NN.out]
     clear hr3 R3 NN
     go_wp2_with (at_builtin;go_loud (refine wpList_append_own_at _ rfl (.tmp 56) (.tmp 57) 30 rfl w.heap.size 9 iS (.string ⟨#[]⟩) 1 16 Tryz.undSg hiS hz0 hz1 hz2 rfl (by decide) (.slice ao told.length cap) told.length (strCells told) rfl R0.out ⟨g3,0,none⟩ news.length cap3 (strCells news) rfl HL.out NW.out (one_strs news) hm1 hm2 LA ?_);intro v' W4 hown hgr hnl hat;obtain ⟨ao4,cap4,rfl⟩:=row_shape hown;have E4:Hid (told.length+news.length=(told++news).length):=(List.length_append).symm;have R4:Hid (W4.ownsRow w.heap.size 9 1 (.slice ao4 (told.length+news.length) cap4) (told++news).length (strCells (told++news))):=(by rw [strCells_app,← E4.out];exact hown);have B4:Hid (Below w.heap.size w W4):=B3.out.grown hgr LA (fun k hk=>(R0.out.lt k hk).1);clear hown hgr hnl hat)
     go_wp2_with fail
     go_ret2
     exact ⟨_,told++news,C,told,s,rfl,R4.out,by rw [← E4.out];omega,B4.out,RR.out,EE.out⟩
def shStep (st:Nat × List ByteArray) (s:ByteArray):Nat × List ByteArray:=(st.1+s.size,if st.1+s.size≤5000 then st.2++[s] else st.2)
def shortSt (P:List ByteArray) (i:Nat):Nat × List ByteArray:=(P.take i).foldl shStep (0,[])
def shortP (P:List ByteArray):List ByteArray:=(shortSt P P.length).2
theorem cell_ltA {w:World} {a:Addr} {v:Value} (h:w.cell? a=some v):a.block<w.heap.size:=by
 unfold World.cell? at h
 cases hh:w.heap[a.block]? with
 | none=>rw [hh] at h;simp at h
 | some x=>exact (Array.getElem?_eq_some_iff.1 hh).1
def ArgS (w:World) (v:Value) (P:List ByteArray):Prop:=(v=.slice none 0 0∧P=[])∨∃ a cap,v=.slice (some a) P.length cap∧∀ (i:Nat) (s:ByteArray),P[i]?=some s→w.cell? (a.add i)=some (.string s)
theorem ArgS.shape {w:World} {v:Value} {P:List ByteArray} (h:ArgS w v P):∃ ao cap,v=.slice ao P.length cap:=by
 rcases h with ⟨rfl,rfl⟩ | ⟨a,cap,rfl,_⟩
 ·exact ⟨none,0,rfl⟩
 ·exact ⟨_,cap,rfl⟩
theorem ArgS.at {w w':World} {ao:Option Addr} {n cap:Nat} {P:List ByteArray} (h:ArgS w (.slice ao n cap) P) (hb:Below w.heap.size w w') {i:Nat} {s:ByteArray} (hs:P[i]?=some s):∃ a,ao=some a∧w'.cell? (a.add i)=some (.string s):=by
 rcases h with ⟨_,rfl⟩ | ⟨a,c,e,hc⟩
 ·simp at hs
 ·injection e with e _ _
  subst e
  have h1:=hc i s hs
  exact ⟨a,rfl,(hb.cell (p:=a.add i) (cell_ltA h1)).trans h1⟩
theorem same_eq (ba bb:Nat) (va vb:Value) (l:List ByteArray) (w:World) (ha:w.ownsRow ba 9 1 va l.length (strCells l)) (hb:w.ownsRow bb 9 1 vb l.length (strCells l)) (hl:l.length≤1500000) :
  Calls Tryz.prog 28 #[va,vb] w fun r w'=>r=.returned (.bool true)∧Below w.heap.size w w':=by
 have h:=keepSame_any ba bb va vb l l w ha hb (by omega)
 rw [show decide (l=l)=true from by simp] at h
 exact h
theorem joinB_one (s:ByteArray):joinB [s]=s:=by
 apply ba_ext
 rw [ByteArray.toList_eq,ByteArray.toList_eq]
 simp [joinB]
theorem RulesAt.stream {T:ByteArray} {w:World} {g:Nat} (h:RulesAt T w (.pointer (some ⟨g,0,none⟩))) (h0:(rdT T).err=0) (hV:VarsOk w):∃ vE vJ vP vH vV L H V,RulesIn w g T vE vJ vP vH vV L∧FEnv w g H V L (possOf L)∧RulP (read2 T).2 L (possOf L) H V:=by
 obtain ⟨g',vE,vJ,vP,vH,vV,L,e,h⟩:=h
 cases e
 obtain ⟨H,V,h1,h2⟩:=rules_stream h h0 hV
 exact ⟨vE,vJ,vP,vH,vV,L,H,V,h,h1,h2⟩
def cutTo (s:ByteArray):ByteArray:=if 1000<s.size then s.extract 0 1000 else s
theorem rules_delay {T:ByteArray} {w:World} {g:Nat} {vE vJ vP vH vV:Value} {L:List (Int × Int × Nat)} {H:List Hd} {V:List Vw} (hI:RulesIn w g T vE vJ vP vH vV L) (hE:FEnv w g H V L (possOf L)) (hU:RulP (read2 T).2 L (possOf L) H V):Calls Tryz.prog 31 #[.pointer (some ⟨g,0,none⟩)] w fun r w'=>(∃ z:Int,r=.returned (.int .i64 z)∧delayIs V (possOf L) z)∧Below w.heap.size w w':=by
 obtain ⟨_,_,_,_,_,_,_,_,hP,_⟩:=hI.out
 obtain ⟨_,_,_,V0,_,_,hO,rfl⟩:=hU.out
 exact delay_any g _ _ w hE.lk.v ⟨vP,cell_of_block hI.blk 2 _ rfl,hP⟩ ⟨_,hI.blk⟩ (possOf_lt L) (fun e=>by have:=hE.bad;rw [e] at this;simp at this) (possOf_len L) hE.nxt (by rw [setTo_len];exact hO.few.2)
def pickP (c:Int) (n:Nat):Nat:=((if c<0 then -(c+1) else c) % (n:Int)).toNat
theorem pickP_lt (c:Int) {n:Nat} (hn:1≤n):pickP c n<n:=by
 unfold pickP
 have h1:=Int.emod_nonneg (if c<0 then -(c+1) else c) (b:=(n:Int)) (by omega)
 have h2:=Int.emod_lt_of_pos (if c<0 then -(c+1) else c) (b:=(n:Int)) (by omega)
 omega
theorem pickP_is {c:Int} (hc:0≤c) {n:Nat} (hn:1≤n):c.tmod (n:Int)=(pickP c n:Nat):=by
 unfold pickP
 rw [if_neg (by omega),Int.tmod_eq_emod_of_nonneg hc]
 have h1:=Int.emod_nonneg c (b:=(n:Int)) (by omega)
 omega
theorem pickP_neg {c:Int} (hc:c<0) (n:Nat):pickP c n=pickP (-(c+1)) n:=by
 unfold pickP
 rw [if_pos hc,if_neg (by omega)]
set_option maxRecDepth 100000 in
set_option maxHeartbeats 1000000 in
theorem pick_any (c:Int) (n:Nat) (w:World) (hc1:-9223372036854775808≤c) (hc2:c≤9223372036854775807) (hn1:1≤n) (hn2:n≤1000) :
  Calls Tryz.prog 38 #[.int .i64 c,.int .i64 n] w fun r w'=>r=.returned (.int .i64 (pickP c n:Nat))∧w'=w:=by
 by_cases h:c<0
 ·have hd:decide (c<0)=true:=decide_eq_true h
  have e1:wrap64 (c+1)=c+1:=by unfold wrap64;omega
  have e2:wrap64 (-(c+1))=-(c+1):=by unfold wrap64;omega
  have e3:(-(c+1)).tmod (n:Int)=(pickP c n:Nat):=by rw [pickP_neg h];exact pickP_is (by omega) hn1
  have hlt:=pickP_lt c hn1
  go_enter Tryz.func38,Tryz.ntmps38
  go_wp2_with fail
  go_ret
  exact ⟨rfl,rfl⟩
 ·have hd:decide (c<0)=false:=decide_eq_false h
  have e3:c.tmod (n:Int)=(pickP c n:Nat):=pickP_is (by omega) hn1
  have hlt:=pickP_lt c hn1
  go_enter Tryz.func38,Tryz.ntmps38
  go_wp2_with fail
  go_ret
  exact ⟨rfl,rfl⟩
def digB (i:Nat):UInt8:=UInt8.ofNat (48+i)
end Go.Proofs.YtodagkkjfipbgaaGreatDoor
