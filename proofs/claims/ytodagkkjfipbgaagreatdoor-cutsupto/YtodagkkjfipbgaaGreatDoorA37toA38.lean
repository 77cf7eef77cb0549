import Derived.Test.YtodagkkjfipbgaaGreatDoorN2toA36
namespace Go.Proofs.YtodagkkjfipbgaaGreatDoor
open Go.RowKit
def kRows (n:Nat):List (Nat × Nat × Nat):=[(8,30,1),(9,31,n+1),(13,35,2),(14,36,n+2),(22,44,6),(23,45,n+6)]
def kSlots:List (Nat × Nat):=[(4,26),(8,30),(9,31),(13,35),(14,36),(22,44),(23,45),(24,46),(25,47)]
structure KI (w0:World) (bb:Nat) (l:Value) (n:Nat) (m:ByteArray) (vB:Value) (f:Nat→Bool) (a:Act) (w:World):Prop where
 ts:a.tmps.size=51
 df:a.defers=[]
 ptr:∀ k ∈ [22,25],a.eval (.tmp k)=.pointer (some ⟨bb,0,none⟩)
 lst:∀ k ∈ [27,28,32,37],a.eval (.tmp k)=l
 mrk:∀ k ∈ [29,33,34,38,39,40,41,42,43],a.eval (.tmp k)=.string m
 grown:w0.grownBy w l.ownBlock
 keep:KeepM m w0 w
 p4:f 4=true→a.eval (.tmp 26)=vB
 rows:∀ r ∈ kRows n,f r.1=true→w.ownsRow 0 9 1 (a.eval (.tmp r.2.1)) r.2.2 (marks r.2.2 m)
 p24:f 24=true→∃ q,w0.heap.size≤q∧a.eval (.tmp 46)=.slice (some ⟨q,0,none⟩) 4 4∧w.heap[q]?=some (.cells #[l,a.eval (.tmp 31),a.eval (.tmp 36),a.eval (.tmp 45)] 30 (0,0))
 p25:f 25=true→∃ q,w0.heap.size≤q∧a.eval (.tmp 47)=.slice (some ⟨q,0,none⟩) 1 1∧w.heap[q]?=some (.cells #[a.eval (.tmp 46)] 116 (0,0))
def updB (f:Nat→Bool) (i:Nat) (k:Nat):Bool:=if k=i then true else f k
theorem grown_trans {a b c:World} {r:Option Nat} (h:a.grownBy b r) (k:b.grownBy c r):a.grownBy c r :=
 ⟨k.os.trans h.os,k.tape.trans h.tape,k.output.trans h.output,Nat.le_trans h.size k.size,fun i hi hr=>(k.block i (Nat.lt_of_lt_of_le hi h.size) hr).trans (h.block i hi hr)⟩
theorem grown_refl (w:World) (r:Option Nat):w.grownBy w r:=⟨rfl,rfl,rfl,Nat.le_refl _,fun _ _ _=>rfl⟩
section
variable {w0:World} {bb:Nat} {l:Value} {n:Nat} {m:ByteArray} {vB:Value} {f:Nat→Bool} {a:Act} {w:World}
theorem KI.step (h:KI w0 bb l n m vB f a w) {i d:Nat} {v:Value} {w':World} (hd:(i,d) ∈ kSlots) (hg:w.grownBy w' l.ownBlock) (hk:KeepM m w w') (r4:i=4→v=vB) (rr:∀ k,(i,d,k) ∈ kRows n→w'.ownsRow 0 9 1 v k (marks k m))
  (r24:i=24→∃ q,w0.heap.size≤q∧v=.slice (some ⟨q,0,none⟩) 4 4∧w'.heap[q]?=some (.cells #[l,a.eval (.tmp 31),a.eval (.tmp 36),a.eval (.tmp 45)] 30 (0,0)))
  (r25:i=25→∃ q,w0.heap.size≤q∧v=.slice (some ⟨q,0,none⟩) 1 1∧w'.heap[q]?=some (.cells #[a.eval (.tmp 46)] 116 (0,0)))
  (o24:f 24=true→(i=4∨i=25)∧Below w.heap.size w w') (o25:f 25=true→i=4∧Below w.heap.size w w'):KI w0 bb l n m vB (updB f i) (a.put (some d) v) w':=by
 have hlt:d<a.tmps.size:=by rw [h.ts];exact (show ∀ x ∈ kSlots,x.2<51 by decide) _ hd
 have ev:∀ k,(a.put (some d) v).eval (.tmp k)=if k=d then v else a.eval (.tmp k):=fun k=>eval_put hlt
 have ne:∀ k ∈ [22,25,27,28,32,37,29,33,34,38,39,40,41,42,43],(a.put (some d) v).eval (.tmp k)=a.eval (.tmp k):=fun k hk=>by
  rw [ev,if_neg ((show ∀ x ∈ kSlots,∀ k ∈ [22,25,27,28,32,37,29,33,34,38,39,40,41,42,43],k ≠ x.2 by decide) _ hd k hk)]
 have sl:∀ j e,(j,e) ∈ kSlots→j ≠ i→(a.put (some d) v).eval (.tmp e)=a.eval (.tmp e):=fun j e hj hji=>by
  rw [ev,if_neg ((show ∀ x ∈ kSlots,∀ y ∈ kSlots,y.1 ≠ x.1→y.2 ≠ x.2 by decide) _ hd _ hj hji)]
 have here:∀ e,(i,e) ∈ kSlots→(a.put (some d) v).eval (.tmp e)=v:=fun e he=>by
  rw [ev,if_pos ((show ∀ x ∈ kSlots,∀ y ∈ kSlots,y.1=x.1→y.2=x.2 by decide) _ hd _ he rfl)]
 have hin:∀ r ∈ kRows n,(r.1,r.2.1) ∈ kSlots:=by
  intro r hr
  simp only [kRows,List.mem_cons,List.not_mem_nil,or_false] at hr
  rcases hr with rfl | rfl | rfl | rfl | rfl | rfl <;> simp [kSlots]
 refine ⟨?_,h.df,fun k hk=>(ne k (by revert hk;revert k;decide)).trans (h.ptr k hk),fun k hk=>(ne k (by revert hk;revert k;decide)).trans (h.lst k hk),fun k hk=>(ne k (by revert hk;revert k;decide)).trans (h.mrk k hk),grown_trans h.grown hg,h.keep.trans hk,fun hf=>?_,fun r hr hf=>?_,fun hf=>?_,fun hf=>?_⟩
 ·show (a.tmps.setIfInBounds d v).size=51;rw [Array.size_setIfInBounds];exact h.ts
 ·by_cases e:i=4
  ·rw [here 26 (by rw [e];decide),r4 e]
  ·rw [sl 4 26 (by decide) (Ne.symm e)]
   exact h.p4 (by unfold updB at hf;rw [if_neg (Ne.symm e)] at hf;exact hf)
 ·by_cases e:r.1=i
  ·have hs:=hin r hr
   rw [e] at hs
   have e2:r.2.1=d:=(show ∀ x ∈ kSlots,∀ y ∈ kSlots,y.1=x.1→y.2=x.2 by decide) _ hd _ hs rfl
   rw [here _ hs]
   refine rr _ ?_
   rw [← e,← e2];exact hr
  ·rw [sl _ _ (hin r hr) e]
   exact hk 0 _ _ (h.rows r hr (by unfold updB at hf;rw [if_neg e] at hf;exact hf))
 ·by_cases e:i=24
  ·obtain ⟨q,q1,q2,q3⟩:=r24 e
   refine ⟨q,q1,(here 46 (by rw [e];decide)).trans q2,?_⟩
   rw [sl 9 31 (by decide) (by omega),sl 14 36 (by decide) (by omega),sl 23 45 (by decide) (by omega)];exact q3
  ·have hf':f 24=true:=by unfold updB at hf;rw [if_neg (Ne.symm e)] at hf;exact hf
   obtain ⟨q,q1,q2,q3⟩:=h.p24 hf'
   obtain ⟨hi,hb⟩:=o24 hf'
   refine ⟨q,q1,(sl 24 46 (by decide) (by omega)).trans q2,?_⟩
   rw [sl 9 31 (by decide) (by omega),sl 14 36 (by decide) (by omega),sl 23 45 (by decide) (by omega),hb.block q (heap_lt q3)];exact q3
 ·by_cases e:i=25
  ·obtain ⟨q,q1,q2,q3⟩:=r25 e
   refine ⟨q,q1,(here 47 (by rw [e];decide)).trans q2,?_⟩
   rw [sl 24 46 (by decide) (by omega)];exact q3
  ·have hf':f 25=true:=by unfold updB at hf;rw [if_neg (Ne.symm e)] at hf;exact hf
   obtain ⟨hi,hb⟩:=o25 hf'
   obtain ⟨q,q1,q2,q3⟩:=h.p25 hf'
   refine ⟨q,q1,(sl 25 47 (by decide) (by omega)).trans q2,?_⟩
   rw [sl 24 46 (by decide) (by omega),hb.block q (heap_lt q3)];exact q3
theorem KI.row (h:KI w0 bb l n m vB f a w) {i d k:Nat} (hr:(i,d,k) ∈ kRows n) (hf:f i=true):w.ownsRow 0 9 1 (a.eval (.tmp d)) k (marks k m):=h.rows _ hr hf
theorem row_marks {v:Value} {k:Nat} (h:w.ownsRow 0 9 1 v k (marks k m)) (hk:0<k):∃ g c,v=.slice (some ⟨g,0,none⟩) k c∧∀ i u,(marks k m)[i]?=some u→w.cell? ((⟨g,0,none⟩:Addr).add i)=some u:=by
 rcases h.2 with ⟨_,h0⟩ | ⟨g,cap,cur,rfl,_⟩
 ·omega
 ·exact ⟨g,cap,rfl,fun i u hu=>h.cells rfl i u hu⟩
theorem alloc_marks (k:Nat) (cs:Array Value) (hc:cs.toList=marks k m) (h6:k≤6):(w.alloc (.cells cs 9)).ownsRow 0 9 1 (.slice (some ⟨w.heap.size,0,none⟩) k k) k (marks k m):=by
 have hs:cs.size=k:=by rw [← Array.length_toList,hc,marks_len]
 exact ⟨by rw [marks_len];omega,Or.inr ⟨w.heap.size,k,cs,rfl,Nat.zero_le _,heap_alloc_new w _,Nat.le_refl _,by simp only [maxLen];omega,by omega,by rw [hc,Nat.mul_one];exact List.take_of_length_le (by rw [marks_len];exact Nat.le_refl _)⟩⟩
theorem grown_alloc (r:Option Nat) (o:Obj):w.grownBy (w.alloc o) r:=World.grownBy_alloc w o r
theorem row_slice {v:Value} {k:Nat} (h:w.ownsRow 0 9 1 v k (marks k m)):∃ o c,v=.slice o k c:=row_shape h
end
set_option maxHeartbeats 4000000 in
theorem keep_reg {w0:World} {bb:Nat} {l:Value} {n:Nat} {m:ByteArray} {vB:Value} {Q:Exit→Act→World→Prop} {ops:Array Oper} (hops:ops=opsOf Tryz.f22) (hbb:w0.heap[bb]?=some (.cells #[vB] 42 (0,0))) (hl:w0.ownsRow 0 9 1 l n (marks n m)) (hn:n≤9000000) {a0:Act} (h0:KI w0 bb l n m vB (fun _=>false) a0 w0)
  (hQ:∀ f a w,f 4=true→f 9=true→f 14=true→f 23=true→f 24=true→f 25=true→KI w0 bb l n m vB f a w→wpAny Tryz.prog .any ops Q 4 (mkLK true true true true true true true true true) a w):wpAny Tryz.prog .any ops Q 13 (mkLK false false false false false false false false false) a0 w0:=by
 have hne:some bb ≠ l.ownBlock:=by
  intro e
  rcases hl.2 with ⟨rfl,_⟩ | ⟨g,cap,cur,rfl,_,hh,_⟩
  ·cases e
  ·cases e
   rw [hbb] at hh
   simp at hh
 have hup:upAll ops=true:=by rw [hops];exact upAll_ok
 have o4:ops[4]?.map (fun o=>(o.dst,o.op,o.guard))=some (some 26,.load 40 (.tmp 25),none):=by rw [hops];kernel_rfl
 have o8:ops[8]?.map (fun o=>(o.dst,o.op,o.guard))=some (some 30,.buildSlice 30 1 #[(0,.tmp 29)],none):=by rw [hops];kernel_rfl
 have o9:ops[9]?.map (fun o=>(o.dst,o.op,o.guard))=some (some 31,.call { callee:=.builtin .append,args:=#[.tmp 28,.tmp 30],argTypes:=#[30,30] },none):=by rw [hops];kernel_rfl
 have o13:ops[13]?.map (fun o=>(o.dst,o.op,o.guard))=some (some 35,.buildSlice 30 2 #[(0,.tmp 33),(1,.tmp 34)],none):=by rw [hops];kernel_rfl
 have o14:ops[14]?.map (fun o=>(o.dst,o.op,o.guard))=some (some 36,.call { callee:=.builtin .append,args:=#[.tmp 32,.tmp 35],argTypes:=#[30,30] },none):=by rw [hops];kernel_rfl
 have o22:ops[22]?.map (fun o=>(o.dst,o.op,o.guard))=some (some 44,.buildSlice 30 6 #[(0,.tmp 38),(1,.tmp 39),(2,.tmp 40),(3,.tmp 41),(4,.tmp 42),(5,.tmp 43)],none):=by rw [hops];kernel_rfl
 have o23:ops[23]?.map (fun o=>(o.dst,o.op,o.guard))=some (some 45,.call { callee:=.builtin .append,args:=#[.tmp 37,.tmp 44],argTypes:=#[30,30] },none):=by rw [hops];kernel_rfl
 have o24:ops[24]?.map (fun o=>(o.dst,o.op,o.guard))=some (some 46,.buildSlice 116 4 #[(0,.tmp 27),(1,.tmp 31),(2,.tmp 36),(3,.tmp 45)],none):=by rw [hops];kernel_rfl
 have o25:ops[25]?.map (fun o=>(o.dst,o.op,o.guard))=some (some 47,.buildSlice 40 1 #[(0,.tmp 46)],none):=by rw [hops];kernel_rfl
 clear hops
 refine wpAny_upto (I:=fun L a w=>∃ f:Nat→Bool,L=mkLK (f 4) (f 8) (f 9) (f 13) (f 14) (f 22) (f 23) (f 24) (f 25)∧okBK (f 8) (f 9) (f 13) (f 14) (f 22) (f 23) (f 24) (f 25)=true∧KI w0 bb l n m vB f a w) (stop:=fun L=>L=mkLK true true true true true true true true true) ?_ ?_ 13 _ a0 w0 (by decide) ⟨fun _=>false,rfl,rfl,h0⟩
 ·rintro L a w ⟨f,rfl,hok,hI⟩ hs
  have hs':(f 4 && f 25)=false:=by
   cases h4:f 4
   ·rfl
   ·cases h25:f 25
    ·rfl
    ·exfalso
     apply hs
     unfold okBK at hok
     rw [h25] at hok
     simp only [Bool.not_true,Bool.false_or,Bool.and_eq_true] at hok
     obtain ⟨⟨⟨⟨c1,c2⟩,c3⟩,c4⟩,c5⟩:=hok
     rw [c5] at c4
     simp only [Bool.not_true,Bool.false_or] at c4
     rw [c4] at c3
     simp only [Bool.not_true,Bool.false_or,Bool.and_eq_true] at c3
     rw [c3.2] at c2
     simp only [Bool.not_true,Bool.false_or,Bool.and_eq_true] at c2
     rw [c2.2] at c1
     simp only [Bool.not_true,Bool.false_or] at c1
     rw [c1,c2.1,c2.2,c3.1,c3.2,c4,c5,h4,h25]
  obtain ⟨hne0,hup'⟩:=up_of hup (f 4) (f 8) (f 9) (f 13) (f 14) (f 22) (f 23) (f 24) (f 25) hok hs'
  refine ⟨hne0,fun i hi=>?_⟩
  have hu:=hup' i hi
  clear hup' hi hne0
  simp only [upOne,Bool.or_eq_true,Bool.and_eq_true,beq_iff_eq,Bool.not_eq_true'] at hu
  have hlw:w.ownsRow 0 9 1 l n (marks n m):=hI.keep 0 l n hl
  have hbw:w.heap[bb]?=some (.cells #[vB] 42 (0,0)):=by rw [hI.grown.block bb (heap_lt hbb) hne];exact hbb
  have off:∀ {x:Bool} {P:Prop},x=false→x=true→P:=fun h1 h2=>by rw [h1] at h2;cases h2
  rcases hu with (((((((hu | hu) | hu) | hu) | hu) | hu) | hu) | hu) | hu
  ·obtain ⟨rfl,hu⟩:=hu
   refine wpOp_of o4 fun o e1 e2=>wp_load40 e2 (hI.ptr 25 (by decide)) (cell_of_block hbw 0 _ rfl) ⟨updB f 4,rfl,hok,?_⟩
   rw [e1]
   exact hI.step (by decide) (grown_refl _ _) (fun _ _ _ h=>h) (fun _=>rfl) (fun k hk=>by simp [kRows] at hk) (fun e=>by cases e) (fun e=>by cases e) (fun _=>⟨Or.inl rfl,Below.refl _ _⟩) (fun _=>⟨rfl,Below.refl _ _⟩)
  ·obtain ⟨⟨⟨rfl,h8⟩,h24⟩,h25⟩:=hu
   refine wpOp_of o8 fun o e1 e2=>wp_build1 e2 (hI.mrk 29 (by decide)) ⟨updB f 8,rfl,?_,?_⟩
   ·revert hok;simp only [okBK,updB];cases f 9 <;> cases f 13 <;> cases f 14 <;> cases f 22 <;> cases f 23 <;> cases f 24 <;> cases f 25 <;> simp [h8]
   ·rw [e1]
    exact hI.step (by decide) (grown_alloc _ _) (KeepM.alloc _ _) (fun e=>by cases e) (fun k hk=>by simp [kRows] at hk;subst hk;exact alloc_marks 1 _ rfl (by decide)) (fun e=>by cases e) (fun e=>by cases e) (fun h=>off h24 h) (fun h=>off h25 h)
  ·obtain ⟨⟨⟨⟨rfl,h8⟩,h9⟩,h24⟩,h25⟩:=hu
   obtain ⟨g,c,eb,hc⟩:=row_marks (hI.row (i:=8) (d:=30) (k:=1) (by simp [kRows]) h8) (by decide)
   refine wpOp_of o9 fun o e1 e2=>wp_marks e2 (hI.lst 28 (by decide)) hlw eb (by decide) (by decide) hc (by omega) fun v' w' k1 k2 k3=>⟨updB f 9,rfl,?_,?_⟩
   ·revert hok;simp only [okBK,updB];cases f 13 <;> cases f 14 <;> cases f 22 <;> cases f 23 <;> cases f 24 <;> cases f 25 <;> simp [h8,h9]
   ·rw [e1]
    exact hI.step (by decide) k2 k3 (fun e=>by cases e) (fun k hk=>by simp [kRows] at hk;subst hk;exact k1) (fun e=>by cases e) (fun e=>by cases e) (fun h=>off h24 h) (fun h=>off h25 h)
  ·obtain ⟨⟨⟨rfl,h13⟩,h24⟩,h25⟩:=hu
   refine wpOp_of o13 fun o e1 e2=>wp_build2 e2 (hI.mrk 33 (by decide)) (hI.mrk 34 (by decide)) ⟨updB f 13,rfl,?_,?_⟩
   ·revert hok;simp only [okBK,updB];cases f 8 <;> cases f 9 <;> cases f 14 <;> cases f 22 <;> cases f 23 <;> simp [h13,h24,h25]
   ·rw [e1]
    exact hI.step (by decide) (grown_alloc _ _) (KeepM.alloc _ _) (fun e=>by cases e) (fun k hk=>by simp [kRows] at hk;subst hk;exact alloc_marks 2 _ rfl (by decide)) (fun e=>by cases e) (fun e=>by cases e) (fun h=>off h24 h) (fun h=>off h25 h)
  ·obtain ⟨⟨⟨⟨⟨rfl,h9⟩,h13⟩,h14⟩,h24⟩,h25⟩:=hu
   obtain ⟨g,c,eb,hc⟩:=row_marks (hI.row (i:=13) (d:=35) (k:=2) (by simp [kRows]) h13) (by decide)
   refine wpOp_of o14 fun o e1 e2=>wp_marks e2 (hI.lst 32 (by decide)) hlw eb (by decide) (by decide) hc (by omega) fun v' w' k1 k2 k3=>⟨updB f 14,rfl,?_,?_⟩
   ·revert hok;simp only [okBK,updB];cases f 8 <;> cases f 22 <;> cases f 23 <;> simp [h9,h13,h14,h24,h25]
   ·rw [e1]
    exact hI.step (by decide) k2 k3 (fun e=>by cases e) (fun k hk=>by simp [kRows] at hk;subst hk;exact k1) (fun e=>by cases e) (fun e=>by cases e) (fun h=>off h24 h) (fun h=>off h25 h)
  ·obtain ⟨⟨⟨rfl,h22⟩,h24⟩,h25⟩:=hu
   refine wpOp_of o22 fun o e1 e2=>wp_build6 e2 (hI.mrk 38 (by decide)) (hI.mrk 39 (by decide)) (hI.mrk 40 (by decide)) (hI.mrk 41 (by decide)) (hI.mrk 42 (by decide)) (hI.mrk 43 (by decide)) ⟨updB f 22,rfl,?_,?_⟩
   ·revert hok;simp only [okBK,updB];cases f 8 <;> cases f 9 <;> cases f 13 <;> cases f 14 <;> cases f 23 <;> simp [h22,h24,h25]
   ·rw [e1]
    exact hI.step (by decide) (grown_alloc _ _) (KeepM.alloc _ _) (fun e=>by cases e) (fun k hk=>by simp [kRows] at hk;subst hk;exact alloc_marks 6 _ rfl (by decide)) (fun e=>by cases e) (fun e=>by cases e) (fun h=>off h24 h) (fun h=>off h25 h)
  ·obtain ⟨⟨⟨⟨⟨rfl,h14⟩,h22⟩,h23⟩,h24⟩,h25⟩:=hu
   obtain ⟨g,c,eb,hc⟩:=row_marks (hI.row (i:=22) (d:=44) (k:=6) (by simp [kRows]) h22) (by decide)
   refine wpOp_of o23 fun o e1 e2=>wp_marks e2 (hI.lst 37 (by decide)) hlw eb (by decide) (by decide) hc (by omega) fun v' w' k1 k2 k3=>⟨updB f 23,rfl,?_,?_⟩
   ·revert hok;simp only [okBK,updB];cases f 8 <;> cases f 9 <;> cases f 13 <;> simp [h14,h22,h23,h24,h25]
   ·rw [e1]
    exact hI.step (by decide) k2 k3 (fun e=>by cases e) (fun k hk=>by simp [kRows] at hk;subst hk;exact k1) (fun e=>by cases e) (fun e=>by cases e) (fun h=>off h24 h) (fun h=>off h25 h)
  ·obtain ⟨⟨⟨⟨⟨rfl,h9⟩,h14⟩,h23⟩,h24⟩,h25⟩:=hu
   obtain ⟨x0,c0,y0⟩:=row_slice hlw
   obtain ⟨x1,c1,y1⟩:=row_slice (hI.row (i:=9) (d:=31) (k:=n+1) (by simp [kRows]) h9)
   obtain ⟨x2,c2,y2⟩:=row_slice (hI.row (i:=14) (d:=36) (k:=n+2) (by simp [kRows]) h14)
   obtain ⟨x3,c3,y3⟩:=row_slice (hI.row (i:=23) (d:=45) (k:=n+6) (by simp [kRows]) h23)
   refine wpOp_of o24 fun o e1 e2=>wp_build4 e2 ((hI.lst 27 (by decide)).trans y0) y1 y2 y3 ⟨updB f 24,rfl,?_,?_⟩
   ·revert hok;simp only [okBK,updB];cases f 8 <;> cases f 13 <;> cases f 22 <;> simp [h9,h14,h23,h24,h25]
   ·rw [e1]
    refine hI.step (by decide) (grown_alloc _ _) (KeepM.alloc _ _) (fun e=>by cases e) (fun k hk=>by simp [kRows] at hk) (fun _=>⟨w.heap.size,hI.grown.size,rfl,?_⟩) (fun e=>by cases e) (fun h=>off h24 h) (fun h=>off h25 h)
    rw [y1,y2,y3,y0]
    exact heap_alloc_new w _
  ·obtain ⟨⟨rfl,h24⟩,h25⟩:=hu
   obtain ⟨q,q1,q2,q3⟩:=hI.p24 h24
   refine wpOp_of o25 fun o e1 e2=>wp_build11 e2 q2 ⟨updB f 25,rfl,?_,?_⟩
   ·revert hok;simp only [okBK,updB];cases f 8 <;> cases f 9 <;> cases f 13 <;> cases f 14 <;> cases f 22 <;> cases f 23 <;> simp [h24,h25]
   ·rw [e1]
    refine hI.step (by decide) (grown_alloc _ _) (KeepM.alloc _ _) (fun e=>by cases e) (fun k hk=>by simp [kRows] at hk) (fun e=>by cases e) (fun _=>⟨w.heap.size,hI.grown.size,rfl,?_⟩) (fun _=>⟨Or.inr rfl,below_alloc w _⟩) (fun h=>off h25 h)
    rw [q2]
    exact heap_alloc_new w _
 ·rintro L a w ⟨f,hL,hok,hI⟩ rfl
  have:leftB (mkLK true true true true true true true true true)=4:=by decide
  rw [this]
  simp only [mkLK,Array.mk.injEq,List.cons.injEq,true_and,and_true] at hL
  obtain ⟨e4,e8,e9,e13,e14,e22,e23,e24,e25⟩:=hL
  exact hQ f a w e4.symm e9.symm e14.symm e23.symm e24.symm e25.symm hI
def Sl (a:Act) (S:List (Nat × Value)):Prop:=a.tmps.size=51∧a.defers=[]∧∀ x ∈ S,a.eval (.tmp x.1)=x.2
theorem run_move {o:Oper} {a:Act} {w:World} {x:Operand} {v:Value} (hop:o.op=.move x) (hx:a.eval x=v):(execOp a.eval o).run Tryz.prog w=.ok (.value v) w:=by
 unfold execOp
 simp only [hop,hx]
 rfl
theorem run_nil {o:Oper} {a:Act} {w:World} {x:Operand} {p:Addr} (hop:o.op=.nilCheck x) (hx:a.eval x=.pointer (some p)):(execOp a.eval o).run Tryz.prog w=.ok (.value (.pointer (some p))) w:=by
 unfold execOp
 simp only [hop,hx]
 go_simp
theorem run_field0 {o:Oper} {a:Act} {w:World} {x:Operand} {b:Nat} (hop:o.op=.fieldAddr 42 x 0) (hx:a.eval x=.pointer (some ⟨b,0,none⟩)):(execOp a.eval o).run Tryz.prog w=.ok (.value (.pointer (some ⟨b,0,none⟩))) w:=by
 unfold execOp
 simp only [hop,hx]
 go_simp
theorem takeOp {Q:Exit→Act→World→Prop} {ops:Array Oper} {L:Array Bool} {fuel:Nat} {a:Act} {w:World} {S:List (Nat × Value)} (i d:Nat) {v:Value} (p:Op) (ho:ops[i]?.map (fun o=>(o.dst,o.op,o.guard))=some (some d,p,none)) (hc:(Region.noSelect ops && Region.free .any ops L i && (Region.ready .any ops L).contains i && decide (d<51))=true) (hQ:∀ c a a' w,a'.defers=a.defers→Q (.panic c) a' w→Q (.panic c) a w) (h:Sl a S) (hy:∀ o:Oper,o.op=p→∀ w,(execOp a.eval o).run Tryz.prog w=.ok (.value v) w) (hn:∀ x ∈ S,x.1 ≠ d)
  (k:∀ a',Sl a' ((d,v) :: S)→wpAny Tryz.prog .any ops Q fuel (L.setIfInBounds i true) a' w):wpAny Tryz.prog .any ops Q (fuel+1) L a w:=by
 simp only [Bool.and_eq_true,decide_eq_true_eq] at hc
 obtain ⟨⟨⟨c1,c2⟩,c3⟩,c4⟩:=hc
 cases hh:ops[i]? with
 | none=>rw [hh] at ho;cases ho
 | some o =>
  rw [hh] at ho
  simp only [Option.map_some,Option.some.injEq,Prod.mk.injEq] at ho
  refine wpAny_take (v:=v) hh c1 c2 c3 (fun c a w=>hQ c a _ w (by rw [ho.1];rfl)) (Or.inl ⟨by simp [Region.wanted,ho.2.2],hy o ho.2.1⟩) ?_
  rw [ho.1]
  refine k _ ⟨by show (a.tmps.setIfInBounds d v).size=51;rw [Array.size_setIfInBounds];exact h.1,h.2.1,fun x hx=>?_⟩
  rw [eval_put (by rw [h.1];exact c4)]
  rcases List.mem_cons.1 hx with rfl | hx
  ·rw [if_pos rfl]
  ·rw [if_neg (hn x hx)];exact h.2.2 x hx
theorem take_mv {Q:Exit→Act→World→Prop} {ops:Array Oper} {L:Array Bool} {fuel:Nat} {a:Act} {w:World} {S:List (Nat × Value)} (i d s:Nat) {v:Value} (ho:ops[i]?.map (fun o=>(o.dst,o.op,o.guard))=some (some d,.move (.tmp s),none)) (hc:(Region.noSelect ops && Region.free .any ops L i && (Region.ready .any ops L).contains i && decide (d<51))=true) (hQ:∀ c a a' w,a'.defers=a.defers→Q (.panic c) a' w→Q (.panic c) a w) (h:Sl a S) (hv:(s,v) ∈ S) (hn:∀ x ∈ S,x.1 ≠ d)
  (k:∀ a',Sl a' ((d,v) :: S)→wpAny Tryz.prog .any ops Q fuel (L.setIfInBounds i true) a' w):wpAny Tryz.prog .any ops Q (fuel+1) L a w :=
 takeOp i d _ ho hc hQ h (fun _ e _=>run_move e (h.2.2 _ hv)) hn k
set_option maxHeartbeats 4000000 in
theorem keep_takes {w:World} {bb:Nat} {l vB:Value} {n:Nat} {m:ByteArray} {Q:Exit→Act→World→Prop} {ops:Array Oper} (hops:ops=opsOf Tryz.f22) (hQ:∀ c a a' w,a'.defers=a.defers→Q (.panic c) a' w→Q (.panic c) a w) {a:Act} (h:Sl a [(0,.pointer (some ⟨bb,0,none⟩)),(1,l),(4,.string m)])
  (k:∀ a,KI w bb l n m vB (fun _=>false) a w→wpAny Tryz.prog .any ops Q 13 (mkLK false false false false false false false false false) a w):wpAny Tryz.prog .any ops Q 30 (Array.replicate 30 false) a w:=by
 refine take_mv (v:=.pointer (some ⟨bb,0,none⟩)) 0 22 0 (by rw [hops];kernel_rfl) (by rw [hops];kernel_rfl) hQ h (by simp) (by simp) fun a h=>?_
 refine take_mv (v:=.pointer (some ⟨bb,0,none⟩)) 1 23 0 (by rw [hops];kernel_rfl) (by rw [hops];kernel_rfl) hQ h (by simp) (by simp) fun a h=>?_
 refine takeOp 2 24 (.nilCheck (.tmp 23)) (by rw [hops];kernel_rfl) (by rw [hops];kernel_rfl) hQ h (fun _ e _=>run_nil e (h.2.2 (23,.pointer (some ⟨bb,0,none⟩)) (by simp))) (by simp) fun a h=>?_
 refine takeOp 3 25 (.fieldAddr 42 (.tmp 24) 0) (by rw [hops];kernel_rfl) (by rw [hops];kernel_rfl) hQ h (fun _ e _=>run_field0 e (h.2.2 (24,.pointer (some ⟨bb,0,none⟩)) (by simp))) (by simp) fun a h=>?_
 refine take_mv (v:=l) 5 27 1 (by rw [hops];kernel_rfl) (by rw [hops];kernel_rfl) hQ h (by simp) (by simp) fun a h=>?_
 refine take_mv (v:=l) 6 28 1 (by rw [hops];kernel_rfl) (by rw [hops];kernel_rfl) hQ h (by simp) (by simp) fun a h=>?_
 refine take_mv (v:=.string m) 7 29 4 (by rw [hops];kernel_rfl) (by rw [hops];kernel_rfl) hQ h (by simp) (by simp) fun a h=>?_
 refine take_mv (v:=l) 10 32 1 (by rw [hops];kernel_rfl) (by rw [hops];kernel_rfl) hQ h (by simp) (by simp) fun a h=>?_
 refine take_mv (v:=.string m) 11 33 4 (by rw [hops];kernel_rfl) (by rw [hops];kernel_rfl) hQ h (by simp) (by simp) fun a h=>?_
 refine take_mv (v:=.string m) 12 34 4 (by rw [hops];kernel_rfl) (by rw [hops];kernel_rfl) hQ h (by simp) (by simp) fun a h=>?_
 refine take_mv (v:=l) 15 37 1 (by rw [hops];kernel_rfl) (by rw [hops];kernel_rfl) hQ h (by simp) (by simp) fun a h=>?_
 refine take_mv (v:=.string m) 16 38 4 (by rw [hops];kernel_rfl) (by rw [hops];kernel_rfl) hQ h (by simp) (by simp) fun a h=>?_
 refine take_mv (v:=.string m) 17 39 4 (by rw [hops];kernel_rfl) (by rw [hops];kernel_rfl) hQ h (by simp) (by simp) fun a h=>?_
 refine take_mv (v:=.string m) 18 40 4 (by rw [hops];kernel_rfl) (by rw [hops];kernel_rfl) hQ h (by simp) (by simp) fun a h=>?_
 refine take_mv (v:=.string m) 19 41 4 (by rw [hops];kernel_rfl) (by rw [hops];kernel_rfl) hQ h (by simp) (by simp) fun a h=>?_
 refine take_mv (v:=.string m) 20 42 4 (by rw [hops];kernel_rfl) (by rw [hops];kernel_rfl) hQ h (by simp) (by simp) fun a h=>?_
 refine take_mv (v:=.string m) 21 43 4 (by rw [hops];kernel_rfl) (by rw [hops];kernel_rfl) hQ h (by simp) (by simp) fun a h=>?_
 refine k a ⟨h.1,h.2.1,fun k hk=>?_,fun k hk=>?_,fun k hk=>?_,grown_refl _ _,fun _ _ _ h=>h,(fun h=>by cases h),(fun r hr h=>by cases h),(fun h=>by cases h),(fun h=>by cases h)⟩
 ·exact h.2.2 (k,.pointer (some ⟨bb,0,none⟩)) (by simp only [List.mem_cons,List.not_mem_nil,or_false] at hk;rcases hk with rfl | rfl <;> simp)
 ·exact h.2.2 (k,l) (by simp only [List.mem_cons,List.not_mem_nil,or_false] at hk;rcases hk with rfl | rfl | rfl | rfl <;> simp)
 ·exact h.2.2 (k,.string m) (by simp only [List.mem_cons,List.not_mem_nil,or_false] at hk;rcases hk with rfl | rfl | rfl | rfl | rfl | rfl | rfl | rfl | rfl <;> simp)
end Go.Proofs.YtodagkkjfipbgaaGreatDoor
namespace Go.Proofs.YtodagkkjfipbgaaGreatDoor
open Go.RowKit
def markB (i:Nat):ByteArray:=⟨#[126,UInt8.ofNat i,UInt8.ofNat (i / 256),UInt8.ofNat (i / 65536)]⟩
set_option maxRecDepth 100000 in
set_option maxHeartbeats 2000000 in
theorem markB_any (i:Nat) (hi:i≤9000000) (w:World):Calls Tryz.prog 57 #[.int .i64 i] w fun r w'=>r=.returned (.string (markB i))∧Below w.heap.size w w':=by
 have kb:=run_convert_bytes_back (P:=Tryz.prog) (w.alloc (.cells #[.int .u8 ((i:Int) % 256),.int .u8 ((i:Int) / 256 % 256),.int .u8 ((i:Int) / 65536)] 5)) 63 9 5 ⟨w.heap.size,0,none⟩ 3 [UInt8.ofNat i,UInt8.ofNat (i / 256),UInt8.ofNat (i / 65536)] Tryz.underlying63 Tryz.underlying5 Tryz.underlying9 fun j hj=>by
  have hb:=heap_alloc_new w (.cells #[.int .u8 ((i:Int) % 256),.int .u8 ((i:Int) / 256 % 256),.int .u8 ((i:Int) / 65536)] 5)
  rw [add_none]
  have hj3:j<3:=hj
  have hc:∀ (u:Value),(#[Value.int .u8 ((i:Int) % 256),.int .u8 ((i:Int) / 256 % 256),.int .u8 ((i:Int) / 65536)]:Array Value)[j]?=some u→(w.alloc (.cells #[.int .u8 ((i:Int) % 256),.int .u8 ((i:Int) / 256 % 256),.int .u8 ((i:Int) / 65536)] 5)).cell? ⟨w.heap.size,j,none⟩=some u:=fun u hu=>cell_of_block hb j u hu
  rcases j with _ | _ | _ | j
  ·rw [hc _ rfl];simp
  ·rw [hc _ rfl];simp
  ·rw [hc _ rfl];simp;omega
  ·omega
 rw [show [UInt8.ofNat i,UInt8.ofNat (i / 256),UInt8.ofNat (i / 65536)].length=3 from rfl] at kb
 go_enter Tryz.func57,Tryz.ntmps57
 go_wp2_with fail
 go_ret
 exact ⟨rfl,below_alloc w _⟩
end Go.Proofs.YtodagkkjfipbgaaGreatDoor
