import Derived.RangeFuncNested
import Derived.RangeFuncBound
import Derived.RangeFuncCalls
import Derived.RangeFuncLeaves
import Derived.Shelf.RegionOpen
import Derived.OwnWalkIn
import Derived.TacticsInMore
import Derived.LoopNIn
import Derived.LoopIn
import Derived.Test.YtodagkkjfipbgaaGreatDoorN15toN17
namespace Go.Proofs.YtodagkkjfipbgaaGreatDoor
open Go.RowKit Go.Maps
theorem make_bools (W:World) (n:Nat) (hn:n≤2300000):(Instr.makeSlice 108 (.int .i64 n) (.int .i64 n)).run Tryz.prog W=.ok (.slice (some ⟨W.heap.size,0,none⟩) n n) (W.alloc (.cells (boolCells (List.replicate n false)) 4)):=by
 obtain ⟨i,hi,hz0,hz1,hz2⟩:=info_parts Tryz.infoB
 have h:=run_make (P:=Tryz.prog) W 108 4 i (.bool false) Tryz.undRowB hi hz0 .i64 .i64 n n (by omega) (by omega) (by rw [hz2];omega) (by omega)
 rw [hz1] at h
 rw [← made_bool]
 simpa [Value.cells] using h
def leftAt (t:Tab) (row:List Nat) (i:Nat):Nat:=(row.take i).foldl (fun a k=>tnext t a k) 0
theorem leftAt_succ {t:Tab} {row:List Nat} {i k:Nat} (h:row[i]?=some k):leftAt t row (i+1)=tnext t (leftAt t row i) k:=by
 unfold leftAt
 rw [List.take_add_one,h,List.foldl_append]
 rfl
theorem leftAt_lt {t:Tab} (ht:TabGood t) (row:List Nat):∀ i,leftAt t row i<t.length:=by
 intro i
 induction i with
 | zero=>exact ht.pos
 | succ i ih =>
  cases h:row[i]? with
  | none =>
   have e:leftAt t row (i+1)=leftAt t row i:=by unfold leftAt;rw [List.take_add_one,h];simp
   rw [e];exact ih
  | some k=>rw [leftAt_succ h];exact tnext_lt ht ih
def toldTo (f:Nat→Bool) (n m:Nat):List Bool:=(List.range m).map fun j=>if j<n then f j else false
theorem toldTo_len (f:Nat→Bool) (n m:Nat):(toldTo f n m).length=m:=by unfold toldTo;simp
theorem toldTo_zero (f:Nat→Bool) (m:Nat):toldTo f 0 m=List.replicate m false:=by
 apply List.ext_getElem?
 intro i
 unfold toldTo
 rw [List.getElem?_map,List.getElem?_replicate]
 by_cases h:i<m
 ·rw [List.getElem?_range h,if_pos h];simp
 ·rw [List.getElem?_eq_none (by simp;omega),if_neg h];rfl
theorem toldTo_succ (f:Nat→Bool) {n m:Nat} (h:n<m):toldTo f (n+1) m=(toldTo f n m).set n (f n):=by
 apply List.ext_getElem?
 intro i
 rw [List.getElem?_set,toldTo_len]
 unfold toldTo
 rw [List.getElem?_map,List.getElem?_map]
 by_cases e:n=i
 ·subst e;rw [if_pos rfl,if_pos h,List.getElem?_range h];simp
 ·rw [if_neg e]
  by_cases hi:i<m
  ·rw [List.getElem?_range hi]
   simp only [Option.map_some,Option.some.injEq]
   by_cases h1:i<n
   ·rw [if_pos (by omega),if_pos h1]
   ·rw [if_neg (by omega),if_neg h1]
  ·rw [List.getElem?_eq_none (by simp;omega)];rfl
theorem toldTo_all (f:Nat→Bool) (m:Nat):toldTo f m m=(List.range m).map f:=by
 unfold toldTo
 apply List.map_congr_left
 intro j hj
 rw [if_pos (List.mem_range.1 hj)]
structure KRow (w:World) (v:Value) (row:List Nat):Prop where
 own:w.ownsRow 0 169 1 v row.length (kCells row)
 lt:∀ k ∈ row,k<8
 few:row.length≤2200000
theorem KRow.below {w w':World} {v:Value} {row:List Nat} (h:KRow w v row) (hb:Below w.heap.size w w'):KRow w' v row:=⟨row_kp h.own (Kp.below hb),h.lt,h.few⟩
set_option maxRecDepth 100000 in
set_option maxHeartbeats 2000000 in
theorem lmatches_any (w:World) (vT vR:Value) (t:Tab) (row:List Nat) (hT:TabIn 0 w vT t) (ht:TabGood t) (hR:KRow w vR row) :
  Calls Tryz.prog 155 #[.agg #[vT],vR] w fun r w'=>∃ g,r=.returned (.slice (some ⟨g,0,none⟩) (row.length+1) (row.length+1))∧w.heap.size≤g∧w'.heap[g]?=some (.cells (boolCells ((List.range (row.length+1)).map fun i=>tmatch t (leftAt t row i))) 4 (0,0))∧Below w.heap.size w w':=by
 obtain ⟨aoT,capT,rfl⟩:=row_shape hT
 obtain ⟨aoR,capR,rfl⟩:=row_shape hR.own
 have HT:Hid (TabIn 0 w (.slice aoT t.length capT) t):=hT
 have HR:Hid (KRow w (.slice aoR row.length capR) row):=hR
 have HG:Hid (TabGood t):=ht
 have hfew:=hR.few
 have htl:=ht.few
 have hmk:∀ W:World,(Instr.makeSlice 108 (.int .i64 ((row.length:Int)+1)) (.int .i64 ((row.length:Int)+1))).run Tryz.prog W=.ok (.slice (some ⟨W.heap.size,0,none⟩) (row.length+1) (row.length+1)) (W.alloc (.cells (boolCells (List.replicate (row.length+1) false)) 4)):=fun W=>make_bools W (row.length+1) (by omega)
 obtain ⟨f,hf⟩:∃ f:Nat→Bool,f=fun i=>tmatch t (leftAt t row i):=⟨_,rfl⟩
 have HF:Hid (f=fun i=>tmatch t (leftAt t row i)):=hf
 rw [← hf]
 have W0e:∃ W0,W0=(w.alloc (.cells #[.slice aoT t.length capT] 152)).alloc (.cells (boolCells (List.replicate (row.length+1) false)) 4):=⟨_,rfl⟩
 obtain ⟨W0,hW0⟩:=W0e
 have HW0:Hid (W0=(w.alloc (.cells #[.slice aoT t.length capT] 152)).alloc (.cells (boolCells (List.replicate (row.length+1) false)) 4)):=hW0
 have b0:Below w.heap.size w W0:=by rw [hW0];exact (below_alloc w _).alloc (by simp) _
 have hz:W0.heap.size=w.heap.size+2:=by rw [hW0];simp
 have P0:Hid (W0.heap[w.heap.size]?=some (.cells #[.slice aoT t.length capT] 152 (0,0))):=by rw [hW0,Below.heap_alloc _ _ _ (by simp)];exact heap_alloc_new w _
 have Q0:Hid (W0.heap[w.heap.size+1]?=some (.cells (boolCells (toldTo f 0 (row.length+1))) 4 (0,0))):=by rw [hW0,toldTo_zero];exact (show ((w.alloc (.cells #[.slice aoT t.length capT] 152)).heap.size)=w.heap.size+1 by simp) ▸ heap_alloc_new (w.alloc _) _
 have B0:Hid (Below w.heap.size w W0):=b0
 have p0:=cell_of_block P0.out 0 _ rfl
 have p0':=p0
 rw [hW0] at p0'
 clear hT hR ht hf hW0 b0
 go_enter Tryz.func155,Tryz.ntmps155
 go_wp2_with (simp only [hmk])
 rw [← HW0.out]
 have q0:W0.cell? ⟨w.heap.size+1,0,none⟩=some (.bool false):=cell_of_block Q0.out 0 _ (boolCells_at (by rw [toldTo_zero,List.getElem?_replicate,if_pos (by omega)]))
 have q0f:=free_of_block Q0.out
 have HFa:∀ i,f i=tmatch t (leftAt t row i):=fun i=>by rw [HF.out]
 refine (match_any W0 _ t 0 (row_kp HT.out (Kp.below B0.out)) HG.out HG.out.pos).mono ?_
 rintro r w1 ⟨rfl,rfl⟩
 obtain ⟨f0,hf0⟩:∃ f0,f0=tmatch t 0:=⟨_,rfl⟩
 rw [← hf0]
 obtain ⟨W1,hW1⟩:∃ W1,W1=w1.setCell ⟨w.heap.size+1,0,none⟩ (.bool f0):=⟨_,rfl⟩
 have HW1:Hid (W1=w1.setCell ⟨w.heap.size+1,0,none⟩ (.bool f0)):=hW1
 have P1:Hid (W1.heap[w.heap.size]?=some (.cells #[.slice aoT t.length capT] 152 (0,0))):=by rw [hW1];exact (setCell_type (by omega)).trans P0.out
 have Q1:Hid (W1.heap[w.heap.size+1]?=some (.cells (boolCells (toldTo f 1 (row.length+1))) 4 (0,0))):=by
  rw [hW1,toldTo_succ f (by omega),← boolCells_set,show f 0=f0 from by rw [hf0];exact HFa 0]
  exact block_setCell Q0.out 0 _
 have B1:Hid (Below w.heap.size w W1):=by rw [hW1];exact B0.out.setCell (by show w.heap.size≤w.heap.size+1;omega) _
 clear P0 Q0 B0 hW1 p0' hz p0 HW0 hmk
 have HF0:Hid (f0=tmatch t 0):=hf0
 clear hf0
 go_wp2_with fail
 rw [← HW1.out]
 clear q0 q0f HW1
 go_loopg [6,21] row.length (fun gh av iv wx=>∃ i:Nat,i≤row.length∧gh=row.length - i∧av=.int .i64 (leftAt t row i:Nat)∧iv=.int .i64 i∧Hid (wx.heap[w.heap.size]?=some (.cells #[.slice aoT t.length capT] 152 (0,0)))∧Hid (wx.heap[w.heap.size+1]?=some (.cells (boolCells (toldTo f (i+1) (row.length+1))) 4 (0,0)))∧Hid (Below w.heap.size w wx))
 case atStart=>exact ⟨0,Nat.zero_le _,rfl,rfl,rfl,P1,Q1,B1⟩
 case round =>
  obtain ⟨i,hi,rfl,rfl,rfl,hP,hQ,hB⟩:=hrel
  obtain ⟨w2,hw2⟩:∃ w2,w2=wr:=⟨wr,rfl⟩
  subst hw2
  clear P1 Q1 B1
  have hs1:=hB.out.size
  have hp:=cell_of_block hP.out 0 _ rfl
  by_cases hlt:i<row.length
  ·obtain ⟨k,hk⟩:∃ k,row[i]?=some k:=⟨row[i],List.getElem?_eq_getElem hlt⟩
   have hk8:=HR.out.lt k (List.mem_of_getElem? hk)
   obtain ⟨qR,hqR,hqb,hrc⟩:=row_at (HR.out.below hB.out).own (kCells_at hk) (by omega)
   subst hqR
   obtain ⟨a,ha⟩:∃ a,a=leftAt t row i:=⟨_,rfl⟩
   obtain ⟨a',ha'⟩:∃ a',a'=tnext t a k:=⟨_,rfl⟩
   have HA:Hid (a'=leftAt t row (i+1)):=by show _=_;rw [leftAt_succ hk,ha',ha]
   have hal:a<t.length:=by rw [ha];exact leftAt_lt HG.out row i
   have hal':a'<t.length:=by rw [HA.out];exact leftAt_lt HG.out row (i+1)
   rw [← ha]
   clear ha
   have hq:w2.cell? ⟨w.heap.size+1,i+1,none⟩=some (.bool false):=cell_of_block hQ.out (i+1) _ (boolCells_at (by unfold toldTo;rw [List.getElem?_map,List.getElem?_range (by omega)];simp))
   have hqf:=free_of_block hQ.out
   go_wp2_with fail
   refine (tnext_any _ _ t a k (row_kp HT.out (Kp.below hB.out)) HG.out hal hk8).mono ?_
   rintro r w3 ⟨rfl,rfl⟩
   rw [← ha']
   clear ha'
   go_wp2_with fail
   refine (match_any _ _ t a' (row_kp HT.out (Kp.below hB.out)) HG.out hal').mono ?_
   rintro r w3 ⟨rfl,rfl⟩
   obtain ⟨f1,hf1⟩:∃ f1,f1=tmatch t a':=⟨_,rfl⟩
   rw [← hf1]
   have HF1:Hid (f1=tmatch t a'):=hf1
   clear hf1
   go_wp2_with fail
   go_roundg (row.length - (i+1))
   case rel =>
    refine ⟨i+1,by omega,rfl,?_,by go_num,?_,?_,hB.out.setCell (by show w.heap.size≤w.heap.size+1;omega) _⟩
    ·rw [HA.out]
    ·exact (setCell_type (by omega)).trans hP.out
    ·show _=_
     rw [toldTo_succ f (by omega),← boolCells_set,show f (i+1)=f1 from by rw [HF1.out,HA.out];exact HFa (i+1)]
     exact block_setCell hQ.out (i+1) _
   case measure=>omega
  ·obtain rfl:i=row.length:=by omega
   go_wp2_with fail
   go_ret
   refine ⟨w.heap.size+1,rfl,by omega,?_,hB.out⟩
   rw [← toldTo_all]
   exact hQ.out
end Go.Proofs.YtodagkkjfipbgaaGreatDoor
namespace Go.Proofs.YtodagkkjfipbgaaGreatDoor
open Go.RowKit Go.Maps Go.Shelf
attribute [local go_sem] Oper.semAt_some
abbrev At {β:Type} (L:List β):Type:={ x:Nat × β // L[x.1]?=some x.2 }
def downs (n j:Nat):List Nat:=(List.range' j (n - j)).reverse
theorem downs_none (n:Nat):downs n n=[]:=by unfold downs;simp
theorem downs_snoc {n j:Nat} (h:j<n):downs n j=downs n (j+1)++[j]:=by
 unfold downs
 rw [show n - j=(n - (j+1))+1 from by omega,List.range'_succ,List.reverse_cons]
theorem downs_len (n j:Nat):(downs n j).length=n - j:=by unfold downs;simp
def wheres {β:Type} {L:List β} (pre:List (At L)):List Nat:=pre.map fun x=>x.1.1
def KeepsAt (n₀ Bs:Nat) (W W':World):Prop:=Below n₀ W W'∧W'.heap[Bs]?=W.heap[Bs]?
theorem KeepsAt.refl (n₀ Bs:Nat) (W:World):KeepsAt n₀ Bs W W:=⟨Below.refl _ _,rfl⟩
theorem keepsAt_t {n₀ Bs:Nat} {A B C:World} (h:KeepsAt n₀ Bs A B) (k:KeepsAt n₀ Bs B C):KeepsAt n₀ Bs A C:=⟨h.1.trans k.1,k.2.trans h.2⟩
theorem keepsAt_b {n₀ Bs:Nat} {w:World} (hn:n₀≤w.heap.size) (hB:Bs<w.heap.size) (W:World) (l:Nat) (o o':Obj) (hl:w.heap.size≤l) (h:W.heap[l]?=some o) (hc:o.isCells=false) (hw:o.isWalk=false):KeepsAt n₀ Bs W (W.putObj l o') :=
 ⟨belowK_b hn W l o o' hl h hc hw,World.putObj_heap_other (by omega)⟩
set_option maxRecDepth 100000 in
set_option maxHeartbeats 2000000 in
theorem bwK1_in (F:Fence) (n:Nat) (hf:F.fn 216) (hro:F.round=none) (hn:1≤n) (l Bs n₀ cap:Nat) (ao:Option Addr) (row:List Nat) (hfew:row.length≤2200000) (J Jx:List (At row)→World→Prop)
  (hY:∀ pre x W,J pre W→pre.length<row.length→YieldAt F (n - 1) Tryz.prog l #[.int .i64 (x.1.1:Nat),.int .u8 (x.1.2:Nat)] W fun e W' =>
   (e=.returned (.bool true)∧J (pre++[x]) W'∧KeepsAt n₀ Bs W W')∨(e=.returned (.bool false)∧Jx (pre++[x]) W'))
  (W:World) (sty:TypeId) (hBs:W.heap[Bs]?=some (.cells #[.slice ao row.length cap] sty (0,0))) (hc:∀ j k,row[j]?=some k→∃ q,ao=some ⟨q,0,none⟩∧q<n₀∧W.cell? ⟨q,j,none⟩=some (.int .u8 (k:Nat))) (h0:J [] W) :
  CallsIn F n Tryz.prog 216 #[.func (.yield l) #[] #[],.pointer (some ⟨Bs,0,none⟩)] W fun e W'=>(∃ v,e=.returned v) ∧
   ((∃ ys,wheres ys=downs row.length 0∧J ys W')∨(∃ pre,Jx pre W')):=by
 refine callsIn_of_wp Tryz.func216 rfl hf ?_ hro
 simp only [Tryz.ntmps216,List.size_toArray,List.length_cons,List.length_nil,Nat.reduceAdd,Nat.reduceSub,Array.replicate_succ,Array.replicate_zero,List.push_toArray,List.append_toArray,List.nil_append,List.cons_append]
 have hb0:=cell_of_block hBs 0 _ rfl
 gi_wp2
 gi_loopw [3] (fun i wr=>∃ (j:Nat) (pre:List (At row)),j≤row.length∧i=.int .i64 ((j:Int) - 1)∧wheres pre=downs row.length j∧J pre wr∧KeepsAt n₀ Bs W wr)
  (fun i _=>(intOf i+1).toNat)
 case atStart=>exact ⟨row.length,[],Nat.le_refl _,rfl,by rw [downs_none];rfl,h0,KeepsAt.refl _ _ _⟩
 case round =>
  obtain ⟨j,pre,hj,rfl,hp,hJs,hnx⟩:=hrel
  have hb1:=cell_of_block (hnx.2.trans hBs) 0 _ rfl
  cases j with
  | zero =>
   gi_wp2
   go_end0
   exact ⟨⟨_,rfl⟩,.inl ⟨_,hp,hJs⟩⟩
  | succ j =>
   obtain ⟨k,hk⟩:∃ k,row[j]?=some k:=⟨row[j],List.getElem?_eq_getElem (by omega)⟩
   obtain ⟨q,rfl,hq,hcq⟩:=hc j k hk
   have hcx:=(hnx.1.cell (p:=⟨q,j,none⟩) hq).trans hcq
   have hpl:pre.length<row.length:=by
    have:=congrArg List.length hp
    rw [downs_len] at this
    unfold wheres at this
    rw [List.length_map] at this
    omega
   obtain ⟨fn,tmps,assign,body,hy,hR⟩:=hY pre ⟨(j,k),hk⟩ wr hJs hpl
   dsimp only at hy
   rw [show ((j+1:Nat):Int) - 1=(j:Int) from by omega]
   gi_wp2
   refine hR.mono ?_
   rintro e W3 (⟨rfl,hJ3,hk3⟩ | ⟨rfl,hJx3⟩)
   ·gi_wp2
    go_roundw
    case rel=>exact ⟨j,pre++[⟨(j,k),hk⟩],by omega,by simp,by rw [downs_snoc (by omega),← hp];simp [wheres],hJ3,keepsAt_t hnx hk3⟩
    case measure=>simp [intOf]
   ·gi_wp2
    refine bodyPost_ret (results_none rfl _ _ _) rfl ?_
    exact ⟨⟨_,rfl⟩,.inr ⟨_,hJx3⟩⟩
set_option maxHeartbeats 1000000 in
theorem bwK_in (F:Fence) (n:Nat) (hf:F.fn 193) (hro:F.round=none) (a:Option Addr) (len cap:Nat) (w:World) :
  CallsIn F n Tryz.prog 193 #[.slice a len cap] w fun e w'=>e=.returned (.func (.func 216) #[] #[.pointer (some ⟨w.heap.size,0,none⟩)])∧w'=w.alloc (.cells #[.slice a len cap] 91):=by
 refine callsIn_of_wp Tryz.func193 rfl hf ?_ hro
 simp only [Tryz.ntmps193,List.size_toArray,List.length_cons,List.length_nil,Nat.reduceAdd,Nat.reduceSub,Array.replicate_succ,Array.replicate_zero,List.push_toArray,List.append_toArray,List.nil_append,List.cons_append]
 gi_wp2
 go_ret
 exact ⟨rfl,rfl⟩
theorem bwK_stops (F:Fence) (n:Nat) (hf:F.fn 216) (hro:F.round=none) (hn:1≤n) (Bs n₀ cap:Nat) (ao:Option Addr) (row:List Nat) (hfew:row.length≤2200000) (w:World) (sty:TypeId) (hn₀:n₀≤w.heap.size)
  (hBs:w.heap[Bs]?=some (.cells #[.slice ao row.length cap] sty (0,0))) (hc:∀ j k,row[j]?=some k→∃ q,ao=some ⟨q,0,none⟩∧q<n₀∧w.cell? ⟨q,j,none⟩=some (.int .u8 (k:Nat))) :
  SeqStopsK F n Tryz.prog 216 #[.pointer (some ⟨Bs,0,none⟩)] (fun x:At row=>#[Value.int .i64 (x.1.1:Nat),Value.int .u8 (x.1.2:Nat)]) (KeepsAt n₀ Bs) (fun ys=>wheres ys=downs row.length 0) (fun _=>True) row.length w:=fun l J Jx W hW _ _ hY h0=>by
 have hW':=hW.mono hn₀
 refine (bwK1_in F n hf hro hn l Bs n₀ cap ao row hfew J Jx hY W sty ((hW.block _ (heap_lt hBs)).trans hBs) (fun j k hk=>?_) h0).mono ?_
 ·obtain ⟨q,h1,h2,h3⟩:=hc j k hk
  exact ⟨q,h1,h2,(hW'.cell (p:=⟨q,j,none⟩) h2).trans h3⟩
 ·rintro e W' ⟨he,⟨ys,hy,hj⟩ | ⟨pre,hj⟩⟩
  ·exact ⟨he,.inl ⟨_,hy,hj⟩⟩
  ·exact ⟨he,.inr ⟨_,trivial,hj⟩⟩
abbrev ruleVal (k:Bool × Value × Value):Value:=.agg #[.bool k.1,k.2.1,k.2.2]
set_option maxRecDepth 100000 in
set_option maxHeartbeats 2000000 in
theorem bwR1_in (F:Fence) (n:Nat) (hf:F.fn 154) (hro:F.round=none) (hn:1≤n) (l Bs n₀ cap:Nat) (ao:Option Addr) (row:List (Bool × Value × Value)) (hfew:row.length≤100) (J Jx:List (At row)→World→Prop)
  (hY:∀ pre x W,J pre W→pre.length<row.length→YieldAt F (n - 1) Tryz.prog l #[.int .i64 (x.1.1:Nat),ruleVal x.1.2] W fun e W' =>
   (e=.returned (.bool true)∧J (pre++[x]) W'∧KeepsAt n₀ Bs W W')∨(e=.returned (.bool false)∧Jx (pre++[x]) W'))
  (W:World) (sty:TypeId) (hBs:W.heap[Bs]?=some (.cells #[.slice ao row.length cap] sty (0,0))) (hc:∀ j k,row[j]?=some k→∃ q,ao=some ⟨q,0,none⟩∧q<n₀∧W.cell? ⟨q,j * 3,none⟩=some (.bool k.1)∧W.cell? ⟨q,j * 3+1,none⟩=some k.2.1∧W.cell? ⟨q,j * 3+2,none⟩=some k.2.2) (h0:J [] W) :
  CallsIn F n Tryz.prog 154 #[.func (.yield l) #[] #[],.pointer (some ⟨Bs,0,none⟩)] W fun e W'=>(∃ v,e=.returned v) ∧
   ((∃ ys,wheres ys=downs row.length 0∧J ys W')∨(∃ pre,Jx pre W')):=by
 refine callsIn_of_wp Tryz.func154 rfl hf ?_ hro
 simp only [Tryz.ntmps154,List.size_toArray,List.length_cons,List.length_nil,Nat.reduceAdd,Nat.reduceSub,Array.replicate_succ,Array.replicate_zero,List.push_toArray,List.append_toArray,List.nil_append,List.cons_append]
 have hb0:=cell_of_block hBs 0 _ rfl
 gi_wp2
 gi_loopw [3] (fun i wr=>∃ (j:Nat) (pre:List (At row)),j≤row.length∧i=.int .i64 ((j:Int) - 1)∧wheres pre=downs row.length j∧J pre wr∧KeepsAt n₀ Bs W wr)
  (fun i _=>(intOf i+1).toNat)
 case atStart=>exact ⟨row.length,[],Nat.le_refl _,rfl,by rw [downs_none];rfl,h0,KeepsAt.refl _ _ _⟩
 case round =>
  obtain ⟨j,pre,hj,rfl,hp,hJs,hnx⟩:=hrel
  have hb1:=cell_of_block (hnx.2.trans hBs) 0 _ rfl
  cases j with
  | zero =>
   gi_wp2
   go_end0
   exact ⟨⟨_,rfl⟩,.inl ⟨_,hp,hJs⟩⟩
  | succ j =>
   obtain ⟨k,hk⟩:∃ k,row[j]?=some k:=⟨row[j],List.getElem?_eq_getElem (by omega)⟩
   obtain ⟨q,rfl,hq,hcq⟩:=hc j k hk
   have hcx0:=(hnx.1.cell (p:=⟨q,j * 3,none⟩) hq).trans hcq.1
   have hcx1:=(hnx.1.cell (p:=⟨q,j * 3+1,none⟩) hq).trans hcq.2.1
   have hcx2:=(hnx.1.cell (p:=⟨q,j * 3+2,none⟩) hq).trans hcq.2.2
   obtain ⟨kc,kl,kr⟩:=k
   dsimp only at hcx0 hcx1 hcx2
   have hpl:pre.length<row.length:=by
    have:=congrArg List.length hp
    rw [downs_len] at this
    unfold wheres at this
    rw [List.length_map] at this
    omega
   obtain ⟨fn,tmps,assign,body,hy,hR⟩:=hY pre ⟨(j,(kc,kl,kr)),hk⟩ wr hJs hpl
   dsimp only [ruleVal] at hy
   rw [show ((j+1:Nat):Int) - 1=(j:Int) from by omega]
   gi_wp2
   refine hR.mono ?_
   rintro e W3 (⟨rfl,hJ3,hk3⟩ | ⟨rfl,hJx3⟩)
   ·gi_wp2
    go_roundw
    case rel=>exact ⟨j,pre++[⟨(j,(kc,kl,kr)),hk⟩],by omega,by simp,by rw [downs_snoc (by omega),← hp];simp [wheres],hJ3,keepsAt_t hnx hk3⟩
    case measure=>simp [intOf]
   ·gi_wp2
    refine bodyPost_ret (results_none rfl _ _ _) rfl ?_
    exact ⟨⟨_,rfl⟩,.inr ⟨_,hJx3⟩⟩
set_option maxHeartbeats 1000000 in
theorem bwR_in (F:Fence) (n:Nat) (hf:F.fn 101) (hro:F.round=none) (a:Option Addr) (len cap:Nat) (w:World) :
  CallsIn F n Tryz.prog 101 #[.slice a len cap] w fun e w'=>e=.returned (.func (.func 154) #[] #[.pointer (some ⟨w.heap.size,0,none⟩)])∧w'=w.alloc (.cells #[.slice a len cap] 87):=by
 refine callsIn_of_wp Tryz.func101 rfl hf ?_ hro
 simp only [Tryz.ntmps101,List.size_toArray,List.length_cons,List.length_nil,Nat.reduceAdd,Nat.reduceSub,Array.replicate_succ,Array.replicate_zero,List.push_toArray,List.append_toArray,List.nil_append,List.cons_append]
 gi_wp2
 go_ret
 exact ⟨rfl,rfl⟩
theorem bwR_stops (F:Fence) (n:Nat) (hf:F.fn 154) (hro:F.round=none) (hn:1≤n) (Bs n₀ cap:Nat) (ao:Option Addr) (row:List (Bool × Value × Value)) (hfew:row.length≤100) (w:World) (sty:TypeId) (hn₀:n₀≤w.heap.size)
  (hBs:w.heap[Bs]?=some (.cells #[.slice ao row.length cap] sty (0,0))) (hc:∀ j k,row[j]?=some k→∃ q,ao=some ⟨q,0,none⟩∧q<n₀∧w.cell? ⟨q,j * 3,none⟩=some (.bool k.1)∧w.cell? ⟨q,j * 3+1,none⟩=some k.2.1∧w.cell? ⟨q,j * 3+2,none⟩=some k.2.2) :
  SeqStopsK F n Tryz.prog 154 #[.pointer (some ⟨Bs,0,none⟩)] (fun x:At row=>#[Value.int .i64 (x.1.1:Nat),ruleVal x.1.2]) (KeepsAt n₀ Bs) (fun ys=>wheres ys=downs row.length 0) (fun _=>True) row.length w:=fun l J Jx W hW _ _ hY h0=>by
 have hW':=hW.mono hn₀
 refine (bwR1_in F n hf hro hn l Bs n₀ cap ao row hfew J Jx hY W sty ((hW.block _ (heap_lt hBs)).trans hBs) (fun j k hk=>?_) h0).mono ?_
 ·obtain ⟨q,h1,h2,h3⟩:=hc j k hk
  exact ⟨q,h1,h2,(hW'.cell (p:=⟨q,j * 3,none⟩) h2).trans h3.1,(hW'.cell (p:=⟨q,j * 3+1,none⟩) h2).trans h3.2.1,(hW'.cell (p:=⟨q,j * 3+2,none⟩) h2).trans h3.2.2⟩
 ·rintro e W' ⟨he,⟨ys,hy,hj⟩ | ⟨pre,hj⟩⟩
  ·exact ⟨he,.inl ⟨_,hy,hj⟩⟩
  ·exact ⟨he,.inr ⟨_,trivial,hj⟩⟩
end Go.Proofs.YtodagkkjfipbgaaGreatDoor
