import Derived.RangeFuncNested
import Derived.RangeFuncBound
import Derived.RangeFuncCalls
import Derived.RangeFuncLeaves
import Derived.Shelf.RegionOpen
import Derived.OwnWalkIn
import Derived.TacticsInMore
import Derived.LoopNIn
import Derived.LoopIn
import Derived.Test.YtodagkkjfipbgaaGreatDoorV1toT1
namespace Go.Proofs.YtodagkkjfipbgaaGreatDoor
open Go.RowKit Go.Maps Go.Shelf
attribute [local go_sem] Oper.semAt_some
abbrev At {β:Type} (L:List β):Type:={ x:Nat × β // L[x.1]?=some x.2 }
def downs (n j:Nat):List Nat:=(List.range' j (n - j)).reverse
theorem downs_none (n:Nat):downs n n=[]:=by unfold downs;simp
theorem downs_snoc {n j:Nat} (h:j<n):downs n j=downs n (j+1)++[j]:=by
 unfold downs
 rw [show n - j=(n - (j+1))+1 from by omega,List.range'_succ,List.reverse_cons]
theorem downs_len (n j:Nat):(downs n j).length=n - j:=by unfold downs;simp
def wheres {β:Type} {L:List β} (pre:List (At L)):List Nat:=pre.map fun x=>x.1.1
def KeepsAt (n₀ Bs:Nat) (W W':World):Prop:=Below n₀ W W'/\W'.heap[Bs]?=W.heap[Bs]?
theorem KeepsAt.refl (n₀ Bs:Nat) (W:World):KeepsAt n₀ Bs W W:=⟨Below.refl _ _,rfl⟩
theorem keepsAt_t {n₀ Bs:Nat} {A B C:World} (h:KeepsAt n₀ Bs A B) (k:KeepsAt n₀ Bs B C):KeepsAt n₀ Bs A C:=⟨h.1.trans k.1,k.2.trans h.2⟩
theorem keepsAt_b {n₀ Bs:Nat} {w:World} (hn:n₀<=w.heap.size) (hB:Bs<w.heap.size) (W:World) (l:Nat) (o o':Obj) (hl:w.heap.size<=l) (h:W.heap[l]?=some o) (hc:o.isCells=false) (hw:o.isWalk=false):KeepsAt n₀ Bs W (W.putObj l o') :=
 ⟨belowK_b hn W l o o' hl h hc hw,World.putObj_heap_other (by omega)⟩
set_option maxRecDepth 100000 in
set_option maxHeartbeats 2000000 in
theorem bwK1_in (F:Fence) (n:Nat) (hf:F.fn 216) (hro:F.round=none) (hn:1<=n) (l Bs n₀ cap:Nat) (ao:Option Addr) (row:List Nat) (hfew:row.length<=2200000) (J Jx:List (At row)->World->Prop)
  (hY:∀ pre x W,J pre W->pre.length<row.length->YieldAt F (n - 1) Tryz.prog l #[.int .i64 (x.1.1:Nat),.int .u8 (x.1.2:Nat)] W fun e W' =>
   (e=.returned (.bool true)/\J (pre++[x]) W'/\KeepsAt n₀ Bs W W')\/(e=.returned (.bool false)/\Jx (pre++[x]) W'))
  (W:World) (sty:TypeId) (hBs:W.heap[Bs]?=some (.cells #[.slice ao row.length cap] sty (0,0))) (hc:∀ j k,row[j]?=some k->∃ q,ao=some ⟨q,0,none⟩/\q<n₀/\W.cell? ⟨q,j,none⟩=some (.int .u8 (k:Nat))) (h0:J [] W) :
  CallsIn F n Tryz.prog 216 #[.func (.yield l) #[] #[],.pointer (some ⟨Bs,0,none⟩)] W fun e W'=>(∃ v,e=.returned v) /\
   ((∃ ys,wheres ys=downs row.length 0/\J ys W')\/(∃ pre,Jx pre W')):=by
 refine callsIn_of_wp Tryz.func216 rfl hf ?_ hro
 simp only [Tryz.ntmps216,List.size_toArray,List.length_cons,List.length_nil,Nat.reduceAdd,Nat.reduceSub,Array.replicate_succ,Array.replicate_zero,List.push_toArray,List.append_toArray,List.nil_append,List.cons_append]
 have hb0:=cell_of_block hBs 0 _ rfl
 gi_wp2
 gi_loopw [3] (fun i wr=>∃ (j:Nat) (pre:List (At row)),j<=row.length/\i=.int .i64 ((j:Int) - 1)/\wheres pre=downs row.length j/\J pre wr/\KeepsAt n₀ Bs W wr)
  (fun i _=>(intOf i+1).toNat)
 case atStart=>exact ⟨row.length,[],Nat.le_refl _,rfl,by rw [downs_none];rfl,h0,KeepsAt.refl _ _ _⟩
 case round =>
  obtain ⟨j,pre,hj,rfl,hp,hJs,hnx⟩:=hrel
  have hb1:=cell_of_block (hnx.2.trans hBs) 0 _ rfl
  cases j with
  | zero =>
   gi_wp2
   go_end0
   exact ⟨⟨_,rfl⟩,.inl ⟨_,hp,hJs⟩⟩
  | succ j =>
   obtain ⟨k,hk⟩:∃ k,row[j]?=some k:=⟨row[j],List.getElem?_eq_getElem (by omega)⟩
   obtain ⟨q,rfl,hq,hcq⟩:=hc j k hk
   have hcx:=(hnx.1.cell (p:=⟨q,j,none⟩) hq).trans hcq
   have hpl:pre.length<row.length:=by
    have:=congrArg List.length hp
    rw [downs_len] at this
    unfold wheres at this
    rw [List.length_map] at this
    omega
   obtain ⟨fn,tmps,assign,body,hy,hR⟩:=hY pre ⟨(j,k),hk⟩ wr hJs hpl
   dsimp only at hy
   rw [show ((j+1:Nat):Int) - 1=(j:Int) from by omega]
   gi_wp2
   refine hR.mono ?_
   rintro e W3 (⟨rfl,hJ3,hk3⟩ | ⟨rfl,hJx3⟩)
   ·gi_wp2
    go_roundw
    case rel=>exact ⟨j,pre++[⟨(j,k),hk⟩],by omega,by simp,by rw [downs_snoc (by omega),<- hp];simp [wheres],hJ3,keepsAt_t hnx hk3⟩
    case measure=>simp [intOf]
   ·gi_wp2
    refine bodyPost_ret (results_none rfl _ _ _) rfl ?_
    exact ⟨⟨_,rfl⟩,.inr ⟨_,hJx3⟩⟩
set_option maxHeartbeats 1000000 in
theorem bwK_in (F:Fence) (n:Nat) (hf:F.fn 193) (hro:F.round=none) (a:Option Addr) (len cap:Nat) (w:World) :
  CallsIn F n Tryz.prog 193 #[.slice a len cap] w fun e w'=>e=.returned (.func (.func 216) #[] #[.pointer (some ⟨w.heap.size,0,none⟩)])/\w'=w.alloc (.cells #[.slice a len cap] 91):=by
 refine callsIn_of_wp Tryz.func193 rfl hf ?_ hro
 simp only [Tryz.ntmps193,List.size_toArray,List.length_cons,List.length_nil,Nat.reduceAdd,Nat.reduceSub,Array.replicate_succ,Array.replicate_zero,List.push_toArray,List.append_toArray,List.nil_append,List.cons_append]
 gi_wp2
 go_ret
 exact ⟨rfl,rfl⟩
theorem bwK_stops (F:Fence) (n:Nat) (hf:F.fn 216) (hro:F.round=none) (hn:1<=n) (Bs n₀ cap:Nat) (ao:Option Addr) (row:List Nat) (hfew:row.length<=2200000) (w:World) (sty:TypeId) (hn₀:n₀<=w.heap.size)
  (hBs:w.heap[Bs]?=some (.cells #[.slice ao row.length cap] sty (0,0))) (hc:∀ j k,row[j]?=some k->∃ q,ao=some ⟨q,0,none⟩/\q<n₀/\w.cell? ⟨q,j,none⟩=some (.int .u8 (k:Nat))) :
  SeqStopsK F n Tryz.prog 216 #[.pointer (some ⟨Bs,0,none⟩)] (fun x:At row=>#[Value.int .i64 (x.1.1:Nat),Value.int .u8 (x.1.2:Nat)]) (KeepsAt n₀ Bs) (fun ys=>wheres ys=downs row.length 0) (fun _=>True) row.length w:=fun l J Jx W hW _ _ hY h0=>by
 have hW':=hW.mono hn₀
 refine (bwK1_in F n hf hro hn l Bs n₀ cap ao row hfew J Jx hY W sty ((hW.block _ (heap_lt hBs)).trans hBs) (fun j k hk=>?_) h0).mono ?_
 ·obtain ⟨q,h1,h2,h3⟩:=hc j k hk
  exact ⟨q,h1,h2,(hW'.cell (p:=⟨q,j,none⟩) h2).trans h3⟩
 ·rintro e W' ⟨he,⟨ys,hy,hj⟩ | ⟨pre,hj⟩⟩
  ·exact ⟨he,.inl ⟨_,hy,hj⟩⟩
  ·exact ⟨he,.inr ⟨_,trivial,hj⟩⟩
abbrev ruleVal (k:Bool × Value × Value):Value:=.agg #[.bool k.1,k.2.1,k.2.2]
set_option maxRecDepth 100000 in
set_option maxHeartbeats 2000000 in
theorem bwR1_in (F:Fence) (n:Nat) (hf:F.fn 154) (hro:F.round=none) (hn:1<=n) (l Bs n₀ cap:Nat) (ao:Option Addr) (row:List (Bool × Value × Value)) (hfew:row.length<=100) (J Jx:List (At row)->World->Prop)
  (hY:∀ pre x W,J pre W->pre.length<row.length->YieldAt F (n - 1) Tryz.prog l #[.int .i64 (x.1.1:Nat),ruleVal x.1.2] W fun e W' =>
   (e=.returned (.bool true)/\J (pre++[x]) W'/\KeepsAt n₀ Bs W W')\/(e=.returned (.bool false)/\Jx (pre++[x]) W'))
  (W:World) (sty:TypeId) (hBs:W.heap[Bs]?=some (.cells #[.slice ao row.length cap] sty (0,0))) (hc:∀ j k,row[j]?=some k->∃ q,ao=some ⟨q,0,none⟩/\q<n₀/\W.cell? ⟨q,j * 3,none⟩=some (.bool k.1)/\W.cell? ⟨q,j * 3+1,none⟩=some k.2.1/\W.cell? ⟨q,j * 3+2,none⟩=some k.2.2) (h0:J [] W) :
  CallsIn F n Tryz.prog 154 #[.func (.yield l) #[] #[],.pointer (some ⟨Bs,0,none⟩)] W fun e W'=>(∃ v,e=.returned v) /\
   ((∃ ys,wheres ys=downs row.length 0/\J ys W')\/(∃ pre,Jx pre W')):=by
 refine callsIn_of_wp Tryz.func154 rfl hf ?_ hro
 simp only [Tryz.ntmps154,List.size_toArray,List.length_cons,List.length_nil,Nat.reduceAdd,Nat.reduceSub,Array.replicate_succ,Array.replicate_zero,List.push_toArray,List.append_toArray,List.nil_append,List.cons_append]
 have hb0:=cell_of_block hBs 0 _ rfl
 gi_wp2
 gi_loopw [3] (fun i wr=>∃ (j:Nat) (pre:List (At row)),j<=row.length/\i=.int .i64 ((j:Int) - 1)/\wheres pre=downs row.length j/\J pre wr/\KeepsAt n₀ Bs W wr)
  (fun i _=>(intOf i+1).toNat)
 case atStart=>exact ⟨row.length,[],Nat.le_refl _,rfl,by rw [downs_none];rfl,h0,KeepsAt.refl _ _ _⟩
 case round =>
  obtain ⟨j,pre,hj,rfl,hp,hJs,hnx⟩:=hrel
  have hb1:=cell_of_block (hnx.2.trans hBs) 0 _ rfl
  cases j with
  | zero =>
   gi_wp2
   go_end0
   exact ⟨⟨_,rfl⟩,.inl ⟨_,hp,hJs⟩⟩
  | succ j =>
   obtain ⟨k,hk⟩:∃ k,row[j]?=some k:=⟨row[j],List.getElem?_eq_getElem (by omega)⟩
   obtain ⟨q,rfl,hq,hcq⟩:=hc j k hk
   have hcx0:=(hnx.1.cell (p:=⟨q,j * 3,none⟩) hq).trans hcq.1
   have hcx1:=(hnx.1.cell (p:=⟨q,j * 3+1,none⟩) hq).trans hcq.2.1
   have hcx2:=(hnx.1.cell (p:=⟨q,j * 3+2,none⟩) hq).trans hcq.2.2
   obtain ⟨kc,kl,kr⟩:=k
   dsimp only at hcx0 hcx1 hcx2
   have hpl:pre.length<row.length:=by
    have:=congrArg List.length hp
    rw [downs_len] at this
    unfold wheres at this
    rw [List.length_map] at this
    omega
   obtain ⟨fn,tmps,assign,body,hy,hR⟩:=hY pre ⟨(j,(kc,kl,kr)),hk⟩ wr hJs hpl
   dsimp only [ruleVal] at hy
   rw [show ((j+1:Nat):Int) - 1=(j:Int) from by omega]
   gi_wp2
   refine hR.mono ?_
   rintro e W3 (⟨rfl,hJ3,hk3⟩ | ⟨rfl,hJx3⟩)
   ·gi_wp2
    go_roundw
    case rel=>exact ⟨j,pre++[⟨(j,(kc,kl,kr)),hk⟩],by omega,by simp,by rw [downs_snoc (by omega),<- hp];simp [wheres],hJ3,keepsAt_t hnx hk3⟩
    case measure=>simp [intOf]
   ·gi_wp2
    refine bodyPost_ret (results_none rfl _ _ _) rfl ?_
    exact ⟨⟨_,rfl⟩,.inr ⟨_,hJx3⟩⟩
set_option maxHeartbeats 1000000 in
theorem bwR_in (F:Fence) (n:Nat) (hf:F.fn 101) (hro:F.round=none) (a:Option Addr) (len cap:Nat) (w:World) :
  CallsIn F n Tryz.prog 101 #[.slice a len cap] w fun e w'=>e=.returned (.func (.func 154) #[] #[.pointer (some ⟨w.heap.size,0,none⟩)])/\w'=w.alloc (.cells #[.slice a len cap] 87):=by
 refine callsIn_of_wp Tryz.func101 rfl hf ?_ hro
 simp only [Tryz.ntmps101,List.size_toArray,List.length_cons,List.length_nil,Nat.reduceAdd,Nat.reduceSub,Array.replicate_succ,Array.replicate_zero,List.push_toArray,List.append_toArray,List.nil_append,List.cons_append]
 gi_wp2
 go_ret
 exact ⟨rfl,rfl⟩
theorem bwR_stops (F:Fence) (n:Nat) (hf:F.fn 154) (hro:F.round=none) (hn:1<=n) (Bs n₀ cap:Nat) (ao:Option Addr) (row:List (Bool × Value × Value)) (hfew:row.length<=100) (w:World) (sty:TypeId) (hn₀:n₀<=w.heap.size)
  (hBs:w.heap[Bs]?=some (.cells #[.slice ao row.length cap] sty (0,0))) (hc:∀ j k,row[j]?=some k->∃ q,ao=some ⟨q,0,none⟩/\q<n₀/\w.cell? ⟨q,j * 3,none⟩=some (.bool k.1)/\w.cell? ⟨q,j * 3+1,none⟩=some k.2.1/\w.cell? ⟨q,j * 3+2,none⟩=some k.2.2) :
  SeqStopsK F n Tryz.prog 154 #[.pointer (some ⟨Bs,0,none⟩)] (fun x:At row=>#[Value.int .i64 (x.1.1:Nat),ruleVal x.1.2]) (KeepsAt n₀ Bs) (fun ys=>wheres ys=downs row.length 0) (fun _=>True) row.length w:=fun l J Jx W hW _ _ hY h0=>by
 have hW':=hW.mono hn₀
 refine (bwR1_in F n hf hro hn l Bs n₀ cap ao row hfew J Jx hY W sty ((hW.block _ (heap_lt hBs)).trans hBs) (fun j k hk=>?_) h0).mono ?_
 ·obtain ⟨q,h1,h2,h3⟩:=hc j k hk
  exact ⟨q,h1,h2,(hW'.cell (p:=⟨q,j * 3,none⟩) h2).trans h3.1,(hW'.cell (p:=⟨q,j * 3+1,none⟩) h2).trans h3.2.1,(hW'.cell (p:=⟨q,j * 3+2,none⟩) h2).trans h3.2.2⟩
 ·rintro e W' ⟨he,⟨ys,hy,hj⟩ | ⟨pre,hj⟩⟩
  ·exact ⟨he,.inl ⟨_,hy,hj⟩⟩
  ·exact ⟨he,.inr ⟨_,trivial,hj⟩⟩
end Go.Proofs.YtodagkkjfipbgaaGreatDoor
namespace Go.Proofs.YtodagkkjfipbgaaGreatDoor
open Go.RowKit Go.Maps Go.Shelf
attribute [local go_sem] Oper.semAt_some
def rightAt (t:Tab) (row:List Nat) (i:Nat):Nat:=(row.drop i).reverse.foldl (fun a k=>tnext t a k) 0
theorem rightAt_step {t:Tab} {row:List Nat} {i k:Nat} (h:row[i]?=some k):rightAt t row i=tnext t (rightAt t row (i+1)) k:=by
 unfold rightAt
 obtain ⟨hl,hk⟩:=List.getElem?_eq_some_iff.1 h
 rw [List.drop_eq_getElem_cons hl,hk,List.reverse_cons,List.foldl_append]
 rfl
theorem rightAt_end (t:Tab) (row:List Nat):rightAt t row row.length=0:=by unfold rightAt;simp
def rstep (t:Tab) {row:List Nat} (s:Nat × List Bool) (x:At row):Nat × List Bool:=(tnext t s.1 x.1.2,s.2.set x.1.1 (tmatch t (tnext t s.1 x.1.2)))
def rst (t:Tab) {row:List Nat} (pre:List (At row)):Nat × List Bool:=pre.foldl (rstep t) (0,(List.replicate (row.length+1) false).set row.length (tmatch t 0))
theorem rst_snoc (t:Tab) {row:List Nat} (pre:List (At row)) (x:At row):rst t (pre++[x])=rstep t (rst t pre) x:=by unfold rst;rw [List.foldl_append];rfl
theorem snoc_cases {β:Type} (l:List β):l=[]\/∃ l' a,l=l'++[a]:=by
 rcases List.eq_nil_or_concat l with h | ⟨l',a,h⟩
 ·exact Or.inl h
 ·exact Or.inr ⟨l',a,by rw [h,List.concat_eq_append]⟩
theorem snoc_ind {β:Type} {p:List β->Prop} (h0:p []) (h1:∀ l a,p l->p (l++[a])):∀ l,p l:=by
 intro l
 have:∀ r:List β,p r.reverse:=by
  intro r
  induction r with
  | nil=>exact h0
  | cons a r ih=>rw [List.reverse_cons];exact h1 _ _ ih
 have h:=this l.reverse
 rwa [List.reverse_reverse] at h
theorem rst_len (t:Tab) {row:List Nat}:∀ pre:List (At row),(rst t pre).2.length=row.length+1:=by
 apply snoc_ind
 ·unfold rst;simp
 ·intro l a ih;rw [rst_snoc];unfold rstep;rw [List.length_set];exact ih
theorem rst_lt {t:Tab} (ht:TabGood t) {row:List Nat}:∀ pre:List (At row),(rst t pre).1<t.length:=by
 apply snoc_ind
 ·exact ht.pos
 ·intro l a ih;rw [rst_snoc];exact tnext_lt ht ih
theorem rst_down (t:Tab) {row:List Nat}:∀ (d j:Nat) (pre:List (At row)),d+j=row.length->wheres pre=downs row.length j->rst t pre=(rightAt t row j,(List.range (row.length+1)).map fun i=>if j<=i then tmatch t (rightAt t row i) else false):=by
 intro d
 induction d with
 | zero =>
  intro j pre hj hp
  obtain rfl:j=row.length:=by omega
  rw [downs_none] at hp
  have e:pre=[]:=List.map_eq_nil_iff.1 hp
  subst e
  unfold rst
  rw [List.foldl_nil,rightAt_end]
  refine Prod.ext rfl ?_
  apply List.ext_getElem?
  intro i
  show ((List.replicate (row.length+1) false).set row.length (tmatch t 0))[i]?=_
  rw [List.getElem?_set,List.getElem?_map,List.length_replicate]
  by_cases h1:row.length=i
  ·subst h1;rw [if_pos rfl,if_pos (by omega),List.getElem?_range (by omega)];simp [rightAt_end]
  ·rw [if_neg h1,List.getElem?_replicate]
   by_cases h2:i<row.length+1
   ·rw [if_pos h2,List.getElem?_range h2,Option.map_some,if_neg (by omega)]
   ·rw [if_neg h2,List.getElem?_eq_none (by simp;omega)];rfl
 | succ d ih =>
  intro j pre hj hp
  rw [downs_snoc (by omega)] at hp
  rcases snoc_cases pre with rfl | ⟨l,x,rfl⟩
  ·simp [wheres] at hp
  ·unfold wheres at hp
   rw [List.map_append,List.map_cons,List.map_nil] at hp
   obtain ⟨h1,h2⟩:=List.append_inj' hp rfl
   obtain ⟨⟨xi,xk⟩,hx⟩:=x
   have h3:xi=j:=by simpa using h2
   subst h3
   rw [rst_snoc,ih (xi+1) l (by omega) h1]
   unfold rstep
   have e:=rightAt_step (t:=t) hx
   refine Prod.ext e.symm ?_
   apply List.ext_getElem?
   intro i
   show (List.set _ xi (tmatch t (tnext t (rightAt t row (xi+1)) xk)))[i]?=_
   rw [<- e,List.getElem?_set,List.getElem?_map,List.getElem?_map,List.length_map,List.length_range]
   by_cases h4:xi=i
   ·subst h4;rw [if_pos rfl,if_pos (by omega),List.getElem?_range (by omega)];simp
   ·rw [if_neg h4]
    by_cases h5:i<row.length+1
    ·rw [List.getElem?_range h5,Option.map_some,Option.map_some]
     by_cases h6:xi+1<=i
     ·rw [if_pos h6,if_pos (by omega)]
     ·rw [if_neg h6,if_neg (by omega)]
    ·rw [List.getElem?_eq_none (by simp;omega)];rfl
theorem rst_all (t:Tab) {row:List Nat} {pre:List (At row)} (h:wheres pre=downs row.length 0):(rst t pre).2=(List.range (row.length+1)).map fun i=>tmatch t (rightAt t row i):=by
 rw [rst_down t row.length 0 pre rfl h]
 simp
theorem cell_lt2 {w:World} {b o:Nat} {v:Value} (h:w.cell? ⟨b,o,none⟩=some v):b<w.heap.size:=by
 obtain ⟨x,hx,_⟩:=cells_of_cell h
 exact (Array.getElem?_eq_some_iff.1 hx).1
def onlyAt (A:Act) (W:World):Exit->Act->World->Prop:=fun e a w=>match e with
 | .normal=>a=A/\w=W
 | _=>False
theorem onlyAt_then {A:Act} {W:World} {Q:Exit->Act->World->Prop} (h:Q .normal A W):∀ e a w,onlyAt A W e a w->Q e a w:=by
 intro e a w he
 cases e with
 | normal=>obtain ⟨rfl,rfl⟩:=he;exact h
 | _=>exact he.elim
structure RMem (n0:Nat) (W:World) (vT:Value) (m:Nat) (s:Nat × List Bool):Prop where
 b0:W.heap[n0]?=some (.cells #[vT] 154 (0,0))
 b1:W.heap[n0+1]?=some (.cells (boolCells s.2) 4 (0,0))
 b2:W.heap[n0+1+1]?=some (.cells #[.slice (some ⟨n0+1,0,none⟩) m m] 108 (0,0))
 b3:W.heap[n0+1+1+1]?=some (.cells #[.int .i64 (s.1:Nat)] 3 (0,0))
theorem RMem.blocks {n0:Nat} {W W':World} {vT:Value} {m:Nat} {s:Nat × List Bool} (h:RMem n0 W vT m s) (hk:∀ (k:Nat) (cs:Array Value) (t:TypeId),W.heap[k]?=some (.cells cs t (0,0))->W'.heap[k]?=some (.cells cs t (0,0))):RMem n0 W' vT m s :=
 ⟨hk _ _ _ h.b0,hk _ _ _ h.b1,hk _ _ _ h.b2,hk _ _ _ h.b3⟩
theorem RMem.below {n0:Nat} {W W':World} {vT:Value} {m:Nat} {s:Nat × List Bool} (h:RMem n0 W vT m s) (hb:Below W.heap.size W W'):RMem n0 W' vT m s:=h.blocks fun k _ _ hk=>(hb.block k (heap_lt hk)).trans hk
theorem RMem.told {n0:Nat} {W:World} {vT:Value} {m:Nat} {s:Nat × List Bool} (h:RMem n0 W vT m s) (i:Nat) (b:Bool):RMem n0 (W.setCell ⟨n0+1,i,none⟩ (.bool b)) vT m (s.1,s.2.set i b) :=
 ⟨(setCell_type (by omega)).trans h.b0,(block_setCell h.b1 i _).trans (by rw [boolCells_set]),(setCell_type (by omega)).trans h.b2,(setCell_type (by omega)).trans h.b3⟩
theorem RMem.at_ {n0:Nat} {W:World} {vT:Value} {m:Nat} {s:Nat × List Bool} (h:RMem n0 W vT m s) (a:Nat):RMem n0 (W.setCell ⟨n0+1+1+1,0,none⟩ (.int .i64 (a:Nat))) vT m (a,s.2) :=
 ⟨(setCell_type (by omega)).trans h.b0,(setCell_type (by omega)).trans h.b1,(setCell_type (by omega)).trans h.b2,(block_setCell h.b3 0 _).trans rfl⟩
theorem block_kept {A B:World} {row:Option Nat} (hg:A.grownBy B row) (hr:∀ r,row=some r->∃ o:Obj,A.heap[r]?=some o/\o.isCells=false) {k:Nat} {cs:Array Value} {t:TypeId} {m:Nat × Nat} (h:A.heap[k]?=some (.cells cs t m)):B.heap[k]?=some (.cells cs t m) :=
 (hg.block k (heap_lt h) (fun e=>by obtain ⟨o,h1,h2⟩:=hr k e.symm;rw [h] at h1;cases h1;cases h2)).trans h
theorem block_put {W:World} {D:Nat} {o:Obj} (hD:W.heap[D]?=some o) (ho:o.isCells=false) (o':Obj) {k:Nat} {cs:Array Value} {t:TypeId} {m:Nat × Nat} (h:W.heap[k]?=some (.cells cs t m)):(W.putObj D o').heap[k]?=some (.cells cs t m) :=
 (World.putObj_heap_other (fun e=>by subst e;rw [h] at hD;cases hD;cases ho)).trans h
set_option maxRecDepth 100000 in
set_option maxHeartbeats 2000000 in
theorem rmatches_any (w:World) (vT vR:Value) (t:Tab) (row:List Nat) (hT:TabIn 0 w vT t) (ht:TabGood t) (hR:KRow w vR row) :
  Calls Tryz.prog 156 #[.agg #[vT],vR] w fun r w'=>∃ g,r=.returned (.slice (some ⟨g,0,none⟩) (row.length+1) (row.length+1))/\w.heap.size<=g/\w'.heap[g]?=some (.cells (boolCells ((List.range (row.length+1)).map fun i=>tmatch t (rightAt t row i))) 4 (0,0))/\Below w.heap.size w w':=by
 obtain ⟨aoT,capT,rfl⟩:=row_shape hT
 obtain ⟨aoR,capR,rfl⟩:=row_shape hR.own
 have HT:Hid (TabIn 0 w (.slice aoT t.length capT) t):=hT
 have HR:Hid (KRow w (.slice aoR row.length capR) row):=hR
 have HG:Hid (TabGood t):=ht
 have hfew:=hR.few
 have htl:=ht.few
 have hmk:∀ W:World,(Instr.makeSlice 108 (.int .i64 ((row.length:Int)+1)) (.int .i64 ((row.length:Int)+1))).run Tryz.prog W=.ok (.slice (some ⟨W.heap.size,0,none⟩) (row.length+1) (row.length+1)) (W.alloc (.cells (boolCells (List.replicate (row.length+1) false)) 4)):=fun W=>make_bools W (row.length+1) (by omega)
 have hmx:Tryz.prog.follows .mixedOrders=true:=by kernel_rfl
 obtain ⟨W0,hW0⟩:∃ W0,W0=(((w.alloc (.cells #[.slice aoT t.length capT] 154)).alloc (.cells (boolCells (List.replicate (row.length+1) false)) 4)).alloc (.cells #[.slice (some ⟨w.heap.size+1,0,none⟩) (row.length+1) (row.length+1)] 108)).alloc (.cells #[.int .i64 0] 3):=⟨_,rfl⟩
 have HW0:Hid (W0=(((w.alloc (.cells #[.slice aoT t.length capT] 154)).alloc (.cells (boolCells (List.replicate (row.length+1) false)) 4)).alloc (.cells #[.slice (some ⟨w.heap.size+1,0,none⟩) (row.length+1) (row.length+1)] 108)).alloc (.cells #[.int .i64 0] 3)):=hW0
 have hz:W0.heap.size=w.heap.size+4:=by rw [hW0];simp
 have B0:Hid (Below w.heap.size w W0):=by rw [hW0];exact (((below_alloc w _).alloc (by simp) _).alloc (by simp;omega) _).alloc (by simp;omega) _
 have M0:Hid (RMem w.heap.size W0 (.slice aoT t.length capT) (row.length+1) (0,List.replicate (row.length+1) false)):=by
  refine ⟨?_,?_,?_,?_⟩
  ·rw [hW0];exact (Below.heap_alloc _ _ _ (by simp;omega)).trans ((Below.heap_alloc _ _ _ (by simp;omega)).trans ((Below.heap_alloc _ _ _ (by simp)).trans (heap_alloc_new w _)))
  ·rw [hW0];exact (Below.heap_alloc _ _ _ (by simp)).trans ((Below.heap_alloc _ _ _ (by simp)).trans ((show (w.alloc (.cells #[.slice aoT t.length capT] 154)).heap.size=w.heap.size+1 by simp) ▸ heap_alloc_new (w.alloc _) _))
  ·rw [hW0];exact (Below.heap_alloc _ _ _ (by simp)).trans ((show ((w.alloc (.cells #[.slice aoT t.length capT] 154)).alloc (.cells (boolCells (List.replicate (row.length+1) false)) 4)).heap.size=w.heap.size+1+1 by simp) ▸ heap_alloc_new ((w.alloc _).alloc _) _)
  ·rw [hW0];exact (show (((w.alloc (.cells #[.slice aoT t.length capT] 154)).alloc (.cells (boolCells (List.replicate (row.length+1) false)) 4)).alloc (.cells #[.slice (some ⟨w.heap.size+1,0,none⟩) (row.length+1) (row.length+1)] 108)).heap.size=w.heap.size+1+1+1 by simp) ▸ heap_alloc_new (((w.alloc _).alloc _).alloc _) _
 clear hT hR ht hW0
 refine (callsIn_wide (n:=3)).1 ?_
 refine callsIn_of_wp_marks Tryz.func156 rfl trivial ?_ rfl
 simp only [Tryz.ntmps156,List.size_toArray,List.length_cons,List.length_nil,Nat.reduceAdd,Nat.reduceSub,Array.replicate_succ,Array.replicate_zero,List.push_toArray,List.append_toArray,List.nil_append,List.cons_append]
 gi_wp2_with (simp only [hmk])
 rw [<- HW0.out]
 clear HW0 hmk
 have c0:=cell_of_block M0.out.b0 0 _ rfl
 have c1:W0.cell? ⟨w.heap.size+1,row.length,none⟩=some (.bool false):=cell_of_block M0.out.b1 row.length _ (boolCells_at (by rw [List.getElem?_replicate,if_pos (by omega)]))
 have c1f:=free_of_block M0.out.b1 row.length
 have c2:=cell_of_block M0.out.b2 0 _ rfl
 have c3:=cell_of_block M0.out.b3 0 _ rfl
 have T0:Hid (TabIn 0 W0.drew (.slice aoT t.length capT) t):=row_kp HT.out (fun k cs m hh=>Kp.below B0.out k cs m hh)
 have hcall:=(callsIn_wide (n:=2)).2 (match_any W0.drew _ t 0 T0.out HG.out HG.out.pos)
 obtain ⟨f0,hf0⟩:∃ f0,f0=tmatch t 0:=⟨_,rfl⟩
 rw [<- hf0] at hcall
 have HF0:Hid (f0=tmatch t 0):=hf0
 clear hf0
 refine wpIn_mono (Q:=onlyAt { tmps:=#[.agg #[.slice aoT t.length capT],.slice aoR row.length capR,.pointer (some ⟨w.heap.size,0,none⟩),undef,.slice none 0 0,.pointer (some ⟨w.heap.size+1+1,0,none⟩),.pointer (some ⟨w.heap.size+1+1+1,0,none⟩),undef,undef,.slice aoR row.length capR,.int .i64 row.length,.int .i64 (row.length+1),.slice (some ⟨w.heap.size+1,0,none⟩) (row.length+1) (row.length+1),.slice (some ⟨w.heap.size+1,0,none⟩) (row.length+1) (row.length+1),.slice aoR row.length capR,.int .i64 row.length,.pointer (some ⟨w.heap.size,0,none⟩),.slice aoT t.length capT,.int .i64 0,.bool f0,.pointer (some ⟨w.heap.size+1,row.length,none⟩),undef,undef,undef,undef,undef,undef,undef,undef,undef,undef,undef,undef,undef,undef,undef,undef,undef],defers:=[] } (W0.setCell ⟨w.heap.size+1,row.length,none⟩ (.bool f0)).drew) ?region (onlyAt_then ?rest)
 case region =>
  first | gi_region_with_o (refine ⟨trivial,?_⟩;gi_at_call 182;refine hcall.mono ?_;rintro e w' ⟨rfl,rfl⟩) | fail
  all_goals exact ⟨rfl,rfl⟩
 case rest =>
  obtain ⟨W1,hW1⟩:∃ W1,W1=(W0.setCell ⟨w.heap.size+1,row.length,none⟩ (.bool f0)).drew:=⟨_,rfl⟩
  have M1:Hid (RMem w.heap.size W1 (.slice aoT t.length capT) (row.length+1) (rst t ([]:List (At row)))):=by
   rw [hW1]
   have h:=M0.out.told row.length f0
   rw [HF0.out] at h ⊢
   exact h.blocks fun k cs t hk=>hk
  have B1:Hid (Below w.heap.size w W1):=by rw [hW1];exact (B0.out.setCell (by show w.heap.size<=w.heap.size+1;omega) _).drew
  rw [<- hW1]
  have hz1:W1.heap.size=w.heap.size+4:=by rw [hW1];exact (by simp:(W0.setCell ⟨w.heap.size+1,row.length,none⟩ (.bool f0)).heap.size=W0.heap.size).trans hz
  clear hW1 c0 c1 c1f c2 c3 T0 hcall M0 B0 hz HF0
  gi_wp2_with (refine ⟨trivial,?_⟩;gi_at_call 193;refine (bwK_in Fence.wide _ trivial rfl _ _ _ _).mono ?_;rintro e w' ⟨rfl,rfl⟩)
  obtain ⟨W2,hW2⟩:∃ W2,W2=W1.alloc (.cells #[.slice aoR row.length capR] 91):=⟨_,rfl⟩
  rw [<- hW2]
  have hz2:W2.heap.size=w.heap.size+5:=by rw [hW2];simp [hz1]
  have b12:Below W1.heap.size W1 W2:=by rw [hW2];exact below_alloc W1 _
  have M2:RMem w.heap.size W2 (.slice aoT t.length capT) (row.length+1) (rst t ([]:List (At row))):=M1.out.below b12
  have B2:Below w.heap.size w W2:=B1.out.trans (b12.mono B1.out.size)
  have hBs:W2.heap[w.heap.size+4]?=some (.cells #[.slice aoR row.length capR] 91 (0,0)):=by rw [hW2,<- hz1];exact heap_alloc_new W1 _
  have hcells:∀ j k,row[j]?=some k->∃ q,aoR=some ⟨q,0,none⟩/\q<w.heap.size/\W2.cell? ⟨q,j,none⟩=some (.int .u8 (k:Nat)):=by
   intro j k hk
   have hj:=(List.getElem?_eq_some_iff.1 hk).1
   obtain ⟨q,hq,_,hcq⟩:=row_at HR.out.own (kCells_at hk) (by omega)
   have hql:=cell_lt2 hcq
   exact ⟨q,hq,hql,(B2.cell (p:=⟨q,j,none⟩) hql).trans hcq⟩
  clear hW2 M1 B1 b12
  refine wpIn_rangeFunc_ownG rfl (by omega) (gf:=216) (lb:=#[.pointer (some ⟨w.heap.size+4,0,none⟩)]) rfl trivial (enters_of Tryz.func216 (by kernel_rfl) rfl)
   (bwK_stops Fence.wide 2 trivial rfl (by omega) (w.heap.size+4) w.heap.size capR aoR row hfew W2 _ (by omega) hBs hcells) keepsAt_t (keepsAt_b (by omega) (by omega)) (Below.refl _ _) (fun _=>rfl)
   (fun pre W=>RMem w.heap.size W (.slice aoT t.length capT) (row.length+1) (rst t pre)/\Below w.heap.size w W)
   (fun _ _ _=>False)
   (OwnFrom.and (Own.from (fun s A B row hs hg hr=>hs.blocks fun k cs t hk=>block_kept hg hr hk) _) (ownFrom_below (Nat.le_refl _) (by omega)))
   (fun _ _ _ _ _ hs _ _=>hs)
   ⟨M2,B2⟩
   (fun x=>{ tmps:=#[.agg #[.slice aoT t.length capT],.slice aoR row.length capR,.pointer (some ⟨w.heap.size,0,none⟩),undef,.slice none 0 0,.pointer (some ⟨w.heap.size+1+1,0,none⟩),.pointer (some ⟨w.heap.size+1+1+1,0,none⟩),.int .i64 (x.1.1:Nat),.int .u8 (x.1.2:Nat),.slice aoR row.length capR,.int .i64 row.length,.int .i64 (row.length+1),.slice (some ⟨w.heap.size+1,0,none⟩) (row.length+1) (row.length+1),.slice (some ⟨w.heap.size+1,0,none⟩) (row.length+1) (row.length+1),.slice aoR row.length capR,.int .i64 row.length,.pointer (some ⟨w.heap.size,0,none⟩),.slice aoT t.length capT,.int .i64 0,.bool f0,.pointer (some ⟨w.heap.size+1,row.length,none⟩),.slice aoR row.length capR,.func (.func 216) #[] #[.pointer (some ⟨w.heap.size+4,0,none⟩)],.int .i64 (x.1.1:Nat),.int .u8 (x.1.2:Nat),undef,undef,undef,undef,undef,undef,undef,undef,undef,undef,undef,undef,undef],defers:=[] }) ?assign ?body ?done ?stop
  case assign =>
   intro l x W K hK
   gi_wp2
   exact hK
  case body =>
   rintro l pre ⟨⟨i,k⟩,hx⟩ W ⟨hM,hB⟩ _
   have hil:i<row.length:=(List.getElem?_eq_some_iff.1 hx).1
   have hk8:=HR.out.lt k (List.mem_of_getElem? hx)
   have HM:Hid (RMem w.heap.size W (.slice aoT t.length capT) (row.length+1) (rst t pre)):=hM
   have HB:Hid (Below w.heap.size w W):=hB
   have e0:rst t (pre++[⟨(i,k),hx⟩])=(tnext t (rst t pre).1 k,(rst t pre).2.set i (tmatch t (tnext t (rst t pre).1 k))):=rst_snoc t pre _
   have hlt:=rst_lt HG.out pre
   have hlt':tnext t (rst t pre).1 k<t.length:=tnext_lt HG.out hlt
   have hln:=rst_len t pre
   obtain ⟨told,htold⟩:∃ told,told=(rst t pre).2:=⟨_,rfl⟩
   obtain ⟨b0,hb0⟩:∃ b0,told[i]?=some b0:=⟨told[i]'(by rw [htold,hln];omega),List.getElem?_eq_getElem _⟩
   have HB0:Hid ((rst t pre).2[i]?=some b0):=by rw [<- htold];exact hb0
   have c0:=cell_of_block hM.b0 0 _ rfl
   have c1:W.cell? ⟨w.heap.size+1,i,none⟩=some (.bool b0):=cell_of_block hM.b1 i _ (boolCells_at (by rw [<- htold];exact hb0))
   have c1f:=free_of_block hM.b1 i
   have c2:=cell_of_block hM.b2 0 _ rfl
   have c3:=cell_of_block hM.b3 0 _ rfl
   have c3f:=free_of_block hM.b3 0
   obtain ⟨a0,ha0⟩:∃ a0,a0=(rst t pre).1:=⟨_,rfl⟩
   obtain ⟨a1,ha1⟩:∃ a1,a1=tnext t a0 k:=⟨_,rfl⟩
   obtain ⟨f1,hf1⟩:∃ f1,f1=tmatch t a1:=⟨_,rfl⟩
   have E0:Hid (rst t (pre++[⟨(i,k),hx⟩])=(a1,(rst t pre).2.set i f1)):=by show _=_;rw [e0,hf1,ha1,ha0]
   rw [<- ha0] at hlt hlt' c3
   rw [<- ha1] at hlt'
   have T0:Hid (TabIn 0 W (.slice aoT t.length capT) t):=row_kp HT.out (Kp.below HB.out)
   have hcall1:=(callsIn_wide (n:=0)).2 (tnext_any W _ t a0 k T0.out HG.out hlt hk8)
   have T1:Hid (TabIn 0 (W.setCell ⟨w.heap.size+1+1+1,0,none⟩ (.int .i64 (a1:Nat))).drew (.slice aoT t.length capT) t):=row_kp T0.out (fun k cs m hh=>(Kp.refl _ _).setCell HM.out.b3 (by decide) _ k cs m hh)
   have hcall2:=(callsIn_wide (n:=0)).2 (match_any (W.setCell ⟨w.heap.size+1+1+1,0,none⟩ (.int .i64 (a1:Nat))).drew _ t a1 T1.out HG.out hlt')
   rw [<- ha1] at hcall1
   rw [<- hf1] at hcall2
   have M3:Hid (RMem w.heap.size (W.setCell ⟨w.heap.size+1+1+1,0,none⟩ (.int .i64 (a1:Nat))) (.slice aoT t.length capT) (row.length+1) (a1,(rst t pre).2)):=hM.at_ a1
   clear hM hB e0 ha0 ha1 hf1 htold hln M2 B2 hcells hBs
   have hd:1<=3 - 1 - 1:=by omega
   gi_wp2_with (refine ⟨trivial,?_⟩;gi_at_call 184;refine (CallsIn.inRound l hcall1).mono ?_;rintro e Wq ⟨rfl,rfl⟩)
   obtain ⟨W3,hW3⟩:∃ W3,W3=Wq.setCell ⟨w.heap.size+1+1+1,0,none⟩ (.int .i64 (a1:Nat)):=⟨_,rfl⟩
   rw [<- hW3] at hcall2 M3 ⊢
   have k3:KeepsOthers Wq W3:=by rw [hW3];exact KeepsOthers.setCell _ _ _
   have b3:Below w.heap.size Wq W3:=by rw [hW3];exact (Below.refl _ Wq).setCell (by show w.heap.size<=w.heap.size+1+1+1;omega) _
   have x3:W3.heap[w.heap.size+4]?=Wq.heap[w.heap.size+4]?:=by rw [hW3];exact setCell_type (by omega)
   clear hW3 c0 c1 c1f c2 c3 c3f T0 T1 hcall1 HM
   have K3:Hid (KeepsOthers Wq W3):=k3
   have B3:Hid (Below w.heap.size Wq W3):=b3
   have X3:Hid (W3.heap[w.heap.size+4]?=Wq.heap[w.heap.size+4]?):=x3
   clear k3 b3 x3
   have c0:=cell_of_block M3.out.b0 0 _ rfl
   have c1:W3.cell? ⟨w.heap.size+1,i,none⟩=some (.bool b0):=cell_of_block M3.out.b1 i _ (boolCells_at HB0.out)
   have c1f:=free_of_block M3.out.b1 i
   have c2:=cell_of_block M3.out.b2 0 _ rfl
   have c3:=cell_of_block M3.out.b3 0 _ rfl
   refine wpIn_mono (Q:=onlyAt { tmps:=#[.agg #[.slice aoT t.length capT],.slice aoR row.length capR,.pointer (some ⟨w.heap.size,0,none⟩),undef,.slice none 0 0,.pointer (some ⟨w.heap.size+1+1,0,none⟩),.pointer (some ⟨w.heap.size+1+1+1,0,none⟩),.int .i64 (i:Nat),.int .u8 (k:Nat),.slice aoR row.length capR,.int .i64 row.length,.int .i64 (row.length+1),.slice (some ⟨w.heap.size+1,0,none⟩) (row.length+1) (row.length+1),.slice (some ⟨w.heap.size+1,0,none⟩) (row.length+1) (row.length+1),.slice aoR row.length capR,.int .i64 row.length,.pointer (some ⟨w.heap.size,0,none⟩),.slice aoT t.length capT,.int .i64 0,.bool f0,.pointer (some ⟨w.heap.size+1,row.length,none⟩),.slice aoR row.length capR,.func (.func 216) #[] #[.pointer (some ⟨w.heap.size+4,0,none⟩)],.int .i64 (i:Nat),.int .u8 (k:Nat),.pointer (some ⟨w.heap.size,0,none⟩),.slice aoT t.length capT,.int .i64 (a0:Nat),.int .u8 (k:Nat),.int .i64 (a1:Nat),.slice (some ⟨w.heap.size+1,0,none⟩) (row.length+1) (row.length+1),.int .i64 (i:Nat),.pointer (some ⟨w.heap.size,0,none⟩),.slice aoT t.length capT,.int .i64 (a1:Nat),.bool f1,.pointer (some ⟨w.heap.size+1,i,none⟩),undef],defers:=[] } (W3.setCell ⟨w.heap.size+1,i,none⟩ (.bool f1)).drew) ?reg (onlyAt_then ?nxt)
   case reg =>
    first | gi_region_with_o (refine ⟨trivial,?_⟩;gi_at_call 182;refine (CallsIn.inRound l hcall2).mono ?_;rintro e w' ⟨rfl,rfl⟩) | fail
    all_goals exact ⟨rfl,rfl⟩
   case nxt =>
    clear c0 c1 c1f c2 c3 hcall2
    gi_wp2
    have e1:RMem w.heap.size (W3.setCell ⟨w.heap.size+1,i,none⟩ (.bool f1)).drew (.slice aoT t.length capT) (row.length+1) (rst t (pre++[⟨(i,k),hx⟩])):=by
     rw [E0.out]
     exact (M3.out.told i f1).blocks fun k cs t hk=>hk
    have bb:Below w.heap.size Wq (W3.setCell ⟨w.heap.size+1,i,none⟩ (.bool f1)).drew:=(B3.out.setCell (by show w.heap.size<=w.heap.size+1;omega) _).drew
    exact ⟨((K3.out.trans (KeepsOthers.setCell _ _ _)).trans (KeepsOthers.drew _)).from _,⟨bb,(show (W3.setCell ⟨w.heap.size+1,i,none⟩ (.bool f1)).heap[w.heap.size+4]?=_ from setCell_type (by omega)).trans X3.out⟩,e1,HB.out.trans bb⟩
  case done =>
   rintro D ys W hD hS ⟨hM,hB⟩ hK
   have c2:=cell_of_block hM.b2 0 _ rfl
   have HM:Hid (RMem w.heap.size W (.slice aoT t.length capT) (row.length+1) (rst t ys)):=hM
   have HB:Hid (Below w.heap.size w W):=hB
   clear hM hB
   gi_wp2
   refine ⟨by simp,.inl ⟨_,_,rfl,run_takeDeferred hK,?_⟩⟩
   refine ⟨_,results_tmp rfl _ _ _,w.heap.size+1,rfl,by omega,?_,HB.out.trans (belowK_b (w:=w) (Nat.le_refl _) W D _ _ (by omega) hK rfl rfl)⟩
   rw [<- rst_all t hS]
   exact block_put hK rfl _ HM.out.b1
  case stop =>
   rintro D c pre W _ _ h _
   exact h.elim
end Go.Proofs.YtodagkkjfipbgaaGreatDoor
