import Derived.Test.YtodagkkjfipbgaaGreatDoorV1toV2
namespace Go.Proofs.YtodagkkjfipbgaaGreatDoor
open Go.RowKit Go.Maps Go.Shelf
attribute [local go_sem] Oper.semAt_some
def rightAt (t:Tab) (row:List Nat) (i:Nat):Nat:=(row.drop i).reverse.foldl (fun a k=>tnext t a k) 0
theorem rightAt_step {t:Tab} {row:List Nat} {i k:Nat} (h:row[i]?=some k):rightAt t row i=tnext t (rightAt t row (i+1)) k:=by
 unfold rightAt
 obtain ⟨hl,hk⟩:=List.getElem?_eq_some_iff.1 h
 rw [List.drop_eq_getElem_cons hl,hk,List.reverse_cons,List.foldl_append]
 rfl
theorem rightAt_end (t:Tab) (row:List Nat):rightAt t row row.length=0:=by unfold rightAt;simp
def rstep (t:Tab) {row:List Nat} (s:Nat × List Bool) (x:At row):Nat × List Bool:=(tnext t s.1 x.1.2,s.2.set x.1.1 (tmatch t (tnext t s.1 x.1.2)))
def rst (t:Tab) {row:List Nat} (pre:List (At row)):Nat × List Bool:=pre.foldl (rstep t) (0,(List.replicate (row.length+1) false).set row.length (tmatch t 0))
theorem rst_snoc (t:Tab) {row:List Nat} (pre:List (At row)) (x:At row):rst t (pre++[x])=rstep t (rst t pre) x:=by unfold rst;rw [List.foldl_append];rfl
theorem snoc_cases {β:Type} (l:List β):l=[]∨∃ l' a,l=l'++[a]:=by
 rcases List.eq_nil_or_concat l with h | ⟨l',a,h⟩
 ·exact Or.inl h
 ·exact Or.inr ⟨l',a,by rw [h,List.concat_eq_append]⟩
theorem snoc_ind {β:Type} {p:List β→Prop} (h0:p []) (h1:∀ l a,p l→p (l++[a])):∀ l,p l:=by
 intro l
 have:∀ r:List β,p r.reverse:=by
  intro r
  induction r with
  | nil=>exact h0
  | cons a r ih=>rw [List.reverse_cons];exact h1 _ _ ih
 have h:=this l.reverse
 rwa [List.reverse_reverse] at h
theorem rst_len (t:Tab) {row:List Nat}:∀ pre:List (At row),(rst t pre).2.length=row.length+1:=by
 apply snoc_ind
 ·unfold rst;simp
 ·intro l a ih;rw [rst_snoc];unfold rstep;rw [List.length_set];exact ih
theorem rst_lt {t:Tab} (ht:TabGood t) {row:List Nat}:∀ pre:List (At row),(rst t pre).1<t.length:=by
 apply snoc_ind
 ·exact ht.pos
 ·intro l a ih;rw [rst_snoc];exact tnext_lt ht ih
theorem rst_down (t:Tab) {row:List Nat}:∀ (d j:Nat) (pre:List (At row)),d+j=row.length→wheres pre=downs row.length j→rst t pre=(rightAt t row j,(List.range (row.length+1)).map fun i=>if j≤i then tmatch t (rightAt t row i) else false):=by
 intro d
 induction d with
 | zero =>
  intro j pre hj hp
  obtain rfl:j=row.length:=by omega
  rw [downs_none] at hp
  have e:pre=[]:=List.map_eq_nil_iff.1 hp
  subst e
  unfold rst
  rw [List.foldl_nil,rightAt_end]
  refine Prod.ext rfl ?_
  apply List.ext_getElem?
  intro i
  show ((List.replicate (row.length+1) false).set row.length (tmatch t 0))[i]?=_
  rw [List.getElem?_set,List.getElem?_map,List.length_replicate]
  by_cases h1:row.length=i
  ·subst h1;rw [if_pos rfl,if_pos (by omega),List.getElem?_range (by omega)];simp [rightAt_end]
  ·rw [if_neg h1,List.getElem?_replicate]
   by_cases h2:i<row.length+1
   ·rw [if_pos h2,List.getElem?_range h2,Option.map_some,if_neg (by omega)]
   ·rw [if_neg h2,List.getElem?_eq_none (by simp;omega)];rfl
 | succ d ih =>
  intro j pre hj hp
  rw [downs_snoc (by omega)] at hp
  rcases snoc_cases pre with rfl | ⟨l,x,rfl⟩
  ·simp [wheres] at hp
  ·unfold wheres at hp
   rw [List.map_append,List.map_cons,List.map_nil] at hp
   obtain ⟨h1,h2⟩:=List.append_inj' hp rfl
   obtain ⟨⟨xi,xk⟩,hx⟩:=x
   have h3:xi=j:=by simpa using h2
   subst h3
   rw [rst_snoc,ih (xi+1) l (by omega) h1]
   unfold rstep
   have e:=rightAt_step (t:=t) hx
   refine Prod.ext e.symm ?_
   apply List.ext_getElem?
   intro i
   show (List.set _ xi (tmatch t (tnext t (rightAt t row (xi+1)) xk)))[i]?=_
   rw [← e,List.getElem?_set,List.getElem?_map,List.getElem?_map,List.length_map,List.length_range]
   by_cases h4:xi=i
   ·subst h4;rw [if_pos rfl,if_pos (by omega),List.getElem?_range (by omega)];simp
   ·rw [if_neg h4]
    by_cases h5:i<row.length+1
    ·rw [List.getElem?_range h5,Option.map_some,Option.map_some]
     by_cases h6:xi+1≤i
     ·rw [if_pos h6,if_pos (by omega)]
     ·rw [if_neg h6,if_neg (by omega)]
    ·rw [List.getElem?_eq_none (by simp;omega)];rfl
theorem rst_all (t:Tab) {row:List Nat} {pre:List (At row)} (h:wheres pre=downs row.length 0):(rst t pre).2=(List.range (row.length+1)).map fun i=>tmatch t (rightAt t row i):=by
 rw [rst_down t row.length 0 pre rfl h]
 simp
theorem cell_lt2 {w:World} {b o:Nat} {v:Value} (h:w.cell? ⟨b,o,none⟩=some v):b<w.heap.size:=by
 obtain ⟨x,hx,_⟩:=cells_of_cell h
 exact (Array.getElem?_eq_some_iff.1 hx).1
def onlyAt (A:Act) (W:World):Exit→Act→World→Prop:=fun e a w=>match e with
 | .normal=>a=A∧w=W
 | _=>False
theorem onlyAt_then {A:Act} {W:World} {Q:Exit→Act→World→Prop} (h:Q .normal A W):∀ e a w,onlyAt A W e a w→Q e a w:=by
 intro e a w he
 cases e with
 | normal=>obtain ⟨rfl,rfl⟩:=he;exact h
 | _=>exact he.elim
structure RMem (n0:Nat) (W:World) (vT:Value) (m:Nat) (s:Nat × List Bool):Prop where
 b0:W.heap[n0]?=some (.cells #[vT] 154 (0,0))
 b1:W.heap[n0+1]?=some (.cells (boolCells s.2) 4 (0,0))
 b2:W.heap[n0+1+1]?=some (.cells #[.slice (some ⟨n0+1,0,none⟩) m m] 108 (0,0))
 b3:W.heap[n0+1+1+1]?=some (.cells #[.int .i64 (s.1:Nat)] 3 (0,0))
theorem RMem.blocks {n0:Nat} {W W':World} {vT:Value} {m:Nat} {s:Nat × List Bool} (h:RMem n0 W vT m s) (hk:∀ (k:Nat) (cs:Array Value) (t:TypeId),W.heap[k]?=some (.cells cs t (0,0))→W'.heap[k]?=some (.cells cs t (0,0))):RMem n0 W' vT m s :=
 ⟨hk _ _ _ h.b0,hk _ _ _ h.b1,hk _ _ _ h.b2,hk _ _ _ h.b3⟩
theorem RMem.below {n0:Nat} {W W':World} {vT:Value} {m:Nat} {s:Nat × List Bool} (h:RMem n0 W vT m s) (hb:Below W.heap.size W W'):RMem n0 W' vT m s:=h.blocks fun k _ _ hk=>(hb.block k (heap_lt hk)).trans hk
theorem RMem.told {n0:Nat} {W:World} {vT:Value} {m:Nat} {s:Nat × List Bool} (h:RMem n0 W vT m s) (i:Nat) (b:Bool):RMem n0 (W.setCell ⟨n0+1,i,none⟩ (.bool b)) vT m (s.1,s.2.set i b) :=
 ⟨(setCell_type (by omega)).trans h.b0,(block_setCell h.b1 i _).trans (by rw [boolCells_set]),(setCell_type (by omega)).trans h.b2,(setCell_type (by omega)).trans h.b3⟩
theorem RMem.at_ {n0:Nat} {W:World} {vT:Value} {m:Nat} {s:Nat × List Bool} (h:RMem n0 W vT m s) (a:Nat):RMem n0 (W.setCell ⟨n0+1+1+1,0,none⟩ (.int .i64 (a:Nat))) vT m (a,s.2) :=
 ⟨(setCell_type (by omega)).trans h.b0,(setCell_type (by omega)).trans h.b1,(setCell_type (by omega)).trans h.b2,(block_setCell h.b3 0 _).trans rfl⟩
theorem block_kept {A B:World} {row:Option Nat} (hg:A.grownBy B row) (hr:∀ r,row=some r→∃ o:Obj,A.heap[r]?=some o∧o.isCells=false) {k:Nat} {cs:Array Value} {t:TypeId} {m:Nat × Nat} (h:A.heap[k]?=some (.cells cs t m)):B.heap[k]?=some (.cells cs t m) :=
 (hg.block k (heap_lt h) (fun e=>by obtain ⟨o,h1,h2⟩:=hr k e.symm;rw [h] at h1;cases h1;cases h2)).trans h
theorem block_put {W:World} {D:Nat} {o:Obj} (hD:W.heap[D]?=some o) (ho:o.isCells=false) (o':Obj) {k:Nat} {cs:Array Value} {t:TypeId} {m:Nat × Nat} (h:W.heap[k]?=some (.cells cs t m)):(W.putObj D o').heap[k]?=some (.cells cs t m) :=
 (World.putObj_heap_other (fun e=>by subst e;rw [h] at hD;cases hD;cases ho)).trans h
set_option maxRecDepth 100000 in
set_option maxHeartbeats 2000000 in
theorem rmatches_any (w:World) (vT vR:Value) (t:Tab) (row:List Nat) (hT:TabIn 0 w vT t) (ht:TabGood t) (hR:KRow w vR row) :
  Calls Tryz.prog 156 #[.agg #[vT],vR] w fun r w'=>∃ g,r=.returned (.slice (some ⟨g,0,none⟩) (row.length+1) (row.length+1))∧w.heap.size≤g∧w'.heap[g]?=some (.cells (boolCells ((List.range (row.length+1)).map fun i=>tmatch t (rightAt t row i))) 4 (0,0))∧Below w.heap.size w w':=by
 obtain ⟨aoT,capT,rfl⟩:=row_shape hT
 obtain ⟨aoR,capR,rfl⟩:=row_shape hR.own
 have HT:Hid (TabIn 0 w (.slice aoT t.length capT) t):=hT
 have HR:Hid (KRow w (.slice aoR row.length capR) row):=hR
 have HG:Hid (TabGood t):=ht
 have hfew:=hR.few
 have htl:=ht.few
 have hmk:∀ W:World,(Instr.makeSlice 108 (.int .i64 ((row.length:Int)+1)) (.int .i64 ((row.length:Int)+1))).run Tryz.prog W=.ok (.slice (some ⟨W.heap.size,0,none⟩) (row.length+1) (row.length+1)) (W.alloc (.cells (boolCells (List.replicate (row.length+1) false)) 4)):=fun W=>make_bools W (row.length+1) (by omega)
 have hmx:Tryz.prog.follows .mixedOrders=true:=by kernel_rfl
 obtain ⟨W0,hW0⟩:∃ W0,W0=(((w.alloc (.cells #[.slice aoT t.length capT] 154)).alloc (.cells (boolCells (List.replicate (row.length+1) false)) 4)).alloc (.cells #[.slice (some ⟨w.heap.size+1,0,none⟩) (row.length+1) (row.length+1)] 108)).alloc (.cells #[.int .i64 0] 3):=⟨_,rfl⟩
 have HW0:Hid (W0=(((w.alloc (.cells #[.slice aoT t.length capT] 154)).alloc (.cells (boolCells (List.replicate (row.length+1) false)) 4)).alloc (.cells #[.slice (some ⟨w.heap.size+1,0,none⟩) (row.length+1) (row.length+1)] 108)).alloc (.cells #[.int .i64 0] 3)):=hW0
 have hz:W0.heap.size=w.heap.size+4:=by rw [hW0];simp
 have B0:Hid (Below w.heap.size w W0):=by rw [hW0];exact (((below_alloc w _).alloc (by simp) _).alloc (by simp;omega) _).alloc (by simp;omega) _
 have M0:Hid (RMem w.heap.size W0 (.slice aoT t.length capT) (row.length+1) (0,List.replicate (row.length+1) false)):=by
  refine ⟨?_,?_,?_,?_⟩
  ·rw [hW0];exact (Below.heap_alloc _ _ _ (by simp;omega)).trans ((Below.heap_alloc _ _ _ (by simp;omega)).trans ((Below.heap_alloc _ _ _ (by simp)).trans (heap_alloc_new w _)))
  ·rw [hW0];exact (Below.heap_alloc _ _ _ (by simp)).trans ((Below.heap_alloc _ _ _ (by simp)).trans ((show (w.alloc (.cells #[.slice aoT t.length capT] 154)).heap.size=w.heap.size+1 by simp) ▸ heap_alloc_new (w.alloc _) _))
  ·rw [hW0];exact (Below.heap_alloc _ _ _ (by simp)).trans ((show ((w.alloc (.cells #[.slice aoT t.length capT] 154)).alloc (.cells (boolCells (List.replicate (row.length+1) false)) 4)).heap.size=w.heap.size+1+1 by simp) ▸ heap_alloc_new ((w.alloc _).alloc _) _)
  ·rw [hW0];exact (show (((w.alloc (.cells #[.slice aoT t.length capT] 154)).alloc (.cells (boolCells (List.replicate (row.length+1) false)) 4)).alloc (.cells #[.slice (some ⟨w.heap.size+1,0,none⟩) (row.length+1) (row.length+1)] 108)).heap.size=w.heap.size+1+1+1 by simp) ▸ heap_alloc_new (((w.alloc _).alloc _).alloc _) _
 clear hT hR ht hW0
 refine (callsIn_wide (n:=3)).1 ?_
 refine callsIn_of_wp_marks Tryz.func156 rfl trivial ?_ rfl
 simp only [Tryz.ntmps156,List.size_toArray,List.length_cons,List.length_nil,Nat.reduceAdd,Nat.reduceSub,Array.replicate_succ,Array.replicate_zero,List.push_toArray,List.append_toArray,List.nil_append,List.cons_append]
 gi_wp2_with (simp only [hmk])
 rw [← HW0.out]
 clear HW0 hmk
 have c0:=cell_of_block M0.out.b0 0 _ rfl
 have c1:W0.cell? ⟨w.heap.size+1,row.length,none⟩=some (.bool false):=cell_of_block M0.out.b1 row.length _ (boolCells_at (by rw [List.getElem?_replicate,if_pos (by omega)]))
 have c1f:=free_of_block M0.out.b1 row.length
 have c2:=cell_of_block M0.out.b2 0 _ rfl
 have c3:=cell_of_block M0.out.b3 0 _ rfl
 have T0:Hid (TabIn 0 W0.drew (.slice aoT t.length capT) t):=row_kp HT.out (fun k cs m hh=>Kp.below B0.out k cs m hh)
 have hcall:=(callsIn_wide (n:=2)).2 (match_any W0.drew _ t 0 T0.out HG.out HG.out.pos)
 obtain ⟨f0,hf0⟩:∃ f0,f0=tmatch t 0:=⟨_,rfl⟩
 rw [← hf0] at hcall
 have HF0:Hid (f0=tmatch t 0):=hf0
 clear hf0
 refine wpIn_mono (Q:=onlyAt { tmps:=#[.agg #[.slice aoT t.length capT],.slice aoR row.length capR,.pointer (some ⟨w.heap.size,0,none⟩),undef,.slice none 0 0,.pointer (some ⟨w.heap.size+1+1,0,none⟩),.pointer (some ⟨w.heap.size+1+1+1,0,none⟩),undef,undef,.slice aoR row.length capR,.int .i64 row.length,.int .i64 (row.length+1),.slice (some ⟨w.heap.size+1,0,none⟩) (row.length+1) (row.length+1),.slice (some ⟨w.heap.size+1,0,none⟩) (row.length+1) (row.length+1),.slice aoR row.length capR,.int .i64 row.length,.pointer (some ⟨w.heap.size,0,none⟩),.slice aoT t.length capT,.int .i64 0,.bool f0,.pointer (some ⟨w.heap.size+1,row.length,none⟩),undef,undef,undef,undef,undef,undef,undef,undef,undef,undef,undef,undef,undef,undef,undef,undef,undef],defers:=[] } (W0.setCell ⟨w.heap.size+1,row.length,none⟩ (.bool f0)).drew) ?region (onlyAt_then ?rest)
 case region =>
  first | gi_region_with_o (refine ⟨trivial,?_⟩;gi_at_call 182;refine hcall.mono ?_;rintro e w' ⟨rfl,rfl⟩) | fail
  all_goals exact ⟨rfl,rfl⟩
 case rest =>
  obtain ⟨W1,hW1⟩:∃ W1,W1=(W0.setCell ⟨w.heap.size+1,row.length,none⟩ (.bool f0)).drew:=⟨_,rfl⟩
  have M1:Hid (RMem w.heap.size W1 (.slice aoT t.length capT) (row.length+1) (rst t ([]:List (At row)))):=by
   rw [hW1]
   have h:=M0.out.told row.length f0
   rw [HF0.out] at h ⊢
   exact h.blocks fun k cs t hk=>hk
  have B1:Hid (Below w.heap.size w W1):=by rw [hW1];exact (B0.out.setCell (by show w.heap.size≤w.heap.size+1;omega) _).drew
  rw [← hW1]
  have hz1:W1.heap.size=w.heap.size+4:=by rw [hW1];exact (by simp:(W0.setCell ⟨w.heap.size+1,row.length,none⟩ (.bool f0)).heap.size=W0.heap.size).trans hz
  clear hW1 c0 c1 c1f c2 c3 T0 hcall M0 B0 hz HF0
  gi_wp2_with (refine ⟨trivial,?_⟩;gi_at_call 193;refine (bwK_in Fence.wide _ trivial rfl _ _ _ _).mono ?_;rintro e w' ⟨rfl,rfl⟩)
  obtain ⟨W2,hW2⟩:∃ W2,W2=W1.alloc (.cells #[.slice aoR row.length capR] 91):=⟨_,rfl⟩
  rw [← hW2]
  have hz2:W2.heap.size=w.heap.size+5:=by rw [hW2];simp [hz1]
  have b12:Below W1.heap.size W1 W2:=by rw [hW2];exact below_alloc W1 _
  have M2:RMem w.heap.size W2 (.slice aoT t.length capT) (row.length+1) (rst t ([]:List (At row))):=M1.out.below b12
  have B2:Below w.heap.size w W2:=B1.out.trans (b12.mono B1.out.size)
  have hBs:W2.heap[w.heap.size+4]?=some (.cells #[.slice aoR row.length capR] 91 (0,0)):=by rw [hW2,← hz1];exact heap_alloc_new W1 _
  have hcells:∀ j k,row[j]?=some k→∃ q,aoR=some ⟨q,0,none⟩∧q<w.heap.size∧W2.cell? ⟨q,j,none⟩=some (.int .u8 (k:Nat)):=by
   intro j k hk
   have hj:=(List.getElem?_eq_some_iff.1 hk).1
   obtain ⟨q,hq,_,hcq⟩:=row_at HR.out.own (kCells_at hk) (by omega)
   have hql:=cell_lt2 hcq
   exact ⟨q,hq,hql,(B2.cell (p:=⟨q,j,none⟩) hql).trans hcq⟩
  clear hW2 M1 B1 b12
  refine wpIn_rangeFunc_ownG rfl (by omega) (gf:=216) (lb:=#[.pointer (some ⟨w.heap.size+4,0,none⟩)]) rfl trivial (enters_of Tryz.func216 (by kernel_rfl) rfl)
   (bwK_stops Fence.wide 2 trivial rfl (by omega) (w.heap.size+4) w.heap.size capR aoR row hfew W2 _ (by omega) hBs hcells) keepsAt_t (keepsAt_b (by omega) (by omega)) (Below.refl _ _) (fun _=>rfl)
   (fun pre W=>RMem w.heap.size W (.slice aoT t.length capT) (row.length+1) (rst t pre)∧Below w.heap.size w W)
   (fun _ _ _=>False)
   (OwnFrom.and (Own.from (fun s A B row hs hg hr=>hs.blocks fun k cs t hk=>block_kept hg hr hk) _) (ownFrom_below (Nat.le_refl _) (by omega)))
   (fun _ _ _ _ _ hs _ _=>hs)
   ⟨M2,B2⟩
   (fun x=>{ tmps:=#[.agg #[.slice aoT t.length capT],.slice aoR row.length capR,.pointer (some ⟨w.heap.size,0,none⟩),undef,.slice none 0 0,.pointer (some ⟨w.heap.size+1+1,0,none⟩),.pointer (some ⟨w.heap.size+1+1+1,0,none⟩),.int .i64 (x.1.1:Nat),.int .u8 (x.1.2:Nat),.slice aoR row.length capR,.int .i64 row.length,.int .i64 (row.length+1),.slice (some ⟨w.heap.size+1,0,none⟩) (row.length+1) (row.length+1),.slice (some ⟨w.heap.size+1,0,none⟩) (row.length+1) (row.length+1),.slice aoR row.length capR,.int .i64 row.length,.pointer (some ⟨w.heap.size,0,none⟩),.slice aoT t.length capT,.int .i64 0,.bool f0,.pointer (some ⟨w.heap.size+1,row.length,none⟩),.slice aoR row.length capR,.func (.func 216) #[] #[.pointer (some ⟨w.heap.size+4,0,none⟩)],.int .i64 (x.1.1:Nat),.int .u8 (x.1.2:Nat),undef,undef,undef,undef,undef,undef,undef,undef,undef,undef,undef,undef,undef],defers:=[] }) ?assign ?body ?done ?stop
  case assign =>
   intro l x W K hK
   gi_wp2
   exact hK
  case body =>
   rintro l pre ⟨⟨i,k⟩,hx⟩ W ⟨hM,hB⟩ _
   have hil:i<row.length:=(List.getElem?_eq_some_iff.1 hx).1
   have hk8:=HR.out.lt k (List.mem_of_getElem? hx)
   have HM:Hid (RMem w.heap.size W (.slice aoT t.length capT) (row.length+1) (rst t pre)):=hM
   have HB:Hid (Below w.heap.size w W):=hB
   have e0:rst t (pre++[⟨(i,k),hx⟩])=(tnext t (rst t pre).1 k,(rst t pre).2.set i (tmatch t (tnext t (rst t pre).1 k))):=rst_snoc t pre _
   have hlt:=rst_lt HG.out pre
   have hlt':tnext t (rst t pre).1 k<t.length:=tnext_lt HG.out hlt
   have hln:=rst_len t pre
   obtain ⟨told,htold⟩:∃ told,told=(rst t pre).2:=⟨_,rfl⟩
   obtain ⟨b0,hb0⟩:∃ b0,told[i]?=some b0:=⟨told[i]'(by rw [htold,hln];omega),List.getElem?_eq_getElem _⟩
   have HB0:Hid ((rst t pre).2[i]?=some b0):=by rw [← htold];exact hb0
   have c0:=cell_of_block hM.b0 0 _ rfl
   have c1:W.cell? ⟨w.heap.size+1,i,none⟩=some (.bool b0):=cell_of_block hM.b1 i _ (boolCells_at (by rw [← htold];exact hb0))
   have c1f:=free_of_block hM.b1 i
   have c2:=cell_of_block hM.b2 0 _ rfl
   have c3:=cell_of_block hM.b3 0 _ rfl
   have c3f:=free_of_block hM.b3 0
   obtain ⟨a0,ha0⟩:∃ a0,a0=(rst t pre).1:=⟨_,rfl⟩
   obtain ⟨a1,ha1⟩:∃ a1,a1=tnext t a0 k:=⟨_,rfl⟩
   obtain ⟨f1,hf1⟩:∃ f1,f1=tmatch t a1:=⟨_,rfl⟩
   have E0:Hid (rst t (pre++[⟨(i,k),hx⟩])=(a1,(rst t pre).2.set i f1)):=by show _=_;rw [e0,hf1,ha1,ha0]
   rw [← ha0] at hlt hlt' c3
   rw [← ha1] at hlt'
   have T0:Hid (TabIn 0 W (.slice aoT t.length capT) t):=row_kp HT.out (Kp.below HB.out)
   have hcall1:=(callsIn_wide (n:=0)).2 (tnext_any W _ t a0 k T0.out HG.out hlt hk8)
   have T1:Hid (TabIn 0 (W.setCell ⟨w.heap.size+1+1+1,0,none⟩ (.int .i64 (a1:Nat))).drew (.slice aoT t.length capT) t):=row_kp T0.out (fun k cs m hh=>(Kp.refl _ _).setCell HM.out.b3 (by decide) _ k cs m hh)
   have hcall2:=(callsIn_wide (n:=0)).2 (match_any (W.setCell ⟨w.heap.size+1+1+1,0,none⟩ (.int .i64 (a1:Nat))).drew _ t a1 T1.out HG.out hlt')
   rw [← ha1] at hcall1
   rw [← hf1] at hcall2
   have M3:Hid (RMem w.heap.size (W.setCell ⟨w.heap.size+1+1+1,0,none⟩ (.int .i64 (a1:Nat))) (.slice aoT t.length capT) (row.length+1) (a1,(rst t pre).2)):=hM.at_ a1
   clear hM hB e0 ha0 ha1 hf1 htold hln M2 B2 hcells hBs
   have hd:1≤3 - 1 - 1:=by omega
   gi_wp2_with (refine ⟨trivial,?_⟩;gi_at_call 184;refine (CallsIn.inRound l hcall1).mono ?_;rintro e Wq ⟨rfl,rfl⟩)
   obtain ⟨W3,hW3⟩:∃ W3,W3=Wq.setCell ⟨w.heap.size+1+1+1,0,none⟩ (.int .i64 (a1:Nat)):=⟨_,rfl⟩
   rw [← hW3] at hcall2 M3 ⊢
   have k3:KeepsOthers Wq W3:=by rw [hW3];exact KeepsOthers.setCell _ _ _
   have b3:Below w.heap.size Wq W3:=by rw [hW3];exact (Below.refl _ Wq).setCell (by show w.heap.size≤w.heap.size+1+1+1;omega) _
   have x3:W3.heap[w.heap.size+4]?=Wq.heap[w.heap.size+4]?:=by rw [hW3];exact setCell_type (by omega)
   clear hW3 c0 c1 c1f c2 c3 c3f T0 T1 hcall1 HM
   have K3:Hid (KeepsOthers Wq W3):=k3
   have B3:Hid (Below w.heap.size Wq W3):=b3
   have X3:Hid (W3.heap[w.heap.size+4]?=Wq.heap[w.heap.size+4]?):=x3
   clear k3 b3 x3
   have c0:=cell_of_block M3.out.b0 0 _ rfl
   have c1:W3.cell? ⟨w.heap.size+1,i,none⟩=some (.bool b0):=cell_of_block M3.out.b1 i _ (boolCells_at HB0.out)
   have c1f:=free_of_block M3.out.b1 i
   have c2:=cell_of_block M3.out.b2 0 _ rfl
   have c3:=cell_of_block M3.out.b3 0 _ rfl
   refine wpIn_mono (Q:=onlyAt { tmps:=#[.agg #[.slice aoT t.length capT],.slice aoR row.length capR,.pointer (some ⟨w.heap.size,0,none⟩),undef,.slice none 0 0,.pointer (some ⟨w.heap.size+1+1,0,none⟩),.pointer (some ⟨w.heap.size+1+1+1,0,none⟩),.int .i64 (i:Nat),.int .u8 (k:Nat),.slice aoR row.length capR,.int .i64 row.length,.int .i64 (row.length+1),.slice (some ⟨w.heap.size+1,0,none⟩) (row.length+1) (row.length+1),.slice (some ⟨w.heap.size+1,0,none⟩) (row.length+1) (row.length+1),.slice aoR row.length capR,.int .i64 row.length,.pointer (some ⟨w.heap.size,0,none⟩),.slice aoT t.length capT,.int .i64 0,.bool f0,.pointer (some ⟨w.heap.size+1,row.length,none⟩),.slice aoR row.length capR,.func (.func 216) #[] #[.pointer (some ⟨w.heap.size+4,0,none⟩)],.int .i64 (i:Nat),.int .u8 (k:Nat),.pointer (some ⟨w.heap.size,0,none⟩),.slice aoT t.length capT,.int .i64 (a0:Nat),.int .u8 (k:Nat),.int .i64 (a1:Nat),.slice (some ⟨w.heap.size+1,0,none⟩) (row.length+1) (row.length+1),.int .i64 (i:Nat),.pointer (some ⟨w.heap.size,0,none⟩),.slice aoT t.length capT,.int .i64 (a1:Nat),.bool f1,.pointer (some ⟨w.heap.size+1,i,none⟩),undef],defers:=[] } (W3.setCell ⟨w.heap.size+1,i,none⟩ (.bool f1)).drew) ?reg (onlyAt_then ?nxt)
   case reg =>
    first | gi_region_with_o (refine ⟨trivial,?_⟩;gi_at_call 182;refine (CallsIn.inRound l hcall2).mono ?_;rintro e w' ⟨rfl,rfl⟩) | fail
    all_goals exact ⟨rfl,rfl⟩
   case nxt =>
    clear c0 c1 c1f c2 c3 hcall2
    gi_wp2
    have e1:RMem w.heap.size (W3.setCell ⟨w.heap.size+1,i,none⟩ (.bool f1)).drew (.slice aoT t.length capT) (row.length+1) (rst t (pre++[⟨(i,k),hx⟩])):=by
     rw [E0.out]
     exact (M3.out.told i f1).blocks fun k cs t hk=>hk
    have bb:Below w.heap.size Wq (W3.setCell ⟨w.heap.size+1,i,none⟩ (.bool f1)).drew:=(B3.out.setCell (by show w.heap.size≤w.heap.size+1;omega) _).drew
    exact ⟨((K3.out.trans (KeepsOthers.setCell _ _ _)).trans (KeepsOthers.drew _)).from _,⟨bb,(show (W3.setCell ⟨w.heap.size+1,i,none⟩ (.bool f1)).heap[w.heap.size+4]?=_ from setCell_type (by omega)).trans X3.out⟩,e1,HB.out.trans bb⟩
  case done =>
   rintro D ys W hD hS ⟨hM,hB⟩ hK
   have c2:=cell_of_block hM.b2 0 _ rfl
   have HM:Hid (RMem w.heap.size W (.slice aoT t.length capT) (row.length+1) (rst t ys)):=hM
   have HB:Hid (Below w.heap.size w W):=hB
   clear hM hB
   gi_wp2
   refine ⟨by simp,.inl ⟨_,_,rfl,run_takeDeferred hK,?_⟩⟩
   refine ⟨_,results_tmp rfl _ _ _,w.heap.size+1,rfl,by omega,?_,HB.out.trans (belowK_b (w:=w) (Nat.le_refl _) W D _ _ (by omega) hK rfl rfl)⟩
   rw [← rst_all t hS]
   exact block_put hK rfl _ HM.out.b1
  case stop =>
   rintro D c pre W _ _ h _
   exact h.elim
end Go.Proofs.YtodagkkjfipbgaaGreatDoor
namespace Go.Proofs.YtodagkkjfipbgaaGreatDoor
open Go.RowKit Go.Maps
theorem grown_t {A B C:World} {r:Option Nat} (h:A.grownBy B r) (k:B.grownBy C r):A.grownBy C r :=
 ⟨k.os.trans h.os,k.tape.trans h.tape,k.output.trans h.output,Nat.le_trans h.size k.size,fun i hi hn=>(k.block i (Nat.lt_of_lt_of_le hi h.size) hn).trans (h.block i hi hn)⟩
theorem grown_of_below {A B:World} (h:Below A.heap.size A B) (r:Option Nat):A.grownBy B r:=⟨h.os,h.tape,h.output,h.size,fun k hk _=>h.block k hk⟩
theorem grown_set (A:World) (N i:Nat) (u:Value):A.grownBy (A.setCell ⟨N,i,none⟩ u) (some N):=by
 have h:=(Below.refl N A).setCell (p:=⟨N,i,none⟩) (Nat.le_refl N) u
 exact ⟨h.os,h.tape,h.output,h.size,fun k _ hn=>setCell_type (fun e=>hn (by rw [e]))⟩
def judgedTo (c:Bool) (fl fr:Nat→Bool) (m:Nat) (cuts:List Bool):List Bool:=cuts.mapIdx fun i b=>if 1≤i∧i<m∧fl i=true∧fr i=true then c else b
theorem judgedTo_len (c:Bool) (fl fr:Nat→Bool) (m:Nat) (cuts:List Bool):(judgedTo c fl fr m cuts).length=cuts.length:=by unfold judgedTo;simp
theorem judgedTo_low (c:Bool) (fl fr:Nat→Bool) {m:Nat} (hm:m≤1) (cuts:List Bool):judgedTo c fl fr m cuts=cuts:=by
 apply List.ext_getElem?
 intro i
 unfold judgedTo
 rw [List.getElem?_mapIdx]
 cases h:cuts[i]? with
 | none=>rfl
 | some b=>rw [Option.map_some,if_neg (by omega)]
theorem judgedTo_one (c:Bool) (fl fr:Nat→Bool) (cuts:List Bool):judgedTo c fl fr 1 cuts=cuts:=judgedTo_low c fl fr (Nat.le_refl _) cuts
theorem judgedTo_yes (c:Bool) (fl fr:Nat→Bool) {m:Nat} {cuts:List Bool} (hm:1≤m) (hl:m<cuts.length) (h1:fl m=true) (h2:fr m=true):judgedTo c fl fr (m+1) cuts=(judgedTo c fl fr m cuts).set m c:=by
 apply List.ext_getElem?
 intro i
 rw [List.getElem?_set,judgedTo_len]
 unfold judgedTo
 rw [List.getElem?_mapIdx,List.getElem?_mapIdx]
 by_cases e:m=i
 ·subst e
  rw [if_pos rfl,if_pos hl,List.getElem?_eq_getElem hl,Option.map_some,if_pos ⟨hm,by omega,h1,h2⟩]
 ·rw [if_neg e]
  cases h:cuts[i]? with
  | none=>rfl
  | some b =>
   rw [Option.map_some,Option.map_some]
   by_cases hc:1≤i∧i<m∧fl i=true∧fr i=true
   ·rw [if_pos hc,if_pos ⟨hc.1,by omega,hc.2.2⟩]
   ·rw [if_neg hc,if_neg (fun h=>hc ⟨h.1,by omega,h.2.2⟩)]
theorem judgedTo_no (c:Bool) (fl fr:Nat→Bool) {m:Nat} (cuts:List Bool) (h:fl m=false∨fr m=false):judgedTo c fl fr (m+1) cuts=judgedTo c fl fr m cuts:=by
 apply List.ext_getElem?
 intro i
 unfold judgedTo
 rw [List.getElem?_mapIdx,List.getElem?_mapIdx]
 cases hi:cuts[i]? with
 | none=>rfl
 | some b =>
  rw [Option.map_some,Option.map_some]
  by_cases hc:1≤i∧i<m∧fl i=true∧fr i=true
  ·rw [if_pos hc,if_pos ⟨hc.1,by omega,hc.2.2⟩]
  ·rw [if_neg hc,if_neg]
   rintro ⟨h1,h2,h3,h4⟩
   by_cases e:i=m
   ·subst e;rcases h with h | h
    ·rw [h] at h3;cases h3
    ·rw [h] at h4;cases h4
   ·exact hc ⟨h1,by omega,h3,h4⟩
theorem told_at (f:Nat→Bool) {n i:Nat} (h:i<n):((List.range n).map f)[i]?=some (f i):=by rw [List.getElem?_map,List.getElem?_range h];rfl
set_option maxRecDepth 100000 in
set_option maxHeartbeats 4000000 in
theorem judge_any (w:World) (c:Bool) (vL vR vK:Value) (tl tr:Tab) (row:List Nat) (N:Nat) (cuts:List Bool) (hL:TabIn 0 w vL tl) (gL:TabGood tl) (hR:TabIn 0 w vR tr) (gR:TabGood tr) (hK:KRow w vK row) (hC:w.heap[N]?=some (.cells (boolCells cuts) 4 (0,0))) (hlen:cuts.length=row.length+1) :
  Calls Tryz.prog 102 #[.agg #[.bool c,vL,vR],vK,.slice (some ⟨N,0,none⟩) (row.length+1) (row.length+1)] w fun r w'=>(∃ v,r=.returned v)∧w'.heap[N]?=some (.cells (boolCells (judgedTo c (fun i=>tmatch tl (leftAt tl row i)) (fun i=>tmatch tr (rightAt tr row i)) row.length cuts)) 4 (0,0))∧w.grownBy w' (some N):=by
 obtain ⟨aoL,capL,rfl⟩:=row_shape hL
 obtain ⟨aoR,capR,rfl⟩:=row_shape hR
 obtain ⟨aoK,capK,rfl⟩:=row_shape hK.own
 obtain ⟨fl,hfl⟩:∃ fl:Nat→Bool,fl=fun i=>tmatch tl (leftAt tl row i):=⟨_,rfl⟩
 obtain ⟨fr,hfr⟩:∃ fr:Nat→Bool,fr=fun i=>tmatch tr (rightAt tr row i):=⟨_,rfl⟩
 rw [← hfl,← hfr]
 have hfew:=hK.few
 have hNl:=heap_lt hC
 obtain ⟨W0,hW0⟩:∃ W0,W0=w.alloc (.cells #[.bool c,.slice aoL tl.length capL,.slice aoR tr.length capR] 157):=⟨_,rfl⟩
 have HW0:Hid (W0=w.alloc (.cells #[.bool c,.slice aoL tl.length capL,.slice aoR tr.length capR] 157)):=hW0
 have b0:Below w.heap.size w W0:=by rw [hW0];exact below_alloc w _
 have hz0:W0.heap.size=w.heap.size+1:=by rw [hW0];simp
 have p0:W0.heap[w.heap.size]?=some (.cells #[.bool c,.slice aoL tl.length capL,.slice aoR tr.length capR] 157 (0,0)):=by rw [hW0];exact heap_alloc_new w _
 have BW:Hid (Below w.heap.size w W0):=b0
 have P0:Hid (W0.heap[w.heap.size]?=some (.cells #[.bool c,.slice aoL tl.length capL,.slice aoR tr.length capR] 157 (0,0))):=p0
 have C0:Hid (W0.heap[N]?=some (.cells (boolCells cuts) 4 (0,0))):=(b0.block _ hNl).trans hC
 have CL:Hid (∀ W,Below W0.heap.size W0 W→Calls Tryz.prog 155 #[.agg #[.slice aoL tl.length capL],.slice aoK row.length capK] W fun r w'=>∃ g,r=.returned (.slice (some ⟨g,0,none⟩) (row.length+1) (row.length+1))∧W.heap.size≤g∧w'.heap[g]?=some (.cells (boolCells ((List.range (row.length+1)).map fl)) 4 (0,0))∧Below W.heap.size W w'):=fun W hb=>by
  rw [hfl]
  exact lmatches_any W _ _ tl row (row_kp hL (Kp.below (b0.trans (hb.mono b0.size)))) gL (hK.below (b0.trans (hb.mono b0.size)))
 have CR:Hid (∀ W,Below W0.heap.size W0 W→Calls Tryz.prog 156 #[.agg #[.slice aoR tr.length capR],.slice aoK row.length capK] W fun r w'=>∃ g,r=.returned (.slice (some ⟨g,0,none⟩) (row.length+1) (row.length+1))∧W.heap.size≤g∧w'.heap[g]?=some (.cells (boolCells ((List.range (row.length+1)).map fr)) 4 (0,0))∧Below W.heap.size W w'):=fun W hb=>by
  rw [hfr]
  exact rmatches_any W _ _ tr row (row_kp hR (Kp.below (b0.trans (hb.mono b0.size)))) gR (hK.below (b0.trans (hb.mono b0.size)))
 have m0:W0.cell? ⟨w.heap.size,0,none⟩=some (.bool c):=cell_of_block p0 0 _ rfl
 have m1:W0.cell? ⟨w.heap.size,1,none⟩=some (.slice aoL tl.length capL):=cell_of_block p0 1 _ rfl
 have m2:W0.cell? ⟨w.heap.size,2,none⟩=some (.slice aoR tr.length capR):=cell_of_block p0 2 _ rfl
 clear hW0 b0 p0 hL hR hK hC hfl hfr gL gR
 go_enter Tryz.func102,Tryz.ntmps102
 go_wp2_with fail
 rw [← HW0.out]
 go_region_held3 (fun w'=>w'.cell? ⟨w.heap.size,0,none⟩=some (.bool c)∧w'.cell? ⟨w.heap.size,1,none⟩=some (.slice aoL tl.length capL)∧w'.cell? ⟨w.heap.size,2,none⟩=some (.slice aoR tr.length capR))
  (first | exact HH.out | exact II.out | go_keep)
  (first
   | (go_at_call 155
      refine (CL.out _ ((Below.refl _ _).drew)).mono ?_
      rintro e W1 ⟨g1,rfl,hg1,hG1,hB1⟩
      have B1:Hid (Below W0.heap.size W0 W1):=below_drew hB1
      have G1:Hid (W1.heap[g1]?=some (.cells (boolCells ((List.range (row.length+1)).map fl)) 4 (0,0))):=hG1
      have L1:Hid (W0.heap.size≤g1):=hg1
      have HH:Hid (W1.cell? ⟨w.heap.size,0,none⟩=some (.bool c)∧W1.cell? ⟨w.heap.size,1,none⟩=some (.slice aoL tl.length capL)∧W1.cell? ⟨w.heap.size,2,none⟩=some (.slice aoR tr.length capR)) :=
       ⟨(B1.out.cell (p:=⟨w.heap.size,0,none⟩) (by show w.heap.size<_;omega)).trans m0,(B1.out.cell (p:=⟨w.heap.size,1,none⟩) (by show w.heap.size<_;omega)).trans m1,(B1.out.cell (p:=⟨w.heap.size,2,none⟩) (by show w.heap.size<_;omega)).trans m2⟩
      clear hG1 hB1 hg1)
   | (go_at_call 156
      refine (CR.out _ B1.out).mono ?_
      rintro e W2 ⟨g2,rfl,hg2,hG2,hB2⟩
      have B2:Hid (Below W0.heap.size W0 W2):=B1.out.trans (hB2.mono B1.out.size)
      have G2:Hid (W2.heap[g2]?=some (.cells (boolCells ((List.range (row.length+1)).map fr)) 4 (0,0))):=hG2
      have G1b:Hid (W2.heap[g1]?=some (.cells (boolCells ((List.range (row.length+1)).map fl)) 4 (0,0))):=(hB2.block _ (heap_lt G1.out)).trans G1.out
      have L2:Hid (W0.heap.size≤g2):=Nat.le_trans B1.out.size hg2
      have II:Hid (W2.cell? ⟨w.heap.size,0,none⟩=some (.bool c)∧W2.cell? ⟨w.heap.size,1,none⟩=some (.slice aoL tl.length capL)∧W2.cell? ⟨w.heap.size,2,none⟩=some (.slice aoR tr.length capR)) :=
       ⟨(B2.out.cell (p:=⟨w.heap.size,0,none⟩) (by show w.heap.size<_;omega)).trans m0,(B2.out.cell (p:=⟨w.heap.size,1,none⟩) (by show w.heap.size<_;omega)).trans m1,(B2.out.cell (p:=⟨w.heap.size,2,none⟩) (by show w.heap.size<_;omega)).trans m2⟩
      clear hG2 hB2 hg2))
 have GW:Hid (w.grownBy W2 (some N)):=grown_of_below (BW.out.trans (B2.out.mono BW.out.size)) _
 have C2:Hid (W2.heap[N]?=some (.cells (boolCells (judgedTo c fl fr 1 cuts)) 4 (0,0))):=by
  show _=_
  rw [judgedTo_one]
  exact (B2.out.block _ (by omega)).trans C0.out
 have P2:Hid (W2.heap[w.heap.size]?=some (.cells #[.bool c,.slice aoL tl.length capL,.slice aoR tr.length capR] 157 (0,0))):=(B2.out.block _ (by omega)).trans P0.out
 have N1:Hid (g1 ≠ N∧g2 ≠ N):=⟨by have:=L1.out;omega,by have:=L2.out;omega⟩
 clear HW0 BW P0 C0 CL CR m0 m1 m2 B1 B2 G1 HH II L1 L2 hz0
 go_wp2_with fail
 go_loopg [8] (row.length - 1) (fun gh iv wx=>∃ i:Nat,1≤i∧gh=row.length - i∧iv=.int .i64 i∧Hid (i≤row.length∨i=1)∧Hid (wx.heap[N]?=some (.cells (boolCells (judgedTo c fl fr i cuts)) 4 (0,0)))∧Hid (wx.heap[w.heap.size]?=some (.cells #[.bool c,.slice aoL tl.length capL,.slice aoR tr.length capR] 157 (0,0)))∧Hid (wx.heap[g1]?=some (.cells (boolCells ((List.range (row.length+1)).map fl)) 4 (0,0)))∧Hid (wx.heap[g2]?=some (.cells (boolCells ((List.range (row.length+1)).map fr)) 4 (0,0)))∧Hid (w.grownBy wx (some N)))
 case atStart=>exact ⟨1,Nat.le_refl _,rfl,rfl,Or.inr rfl,C2,P2,G1b,G2,GW⟩
 case round =>
  obtain ⟨i,hi,rfl,rfl,hD,hC,hP,hG1,hG2,hW⟩:=hrel
  obtain ⟨w3,hw3⟩:∃ w3,w3=wr:=⟨wr,rfl⟩
  subst hw3
  clear C2 P2 G1b G2 GW
  by_cases hlt:i<row.length
  ·obtain ⟨b0,hb0⟩:∃ b0,(judgedTo c fl fr i cuts)[i]?=some b0:=⟨_,List.getElem?_eq_getElem (by rw [judgedTo_len];omega)⟩
   have c0:=cell_of_block hP.out 0 _ rfl
   have cN:=cell_of_block hC.out i _ (boolCells_at hb0)
   have cNf:=free_of_block hC.out i
   have d1:=cell_of_block hG1.out i _ (boolCells_at (told_at fl (show i<row.length+1 by omega)))
   have d2:=cell_of_block hG2.out i _ (boolCells_at (told_at fr (show i<row.length+1 by omega)))
   clear hb0
   cases e1:fl i with
   | false =>
    rw [e1] at d1
    have E:Hid (judgedTo c fl fr (i+1) cuts=judgedTo c fl fr i cuts):=judgedTo_no c fl fr cuts (Or.inl e1)
    clear e1
    go_wp2_with fail
    go_roundg (row.length - (i+1))
    case rel=>exact ⟨i+1,by omega,rfl,by go_num,Or.inl (by omega),by rw [E.out];exact hC,hP,hG1,hG2,hW⟩
    case measure=>omega
   | true =>
    rw [e1] at d1
    cases e2:fr i with
    | false =>
     rw [e2] at d2
     have E:Hid (judgedTo c fl fr (i+1) cuts=judgedTo c fl fr i cuts):=judgedTo_no c fl fr cuts (Or.inr e2)
     clear e1 e2
     go_wp2_with fail
     go_roundg (row.length - (i+1))
     case rel=>exact ⟨i+1,by omega,rfl,by go_num,Or.inl (by omega),by rw [E.out];exact hC,hP,hG1,hG2,hW⟩
     case measure=>omega
    | true =>
     rw [e2] at d2
     have E:Hid (judgedTo c fl fr (i+1) cuts=(judgedTo c fl fr i cuts).set i c):=judgedTo_yes c fl fr hi (by omega) e1 e2
     clear e1 e2
     go_wp2_with fail
     go_roundg (row.length - (i+1))
     case rel =>
      refine ⟨i+1,by omega,rfl,by go_num,Or.inl (by omega),?_,(setCell_type (by omega)).trans hP.out,(setCell_type N1.out.1).trans hG1.out,(setCell_type N1.out.2).trans hG2.out,grown_t hW.out (grown_set _ N i _)⟩
      rw [E.out]
      exact (block_setCell hC.out i _).trans (by rw [boolCells_set])
     case measure=>omega
  ·have E:Hid (judgedTo c fl fr row.length cuts=judgedTo c fl fr i cuts):=by
    show _=_
    rcases hD.out with h | h
    ·rw [show i=row.length from by omega]
    ·rw [judgedTo_low c fl fr (by omega),judgedTo_low c fl fr (by omega)]
   go_wp2_with fail
   go_end0
   exact ⟨⟨_,rfl⟩,by rw [E.out];exact hC.out,hW.out⟩
end Go.Proofs.YtodagkkjfipbgaaGreatDoor
