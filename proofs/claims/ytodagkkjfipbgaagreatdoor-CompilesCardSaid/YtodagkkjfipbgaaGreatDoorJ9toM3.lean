/- The tables of the two sides. -/
import Derived.Test.YtodagkkjfipbgaaGreatDoorJ7toJ8
import Derived.Test.YtodagkkjfipbgaaGreatDoorJ5toJ6
import Derived.Test.YtodagkkjfipbgaaGreatDoorK8toK9
namespace Go.Proofs.YtodagkkjfipbgaaGreatDoor
open Go.RowKit Go.Maps

/-- All rows that can be had by leaving some out. -/
def subl {α : Type} : List α → List (List α)
  | [] => [[]]
  | a :: l => subl l ++ (subl l).map (a :: ·)
theorem subl_len {α : Type} : ∀ l : List α, (subl l).length = 2 ^ l.length := by
  intro l
  induction l with
  | nil => rfl
  | cons a l ih => rw [subl, List.length_append, List.length_map, ih, List.length_cons, Nat.pow_succ]; omega
theorem filter_subl {α : Type} (p : α → Bool) : ∀ l : List α, l.filter p ∈ subl l := by
  intro l
  induction l with
  | nil => simp [subl]
  | cons a l ih =>
    rw [subl, List.mem_append]
    by_cases h : p a = true
    · right; rw [List.filter_cons_of_pos h]; exact List.mem_map.2 ⟨_, ih, rfl⟩
    · left; rw [List.filter_cons_of_neg h]; exact ih
/-- The edges of a machine that take a character. -/
def chars (fw : Bool) (S : List St) : List (Nat × Nat × Nat) := (allAdds fw S 0).filter fun a => a.2.1 != 0
theorem testBit_ne {t k : Nat} (h : t.testBit k = true) : t ≠ 0 := by intro e; subst e; simp at h
/-- What a character leads to hangs on the edges that take it. -/
theorem stepS_chars (fw : Bool) (S : List St) (F : Nat → Prop) (hF : ∀ x, F x → x < S.length) (k : Nat) : ∃ sub ∈ subl (chars fw S), ∀ x, stepS (graphOf fw S) F k x ↔ ∃ e ∈ sub, reach (graphOf fw S) e.2.2 x := by
  classical
  refine ⟨(chars fw S).filter fun a => decide (F a.1 ∧ a.2.1.testBit k = true), filter_subl _ _, fun x => ?_⟩
  have hm : ∀ a e, a < S.length → (e ∈ grow (graphOf fw S) a ↔ (a, e) ∈ allAdds fw S 0) := fun a e ha => grF_mem _ _ ha e _ _ rfl
  constructor
  · rintro ⟨a, t, y, h1, h2, h3, h4⟩
    refine ⟨(a, t, y), ?_, h4⟩
    rw [List.mem_filter]
    refine ⟨?_, by simp [h1, h3]⟩
    unfold chars
    rw [List.mem_filter]
    exact ⟨(hm a (t, y) (hF a h1)).1 h2, by simpa using testBit_ne h3⟩
  · rintro ⟨⟨a, t, y⟩, h1, h2⟩
    rw [List.mem_filter] at h1
    unfold chars at h1
    rw [List.mem_filter] at h1
    obtain ⟨⟨h3, _⟩, h4⟩ := h1
    simp at h4
    exact ⟨a, t, y, h4.1, (hm a (t, y) (hF a h4.1)).2 h3, h4.2, h2⟩
/-- From set to set, where the walk may begin at any character. -/
def nxA (g : List (List (Nat × Nat))) (first : Nat) (S : Nat → Prop) (k : Nat) (x : Nat) : Prop := stepS g S k x ∨ reach g first x
def allA (fw : Bool) (S : List St) (first : Nat) : List (Nat → Prop) := reach (graphOf fw S) first :: (subl (chars fw S)).map fun sub x => (∃ e ∈ sub, reach (graphOf fw S) e.2.2 x) ∨ reach (graphOf fw S) first x
theorem allA_len (fw : Bool) (S : List St) (first : Nat) (h : (chars fw S).length ≤ 4) : (allA fw S first).length ≤ 20 := by
  unfold allA
  rw [List.length_cons, List.length_map, subl_len]
  have : 2 ^ (chars fw S).length ≤ 2 ^ 4 := Nat.pow_le_pow_right (by omega) h
  omega
theorem reach_lt {g : List (List (Nat × Nat))} (hg : GOk g) {a x : Nat} (ha : a < g.length) (h : reach g a x) : x < g.length := by
  have hc : closedS g (fun x => x < g.length) := fun x hx y hy => by
    unfold geps at hy
    rw [grow_at hx] at hy
    exact (hg.to_ _ (List.getElem_mem hx) _ hy).1
  exact closed_reach hc ha h
theorem allA_lt (fw : Bool) (S : List St) (hS : SOk S) (first : Nat) (hf : first < S.length) : ∀ F ∈ allA fw S first, ∀ x, F x → x < S.length := by
  have hg := graph_ok fw S hS
  have hl := graph_len fw S
  have rl : ∀ a x, a < S.length → reach (graphOf fw S) a x → x < S.length := fun a x ha h => by have := reach_lt hg (by rw [hl]; exact ha) h; rw [hl] at this; exact this
  have sl : ∀ sub ∈ subl (chars fw S), ∀ e ∈ sub, e ∈ chars fw S := by
    generalize chars fw S = l
    induction l with
    | nil => intro sub h e he; simp [subl] at h; subst h; simp at he
    | cons a l ih =>
      intro sub h e he
      rw [subl, List.mem_append] at h
      rcases h with h | h
      · exact List.mem_cons_of_mem _ (ih sub h e he)
      · obtain ⟨sub', h1, rfl⟩ := List.mem_map.1 h
        rw [List.mem_cons] at he
        rcases he with rfl | he
        · exact List.mem_cons_self
        · exact List.mem_cons_of_mem _ (ih sub' h1 e he)
  intro F hF x hx
  unfold allA at hF
  rw [List.mem_cons] at hF
  rcases hF with rfl | hF
  · exact rl first x hf hx
  · obtain ⟨sub, h1, rfl⟩ := List.mem_map.1 hF
    rcases hx with ⟨e, h2, h3⟩ | h3
    · refine rl _ x ?_ h3
      have h4 := sl sub h1 e h2
      unfold chars at h4
      rw [List.mem_filter, mem_allAdds] at h4
      obtain ⟨⟨j, s, h5, h6⟩, _⟩ := h4
      unfold stAdds at h6
      rw [List.mem_map] at h6
      obtain ⟨u, h7, h8⟩ := h6
      have hj := (List.getElem?_eq_some_iff.1 h5).1
      cases fw
      · simp at h8; rw [← h8]; simpa using hj
      · simp at h8; rw [← h8]; exact hS.to_ s (List.mem_of_getElem? h5) u h7
    · exact rl first x hf h3
theorem allA_next (fw : Bool) (S : List St) (hS : SOk S) (first : Nat) (hf : first < S.length) : ∀ F ∈ allA fw S first, ∀ k, k < 8 → nxA (graphOf fw S) first F k ∈ allA fw S first := by
  intro F hF k _
  obtain ⟨sub, h1, h2⟩ := stepS_chars fw S F (allA_lt fw S hS first hf F hF) k
  unfold allA
  rw [List.mem_cons]
  right
  rw [List.mem_map]
  refine ⟨sub, h1, set_ext fun x => ?_⟩
  unfold nxA
  rw [h2 x]

set_option maxRecDepth 100000 in
set_option maxHeartbeats 1000000 in
/-- What the closure answers. -/
theorem anynext_ok (g : List (List (Nat × Nat))) (hg : GOk g) (v : Value) (first p1 p2 base : Nat) (wp w0 : World) (All : List (Nat → Prop)) (hG : GIn wp v g) (hb : Below wp.heap.size wp w0) (hbase : wp.heap.size ≤ base) (hf : first < g.length) (h1 : w0.heap[p1]? = some (.cells #[v] 229 (0, 0)))
    (h2 : w0.heap[p2]? = some (.cells #[.int .i64 first] 3 (0, 0))) (hp1 : p1 < base) (hp2 : p2 < base) : NextOk base w0 176 (.pointer (some ⟨p1, 0, none⟩)) (.pointer (some ⟨p2, 0, none⟩)) g.length (nxA g first) All := by
  intro W b k S hW hS _ hk
  have HG : Hid (GIn W v g) := hG.kpa (KpA.below (hb.trans (hW.mono hbase)))
  have HS : Hid (SetAt W b g.length S) := hS
  have c1 : W.cell? ⟨p1, 0, none⟩ = some v := cell_of_block (box_on hp1 hW h1) 0 _ rfl
  have c2 : W.cell? ⟨p2, 0, none⟩ = some (.int .i64 first) := cell_of_block (box_on hp2 hW h2) 0 _ rfl
  have l1 : p1 < W.heap.size := heap_lt (box_on hp1 hW h1)
  have l2 : p2 < W.heap.size := heap_lt (box_on hp2 hW h2)
  obtain ⟨ao, cap, rfl, _⟩ := HG.out.form
  clear hG hS hb h1 h2
  go_enter Tryz.func176, Tryz.ntmps176
  go_wp2_with fail
  refine (gstep_any g hg _ W b k S HG.out HS.out hk).mono ?_
  rintro r w1 ⟨b', rfl, hge, hS1, hb1⟩
  have H1 : Hid (SetAt w1 b' g.length (stepS g S k)) := hS1
  have G1 : Hid (GIn w1 (.slice ao g.length cap) g) := HG.out.below hb1
  have B1 : Hid (Below W.heap.size W w1) := hb1
  have d1 := (hb1.cell (p := ⟨p1, 0, none⟩) l1).trans c1
  have d2 := (hb1.cell (p := ⟨p2, 0, none⟩) l2).trans c2
  clear hS1 hb1 c1 c2
  go_wp2_with fail
  refine (stand_any g hg _ w1 b' _ first G1.out H1.out hf (step_closed g S k)).mono ?_
  rintro r w2 ⟨rfl, hS2, hC2⟩
  have H2 : Hid (SetAt w2 b' g.length (nxA g first S k)) := hS2
  have B2 : Hid (Below W.heap.size W w2) := B1.out.trans (hC2.below B1.out.size (fun k hk e => by omega))
  clear hS2 hC2
  go_wp2_with fail
  go_ret
  exact ⟨b', rfl, H2.out, B2.out⟩

/-- What is told of a side's table: its rows, and the sets that they stand for. -/
def SidePost (nx : (Nat → Prop) → Nat → Nat → Prop) (goal : Nat) (Ss0 : List (Nat → Prop)) (mkv : Value → Value) (w : World) (r : Ending) (w' : World) : Prop :=
  ∃ v tab Ss, r = .returned (mkv v) ∧ TabIn w.heap.size w' v tab ∧ tab.length = Ss.length ∧ Ss0 <+: Ss ∧ Ss.length ≤ 20 ∧ TabOk nx goal Ss tab ∧ Below w.heap.size w w'

set_option maxRecDepth 100000 in
set_option maxHeartbeats 1000000 in
theorem anywhere_any (fw : Bool) (S : List St) (hS : SOk S) (hc : (chars fw S).length ≤ 4) (v : Value) (first goal : Nat) (w : World) (hG : GIn w v (graphOf fw S)) (hf : first < S.length) (hgo : goal ≤ 9000) :
    Calls Tryz.prog 135 #[v, .int .i64 first, .int .i64 goal] w (SidePost (nxA (graphOf fw S) first) goal [reach (graphOf fw S) first] id w) := by
  have hg := graph_ok fw S hS
  have hl := graph_len fw S
  have hlen := hS.len
  have HG : Hid (GIn w v (graphOf fw S)) := hG
  obtain ⟨ao, cap, hv, _⟩ := hG.form
  rw [hl] at hv
  subst hv
  have HL : Hid ((graphOf fw S).length = S.length) := hl
  clear hG hl
  have hen : ∀ (args : Array Value) (w : World), (callFunc 176 args).run Tryz.prog w = .ok (.enter 176 args) w := enters_of Tryz.func176 (by kernel_rfl) rfl
  go_enter Tryz.func135, Tryz.ntmps135
  go_wp2_with fail
  have B1 : Below w.heap.size w ((w.alloc (.cells #[.slice ao S.length cap] 229)).alloc (.cells #[.int .i64 first] 3)) := (below_alloc w _).alloc (by simp) _
  refine (from_any (graphOf fw S) hg _ _ first (HG.out.below B1) (by rw [HL.out]; exact hf)).mono ?_
  rintro r w2 ⟨b, rfl, hge, hS2, hb2⟩
  have hsz : ((w.alloc (.cells #[.slice ao S.length cap] 229)).alloc (.cells #[.int .i64 first] 3)).heap.size = w.heap.size + 2 := by simp
  have hs2 := hb2.size
  rw [hsz] at hs2
  have B2 : Hid (Below w.heap.size w w2) := B1.trans (hb2.mono (by rw [hsz]; omega))
  have P1 : w2.heap[w.heap.size]? = some (.cells #[.slice ao S.length cap] 229 (0, 0)) := by
    rw [hb2.block _ (by rw [hsz]; omega), Below.heap_alloc _ _ _ (by simp)]; exact heap_alloc_new w _
  have P2 : w2.heap[w.heap.size + 1]? = some (.cells #[.int .i64 first] 3 (0, 0)) := by
    rw [hb2.block _ (by rw [hsz]; omega)]; exact (show ((w.alloc (.cells #[.slice ao S.length cap] 229)).heap.size) = w.heap.size + 1 by simp) ▸ heap_alloc_new (w.alloc _) _
  have B3 : Hid (Below w2.heap.size w2 (w2.alloc (.cells #[.map (some b)] 296))) := below_alloc w2 _
  have S3 : Hid (SRow (w2.alloc (.cells #[.map (some b)] 296)) w2.heap.size (.slice (some ⟨w2.heap.size, 0, none⟩) 1 1) (graphOf fw S).length [reach (graphOf fw S) first] [b]) := by
    refine ⟨rfl, ⟨rfl, Or.inr ⟨w2.heap.size, 1, _, rfl, Nat.le_refl _, heap_alloc_new w2 _, by simp, by unfold maxLen; omega, rfl, rfl⟩⟩, ?_⟩
    intro i c T hc hT
    cases i with
    | zero => simp at hc hT; subst hc; subst hT; exact hS2.below (below_alloc w2 _)
    | succ i => simp at hc
  have NX := anynext_ok (graphOf fw S) hg (.slice ao S.length cap) first w.heap.size (w.heap.size + 1) w2.heap.size w (w2.alloc (.cells #[.map (some b)] 296)) (allA fw S first) HG.out (B2.out.alloc B2.out.size _) B2.out.size (by rw [HL.out]; exact hf)
    (by rw [B3.out.block _ (by omega)]; exact P1) (by rw [B3.out.block _ (by omega)]; exact P2) (by omega) (by omega)
  have T3 := table_any w2.heap.size (w2.alloc (.cells #[.map (some b)] 296)) 176 w.heap.size (w.heap.size + 1) (graphOf fw S).length goal (nxA (graphOf fw S) first) (allA fw S first) [reach (graphOf fw S) first] _ [b] hen NX (allA_next fw S hS first hf) (Nat.le_trans (allA_len fw S first hc) (by omega)) (by rw [HL.out]; exact hlen) hgo S3.out
    ⟨by simp, fun T hT => by simp at hT; subst hT; unfold allA; exact List.mem_cons_self, List.prefix_refl _⟩ (by simp)
  have HT3 : Hid (Calls Tryz.prog 179 #[.func (.func 176) #[] #[.pointer (some ⟨w.heap.size, 0, none⟩), .pointer (some ⟨w.heap.size + 1, 0, none⟩)], .int .i64 goal, .slice (some ⟨w2.heap.size, 0, none⟩) 1 1] (w2.alloc (.cells #[.map (some b)] 296)) (TablePost w2.heap.size (nxA (graphOf fw S) first) goal (allA fw S first) [reach (graphOf fw S) first] (w2.alloc (.cells #[.map (some b)] 296)))) := T3
  clear T3 NX S3 P1 P2 hS2 hb2 B1 hsz
  go_wp2_with fail
  refine HT3.out.mono ?_
  rintro r w4 ⟨v4, tab, Ss, rfl, hT4, hl4, hS4, hO4, hB4⟩
  have R4 : Hid (SidePost (nxA (graphOf fw S) first) goal [reach (graphOf fw S) first] id w (.returned v4) w4) := ⟨v4, tab, Ss, rfl, row_base hT4 B2.out.size, hl4, hS4.pre, Nat.le_trans hS4.len (allA_len fw S first hc), hO4, (B2.out.alloc B2.out.size _).trans (hB4.mono B2.out.size)⟩
  obtain ⟨aoT, capT, rfl⟩ := row_shape hT4
  clear hT4 hl4 hS4 hO4 hB4
  go_wp2_with fail
  go_ret
  exact R4.out
end Go.Proofs.YtodagkkjfipbgaaGreatDoor
/- MakeLeft, MakeRight. -/
namespace Go.Proofs.YtodagkkjfipbgaaGreatDoor
open Go.RowKit Go.Maps

theorem step_fn3 {P : Program} {w : World} {ops : Array Oper} {o : Oper} {a : Act} {K : Act → World → Prop} {Q : Exit → Act → World → Prop} {E : Prop} (hgd : o.guard = none) (f : Nat) (x y z : Operand) (ts : Array TypeId)
    (ho : o.op = .call { callee := .value (.func f), args := #[x, y, z], argTypes := ts }) (he : Go.Proofs.Enters P f) (v0 v1 v2 : Value) (hx : a.eval x = v0) (hy : a.eval y = v1) (hz : a.eval z = v2) (R : Ending → World → Prop) (hc : Calls P f #[v0, v1, v2] w R)
    (hK : ∀ e w', R e w' → ∃ v, e = .returned v ∧ K (a.put o.dst v) w') :
    if Region.wanted o (yielded ops a.tmps) = true then Oper.wp P o a w K Q else E := by
  have hw : Region.wanted o (yielded ops a.tmps) = true := by simp [Region.wanted, hgd]
  rw [if_pos hw]
  unfold Go.Proofs.Enters at he
  unfold Oper.wp execOp
  have hfe : a.eval (.func f) = .func (.func f) #[] #[] := rfl
  simp [ho, resolve, invoke, hx, hy, hz, hfe, Deferred.ofValue, he, Oper.upon_enter]
  refine hc.mono ?_
  intro e w' hr
  obtain ⟨v, rfl, hk⟩ := hK e w' hr
  exact hk

/-- What forth, back answer. -/
def GPost (g : List (List (Nat × Nat))) (W : World) (r : Ending) (w' : World) : Prop := ∃ v, r = .returned v ∧ GIn w' v g ∧ Below W.heap.size W w'

set_option maxRecDepth 100000 in
set_option maxHeartbeats 2000000 in
theorem left_any (S : List St) (hS : SOk S) (hc : (chars true S).length ≤ 4) (vS : Value) (tv : List Value) (first : Nat) (w : World) (hM : MRow w 0 vS S tv) (hf : first < S.length) :
    Calls Tryz.prog 81 #[.agg #[vS, .int .i64 first]] w (SidePost (nxA (graphOf true S) first) 0 [reach (graphOf true S) first] (fun v => .agg #[v]) w) := by
  have HM : Hid (MRow w 0 vS S tv) := hM
  have hl0 := hS.len
  obtain ⟨ao, cap, rfl⟩ := row_shape hM.row
  clear hM
  obtain ⟨W0, hW0⟩ : ∃ W0, W0 = (w.alloc (.cells #[.slice ao S.length cap, .int .i64 first] 146)).alloc (.cells #[.slice none 0 0] 152) := ⟨_, rfl⟩
  have HW0 : Hid (W0 = (w.alloc (.cells #[.slice ao S.length cap, .int .i64 first] 146)).alloc (.cells #[.slice none 0 0] 152)) := hW0
  have b0 : Below w.heap.size w W0 := by rw [hW0]; exact (below_alloc w _).alloc (by simp) _
  have hz : W0.heap.size = w.heap.size + 2 := by rw [hW0]; simp
  have p0 : W0.heap[w.heap.size]? = some (.cells #[.slice ao S.length cap, .int .i64 first] 146 (0, 0)) := by rw [hW0, Below.heap_alloc _ _ _ (by simp)]; exact heap_alloc_new w _
  have p1 : W0.heap[w.heap.size + 1]? = some (.cells #[.slice none 0 0] 152 (0, 0)) := by rw [hW0]; exact (show ((w.alloc (.cells #[.slice ao S.length cap, .int .i64 first] 146)).heap.size) = w.heap.size + 1 by simp) ▸ heap_alloc_new (w.alloc _) _
  have P1 : Hid (W0.heap[w.heap.size + 1]? = some (.cells #[.slice none 0 0] 152 (0, 0))) := p1
  have B0 : Hid (Below w.heap.size w W0) := b0
  have HF : Hid (Calls Tryz.prog 136 #[.agg #[.slice ao S.length cap, .int .i64 first]] W0.drew (GPost (graphOf true S) W0.drew)) := forth_any S _ tv first W0.drew (HM.out.later b0.drew) hS
  have m0 : W0.cell? ⟨w.heap.size, 0, none⟩ = some (.slice ao S.length cap) := cell_of_block p0 0 _ rfl
  have m1 : W0.cell? ⟨w.heap.size, 1, none⟩ = some (.int .i64 (first : Nat)) := cell_of_block p0 1 _ rfl
  have r1 : W0.cell? ⟨w.heap.size + 1, 0, none⟩ = some (.slice none 0 0) := cell_of_block p1 0 _ rfl
  clear hW0 b0 p0 p1
  go_enter Tryz.func81, Tryz.ntmps81
  go_wp2_with fail
  rw [← HW0.out]
  go_region_law (first
    | (refine step_fn1 rfl 136 (.tmp 3) _ rfl (enters_of Tryz.func136 (by kernel_rfl) rfl) (.agg #[.slice ao S.length cap, .int .i64 first]) (by simp [Act.eval]) _ HF.out ?_
       rintro e W1 ⟨v1, rfl, hG1, hB1⟩
       refine ⟨v1, rfl, ?_⟩
       have G1 : Hid (GIn W1 v1 (graphOf true S)) := hG1
       have B1 : Hid (Below W0.heap.size W0 W1) := below_drew hB1
       have n1 := (B1.out.cell (p := ⟨w.heap.size, 1, none⟩) (by rw [hz]; show w.heap.size < _; omega)).trans m1
       obtain ⟨ao1, cap1, rfl, _⟩ := hG1.form
       clear hG1 hB1)
    | (refine step_fn3 rfl 135 (.tmp 4) (.tmp 6) (.const (.int .i64 0)) _ rfl (enters_of Tryz.func135 (by kernel_rfl) rfl) _ (.int .i64 (first : Nat)) (.int .i64 0) (by simp [Act.eval]) (by simp [Act.eval]) (by simp [Act.eval]) _ (anywhere_any true S hS hc _ first 0 W1 G1.out hf (by omega)) ?_
       rintro e W2 ⟨v2, tab, Ss, rfl, hT2, hl2, hp2, hn2, hO2, hB2⟩
       refine ⟨v2, rfl, ?_⟩
       have B2 : Hid (Below W0.heap.size W0 W2) := B1.out.trans (hB2.mono B1.out.size)
       have BB2 : Hid (Below w.heap.size w W2) := B0.out.trans (B2.out.mono (by omega))
       have T2 : Hid (TabIn w.heap.size W2 v2 tab) := row_base hT2 (Nat.le_trans (by omega) B1.out.size)
       have HR2 : Hid (tab.length = Ss.length ∧ [reach (graphOf true S) first] <+: Ss ∧ Ss.length ≤ 20 ∧ TabOk (nxA (graphOf true S) first) 0 Ss tab) := ⟨hl2, hp2, hn2, hO2⟩
       have QB : Hid (W2.heap[w.heap.size + 1]? = some (.cells #[.slice none 0 0] 152 (0, 0))) := by show _ = _; rw [B2.out.block _ (by omega)]; exact P1.out
       have o2 := cell_of_block QB.out 0 _ rfl
       have f2 := free_of_block QB.out
       obtain ⟨aoT, capT, hv2⟩ := row_shape hT2
       subst hv2
       clear hT2 hl2 hp2 hn2 hO2 hB2))
  all_goals go_wp2_with fail
  all_goals refine bodyPost_ret (results_cell_row rfl _ _ (w.heap.size + 1) 152 #[.slice aoT tab.length capT] (0, 0) _ rfl ((block_setCell QB.out 0 _).trans rfl) Tryz.underlying152 rfl (by kernel_rfl)) rfl ?_
  all_goals exact ⟨_, tab, Ss, rfl, row_kp T2.out ((Kp.refl _ _).setCell QB.out (by decide) _), HR2.out.1, HR2.out.2.1, HR2.out.2.2.1, HR2.out.2.2.2, BB2.out.setCell (by show w.heap.size ≤ w.heap.size + 1; omega) _⟩

set_option maxRecDepth 100000 in
set_option maxHeartbeats 2000000 in
theorem right_any (S : List St) (hS : SOk S) (hc : (chars false S).length ≤ 4) (vS : Value) (tv : List Value) (first : Nat) (w : World) (hM : MRow w 0 vS S tv) (hf : first < S.length) :
    Calls Tryz.prog 82 #[.agg #[vS, .int .i64 first]] w (SidePost (nxA (graphOf false S) 0) first [reach (graphOf false S) 0] (fun v => .agg #[v]) w) := by
  have HM : Hid (MRow w 0 vS S tv) := hM
  have hl0 := hS.len
  obtain ⟨ao, cap, rfl⟩ := row_shape hM.row
  clear hM
  obtain ⟨W0, hW0⟩ : ∃ W0, W0 = (w.alloc (.cells #[.slice ao S.length cap, .int .i64 first] 146)).alloc (.cells #[.slice none 0 0] 154) := ⟨_, rfl⟩
  have HW0 : Hid (W0 = (w.alloc (.cells #[.slice ao S.length cap, .int .i64 first] 146)).alloc (.cells #[.slice none 0 0] 154)) := hW0
  have b0 : Below w.heap.size w W0 := by rw [hW0]; exact (below_alloc w _).alloc (by simp) _
  have hz : W0.heap.size = w.heap.size + 2 := by rw [hW0]; simp
  have p0 : W0.heap[w.heap.size]? = some (.cells #[.slice ao S.length cap, .int .i64 first] 146 (0, 0)) := by rw [hW0, Below.heap_alloc _ _ _ (by simp)]; exact heap_alloc_new w _
  have p1 : W0.heap[w.heap.size + 1]? = some (.cells #[.slice none 0 0] 154 (0, 0)) := by rw [hW0]; exact (show ((w.alloc (.cells #[.slice ao S.length cap, .int .i64 first] 146)).heap.size) = w.heap.size + 1 by simp) ▸ heap_alloc_new (w.alloc _) _
  have P1 : Hid (W0.heap[w.heap.size + 1]? = some (.cells #[.slice none 0 0] 154 (0, 0))) := p1
  have B0 : Hid (Below w.heap.size w W0) := b0
  have HF : Hid (Calls Tryz.prog 137 #[.agg #[.slice ao S.length cap, .int .i64 first]] W0.drew (GPost (graphOf false S) W0.drew)) := back_any S _ tv first W0.drew (HM.out.later b0.drew) hS
  have m0 : W0.cell? ⟨w.heap.size, 0, none⟩ = some (.slice ao S.length cap) := cell_of_block p0 0 _ rfl
  have m1 : W0.cell? ⟨w.heap.size, 1, none⟩ = some (.int .i64 (first : Nat)) := cell_of_block p0 1 _ rfl
  have r1 : W0.cell? ⟨w.heap.size + 1, 0, none⟩ = some (.slice none 0 0) := cell_of_block p1 0 _ rfl
  clear hW0 b0 p0 p1
  go_enter Tryz.func82, Tryz.ntmps82
  go_wp2_with fail
  rw [← HW0.out]
  go_region_law (first
    | (refine step_fn1 rfl 137 (.tmp 3) _ rfl (enters_of Tryz.func137 (by kernel_rfl) rfl) (.agg #[.slice ao S.length cap, .int .i64 first]) (by simp [Act.eval]) _ HF.out ?_
       rintro e W1 ⟨v1, rfl, hG1, hB1⟩
       refine ⟨v1, rfl, ?_⟩
       have G1 : Hid (GIn W1 v1 (graphOf false S)) := hG1
       have B1 : Hid (Below W0.heap.size W0 W1) := below_drew hB1
       have n1 := (B1.out.cell (p := ⟨w.heap.size, 1, none⟩) (by rw [hz]; show w.heap.size < _; omega)).trans m1
       obtain ⟨ao1, cap1, rfl, _⟩ := hG1.form
       clear hG1 hB1)
    | (refine step_fn3 rfl 135 (.tmp 4) (.const (.int .i64 0)) (.tmp 6) _ rfl (enters_of Tryz.func135 (by kernel_rfl) rfl) _ (.int .i64 0) (.int .i64 (first : Nat)) (by simp [Act.eval]) (by simp [Act.eval]) (by simp [Act.eval]) _ (anywhere_any false S hS hc _ 0 first W1 G1.out (by omega) (by omega)) ?_
       rintro e W2 ⟨v2, tab, Ss, rfl, hT2, hl2, hp2, hn2, hO2, hB2⟩
       refine ⟨v2, rfl, ?_⟩
       have B2 : Hid (Below W0.heap.size W0 W2) := B1.out.trans (hB2.mono B1.out.size)
       have BB2 : Hid (Below w.heap.size w W2) := B0.out.trans (B2.out.mono (by omega))
       have T2 : Hid (TabIn w.heap.size W2 v2 tab) := row_base hT2 (Nat.le_trans (by omega) B1.out.size)
       have HR2 : Hid (tab.length = Ss.length ∧ [reach (graphOf false S) 0] <+: Ss ∧ Ss.length ≤ 20 ∧ TabOk (nxA (graphOf false S) 0) first Ss tab) := ⟨hl2, hp2, hn2, hO2⟩
       have QB : Hid (W2.heap[w.heap.size + 1]? = some (.cells #[.slice none 0 0] 154 (0, 0))) := by show _ = _; rw [B2.out.block _ (by omega)]; exact P1.out
       have o2 := cell_of_block QB.out 0 _ rfl
       have f2 := free_of_block QB.out
       obtain ⟨aoT, capT, hv2⟩ := row_shape hT2
       subst hv2
       clear hT2 hl2 hp2 hn2 hO2 hB2))
  all_goals go_wp2_with fail
  all_goals refine bodyPost_ret (results_cell_row rfl _ _ (w.heap.size + 1) 154 #[.slice aoT tab.length capT] (0, 0) _ rfl ((block_setCell QB.out 0 _).trans rfl) Tryz.underlying154 rfl (by kernel_rfl)) rfl ?_
  all_goals exact ⟨_, tab, Ss, rfl, row_kp T2.out ((Kp.refl _ _).setCell QB.out (by decide) _), HR2.out.1, HR2.out.2.1, HR2.out.2.2.1, HR2.out.2.2.2, BB2.out.setCell (by show w.heap.size ≤ w.heap.size + 1; omega) _⟩
end Go.Proofs.YtodagkkjfipbgaaGreatDoor
/- MakeOnward: the table of a walk that begins once. -/
namespace Go.Proofs.YtodagkkjfipbgaaGreatDoor
open Go.RowKit Go.Maps

theorem step_fn2 {P : Program} {w : World} {ops : Array Oper} {o : Oper} {a : Act} {K : Act → World → Prop} {Q : Exit → Act → World → Prop} {E : Prop} (hgd : o.guard = none) (f : Nat) (x y : Operand) (ts : Array TypeId)
    (ho : o.op = .call { callee := .value (.func f), args := #[x, y], argTypes := ts }) (he : Go.Proofs.Enters P f) (v0 v1 : Value) (hx : a.eval x = v0) (hy : a.eval y = v1) (R : Ending → World → Prop) (hc : Calls P f #[v0, v1] w R)
    (hK : ∀ e w', R e w' → ∃ v, e = .returned v ∧ K (a.put o.dst v) w') :
    if Region.wanted o (yielded ops a.tmps) = true then Oper.wp P o a w K Q else E := by
  have hw : Region.wanted o (yielded ops a.tmps) = true := by simp [Region.wanted, hgd]
  rw [if_pos hw]
  unfold Go.Proofs.Enters at he
  unfold Oper.wp execOp
  have hfe : a.eval (.func f) = .func (.func f) #[] #[] := rfl
  simp [ho, resolve, invoke, hx, hy, hfe, Deferred.ofValue, he, Oper.upon_enter]
  refine hc.mono ?_
  intro e w' hr
  obtain ⟨v, rfl, hk⟩ := hK e w' hr
  exact hk

/-- From set to set, where the walk begins once; a set that has the goal stays. -/
def nxH (g : List (List (Nat × Nat))) (goal : Nat) (S : Nat → Prop) (k : Nat) (x : Nat) : Prop := (S goal ∧ S x) ∨ (¬ S goal ∧ ((stepS g S k goal ∧ x = goal) ∨ (¬ stepS g S k goal ∧ stepS g S k x)))
theorem nxH_stay {g : List (List (Nat × Nat))} {goal : Nat} {S : Nat → Prop} {k : Nat} (h : S goal) : nxH g goal S k = S := set_ext fun x => by unfold nxH; simp [h]
theorem nxH_hit {g : List (List (Nat × Nat))} {goal : Nat} {S : Nat → Prop} {k : Nat} (h : ¬ S goal) (h' : stepS g S k goal) : nxH g goal S k = fun x => x = goal := set_ext fun x => by unfold nxH; simp [h, h']
theorem nxH_go {g : List (List (Nat × Nat))} {goal : Nat} {S : Nat → Prop} {k : Nat} (h : ¬ S goal) (h' : ¬ stepS g S k goal) : nxH g goal S k = stepS g S k := set_ext fun x => by unfold nxH; simp [h, h']
def allH (S : List St) (first goal : Nat) : List (Nat → Prop) := reach (graphOf true S) first :: (fun _ => False) :: (fun x => x = goal) :: (subl (chars true S)).map fun sub x => ∃ e ∈ sub, reach (graphOf true S) e.2.2 x
theorem allH_len (S : List St) (first goal : Nat) (h : (chars true S).length ≤ 4) : (allH S first goal).length ≤ 20 := by
  unfold allH
  rw [List.length_cons, List.length_cons, List.length_cons, List.length_map, subl_len]
  have : 2 ^ (chars true S).length ≤ 2 ^ 4 := Nat.pow_le_pow_right (by omega) h
  omega
theorem allH_lt (S : List St) (hS : SOk S) (first goal : Nat) (hf : first < S.length) (hgo : goal < S.length) : ∀ F ∈ allH S first goal, ∀ x, F x → x < S.length := by
  intro F hF x hx
  have hA := allA_lt true S hS first hf
  unfold allH at hF
  rw [List.mem_cons, List.mem_cons, List.mem_cons] at hF
  rcases hF with rfl | rfl | rfl | hF
  · exact hA _ (by unfold allA; exact List.mem_cons_self) x hx
  · exact hx.elim
  · subst hx; exact hgo
  · obtain ⟨sub, h1, rfl⟩ := List.mem_map.1 hF
    refine hA (fun x => (∃ e ∈ sub, reach (graphOf true S) e.2.2 x) ∨ reach (graphOf true S) first x) ?_ x (Or.inl hx)
    unfold allA
    rw [List.mem_cons]
    exact Or.inr (List.mem_map.2 ⟨sub, h1, rfl⟩)
theorem allH_next (S : List St) (hS : SOk S) (first goal : Nat) (hf : first < S.length) (hgo : goal < S.length) : ∀ F ∈ allH S first goal, ∀ k, k < 8 → nxH (graphOf true S) goal F k ∈ allH S first goal := by
  intro F hF k _
  by_cases h : F goal
  · rw [nxH_stay h]; exact hF
  · by_cases h' : stepS (graphOf true S) F k goal
    · rw [nxH_hit h h']
      unfold allH
      simp
    · rw [nxH_go h h']
      obtain ⟨sub, h1, h2⟩ := stepS_chars true S F (allH_lt S hS first goal hf hgo F hF) k
      unfold allH
      rw [List.mem_cons, List.mem_cons, List.mem_cons, List.mem_map]
      exact Or.inr (Or.inr (Or.inr ⟨sub, h1, set_ext fun x => (h2 x).symm⟩))

set_option maxRecDepth 100000 in
set_option maxHeartbeats 1000000 in
/-- What the closure answers. -/
theorem herenext_ok (g : List (List (Nat × Nat))) (hg : GOk g) (v : Value) (goal p1 p2 base : Nat) (wp w0 : World) (All : List (Nat → Prop)) (hG : GIn wp v g) (hb : Below wp.heap.size wp w0) (hbase : wp.heap.size ≤ base) (hgo : goal < g.length) (h1 : w0.heap[p1]? = some (.cells #[.int .i64 goal] 3 (0, 0)))
    (h2 : w0.heap[p2]? = some (.cells #[v] 229 (0, 0))) (hp1 : p1 < base) (hp2 : p2 < base) : NextOk base w0 211 (.pointer (some ⟨p1, 0, none⟩)) (.pointer (some ⟨p2, 0, none⟩)) g.length (nxH g goal) All := by
  intro W b k S hW hS _ hk
  have HG : Hid (GIn W v g) := hG.kpa (KpA.below (hb.trans (hW.mono hbase)))
  have HS : Hid (SetAt W b g.length S) := hS
  have c1 : W.cell? ⟨p1, 0, none⟩ = some (.int .i64 goal) := cell_of_block (box_on hp1 hW h1) 0 _ rfl
  have c2 : W.cell? ⟨p2, 0, none⟩ = some v := cell_of_block (box_on hp2 hW h2) 0 _ rfl
  have l1 : p1 < W.heap.size := heap_lt (box_on hp1 hW h1)
  have l2 : p2 < W.heap.size := heap_lt (box_on hp2 hW h2)
  have hlen := hg.len
  obtain ⟨ao, cap, rfl, _⟩ := HG.out.form
  clear hG hS hb h1 h2
  have hmm := @run_makeMap Tryz.prog
  go_enter Tryz.func211, Tryz.ntmps211
  go_wp2_with fail
  refine (has_any W b g.length goal S HS.out (by omega)).mono ?_
  rintro r w1 ⟨c, rfl, hc, hb1⟩
  have B1 : Hid (Below W.heap.size W w1) := hb1
  cases c
  · have hs : ¬ S goal := fun e => by have := hc.2 e; cases this
    have d1 := (hb1.cell (p := ⟨p1, 0, none⟩) l1).trans c1
    have d2 := (hb1.cell (p := ⟨p2, 0, none⟩) l2).trans c2
    have G1 : Hid (GIn w1 (.slice ao g.length cap) g) := HG.out.below hb1
    have S1 : Hid (SetAt w1 b g.length S) := HS.out.below hb1
    clear hb1 c1 c2 hc
    go_wp2_with fail
    refine (gstep_any g hg _ w1 b k S G1.out S1.out hk).mono ?_
    rintro r w2 ⟨b', rfl, hge, hS2, hb2⟩
    have S2 : Hid (SetAt w2 b' g.length (stepS g S k)) := hS2
    have B2 : Hid (Below W.heap.size W w2) := B1.out.trans (hb2.mono B1.out.size)
    have hsz1 := B1.out.size
    have e1 := (hb2.cell (p := ⟨p1, 0, none⟩) (Nat.lt_of_lt_of_le l1 hsz1)).trans d1
    have hsz2 := hb2.size
    clear hS2 hb2 d1 d2
    go_wp2_with fail
    refine (has_any w2 b' g.length goal _ S2.out (by omega)).mono ?_
    rintro r w3 ⟨c', rfl, hc', hb3⟩
    have B3 : Hid (Below W.heap.size W w3) := B2.out.trans (hb3.mono (Nat.le_trans hsz1 hsz2))
    have S3 : Hid (SetAt w3 b' g.length (stepS g S k)) := S2.out.below hb3
    have f1 := (hb3.cell (p := ⟨p1, 0, none⟩) (Nat.lt_of_lt_of_le l1 (Nat.le_trans hsz1 hsz2))).trans e1
    have hsz3 := hb3.size
    clear hb3 e1
    cases c'
    · have hs' : ¬ stepS g S k goal := fun e => by have := hc'.2 e; cases this
      go_wp2_with fail
      go_ret
      exact ⟨b', rfl, by rw [nxH_go hs hs']; exact S3.out, B3.out⟩
    · have hs' : stepS g S k goal := hc'.1 rfl
      have hka := keyOf_nat goal (by omega)
      have N4 : Hid (SetD (w3.alloc (.map #[] 0)) w3.heap.size g.length (.map []) (fun _ => False)) := set_made w3 g.length
      have g1 := ((below_alloc w3 (.map #[] 0)).cell (p := ⟨p1, 0, none⟩) (Nat.lt_of_lt_of_le l1 (Nat.le_trans hsz1 (Nat.le_trans hsz2 hsz3)))).trans f1
      obtain ⟨w4, hrun4, hown4, hg4⟩ := N4.out.own.update intKey Tryz.undSet (by unfold maxLen; simp [Maps.size]) (val := .agg #[]) hka unitElem_mk
      have C4 : Hid (Below W.heap.size W w4) := (B3.out.alloc B3.out.size _).grown hg4 (by have := B3.out.size; simp; omega) (fun k e => by have := B3.out.size; injection e with e; omega)
      have S4 : Hid (SetAt w4 w3.heap.size g.length (fun y => False ∨ y = goal)) := ⟨_, N4.out.put hgo hown4⟩
      clear hown4 hg4
      go_wp2_with fail
      go_ret
      exact ⟨_, rfl, by rw [nxH_hit hs hs']; exact S4.out.congr fun x => by simp, C4.out⟩
  · have hs : S goal := hc.1 rfl
    have S1 : Hid (SetAt w1 b g.length S) := HS.out.below hb1
    clear hb1
    go_wp2_with fail
    go_ret
    exact ⟨b, rfl, by rw [nxH_stay hs]; exact S1.out, B1.out⟩
end Go.Proofs.YtodagkkjfipbgaaGreatDoor
