/- The table of classes as at the first stage: a row of entries in the order in which they came. -/
import Derived.Deep.RegionLaw
import Derived.Test.YtonooajnjgnmnaaGreatDoorC1toC3
namespace Go.Proofs.YtonooajnjgnmnaaGreatDoor
open Go.RowKit

theorem Tryz.infoEnt : (Tryz.prog.info? 110).map (fun i => (i.zero, i.size, i.bytes)) = some (some (.agg #[.int .i32 0, .int .i32 0, .int .u8 0]), 3, 12) := by kernel_rfl
theorem Tryz.undEnt : Tryz.prog.underlying 37 = some (.slice 110) := by kernel_rfl
def entCells (l : List (Int × Int × Nat)) : List Value := l.flatMap fun o => [.int .i32 o.1, .int .i32 o.2.1, .int .u8 o.2.2]
theorem entCells_at (l : List (Int × Int × Nat)) (i : Nat) (h : i < l.length) :
    (entCells l)[i * 3]? = some (.int .i32 l[i].1) ∧ (entCells l)[i * 3 + 1]? = some (.int .i32 l[i].2.1) ∧ (entCells l)[i * 3 + 2]? = some (.int .u8 l[i].2.2) := by
  induction l generalizing i with
  | nil => simp at h
  | cons a r ih =>
    cases i with
    | zero => simp [entCells]
    | succ i =>
      have := ih i (by simpa using h)
      have e : ∀ k, (entCells (a :: r))[(i + 1) * 3 + k]? = (entCells r)[i * 3 + k]? := by
        intro k; rw [show (i + 1) * 3 + k = (i * 3 + k) + 3 from by omega]; rfl
      have e0 := e 0; have e1 := e 1; have e2 := e 2
      simp only [Nat.add_zero] at e0
      rw [e0, e1, e2]; simpa using this
def TRe (base : Nat) (w : World) (v : Value) (l : List (Int × Int × Nat)) : Prop := w.ownsRow base 110 3 v l.length (entCells l)
theorem entRow_form {w : World} {base : Nat} {v : Value} {l : List (Int × Int × Nat)} (h : TRe base w v l) :
    ∃ ao cap, v = .slice ao l.length cap ∧ ∀ i (hi : i < l.length), ∃ g, ao = some ⟨g, 0, none⟩ ∧ g < w.heap.size ∧ w.cell? ⟨g, i * 3, none⟩ = some (.int .i32 l[i].1) ∧ w.cell? ⟨g, i * 3 + 1, none⟩ = some (.int .i32 l[i].2.1) ∧ w.cell? ⟨g, i * 3 + 2, none⟩ = some (.int .u8 l[i].2.2) := by
  obtain ⟨h2, h3⟩ := h
  rcases h3 with ⟨hv, hn⟩ | ⟨g, cap, cur, hv, hg, hh, hcap, hmx, hsz, hcur⟩
  · exact ⟨none, 0, by rw [hv, hn], fun i hi => by omega⟩
  · refine ⟨some ⟨g, 0, none⟩, cap, hv, fun i hi => ⟨g, rfl, heap_lt hh, ?_⟩⟩
    have hc := entCells_at l i hi
    rw [← hcur, List.getElem?_take, List.getElem?_take, List.getElem?_take, if_pos (by omega), if_pos (by omega), if_pos (by omega)] at hc
    exact ⟨cell_of_block hh _ _ (by simpa using hc.1), cell_of_block hh _ _ (by simpa using hc.2.1), cell_of_block hh _ _ (by simpa using hc.2.2)⟩

def meet1 (a b c d : Int) : Bool := decide (a ≤ d) && decide (c ≤ b)
set_option maxHeartbeats 1000000 in
theorem meets_any (a b c d : Int) (w : World) :
    Calls Tryz.prog 50 #[.agg #[.int .i32 a, .int .i32 b], .agg #[.int .i32 c, .int .i32 d]] w fun r w' => r = .returned (.bool (meet1 a b c d)) ∧ Below w.heap.size w w' := by
  by_cases h : a ≤ d
  · have e : Hid (meet1 a b c d = decide (c ≤ b)) := by show _ = _; unfold meet1; simp [h]
    rw [e.out]
    go_enter Tryz.func50, Tryz.ntmps50
    go_wp2
    go_ret
    exact ⟨rfl, (below_alloc w _).trans ((below_alloc _ _).mono (by simp))⟩
  · have e : Hid (meet1 a b c d = false) := by show _ = _; unfold meet1; simp [h]
    rw [e.out]
    go_enter Tryz.func50, Tryz.ntmps50
    go_wp2
    go_ret
    exact ⟨rfl, (below_alloc w _).trans ((below_alloc _ _).mono (by simp))⟩

set_option maxHeartbeats 1000000 in
theorem meetsC_any (a b : Int) (k : Nat) (x y : Int) (q : Nat) (w : World) (hq : w.heap[q]? = some (.cells #[.int .i32 x, .int .i32 y] 91 (0, 0))) :
    Calls Tryz.prog 62 #[.agg #[.int .i32 a, .int .i32 b, .int .u8 k], .pointer (some ⟨q, 0, none⟩)] w fun r w' => r = .returned (.bool (meet1 a b x y)) ∧ Below w.heap.size w w' := by
  have hql := heap_lt hq
  have q0 : ∀ o, (w.alloc o).cell? ⟨q, 0, none⟩ = some (.int .i32 x) := fun o => ((below_alloc w o).cell (p := ⟨q, 0, none⟩) hql).trans (cell_of_block hq 0 _ rfl)
  have q1 : ∀ o, (w.alloc o).cell? ⟨q, 1, none⟩ = some (.int .i32 y) := fun o => ((below_alloc w o).cell (p := ⟨q, 1, none⟩) hql).trans (cell_of_block hq 1 _ rfl)
  clear hq
  go_enter Tryz.func62, Tryz.ntmps62
  go_wp2_with fail
  refine (meets_any a b x y _).mono ?_
  rintro r w1 ⟨rfl, b1⟩
  go_wp2_with fail
  go_ret
  exact ⟨rfl, (below_alloc w _).trans (b1.mono (by simp))⟩

set_option maxRecDepth 100000 in
set_option maxHeartbeats 2000000 in
theorem indexF_any (base : Nat) (v : Value) (l : List (Int × Int × Nat)) (x y : Int) (q : Nat) (w : World) (h : TRe base w v l) (hl : l.length ≤ 2000) (hq : w.heap[q]? = some (.cells #[.int .i32 x, .int .i32 y] 91 (0, 0))) :
    Calls Tryz.prog 76 #[v, .func (.func 62) #[] #[.pointer (some ⟨q, 0, none⟩)]] w fun r w' => (∃ j : Int, r = .returned (.int .i64 j) ∧ decide (0 ≤ j) = RS.meets x y (spI l)) ∧ Below w.heap.size w w' := by
  obtain ⟨ao, cap, rfl, hcs⟩ := entRow_form h
  have HC : Hid (∀ i (hi : i < l.length), ∃ g, ao = some ⟨g, 0, none⟩ ∧ g < w.heap.size ∧ w.cell? ⟨g, i * 3, none⟩ = some (.int .i32 l[i].1) ∧ w.cell? ⟨g, i * 3 + 1, none⟩ = some (.int .i32 l[i].2.1) ∧ w.cell? ⟨g, i * 3 + 2, none⟩ = some (.int .u8 l[i].2.2)) := hcs
  have HQ : Hid (w.heap[q]? = some (.cells #[.int .i32 x, .int .i32 y] 91 (0, 0))) := hq
  have hen : ∀ (args : Array Value) (w : World), (callFunc 62 args).run Tryz.prog w = .ok (.enter 62 args) w := enters_of Tryz.func62 (by kernel_rfl) rfl
  clear hcs h hq
  go_enter Tryz.func76, Tryz.ntmps76
  go_wp2_with fail
  go_loopg [8] l.length (fun g iv wx => ∃ i : Nat, i ≤ l.length ∧ g = l.length - i ∧ iv = .int .i64 i ∧ Hid (RS.meets x y (spI (l.take i)) = false) ∧ Below w.heap.size w wx)
  case atStart => exact ⟨0, Nat.zero_le _, rfl, rfl, rfl, Below.refl _ _⟩
  case round =>
    obtain ⟨i, hi, rfl, rfl, hno, hb⟩ := hrel
    obtain ⟨w1, hw1⟩ : ∃ w1, w1 = wr := ⟨wr, rfl⟩
    subst hw1
    by_cases hlt : i < l.length
    · obtain ⟨g, rfl, hg, c0, c1, c2⟩ := HC.out i hlt
      have d0 := (hb.cell (p := ⟨g, i * 3, none⟩) hg).trans c0
      have d1 := (hb.cell (p := ⟨g, i * 3 + 1, none⟩) hg).trans c1
      have d2 := (hb.cell (p := ⟨g, i * 3 + 2, none⟩) hg).trans c2
      have hq1 : w1.heap[q]? = some (.cells #[.int .i32 x, .int .i32 y] 91 (0, 0)) := by rw [hb.block q (heap_lt HQ.out)]; exact HQ.out
      have HQ1 : Hid (w1.heap[q]? = some (.cells #[.int .i32 x, .int .i32 y] 91 (0, 0))) := hq1
      have hsn : Hid (RS.meets x y (spI (l.take (i + 1))) = meet1 l[i].1 l[i].2.1 x y) := by
        show _ = _
        have e : spI (l.take (i + 1)) = spI (l.take i) ++ [(l[i].1, l[i].2.1, (l[i].2.2 : Int))] := by unfold spI; rw [List.take_succ_eq_append_getElem hlt, List.map_append]; rfl
        rw [e]
        have h0 := hno.out
        unfold RS.meets at h0 ⊢
        rw [List.any_append, h0]
        unfold meet1
        simp [Bool.and_comm]
      clear c0 c1 c2 hq1
      go_wp2_with fail
      refine (meetsC_any l[i].1 l[i].2.1 l[i].2.2 x y q w1 HQ1.out).mono ?_
      rintro r w2 ⟨rfl, b2⟩
      have hb2 := hb.trans (b2.mono hb.size)
      cases hm : meet1 l[i].1 l[i].2.1 x y
      · have hno2 : Hid (RS.meets x y (spI (l.take (i + 1))) = false) := by show _ = _; rw [hsn.out]; exact hm
        go_wp2_with fail
        go_roundg (l.length - (i + 1))
        case measure => omega
        case rel => exact ⟨i + 1, by omega, rfl, by go_num, hno2, hb2⟩
      · have hyes : Hid (RS.meets x y (spI l) = true) := by
          show _ = _
          have h1 : RS.meets x y (spI (l.take (i + 1))) = true := by rw [hsn.out]; exact hm
          unfold RS.meets at h1 ⊢
          rw [List.any_eq_true] at h1 ⊢
          obtain ⟨o, ho, ho2⟩ := h1
          refine ⟨o, ?_, ho2⟩
          unfold spI at ho ⊢
          rw [List.mem_map] at ho ⊢
          obtain ⟨z, hz, rfl⟩ := ho
          exact ⟨z, List.mem_of_mem_take hz, rfl⟩
        go_wp2_with fail
        go_ret
        exact ⟨⟨_, rfl, by rw [hyes.out]; simp⟩, hb2⟩
    · have hno2 : Hid (RS.meets x y (spI l) = false) := by
        show _ = _
        have := hno.out
        rw [List.take_of_length_le (by omega)] at this
        exact this
      go_wp2_with fail
      go_ret
      exact ⟨⟨_, rfl, by rw [hno2.out]; rfl⟩, hb⟩

set_option maxHeartbeats 1000000 in
theorem tmeets_any (base b : Nat) (T : ByteArray) (vN vE vL : Value) (s : PS) (l : List (Int × Int × Nat)) (x y : Int) (w : World) (hr : RAt w b T vN vE vL s) (h : TRe base w vE l) (hl : l.length ≤ 2000) :
    Calls Tryz.prog 51 #[.pointer (some ⟨b, 4, none⟩), .agg #[.int .i32 x, .int .i32 y]] w fun r w' => r = .returned (.bool (RS.meets x y (spI l))) ∧ Below w.heap.size w w' := by
  have hlt := hr.lt
  have c4 : ∀ o, (w.alloc o).cell? ⟨b, 4, none⟩ = some vE := fun o => ((below_alloc w o).cell (p := ⟨b, 4, none⟩) hlt).trans (pcells hr.blk).2.2.2.2.1
  have HT : Hid (TRe base (w.alloc (.cells #[.int .i32 x, .int .i32 y] 91)) vE l) := row_kp h ((Kp.refl _ _).alloc _)
  have hmf : ∀ (fn : Fn) (first cap : Array Value) (w : World), (Instr.makeFunc fn first cap).run Tryz.prog w = .ok (.func fn first cap) w := fun _ _ _ _ => rfl
  obtain ⟨ao, cap, rfl, _⟩ := entRow_form h
  clear h hr
  go_enter Tryz.func51, Tryz.ntmps51
  go_wp2_with (go_at_call 61; go_in)
  refine (indexF_any base _ l x y w.heap.size _ HT.out hl (heap_alloc_new _ _)).mono ?_
  rintro r w1 ⟨⟨j, rfl, hj⟩, b1⟩
  have HJ : Hid (decide (0 ≤ j) = RS.meets x y (spI l)) := hj
  clear hj
  go_wp2_with fail
  go_ret
  exact ⟨ret_bool HJ.out, (below_alloc w _).trans (b1.mono (by simp))⟩
end Go.Proofs.YtonooajnjgnmnaaGreatDoor
namespace Go.Proofs.YtonooajnjgnmnaaGreatDoor
open Go.RowKit

theorem three_cells (x y : Int) (k : Nat) : ∀ u ∈ [Value.int .i32 x, .int .i32 y, .int .u8 k], u.oneCell' = true := by
  intro u hu; simp at hu; rcases hu with rfl | rfl | rfl <;> rfl
theorem entCells_snoc (l : List (Int × Int × Nat)) (x y : Int) (k : Nat) : entCells (l ++ [(x, y, k)]) = entCells l ++ [.int .i32 x, .int .i32 y, .int .u8 k] := by unfold entCells; simp
theorem cell_newE (w : World) (l : List Value) (t : TypeId) : ∀ (j : Nat) (u : Value), l[j]? = some u → (w.alloc (.cells l.toArray t)).cell? ⟨w.heap.size, j, none⟩ = some u := fun j u hu => cell_of_block (heap_alloc_new w _) j u (by simpa using hu)
theorem cell_newED (w : World) (l : List Value) (t : TypeId) : ∀ (j : Nat) (u : Value), l[j]? = some u → (w.alloc (.cells l.toArray t)).drew.cell? ⟨w.heap.size, j, none⟩ = some u := cell_newE w l t

set_option maxRecDepth 100000 in
set_option maxHeartbeats 2000000 in
theorem add_pr (base b : Nat) (T : ByteArray) (vN vE vL : Value) (s : PS) (l : List (Int × Int × Nat)) (x y : Int) (k : Nat) (w : World) (hr : RAt w b T vN vE vL s) (h : TRe base w vE l) (hl : l.length ≤ 2000) (hbase : base ≤ w.heap.size) :
    Calls Tryz.prog 44 #[.pointer (some ⟨b, 4, none⟩), .agg #[.int .i32 x, .int .i32 y], .int .u8 k] w fun r w' => r = .returned (.bool (!RS.badSpan x y (spI l))) ∧
      ∃ vE', RAt w' b T vN vE' vL s ∧ TRe base w' vE' (if RS.badSpan x y (spI l) = true then l else l ++ [(x, y, k)]) ∧ Chg (fun k => k = b ∨ vE.ownBlock = some k) w w' := by
  have HR : Hid (RAt w b T vN vE vL s) := hr
  have HT : Hid (TRe base w vE l) := h
  obtain ⟨ao, cap, rfl⟩ := row_shape h
  have hbl := hr.lt
  clear h hr
  obtain ⟨W, hW⟩ : ∃ W, W = (w.alloc (.cells #[.int .i32 x, .int .i32 y] 91)).alloc (.cells #[.int .i32 55296, .int .i32 57343] 91) := ⟨_, rfl⟩
  have HW : Hid (W = (w.alloc (.cells #[.int .i32 x, .int .i32 y] 91)).alloc (.cells #[.int .i32 55296, .int .i32 57343] 91)) := hW
  have bW : Below w.heap.size w W := by rw [hW]; exact ((Below.refl _ _).alloc (Nat.le_refl _) _).alloc (by simp) _
  have hb0 : W.heap[w.heap.size]? = some (.cells #[.int .i32 x, .int .i32 y] 91 (0, 0)) := by rw [hW, Below.heap_alloc _ _ _ (by simp)]; exact heap_alloc_new w _
  have hsz : W.heap.size = w.heap.size + 2 := by rw [hW]; simp
  have HB0 : Hid (W.heap[w.heap.size]? = some (.cells #[.int .i32 x, .int .i32 y] 91 (0, 0))) := hb0
  have BW : Hid (Below w.heap.size w W) := bW
  have HB1 : Hid (W.heap[w.heap.size + 1]? = some (.cells #[.int .i32 55296, .int .i32 57343] 91 (0, 0))) := by
    show _ = _
    rw [hW]; exact (show ((w.alloc _).heap.size) = w.heap.size + 1 by simp) ▸ heap_alloc_new (w.alloc _) _
  clear hW hb0 bW
  obtain ⟨bd, hbd⟩ : ∃ bd, bd = RS.badSpan x y (spI l) := ⟨_, rfl⟩
  rw [← hbd]
  have HBD : Hid (bd = RS.badSpan x y (spI l)) := hbd
  clear hbd
  go_enter Tryz.func44, Tryz.ntmps44
  go_upto_region 2 with fail
  go_cut [23] (fun cv wx => cv = .bool bd ∧ Hid (Below W.heap.size W wx))
  case first =>
    rw [← HW.out]
    have e0 := cell_of_block HB0.out 0 _ rfl
    have e1 := cell_of_block HB0.out 1 _ rfl
    have f0 := cell_of_block HB1.out 0 _ rfl
    have f1 := cell_of_block HB1.out 1 _ rfl
    by_cases h1 : y < x
    · have hb : Hid (bd = true) := by show _ = _; rw [HBD.out]; unfold RS.badSpan; simp [h1]
      go_wp2_with fail
      go_meet
      exact ⟨by rw [hb.out], Below.refl _ _⟩
    · go_wp2_with fail
      refine (meets_any x y 55296 57343 W).mono ?_
      rintro r w2 ⟨rfl, b2⟩
      cases hm : meet1 x y 55296 57343
      · have hb : Hid (bd = RS.meets x y (spI l)) := by
          show _ = _
          rw [HBD.out]
          unfold RS.badSpan
          unfold meet1 at hm
          rw [hm, decide_eq_false (Int.not_lt.mpr (by omega) : ¬ y < x)]
          simp
        have r2 : Hid (RAt w2 b T vN (.slice ao l.length cap) vL s) := (HR.out.later BW.out).later b2
        have t2 : Hid (TRe base w2 (.slice ao l.length cap) l) := row_kp (row_kp HT.out (Kp.below BW.out)) (Kp.below b2)
        have g0 := (b2.cell (p := ⟨w.heap.size, 0, none⟩) (by rw [hsz]; show w.heap.size < _; omega)).trans e0
        have g1 := (b2.cell (p := ⟨w.heap.size, 1, none⟩) (by rw [hsz]; show w.heap.size < _; omega)).trans e1
        clear e0 e1 f0 f1
        go_wp2_with fail
        refine (tmeets_any base b T vN _ vL s l x y w2 r2.out t2.out hl).mono ?_
        rintro r w3 ⟨rfl, b3⟩
        rw [← hb.out]
        go_wp2_with fail
        go_meet
        exact ⟨rfl, b2.trans (b3.mono b2.size)⟩
      · have hb : Hid (bd = true) := by
          show _ = _
          rw [HBD.out]
          unfold RS.badSpan
          unfold meet1 at hm
          rw [hm]
          simp
        go_wp2_with fail
        go_meet
        exact ⟨by rw [hb.out], b2⟩
  case rest =>
    obtain ⟨rfl, f1⟩ := hcut
    obtain ⟨w1, hw1⟩ : ∃ w1, w1 = wc := ⟨wc, rfl⟩
    subst hw1
    have bw1 : Below w.heap.size w w1 := BW.out.trans (f1.out.mono BW.out.size)
    have R1 : Hid (RAt w1 b T vN (.slice ao l.length cap) vL s) := HR.out.later bw1
    have T1 : Hid (TRe base w1 (.slice ao l.length cap) l) := row_kp HT.out (Kp.below bw1)
    have BW1 : Hid (Below w.heap.size w w1) := bw1
    have hs1 := bw1.size
    have c4 := (pcells R1.out.blk).2.2.2.2.1
    have cf := free_of_block R1.out.blk
    have g0 : w1.cell? ⟨w.heap.size, 0, none⟩ = some (.int .i32 x) := (f1.out.cell (p := ⟨w.heap.size, 0, none⟩) (by rw [hsz]; show w.heap.size < _; omega)).trans (cell_of_block HB0.out 0 _ rfl)
    have g1 : w1.cell? ⟨w.heap.size, 1, none⟩ = some (.int .i32 y) := (f1.out.cell (p := ⟨w.heap.size, 1, none⟩) (by rw [hsz]; show w.heap.size < _; omega)).trans (cell_of_block HB0.out 1 _ rfl)
    clear bw1
    cases hb : bd
    · have BA : Hid (Below w1.heap.size w1 (w1.alloc (.cells #[.int .i32 x, .int .i32 y, .int .u8 k] 110)).drew) := (below_alloc w1 _).drew
      have TA : Hid (TRe base (w1.alloc (.cells #[.int .i32 x, .int .i32 y, .int .u8 k] 110)).drew (.slice ao l.length cap) l) := row_kp T1.out (Kp.below BA.out)
      have LA : Hid (base ≤ (w1.alloc (.cells #[.int .i32 x, .int .i32 y, .int .u8 k] 110)).drew.heap.size) := Nat.le_trans hbase (Nat.le_trans hs1 BA.out.size)
      have c4' := fun o => ((below_alloc w1 o).cell (p := ⟨b, 4, none⟩) (Nat.lt_of_lt_of_le hbl hs1)).trans c4
      go_wp2_with fail
      go_region_law
        (refine step_push2 rfl (.tmp 28) (.tmp 32) 37 rfl base 110 (.agg #[.int .i32 0, .int .i32 0, .int .u8 0]) 3 12 Tryz.infoEnt Tryz.undEnt rfl (by decide) (.slice ao l.length cap) l.length (entCells l) (by simp [Act.eval]) TA.out w1.heap.size 1 [.int .i32 x, .int .i32 y, .int .u8 k] (by simp [Act.eval]) rfl (cell_newED w1 [.int .i32 x, .int .i32 y, .int .u8 k] _) (three_cells x y k) (by omega) (by omega) LA.out ?_
         intro v' w2 hown hg hsn
         obtain ⟨ao', cap', rfl⟩ := row_shape hown
         have HO : Hid (w2.ownsRow base 110 3 (.slice ao' (l.length + 1) cap') (l.length + 1) (entCells l ++ [.int .i32 x, .int .i32 y, .int .u8 k])) := hown
         have hbl2 := kept_grown R1.out.blk (Kp.below BA.out) TA.out hg (by decide)
         have i4 := (pcells hbl2).2.2.2.2.1
         have i4f := free_of_block hbl2)
      all_goals go_wp2_with fail
      all_goals go_ret
      all_goals
        refine ⟨rfl, _, ⟨pset_en4 hbl2 _, R1.out.le, R1.out.short⟩, ?_, ?_⟩
        · show World.ownsRow _ _ _ _ _ _ _
          rw [entCells_snoc, List.length_append]
          exact row_kp HO.out ((Kp.refl _ _).setCell hbl2 (by decide) _)
        · exact Chg.setCell (p := fun k => k = b ∨ (Value.slice ao l.length cap).ownBlock = some k) ((Chg.of_below (BW1.out.trans (BA.out.mono hs1))).grown hg (fun k e => Or.inr (Or.inr e))) (q := ⟨b, 4, none⟩) (Or.inr (Or.inl rfl)) _
    · go_wp2_with fail
      go_ret
      exact ⟨rfl, _, R1.out, by simpa using T1.out, Chg.of_below BW1.out⟩
theorem addOk_e (base : Nat) : AddOk base (TRe base) where
  nil w := by
    show World.ownsRow _ _ _ _ _ _ _
    exact World.ownsRow_nil _ _ _ _
  shape w v l h := by obtain ⟨ao, cap, e⟩ := row_shape h; exact ⟨ao, _, cap, e⟩
  keep w w' v l h hk := row_kp h hk
  type w v l k h hk := row_type h k hk
  low w v l k h hk := (h.lt k hk).1
  add b T vN vE vL s l x y k w hr h hl _ hb := add_pr base b T vN vE vL s l x y k w hr h hl hb
end Go.Proofs.YtonooajnjgnmnaaGreatDoor
