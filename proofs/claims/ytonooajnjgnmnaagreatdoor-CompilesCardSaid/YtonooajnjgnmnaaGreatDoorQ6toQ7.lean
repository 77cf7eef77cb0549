/- A machine made. -/
import Derived.Test.YtonooajnjgnmnaaGreatDoorQ5
namespace Go.Proofs.YtonooajnjgnmnaaGreatDoor
open Go.RowKit

def startS : List St := [(0, [])]
theorem setCell1 {w : World} {m : Nat} {a b v : Value} {t : TypeId} (h : w.heap[m]? = some (.cells #[a, b] t (0, 0))) : (w.setCell ⟨m, 1, none⟩ v).heap[m]? = some (.cells #[a, v] t (0, 0)) := (block_setCell h 1 _).trans rfl

theorem row_base {w : World} {base base' : Nat} {e : TypeId} {size : Nat} {v : Value} {n : Nat} {us : List Value} (h : w.ownsRow base e size v n us) (hb : base' ≤ base) : w.ownsRow base' e size v n us := by
  refine ⟨h.1, ?_⟩
  rcases h.2 with h2 | ⟨g, cap, cur, hv, hg, r⟩
  · exact Or.inl h2
  · exact Or.inr ⟨g, cap, cur, hv, Nat.le_trans hb hg, r⟩
set_option maxRecDepth 100000 in
set_option maxHeartbeats 2000000 in
theorem make_any (d : Nat) (x : Px) (v : Value) (w : World) (h : PIn d (fun k => k < w.heap.size) w v x) (hw : wtx d x ≤ 8000) :
    Calls Tryz.prog 36 #[v] w fun e w' => ∃ vS tv, e = .returned (.agg #[vS, .int .i64 (mk d x startS 0).2]) ∧ MRow w' w.heap.size vS (mk d x startS 0).1 tv ∧ Below w.heap.size w w' := by
  have hp := h.turn (A' := fun k => k < w.heap.size + 1) (KeepPt.refl _ _) (fun k _ h => by omega)
  have hp1 : PIn d (fun k => k < w.heap.size + 1) (w.alloc (.cells #[.slice none 0 0, .int .i64 0] 74)) v x := hp.turn (KeepPt.below (below_alloc w _) fun k hk _ => hk) fun _ _ h => h
  obtain ⟨f, q, rfl, hen, hmk⟩ := part_ok d x v (w.heap.size + 1) _ hp1 (by simp)
  obtain ⟨W, hW⟩ : ∃ W, W = ((w.alloc (.cells #[.slice none 0 0, .int .i64 0] 74)).alloc (.cells #[.int .u8 0, .slice none 0 0] 99)).alloc (.cells #[.slice (some ⟨w.heap.size + 1, 0, none⟩) 1 1, .int .i64 0] 74) := ⟨_, rfl⟩
  have HB : Hid (Below (w.heap.size + 1) (w.alloc (.cells #[.slice none 0 0, .int .i64 0] 74)) W) := by
    show Below _ _ _
    rw [hW]
    exact ((Below.refl _ _).alloc (by simp) _).alloc (by simp) _
  have hm0 : W.heap[w.heap.size + 2]? = some (.cells #[.slice (some ⟨w.heap.size + 1, 0, none⟩) 1 1, .int .i64 0] 74 (0, 0)) := by rw [hW]; exact (show (((w.alloc _).alloc _).heap.size) = w.heap.size + 2 by simp) ▸ heap_alloc_new ((w.alloc _).alloc _) _
  have hr0 : W.heap[w.heap.size + 1]? = some (.cells #[.int .u8 0, .slice none 0 0] 99 (0, 0)) := by
    rw [hW, Below.heap_alloc _ _ _ (by simp)]
    exact (show ((w.alloc _).heap.size) = w.heap.size + 1 by simp) ▸ heap_alloc_new (w.alloc _) _
  have hM : MIn W (w.heap.size + 1) (w.heap.size + 2) startS 0 := by
    refine ⟨by omega, _, [.slice none 0 0], hm0, rfl, ?_, ?_, ?_⟩
    · exact ⟨rfl, Or.inr ⟨w.heap.size + 1, 1, _, rfl, Nat.le_refl _, hr0, Nat.le_refl _, by decide, rfl, rfl⟩⟩
    · intro i v s hv hs
      cases i with
      | zero => simp [startS] at hv hs; subst hv; subst hs; exact World.ownsRow_nil _ _ _ _
      | succ i => simp at hv
    · intro i j v u k hij hv hu
      have h1 := (List.getElem?_eq_some_iff.1 hv).1
      have h2 := (List.getElem?_eq_some_iff.1 hu).1
      simp at h1 h2; omega
  have hcall := hmk W (w.heap.size + 2) startS 0 0 HB.out hM (by simp [startS]; omega) (by simp [startS, tot]; omega)
  obtain ⟨R, hR⟩ : ∃ R, R = mk d x startS 0 := ⟨_, rfl⟩
  rw [← hR] at hcall ⊢
  have HK : Hid (Calls Tryz.prog f #[.pointer (some ⟨w.heap.size + 2, 0, none⟩), .int .i64 0, .pointer (some ⟨q, 0, none⟩)] W fun e w' => e = .returned (.int .i64 R.2) ∧ MIn w' (w.heap.size + 1) (w.heap.size + 2) R.1 0 ∧ Below (w.heap.size + 1) W w') := hcall
  have HW : Hid (W = ((w.alloc (.cells #[.slice none 0 0, .int .i64 0] 74)).alloc (.cells #[.int .u8 0, .slice none 0 0] 99)).alloc (.cells #[.slice (some ⟨w.heap.size + 1, 0, none⟩) 1 1, .int .i64 0] 74)) := hW
  have hq0 : Hid (W.heap[w.heap.size]? = some (.cells #[.slice none 0 0, .int .i64 0] 74 (0, 0))) := by
    show _ = _
    rw [hW, Below.heap_alloc _ _ _ (by simp; omega), Below.heap_alloc _ _ _ (by simp)]
    exact heap_alloc_new w _
  clear hcall hmk h hp hp1 hM hm0 hr0 hR hW
  unfold Enters at hen
  unfold fnv
  go_enter Tryz.func36, Tryz.ntmps36
  go_wp2_with fail
  rw [← HW.out]
  refine HK.out.mono ?_
  rintro e1 w1 ⟨rfl, h3, h4⟩
  obtain ⟨_, vS, tv, hm, hr⟩ := h3
  obtain ⟨ao, cap, rfl⟩ := row_shape hr.row
  have hq1 : w1.heap[w.heap.size]? = some (.cells #[.slice none 0 0, .int .i64 0] 74 (0, 0)) := by rw [h4.block _ (by omega)]; exact hq0.out
  have c0 := cell_of_block hm 0 _ rfl
  have c1 := cell_of_block hm 1 _ rfl
  have cf := free_of_block hm
  have d0 := cell_of_block hq1 0 _ rfl
  have d1 := cell_of_block hq1 1 _ rfl
  have df := free_of_block hq1
  have HM : Hid (w1.heap[w.heap.size + 2]? = some (.cells #[.slice ao R.1.length cap, .int .i64 0] 74 (0, 0))) := hm
  have HQ : Hid (w1.heap[w.heap.size]? = some (.cells #[.slice none 0 0, .int .i64 0] 74 (0, 0))) := hq1
  have HR : Hid (MRow w1 (w.heap.size + 1) (.slice ao R.1.length cap) R.1 tv) := hr
  clear hm hq1 hr
  go_wp2_with fail
  obtain ⟨W2, hW2⟩ : ∃ W2, W2 = w1.setCell ⟨w.heap.size + 1 + 1, 1, none⟩ (.int .i64 R.2) := ⟨_, rfl⟩
  rw [← hW2]
  have q2 : W2.heap[w.heap.size]? = some (.cells #[.slice none 0 0, .int .i64 0] 74 (0, 0)) := by
    rw [hW2, Below.heap_setCell _ _ _ _ (by simp; omega)]; exact HQ.out
  have q3 := setCell0 (v := .slice ao R.1.length cap) q2
  have q4 := setCell1 (v := .int .i64 R.2) q3
  refine bodyPost_ret (results_cell_row rfl _ _ w.heap.size 74 _ (0, 0) _ rfl q4 Tryz.underlying74 rfl (by kernel_rfl)) rfl ?_
  have kS : Kp 99 w1 ((W2.setCell ⟨w.heap.size, 0, none⟩ (.slice ao R.1.length cap)).setCell ⟨w.heap.size, 1, none⟩ (.int .i64 R.2)) := by
    have k1 : Kp 99 w1 W2 := by rw [hW2]; exact (Kp.refl _ _).setCell HM.out (by decide) _
    exact (k1.setCell q2 (by decide) _).setCell q3 (by decide) _
  have kI : Kp 3 w1 ((W2.setCell ⟨w.heap.size, 0, none⟩ (.slice ao R.1.length cap)).setCell ⟨w.heap.size, 1, none⟩ (.int .i64 R.2)) := by
    have k1 : Kp 3 w1 W2 := by rw [hW2]; exact (Kp.refl _ _).setCell HM.out (by decide) _
    exact (k1.setCell q2 (by decide) _).setCell q3 (by decide) _
  have hr := HR.out
  refine ⟨_, tv, rfl, ⟨hr.len, ?_, fun i v s hv hs => ?_, hr.apart⟩, ?_⟩
  · exact row_base (row_kp hr.row kS) (by omega)
  · exact row_base (row_kp (hr.to_ i v s hv hs) kI) (by omega)
  · have b0 : Below w.heap.size w (w.alloc (.cells #[.slice none 0 0, .int .i64 0] 74)) := below_alloc _ _
    have b1 : Below w.heap.size w W2 := by
      rw [hW2]
      exact ((b0.trans (HB.out.mono (by omega))).trans (h4.mono (by omega))).setCell (by simp; omega) _
    exact (b1.setCell (Nat.le_refl _) _).setCell (Nat.le_refl _) _
end Go.Proofs.YtonooajnjgnmnaaGreatDoor
/- Parts, made. -/
namespace Go.Proofs.YtonooajnjgnmnaaGreatDoor
open Go.RowKit

theorem heap_of_cell {w : World} {b o : Nat} {v : Value} (h : w.cell? ⟨b, o, none⟩ = some v) : b < w.heap.size := World.block_lt_of_cell? w _ h
/-- From block N on. -/
def From (N : Nat) : Nat → Prop := fun k => N ≤ k
theorem PIn.up {N d : Nat} {w w' : World} {v : Value} {x : Px} (h : PIn d (From N) w v x) (hb : Below w.heap.size w w') : PIn d (From N) w' v x := h.turn (KeepPt.below hb fun _ hk _ => hk) fun _ _ h => h
theorem PtRow.up {N d : Nat} {w w' : World} {v : Value} {l : List Px} (h : PtRow (PIn d (From N) w) (From N) w v l) (hb : Below w.heap.size w w') : PtRow (PIn d (From N) w') (From N) w' v l := h.turn (KeepPt.below hb fun _ hk _ => hk) (fun _ _ h => h) fun _ _ h => h.up hb
theorem PIn.from {N M d : Nat} {w : World} {v : Value} {x : Px} (h : PIn d (From N) w v x) (hm : M ≤ N) : PIn d (From M) w v x := h.turn (KeepPt.refl _ _) fun _ _ h => Nat.le_trans hm h

theorem PIn.fn {d : Nat} {A : Nat → Prop} {w : World} {v : Value} {x : Px} (h : PIn d A w v x) : ∃ f q, v = fnv f q := by
  cases d with
  | zero => exact h.elim
  | succ d =>
    obtain ⟨q, _, h⟩ := h
    rcases h with ⟨_, h, _⟩ | ⟨_, h, _⟩ | ⟨_, h, _⟩ | ⟨_, h, _⟩ | ⟨_, h, _⟩
    all_goals exact ⟨_, q, h⟩

set_option maxHeartbeats 1000000 in
theorem one_any (k : Nat) (hk : k < 256) (w : World) :
    Calls Tryz.prog 92 #[.int .u8 k] w fun e w' => ∃ v, e = .returned v ∧ PIn 1 (From w.heap.size) w' v (oneP k) ∧ Below w.heap.size w w' := by
  go_enter Tryz.func92, Tryz.ntmps92
  go_wp2
  go_ret
  exact ⟨_, rfl, ⟨w.heap.size, Nat.le_refl _, Or.inl ⟨rfl, rfl, heap_alloc_new _ _, hk⟩⟩, below_alloc _ _⟩

set_option maxHeartbeats 1000000 in
theorem rowp_any (N d : Nat) (l : List Px) (v : Value) (w : World) (h : PtRow (PIn d (From N) w) (From N) w v l) (hN : N ≤ w.heap.size) :
    Calls Tryz.prog 45 #[v] w fun e w' => ∃ u, e = .returned u ∧ PIn (d + 1) (From N) w' u (rowP l) ∧ Below w.heap.size w w' := by
  obtain ⟨ao, cap, rfl, _⟩ := h.form
  have HH : Hid (PtRow (PIn d (From N) w) (From N) w (.slice ao l.length cap) l) := h
  clear h
  go_enter Tryz.func45, Tryz.ntmps45
  go_wp2
  go_ret
  exact ⟨_, rfl, ⟨w.heap.size, hN, Or.inr (Or.inl ⟨rfl, rfl, _, heap_alloc_new _ _, HH.out.up (below_alloc _ _)⟩)⟩, below_alloc _ _⟩

theorem eitherP_one (x : Px) : eitherP [x] = x := rfl
theorem eitherP_ne (l : List Px) (h : l.length ≠ 1) : eitherP l = ⟨2, 0, l⟩ := by
  unfold eitherP
  split
  · simp at h
  · rfl
set_option maxHeartbeats 1000000 in
theorem eitherp_any (N d : Nat) (l : List Px) (v : Value) (w : World) (h : PtRow (PIn d (From N) w) (From N) w v l) (hN : N ≤ w.heap.size) :
    Calls Tryz.prog 54 #[v] w fun e w' => ∃ u, e = .returned u ∧ PIn (d + 1) (From N) w' u (eitherP l) ∧ Below w.heap.size w w' := by
  have hlen := h.len
  obtain ⟨ao, cap, rfl, hcs⟩ := h.form
  have HH : Hid (PtRow (PIn d (From N) w) (From N) w (.slice ao l.length cap) l) := h
  clear h
  by_cases h1 : l.length = 1
  · obtain ⟨x, rfl⟩ : ∃ x, l = [x] := List.length_eq_one_iff.1 h1
    obtain ⟨g, u, rfl, hg, hu, hp⟩ := hcs 0 (by simp)
    rw [eitherP_one]
    have HP : Hid (PIn d (From N) w u x) := hp
    have hu' : ∀ o, (w.alloc o).cell? ⟨g, 0, none⟩ = some u := fun o => ((below_alloc w o).cell (p := ⟨g, 0, none⟩) (heap_of_cell hu)).trans hu
    clear hcs hp h1
    go_enter Tryz.func54, Tryz.ntmps54
    go_wp2
    go_ret
    exact ⟨u, rfl, (HP.out.up (below_alloc _ _)).deeper (by omega), below_alloc _ _⟩
  · have h2 : ((l.length : Int) == 1) = false := by rw [beq_eq_false_iff_ne]; omega
    rw [eitherP_ne l h1]
    clear h1 hcs
    go_enter Tryz.func54, Tryz.ntmps54
    go_wp2
    go_ret
    exact ⟨_, rfl, ⟨w.heap.size, hN, Or.inr (Or.inr (Or.inl ⟨rfl, rfl, _, heap_alloc_new _ _, HH.out.up (below_alloc _ _)⟩))⟩, below_alloc _ _⟩

set_option maxHeartbeats 1000000 in
theorem star_any (N d : Nat) (x : Px) (u : Value) (w : World) (h : PIn d (From N) w u x) (hN : N ≤ w.heap.size) :
    Calls Tryz.prog 78 #[u] w fun e w' => ∃ v, e = .returned v ∧ PIn (d + 1) (From N) w' v (starP x) ∧ Below w.heap.size w w' := by
  obtain ⟨f, q, rfl⟩ := h.fn
  have HH : Hid (PIn d (From N) w (fnv f q) x) := h
  clear h
  unfold fnv
  go_enter Tryz.func78, Tryz.ntmps78
  go_wp2
  go_ret
  exact ⟨_, rfl, ⟨w.heap.size, hN, Or.inr (Or.inr (Or.inr (Or.inl ⟨rfl, rfl, _, x, rfl, heap_alloc_new _ _, HH.out.up (below_alloc _ _)⟩)))⟩, below_alloc _ _⟩
set_option maxHeartbeats 1000000 in
theorem plus_any (N d : Nat) (x : Px) (u : Value) (w : World) (h : PIn d (From N) w u x) (hN : N ≤ w.heap.size) :
    Calls Tryz.prog 79 #[u] w fun e w' => ∃ v, e = .returned v ∧ PIn (d + 1) (From N) w' v (plusP x) ∧ Below w.heap.size w w' := by
  obtain ⟨f, q, rfl⟩ := h.fn
  have HH : Hid (PIn d (From N) w (fnv f q) x) := h
  clear h
  unfold fnv
  go_enter Tryz.func79, Tryz.ntmps79
  go_wp2
  go_ret
  exact ⟨_, rfl, ⟨w.heap.size, hN, Or.inr (Or.inr (Or.inr (Or.inr ⟨rfl, rfl, _, x, rfl, heap_alloc_new _ _, HH.out.up (below_alloc _ _)⟩)))⟩, below_alloc _ _⟩

theorem PtRow_nil (R : Value → Px → Prop) (A : Nat → Prop) (w : World) : PtRow R A w (.slice none 0 0) [] := ⟨[], rfl, by simp, World.ownsRow_nil _ _ _ _, fun k e => by simp [Value.ownBlock] at e, fun i u x hu => by simp at hu⟩
set_option maxHeartbeats 1000000 in
theorem maybe_any (N d : Nat) (x : Px) (u : Value) (w : World) (h : PIn (d + 1) (From N) w u x) (hN : N ≤ w.heap.size) :
    Calls Tryz.prog 80 #[u] w fun e w' => ∃ v, e = .returned v ∧ PIn (d + 2) (From N) w' v (maybeP x) ∧ Below w.heap.size w w' := by
  obtain ⟨f, q, rfl⟩ := h.fn
  have HH : Hid (PIn (d + 1) (From N) w (fnv f q) x) := h
  clear h
  unfold fnv
  go_enter Tryz.func80, Tryz.ntmps80
  go_wp2_with fail
  refine (rowp_any N d [] (.slice none 0 0) w (PtRow_nil _ _ _) hN).mono ?_
  rintro e1 w1 ⟨r, rfl, hr, hb⟩
  obtain ⟨f', q', rfl⟩ := hr.fn
  have HR : Hid (PIn (d + 1) (From N) w1 (fnv f' q') (rowP [])) := hr
  clear hr
  unfold fnv
  have hs := hb.size
  go_wp2_with fail
  refine (eitherp_any N (d + 1) [x, rowP []] _ _ ?_ (Nat.le_trans hN (Nat.le_trans hs (below_alloc w1 _).size))).mono ?_
  · refine ⟨[fnv f q, fnv f' q'], rfl, by simp, ⟨rfl, Or.inr ⟨w1.heap.size, 2, #[fnv f q, fnv f' q'], rfl, Nat.zero_le _, heap_alloc_new _ _, Nat.le_refl _, by decide, rfl, rfl⟩⟩, fun k e => ?_, ?_⟩
    · simp [Value.ownBlock] at e; subst e; exact Nat.le_trans hN hs
    · intro i y z hy hz
      cases i with
      | zero => simp at hy hz; subst hy; subst hz; exact (HH.out.up hb).up (below_alloc _ _)
      | succ i => cases i with
        | zero => simp at hy hz; subst hy; subst hz; exact HR.out.up (below_alloc _ _)
        | succ i => simp at hy
  · rintro e2 w2 ⟨v, rfl, hv, hb2⟩
    have HV : Hid (PIn (d + 2) (From N) w2 v (eitherP [x, rowP []])) := hv
    clear hv
    go_wp2_with fail
    go_ret
    refine ⟨v, rfl, HV.out, ?_⟩
    exact (hb.trans ((below_alloc w1 _).mono hs)).trans (hb2.mono (Nat.le_trans hs (below_alloc w1 _).size))
end Go.Proofs.YtonooajnjgnmnaaGreatDoor
