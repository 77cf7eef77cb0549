import Derived.Test.YtonooajnjgnmnaaGreatDoorProg
import Derived.Test.YtonooajnjgnmnaaGreatDoorX
namespace Go.Proofs.YtonooajnjgnmnaaGreatDoor
open Go.RowKit

set_option maxHeartbeats 400000 in
theorem never_any (w : World) :
    Calls Tryz.prog 58 #[] w fun e w' => ∃ v, e = .returned v ∧ IsRe 1 w' v neverX ∧ Below w.heap.size w w' := by
  go_enter Tryz.func58, Tryz.ntmps58
  go_wp2
  go_ret
  refine ⟨_, rfl, ?_, (Below.refl _ _).alloc (Nat.le_refl _) _⟩
  refine ⟨_, _, rfl, heap_alloc_new _ _, ⟨[], rfl, World.ownsRow_nil _ _ _ _, by simp⟩, by decide, by decide, by decide⟩

set_option maxHeartbeats 400000 in
theorem empty_any (w : World) :
    Calls Tryz.prog 25 #[] w fun e w' => ∃ v, e = .returned v ∧ IsRe 1 w' v emptyX ∧ Below w.heap.size w w' := by
  go_enter Tryz.func25, Tryz.ntmps25
  go_wp2
  go_ret
  refine ⟨_, rfl, ?_, (Below.refl _ _).alloc (Nat.le_refl _) _⟩
  refine ⟨_, _, rfl, heap_alloc_new _ _, ⟨[], rfl, World.ownsRow_nil _ _ _ _, by simp⟩, by decide, by decide, by decide⟩

set_option maxHeartbeats 1000000 in
theorem many_any (w : World) (d : Nat) (a : Value) (x : Rx) (ha : IsRe d w a x) (hs : x.form.size ≤ 1000000000) :
    Calls Tryz.prog 69 #[a] w fun e w' => ∃ v, e = .returned v ∧ IsRe (d + 1) w' v (manyX x) ∧ Below w.heap.size w w' := by
  have ha0 := ha
  obtain ⟨p, vL, e, rfl, rfl, c0, c1, c2, c3, hp, hr, hw, h1, h2⟩ := ha.open
  have hadd1 := run_add Tryz.prog ⟨#[60]⟩ x.form (by rw [size1]; omega)
  have hadd2 := run_add Tryz.prog (⟨#[60]⟩ ++ x.form) ⟨#[62]⟩ (by rw [sizeApp, size1, size1]; omega)
  by_cases hq : x.what = 122 ∨ x.what = 101
  · have hm : manyX x = emptyX := by unfold manyX; rw [if_pos hq]
    rw [hm]; clear hm
    have hq' : ((x.what : Int) == 122) = true ∨ (((x.what : Int) == 122) = false ∧ ((x.what : Int) == 101) = true) := by simp; omega
    rcases hq' with k1 | ⟨k1, k2⟩
    all_goals
      go_enter Tryz.func69, Tryz.ntmps69
      go_wp2_with (go_at_call 25; refine (empty_any _).mono ?_; rintro e w1 ⟨v1, rfl, hv1, hb1⟩)
      go_ret
      exact ⟨_, rfl, hv1.mono (by omega), hb1⟩
  · have k1 : ((x.what : Int) == 122) = false := by simp; omega
    have k2 : ((x.what : Int) == 101) = false := by simp; omega
    by_cases hq3 : x.what = 109
    · have hm : manyX x = x := by unfold manyX; rw [if_neg hq, if_pos hq3]
      rw [hm]; clear hm
      have k3 : ((x.what : Int) == 109) = true := by simp; omega
      clear hq hq3
      go_enter Tryz.func69, Tryz.ntmps69
      go_wp2
      go_ret
      exact ⟨_, rfl, ha0.mono (by omega), Below.refl _ _⟩
    · have hm : manyX x = ⟨109, 0, [x], ⟨#[60]⟩ ++ x.form ++ ⟨#[62]⟩⟩ := by unfold manyX; rw [if_neg hq, if_neg hq3]
      rw [hm]; clear hm
      have k3 : ((x.what : Int) == 109) = false := by simp; omega
      clear hq hq3
      have HA : Hid (IsRe (e + 1) w (.pointer (some ⟨p, 0, none⟩)) x) := ha0
      clear ha0 ha
      go_enter Tryz.func69, Tryz.ntmps69
      go_wp2
      go_ret
      refine ⟨.pointer (some ⟨w.heap.size + 1, 0, none⟩), rfl, ?_, ((Below.refl _ _).alloc (Nat.le_refl _) _).alloc (by simp) _⟩
      have hr1 := row1 HA.out
      exact mkRe' (d := e + 1) (q := w.heap.size + 1) (W := w.alloc (.cells #[.pointer (some ⟨p, 0, none⟩)] 57)) (vL := .slice (some ⟨w.heap.size, 0, none⟩) 1 1) (wI := 109) (kI := 0) (f := ⟨#[60]⟩ ++ x.form ++ ⟨#[62]⟩) ⟨109, 0, [x], ⟨#[60]⟩ ++ x.form ++ ⟨#[62]⟩⟩ (by simp) (by rfl) rfl rfl hr1 (by show (109 : Nat) < 256; decide) (fun h => by simp at h) (fun h => by simp at h)
end Go.Proofs.YtonooajnjgnmnaaGreatDoor
namespace Go.Proofs.YtonooajnjgnmnaaGreatDoor
open Go.RowKit

theorem sizes2 (a b : Rx) : sizesX [a, b] = a.form.size + 1 + (b.form.size + 1) := by simp [sizesX]

set_option maxHeartbeats 2000000 in
theorem row_any (n : Nat) : ∀ (w : World) (d : Nat) (a b : Value) (x y : Rx), x.form.size < n → IsRe d w a x → IsRe d w b y → x.form.size + y.form.size ≤ 1000000000 - 2 →
    Calls Tryz.prog 56 #[a, b] w fun e w' => ∃ v d', e = .returned v ∧ IsRe d' w' v (rowX n x y) ∧ (rowX n x y).form.size ≤ x.form.size + y.form.size + 2 ∧ Below w.heap.size w w' := by
  induction n with
  | zero => intro w d a b x y h; omega
  | succ n ih =>
    intro w d a b x y hn ha hb hs
    have ha0 := ha
    have hb0 := hb
    obtain ⟨p, vL, e, rfl, rfl, c0, c1, c2, c3, hp, hr, hw, h1, h2⟩ := ha.open
    obtain ⟨p', vL', e', he', rfl, c0', c1', c2', c3', hp', hr', hw', h1', h2'⟩ := hb.open
    have HA : Hid (IsRe (e + 1) w (.pointer (some ⟨p, 0, none⟩)) x) := ha0
    have HB : Hid (IsRe (e + 1) w (.pointer (some ⟨p', 0, none⟩)) y) := hb0
    clear ha0 ha hb0 hb
    by_cases hz : x.what = 122 ∨ y.what = 122
    · have hm : rowX (n + 1) x y = neverX := by unfold rowX; rw [if_pos hz]
      rw [hm]
      have hq : ((x.what : Int) == 122) = true ∨ (((x.what : Int) == 122) = false ∧ ((y.what : Int) == 122) = true) := by simp; omega
      rcases hq with k1 | ⟨k1, k2⟩
      all_goals
        go_enter Tryz.func56, Tryz.ntmps56
        go_wp2_with (go_at_call 58; refine (never_any _).mono ?_; rintro e w1 ⟨v1, rfl, hv1, hb1⟩)
        go_ret
        exact ⟨_, 1, rfl, hv1, by show 1 ≤ _; omega, hb1⟩
    · have k1 : ((x.what : Int) == 122) = false := by simp; omega
      have k2 : ((y.what : Int) == 122) = false := by simp; omega
      by_cases hx : x.what = 101
      · have hm : rowX (n + 1) x y = y := by unfold rowX; rw [if_neg hz, if_pos hx]
        rw [hm]
        have k3 : ((x.what : Int) == 101) = true := by simp; omega
        clear hz hx hm
        go_enter Tryz.func56, Tryz.ntmps56
        go_wp2_with fail
        go_ret
        exact ⟨_, _, rfl, HB.out, by omega, Below.refl _ _⟩
      · have k3 : ((x.what : Int) == 101) = false := by simp; omega
        by_cases hy : y.what = 101
        · have hm : rowX (n + 1) x y = x := by unfold rowX; rw [if_neg hz, if_neg hx, if_pos hy]
          rw [hm]
          have k4 : ((y.what : Int) == 101) = true := by simp; omega
          clear hz hx hm hy
          go_enter Tryz.func56, Tryz.ntmps56
          go_wp2_with fail
          go_ret
          exact ⟨_, _, rfl, HA.out, by omega, Below.refl _ _⟩
        · have k4 : ((y.what : Int) == 101) = false := by simp; omega
          by_cases hs' : x.what = 115
          · have hm : rowX (n + 1) x y = rowX n (x.l.getD 0 neverX) (rowX n (x.l.getD 1 neverX) y) := by rw [rowX, if_neg hz, if_neg hx, if_neg hy, if_pos hs']
            rw [hm]
            have k5 : ((x.what : Int) == 115) = true := by simp; omega
            have hlen := h1 hs'
            have hsz := h2 (Or.inl hs')
            obtain ⟨x0, x1, hl⟩ : ∃ x0 x1, x.l = [x0, x1] := by
              match hxl : x.l, hlen with
              | [x0, x1], _ => exact ⟨x0, x1, rfl⟩
            rw [hl] at hr hsz ⊢
            rw [sizes2] at hsz
            obtain ⟨ao, cap, hvl, hrow⟩ := hr.form
            obtain ⟨g, u0, rfl, g0, r0⟩ := hrow 0 (by simp)
            obtain ⟨g', u1, hg', g1, r1⟩ := hrow 1 (by simp)
            simp at hg'
            subst hg'
            subst hvl
            simp only [List.length_cons, List.length_nil, Nat.zero_add, Nat.reduceAdd, List.getElem_cons_zero, List.getElem_cons_succ] at r0 r1 c2
            have R0 : Hid (IsRe e w u0 x0) := r0
            have R1 : Hid (IsRe e w u1 x1) := r1
            have IH := ih
            have IH' : Hid (∀ (w : World) (d : Nat) (a b : Value) (x y : Rx), x.form.size < n → IsRe d w a x → IsRe d w b y → x.form.size + y.form.size ≤ 1000000000 - 2 →
    Calls Tryz.prog 56 #[a, b] w fun e w' => ∃ v d', e = .returned v ∧ IsRe d' w' v (rowX n x y) ∧ (rowX n x y).form.size ≤ x.form.size + y.form.size + 2 ∧ Below w.heap.size w w') := ih
            clear hz hx hm hy r0 r1 hrow hr ih IH hs' h1 h2 hlen hl
            go_enter Tryz.func56, Tryz.ntmps56
            go_wp2_with fail
            refine (IH'.out _ (e + 1) _ _ x1 y (by omega) (R1.out.mono (by omega)) HB.out (by omega)).mono ?_
            rintro e1 w1 ⟨v1, d1, rfl, hv1, hs1, hb1⟩
            have hg : g < w.heap.size := World.block_lt_of_cell? w ⟨g, 0, none⟩ g0
            have d2 : w1.cell? ⟨p, 2, none⟩ = some (.slice (some ⟨g, 0, none⟩) 2 cap) := (hb1.cell (p := ⟨p, 2, none⟩) hp).trans c2
            have dg0 : w1.cell? ⟨g, 0, none⟩ = some u0 := (hb1.cell (p := ⟨g, 0, none⟩) hg).trans g0
            have d0 : w1.cell? ⟨p, 0, none⟩ = some (.int .u8 x.what) := (hb1.cell (p := ⟨p, 0, none⟩) hp).trans c0
            have R0' : Hid (IsRe e w1 u0 x0) := R0.out.keep (KeepRe.of_below hb1)
            have HV1 : Hid (IsRe d1 w1 v1 (rowX n x1 y)) := hv1
            clear hv1
            go_wp2_with fail
            refine (IH'.out _ (e + d1) _ _ x0 (rowX n x1 y) (by omega) (R0'.out.mono (by omega)) (HV1.out.mono (by omega)) (by omega)).mono ?_
            rintro e2 w2 ⟨v2, d2', rfl, hv2, hs2, hb2⟩
            go_wp2_with fail
            go_ret
            exact ⟨_, _, rfl, hv2, by show (rowX n x0 (rowX n x1 y)).form.size ≤ _; omega, hb1.trans (hb2.mono hb1.size)⟩
          · have hm : rowX (n + 1) x y = seqX x y := by rw [rowX, if_neg hz, if_neg hx, if_neg hy, if_neg hs']
            rw [hm]
            have k5 : ((x.what : Int) == 115) = false := by simp; omega
            have hadd1 := run_add Tryz.prog ⟨#[40]⟩ x.form (by rw [size1]; omega)
            have hadd2 := run_add Tryz.prog (⟨#[40]⟩ ++ x.form) y.form (by rw [sizeApp, size1]; omega)
            have hadd3 := run_add Tryz.prog (⟨#[40]⟩ ++ x.form ++ y.form) ⟨#[41]⟩ (by rw [sizeApp, sizeApp, size1, size1]; omega)
            clear hz hx hm hy hs' h1 h2 ih hr
            go_enter Tryz.func56, Tryz.ntmps56
            go_wp2_with fail
            go_region
            all_goals (try go_wp2)
            go_ret
            have hr2 := row2 HA.out HB.out
            have hre := mkRe' (d := e + 1) (q := w.heap.size + 1) (W := w.alloc (.cells #[.pointer (some ⟨p, 0, none⟩), .pointer (some ⟨p', 0, none⟩)] 57)) (vL := .slice (some ⟨w.heap.size, 0, none⟩) 2 2) (wI := 115) (kI := 0) (f := ⟨#[40]⟩ ++ x.form ++ y.form ++ ⟨#[41]⟩) (seqX x y) (by simp) (by rfl) rfl rfl hr2 (by show (115 : Nat) < 256; decide) (fun _ => rfl)
              (fun _ => by show sizesX [x, y] ≤ (⟨#[40]⟩ ++ x.form ++ y.form ++ ⟨#[41]⟩ : ByteArray).size; rw [sizes2, sizeApp, sizeApp, sizeApp, size1, size1]; omega)
            refine ⟨.pointer (some ⟨w.heap.size + 1, 0, none⟩), e + 2, rfl, hre.keep (KeepRe.drew _), ?_, ?_⟩
            · show (⟨#[40]⟩ ++ x.form ++ y.form ++ ⟨#[41]⟩ : ByteArray).size ≤ _
              rw [sizeApp, sizeApp, sizeApp, size1, size1]; omega
            · exact (((Below.refl _ _).alloc (Nat.le_refl _) _).alloc (by simp) _).drew
end Go.Proofs.YtonooajnjgnmnaaGreatDoor
