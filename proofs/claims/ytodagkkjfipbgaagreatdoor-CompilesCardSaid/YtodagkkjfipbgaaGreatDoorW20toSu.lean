import Derived.Deep.QuietTactic
import Derived.BigQuiet
import Derived.Test.YtodagkkjfipbgaaGreatDoorRows
import Derived.ProofKit
import Derived.LaidLaws
import Derived.Lay
import Derived.LaidOnce
import Derived.OpenShut
import Derived.ChangeSame
import Derived.Test.YtodagkkjfipbgaaGreatDoorG2toW19
import Derived.Test.YtodagkkjfipbgaaGreatDoorBtoR
namespace Go.Proofs.YtodagkkjfipbgaaGreatDoor
open Go.RowKit

theorem hex_mono (T : ByteArray) (s : RS) (hat : s.at_ ≤ T.size) : s.at_ ≤ (s.hex T).at_ ∧ (s.hex T).at_ ≤ T.size ∧ (s.hex T).nest = s.nest := by
  have h := hex_same T s
  have t := take_at T s hat
  rw [h.2.2.2.1]; exact ⟨t.2.1, t.1, h.2.2.2.2.2⟩
theorem addSpan_nest (s : RS) (a b p : Int) : (s.addSpan a b p).nest = s.nest := by
  unfold RS.addSpan; simp only
  split
  · exact (fail_same s 5 p).2.2.2.2.2
  · rfl
theorem span_mono (T : ByteArray) (s : RS) (hat : s.at_ ≤ T.size) : s.at_ ≤ (s.span T).at_ ∧ (s.span T).at_ ≤ T.size ∧ (s.span T).nest = s.nest := by
  unfold RS.span; simp only
  have h1 := hex_mono T s hat
  have p1 := peek_at T (s.hex T) h1.2.1
  split
  · have t1 := take_at T ((s.hex T).peek T) p1.1
    have h2 := hex_mono T (((s.hex T).peek T).take T) t1.1
    rw [(addSpan_at _ _ _ _).1, addSpan_nest]
    exact ⟨by omega, h2.2.1, h2.2.2.trans h1.2.2⟩
  · rw [(addSpan_at _ _ _ _).1, addSpan_nest]
    exact ⟨by omega, p1.1, h1.2.2⟩
theorem spansL_mono (T : ByteArray) (g : Nat) : ∀ s : RS, s.at_ ≤ T.size → s.at_ ≤ (RS.spansL T g s).at_ ∧ (RS.spansL T g s).nest = s.nest := by
  induction g with
  | zero => intro s _; exact ⟨Nat.le_refl _, rfl⟩
  | succ g ih =>
    intro s hat
    rw [RS.spansL]; split
    · exact ⟨Nat.le_refl _, rfl⟩
    · simp only
      have h1 := span_mono T s hat
      have t1 := take_at T (s.span T) h1.2.1
      split
      · exact ⟨h1.1, h1.2.2⟩
      · split
        · exact ⟨by omega, h1.2.2⟩
        · split
          · have := ih ((s.span T).take T) t1.1
            exact ⟨by omega, this.2.trans h1.2.2⟩
          · have f := fail_same ((s.span T).take T) 2 ((s.span T).pos T)
            have := ih (((s.span T).take T).fail 2 ((s.span T).pos T)) (by rw [f.2.2.2.1]; exact t1.1)
            rw [f.2.2.2.1, f.2.2.2.2.2] at this
            exact ⟨by omega, this.2.trans h1.2.2⟩
theorem classes_mono (T : ByteArray) (s : RS) (hat : s.at_ ≤ T.size) : (s.take T).at_ ≤ (s.classes T).at_ ∧ (s.classes T).nest = s.nest := by
  unfold RS.classes; simp only
  have t1 := take_at T s hat
  split
  · have f := fail_same (s.take T) 6 (s.pos T)
    exact ⟨by rw [f.2.2.2.1]; exact Nat.le_refl _, f.2.2.2.2.2⟩
  · have t2 := take_at T (s.take T) t1.1
    have key : ∀ s3 : RS, s3.at_ = ((s.take T).take T).at_ ∧ s3.nest = s.nest → ∀ p : Int, ∀ c : Prop, ∀ _ : Decidable c, (if c then s3.fail 4 p else s3).at_ = ((s.take T).take T).at_ ∧ (if c then s3.fail 4 p else s3).nest = s.nest := by
      intro s3 h3 p c _
      split
      · have f := fail_same s3 4 p; exact ⟨f.2.2.2.1.trans h3.1, f.2.2.2.2.2.trans h3.2⟩
      · exact h3
    have key2 : ∀ c : Prop, ∀ _ : Decidable c, (if c then (s.take T).take T else ((s.take T).take T).fail 2 ((s.take T).pos T)).at_ = ((s.take T).take T).at_ ∧ (if c then (s.take T).take T else ((s.take T).take T).fail 2 ((s.take T).pos T)).nest = s.nest := by
      intro c _
      split
      · exact ⟨rfl, rfl⟩
      · have f := fail_same ((s.take T).take T) 2 ((s.take T).pos T); exact ⟨f.2.2.2.1, f.2.2.2.2.2⟩
    have k4 := key _ (key2 (nameL ((s.take T).tk T) = true) inferInstance) ((s.take T).pos T) (0 ≤ clsIx (if nameL ((s.take T).tk T) = true then (s.take T).take T else ((s.take T).take T).fail 2 ((s.take T).pos T)).names ((s.take T).tk T)) inferInstance
    generalize (if 0 ≤ clsIx (if nameL ((s.take T).tk T) = true then (s.take T).take T else ((s.take T).take T).fail 2 ((s.take T).pos T)).names ((s.take T).tk T) then (if nameL ((s.take T).tk T) = true then (s.take T).take T else ((s.take T).take T).fail 2 ((s.take T).pos T)).fail 4 ((s.take T).pos T) else (if nameL ((s.take T).tk T) = true then (s.take T).take T else ((s.take T).take T).fail 2 ((s.take T).pos T))) = s4 at *
    have k6 : ∀ s5 : RS, s5.at_ = ((s.take T).take T).at_ ∧ s5.nest = s.nest → ((s.take T).take T).at_ ≤ (if s5.err = 0 then s5.want T [61] else s5).at_ ∧ (if s5.err = 0 then s5.want T [61] else s5).at_ ≤ T.size ∧ (if s5.err = 0 then s5.want T [61] else s5).nest = s.nest := by
      intro s5 h5
      split
      · have w := want_same T s5 [61]
        have t := take_at T s5 (by rw [h5.1]; exact t2.1)
        rw [w.2.2.2.1, w.2.2.2.2.2]; exact ⟨by omega, t.1, h5.2⟩
      · exact ⟨by omega, by rw [h5.1]; exact t2.1, h5.2⟩
    have k7 := k6 { s4 with names := s4.names ++ [tok T (s.take T).at_] } k4
    have k8 := spansL_mono T (T.size + 2) _ k7.2.1
    exact ⟨Nat.le_trans (Nat.le_trans t2.2.1 k7.1) k8.1, k8.2.trans k7.2.2⟩

theorem readL_err {T : ByteArray} {g : Nat} {s : RS} (h : s.err ≠ 0) : RS.readL T g s = s := by
  cases g with
  | zero => rfl
  | succ g => rw [RS.readL, if_pos h]
theorem readL_class {T : ByteArray} {g : Nat} {s : RS} (h : s.err = 0) (h1 : s.tk T = [99, 108, 97, 115, 115]) (h2 : s.L.length = 0) : RS.readL T (g + 1) s = RS.readL T g ((s.peek T).classes T) := by
  rw [RS.readL, if_neg (by simpa using h)]; simp only; rw [if_pos ⟨h1, h2⟩]
theorem readL_rule {T : ByteArray} {g : Nat} {s : RS} (h : s.err = 0) (h1 : s.tk T = [99, 117, 116] ∨ s.tk T = [106, 111, 105, 110]) : RS.readL T (g + 1) s = RS.readL T g ((s.peek T).rule T) := by
  rw [RS.readL, if_neg (by simpa using h)]; simp only
  rw [if_neg (by rintro ⟨e, _⟩; rw [e] at h1; rcases h1 with h1 | h1 <;> simp at h1), if_pos h1]
theorem readL_end {T : ByteArray} {g : Nat} {s : RS} (h : s.err = 0) (h1 : s.tk T = []) : RS.readL T (g + 1) s = s.peek T := by
  rw [RS.readL, if_neg (by simpa using h)]; simp only
  rw [if_neg (by rintro ⟨e, _⟩; rw [e] at h1; simp at h1), if_neg (by rw [h1]; simp), if_pos h1]
theorem readL_bad {T : ByteArray} {g : Nat} {s : RS} (h : s.err = 0) (h1 : ¬ (s.tk T = [99, 108, 97, 115, 115] ∧ s.L.length = 0)) (h2 : ¬ (s.tk T = [99, 117, 116] ∨ s.tk T = [106, 111, 105, 110])) (h3 : s.tk T ≠ []) : RS.readL T (g + 1) s = RS.readL T g ((s.peek T).fail 2 (s.pos T)) := by
  rw [RS.readL, if_neg (by simpa using h)]; simp only
  rw [if_neg (show ¬ (s.tk T = [99, 108, 97, 115, 115] ∧ (s.peek T).L.length = 0) from h1), if_neg h2, if_neg h3]

set_option maxRecDepth 100000 in
set_option maxHeartbeats 8000000 in
theorem read_any (T : ByteArray) (w : World) (b : Nat) (hbs : w.heap.size = b) (ht : TabOK w) (h2 : 1 < b) (hT : T.size ≤ 140737488351232) :
    Calls Tryz.prog 16 #[.string T] w fun e w' => e = .returned (.pointer (some ⟨b, 0, none⟩)) ∧ w'.cell? ⟨b, 2, none⟩ = some (.int .i64 (RS.read T).err) ∧ w'.cell? ⟨b, 3, none⟩ = some (.int .i64 (RS.read T).place) ∧
      Below b w w' ∧ (T.size ≤ 1000 → RSt w' b b T (RS.read T)) := by
  have hblk : Blk (w.alloc (.cells (rcell T 0 0 0 (.slice none 0 0) (.slice none 0 0) (.slice none 0 0) 0 0) 35)) b T RS.start (.slice none 0 0) (.slice none 0 0) (.slice none 0 0) := by
    show _ = _
    rw [← hbs]; exact heap_alloc_new _ _
  have hbel : Below b w (w.alloc (.cells (rcell T 0 0 0 (.slice none 0 0) (.slice none 0 0) (.slice none 0 0) 0 0) 35)) := (Below.refl _ _).alloc (by omega) _
  by_cases hbig : 1000 < T.size
  · have hfin : Hid (RS.read T = RS.start.fail 1 0) := by show RS.read T = _; unfold RS.read; rw [if_pos hbig]
    have HBK : Hid (Blk (w.alloc (.cells (rcell T 0 0 0 (.slice none 0 0) (.slice none 0 0) (.slice none 0 0) 0 0) 35)) b T RS.start (.slice none 0 0) (.slice none 0 0) (.slice none 0 0)) := hblk
    clear hblk ht
    go_enter Tryz.func16, Tryz.ntmps16
    go_wp2_with fail
    refine (fail_st b T RS.start (.slice none 0 0) (.slice none 0 0) (.slice none 0 0) 1 0 _ HBK.out).mono ?_
    rintro e1 w1 ⟨rfl, hb1, hc1⟩
    go_wp2_with fail
    go_ret
    obtain ⟨c0, c1, c2, c3, _⟩ := rcells hb1
    refine ⟨rfl, by rw [hfin.out]; exact c2, by rw [hfin.out]; exact c3, hbel.trans (hc1.below (by simp; omega) (fun k hk e => by omega)), fun h => by omega⟩
  · have hst : RSt (w.alloc (.cells (rcell T 0 0 0 (.slice none 0 0) (.slice none 0 0) (.slice none 0 0) 0 0) 35)) b b T RS.start := by
      refine ⟨h2, by omega, by omega, ⟨Nat.zero_le _, by decide, by decide, by decide, by decide, by decide, by decide, by decide, fun _ => ⟨by decide, by decide, fun x hx => by simp [RS.start] at hx⟩⟩, ht.on hbel h2, _, _, _, hblk, World.ownsRow_nil _ _ _ _, World.ownsRow_nil _ _ _ _, [], World.ownsRow_nil _ _ _ _, rfl, fun i v x hv => by simp at hv⟩
    have hfin : Hid (RS.read T = RS.readL T (T.size + 2) RS.start) := by show RS.read T = _; unfold RS.read; rw [if_neg hbig]
    have hsm : T.size ≤ 1000 := by omega
    have hd : decide (1000 < (T.size : Int)) = false := by simp; omega
    clear hblk ht hbig
    go_enter Tryz.func16, Tryz.ntmps16
    go_wp2_with fail
    go_loopg [4, 5] (T.size + 3) (fun g _ _ wx => ∃ (s' : RS), RSt wx b b T s' ∧ Hid (Below b w wx) ∧ 0 < g ∧ Hid (RS.readL T (g - 1) s' = RS.read T) ∧ Hid (s'.err ≠ 0 ∨ T.size < s'.at_ + (g - 1)) ∧ Hid (s'.nest = 0))
    case atStart => exact ⟨RS.start, hst, hbel, by omega, hfin.out.symm, Or.inr (by show T.size < 0 + (T.size + 3 - 1); omega), rfl⟩
    case round =>
      obtain ⟨s', h3, R3, hg, HL, HF, HN⟩ := hrel
      have HG : Hid (0 < gk) := hg
      clear hg hst hbel
      obtain ⟨w3, hw3⟩ : ∃ w3, w3 = wr := ⟨wr, rfl⟩
      subst hw3
      obtain ⟨vN, vS, vL, hblk, hrow, c0, c1, c2, c3, c4, c5, c6, c7, c8, hf⟩ := h3.cells
      have hat3 : s'.at_ ≤ T.size := h3.2.2.2.1.1
      by_cases e0 : s'.err = 0
      · have k0 : (s'.err == 0) = true := by rw [beq_iff_eq]; exact e0
        have E0 : Hid (s'.err = 0) := e0
        obtain ⟨g', hg'⟩ : ∃ g', gk = g' + 2 := ⟨gk - 2, by rcases HF.out with q | q; exact absurd e0 q; omega⟩
        have HG' : Hid (gk = g' + 2) := hg'
        have HFA : Hid (T.size < s'.at_ + (g' + 1)) := by
          show T.size < s'.at_ + (g' + 1)
          rcases HF.out with q | q
          · exact absurd e0 q
          · omega
        clear hg' e0
        have HL' : Hid (RS.readL T (g' + 1) s' = RS.read T) := by show _ = _; rw [← HL.out, HG'.out]; rfl
        go_wp2_with fail
        refine (peek_rs b b T s' _ h3).mono ?_
        rintro e4 w4 ⟨rfl, h4, r4⟩
        obtain ⟨t1, ht1⟩ : ∃ t1, t1 = tok T s'.at_ := ⟨_, rfl⟩
        rw [← ht1]
        have HT1 : Hid (s'.tk T = t1.toList) := by rw [ht1]; rfl
        clear ht1 hblk hrow c0 c1 c2 c3 c4 c5 c6 c7 c8 hf
        obtain ⟨vN, vS, vL, hblk, hrow, c0, c1, c2, c3, c4, c5, c6, c7, c8, hf⟩ := h4.cells
        obtain ⟨aoL, capL, rfl⟩ : ∃ ao cap, vL = .slice ao (s'.peek T).L.length cap := by obtain ⟨_, _, vs, hL, _⟩ := hrow; exact ownsRow_shape hL
        have hpa := peek_at T s' hat3
        have hLe : (s'.peek T).L = s'.L := rfl
        have HLE : Hid ((s'.peek T).L = s'.L) := hLe
        clear hLe
        have R4 : Hid (Below b w w4) := R3.out.trans r4.1
        by_cases l1 : t1.toList = [99, 108, 97, 115, 115]
        · have j1 : (t1.toList == [99, 108, 97, 115, 115]) = true := by rw [beq_iff_eq]; exact l1
          have j2 : (t1.toList == [99, 117, 116]) = false := by rw [beq_eq_false_iff_ne, l1]; decide
          have j3 : (t1.toList == [106, 111, 105, 110]) = false := by rw [beq_eq_false_iff_ne, l1]; decide
          have j4 : t1.toList.isEmpty = false := by rw [l1]; rfl
          by_cases hl0 : (s'.peek T).L.length = 0
          · have j5 : (((s'.peek T).L.length : Int) == 0) = true := by rw [beq_iff_eq]; omega
            have hres : Hid (RS.readL T g' ((s'.peek T).classes T) = RS.read T) := by show _ = _; rw [← HL'.out, readL_class E0.out (by rw [HT1.out]; exact l1) hl0]
            have hadv := take_adv T (s'.peek T) hpa.1 (by rw [tk_peek, HT1.out, l1]; simp)
            clear l1 hl0
            go_wp2_with fail
            refine (classes_rs b b T (s'.peek T) _ h4 E0.out).mono ?_
            rintro e5 w5 ⟨rfl, h5, r5⟩
            go_wp2_with fail
            go_roundg (g' + 1)
            case measure => have := HG'.out; omega
            case rel =>
              have cm := classes_mono T (s'.peek T) hpa.1
              refine ⟨_, h5, R4.out.trans r5.1, by omega, hres, Or.inr ?_, cm.2.trans HN.out⟩
              show T.size < ((s'.peek T).classes T).at_ + (g' + 1 - 1)
              have := HFA.out; omega
          · have j5 : (((s'.peek T).L.length : Int) == 0) = false := by rw [beq_eq_false_iff_ne]; omega
            have hres : Hid (RS.readL T g' ((s'.peek T).fail 2 (s'.pos T)) = RS.read T) := by
              show _ = _
              rw [← HL'.out, readL_bad E0.out (fun q => hl0 q.2) (by rw [HT1.out, l1]; decide) (by rw [HT1.out, l1]; decide)]
            clear l1 hl0
            go_wp2_with fail
            refine (fail_rs b b T (s'.peek T) 2 (s'.pos T) _ h4 (by omega)).mono ?_
            rintro e5 w5 ⟨rfl, h5, r5⟩
            go_wp2_with fail
            go_roundg (g' + 1)
            case measure => have := HG'.out; omega
            case rel => exact ⟨_, h5, R4.out.trans r5.1, by omega, hres, Or.inl (fail_err _ _ _ (by omega)), (fail_same _ _ _).2.2.2.2.2.trans HN.out⟩
        · have j1 : (t1.toList == [99, 108, 97, 115, 115]) = false := by rw [beq_eq_false_iff_ne]; exact l1
          by_cases l2 : t1.toList = [99, 117, 116] ∨ t1.toList = [106, 111, 105, 110]
          · have jj : ((t1.toList == [99, 117, 116]) = true) ∨ ((t1.toList == [99, 117, 116]) = false ∧ (t1.toList == [106, 111, 105, 110]) = true) := by
              rcases l2 with q | q
              · left; rw [beq_iff_eq]; exact q
              · right; exact ⟨by rw [beq_eq_false_iff_ne, q]; decide, by rw [beq_iff_eq]; exact q⟩
            have hres : Hid (RS.readL T g' ((s'.peek T).rule T) = RS.read T) := by show _ = _; rw [← HL'.out, readL_rule E0.out (by rw [HT1.out]; exact l2)]
            have hadv := take_adv T (s'.peek T) hpa.1 (by rw [tk_peek, HT1.out]; rcases l2 with q | q <;> rw [q] <;> simp)
            clear l1 l2
            rcases jj with j2 | ⟨j2, j3⟩
            all_goals
              go_wp2_with fail
              refine (rule_rs T b b (s'.peek T) _ h4 E0.out HN.out).mono ?_
              rintro e5 w5 ⟨rfl, h5, b5, hn5, ha5⟩
              go_wp2_with fail
              go_roundg (g' + 1)
              case measure => have := HG'.out; omega
              case rel =>
                refine ⟨_, h5, R4.out.trans b5, by omega, hres, Or.inr ?_, hn5⟩
                show T.size < ((s'.peek T).rule T).at_ + (g' + 1 - 1)
                have := HFA.out; omega
          · have j2 : (t1.toList == [99, 117, 116]) = false := by rw [beq_eq_false_iff_ne]; exact fun q => l2 (Or.inl q)
            have j3 : (t1.toList == [106, 111, 105, 110]) = false := by rw [beq_eq_false_iff_ne]; exact fun q => l2 (Or.inr q)
            by_cases l3 : t1.toList = []
            · have j4 : t1.toList.isEmpty = true := by rw [l3]; rfl
              have hres : Hid (RS.read T = s'.peek T) := by show _ = _; rw [← HL'.out, readL_end E0.out (by rw [HT1.out]; exact l3)]
              clear l1 l2 l3
              go_wp2_with fail
              go_ret
              exact ⟨rfl, by rw [hres.out]; exact c2, by rw [hres.out]; exact c3, R4.out, fun _ => by rw [hres.out]; exact h4⟩
            · have j4 : t1.toList.isEmpty = false := by simpa using l3
              have hres : Hid (RS.readL T g' ((s'.peek T).fail 2 (s'.pos T)) = RS.read T) := by
                show _ = _
                rw [← HL'.out, readL_bad E0.out (fun q => l1 (by rw [← HT1.out]; exact q.1)) (by rw [HT1.out]; exact l2) (by rw [HT1.out]; exact l3)]
              clear l1 l2 l3
              go_wp2_with fail
              refine (fail_rs b b T (s'.peek T) 2 (s'.pos T) _ h4 (by omega)).mono ?_
              rintro e5 w5 ⟨rfl, h5, r5⟩
              go_wp2_with fail
              go_roundg (g' + 1)
              case measure => have := HG'.out; omega
              case rel => exact ⟨_, h5, R4.out.trans r5.1, by omega, hres, Or.inl (fail_err _ _ _ (by omega)), (fail_same _ _ _).2.2.2.2.2.trans HN.out⟩
      · have k0 : (s'.err == 0) = false := by rw [beq_eq_false_iff_ne]; exact e0
        have hres : Hid (RS.read T = s') := by show _ = _; rw [← HL.out, readL_err e0]
        clear e0
        go_wp2_with fail
        go_ret
        exact ⟨rfl, by rw [hres.out]; exact c2, by rw [hres.out]; exact c3, R3.out, fun _ => by rw [hres.out]; exact h3⟩
end Go.Proofs.YtodagkkjfipbgaaGreatDoor
/- The law Compiles: what takes answers. -/
namespace Go.Proofs.YtodagkkjfipbgaaGreatDoor
open Go.RowKit

theorem empty_read : (RS.read ⟨#[]⟩).err = 0 ∧ (RS.read ⟨#[]⟩).place = 0 := ⟨by kernel_rfl, by kernel_rfl⟩
theorem cut_read : (RS.read ⟨#[99, 117, 116]⟩).err = 2 ∧ (RS.read ⟨#[99, 117, 116]⟩).place = 3 := ⟨by kernel_rfl, by kernel_rfl⟩

set_option maxRecDepth 100000 in
set_option maxHeartbeats 2000000 in
theorem takes_pr (w : World) (hE : ErrsOk w) :
    Calls Tryz.prog 14 #[] w fun r w' => r = .returned (.bool true) ∧ Below w.heap.size w w' := by
  have HE : Hid (ErrsOk w) := hE
  clear hE
  go_enter Tryz.func14, Tryz.ntmps14
  go_wp2_with fail
  refine (compile_all _ w HE.out (by decide)).mono ?_
  rintro r w1 ⟨b1, v1, rfl, h1, -⟩
  obtain ⟨g, _, _, _, _, _, _, rfl, _⟩ := h1 empty_read.1
  rw [empty_read.1, empty_read.2]
  clear h1
  go_wp2_with fail
  refine (compile_all _ w1 (HE.out.below b1) (by decide)).mono ?_
  rintro r w2 ⟨b2, v2, rfl, -, h2⟩
  obtain rfl := h2 (by rw [cut_read.1]; decide)
  rw [cut_read.1, cut_read.2]
  clear h2
  go_wp2_with fail
  go_ret
  exact ⟨rfl, b1.trans (b2.mono b1.size)⟩
theorem num_pr (n : Int) (w : World) : Calls Tryz.prog 17 #[.int .i64 n] w fun r w' => r = .returned (.int .i64 n) ∧ w' = w := by
  go_enter Tryz.func17, Tryz.ntmps17
  go_wp2_with fail
  go_ret
  exact ⟨rfl, rfl⟩
end Go.Proofs.YtodagkkjfipbgaaGreatDoor
/- The law Compiles: its walk. -/
namespace Go.Proofs.YtodagkkjfipbgaaGreatDoor
open Go.RowKit

theorem TabOK.below {w w' : World} (h : TabOK w) (hb : Below w.heap.size w w') : TabOK w' := (hb.cell (p := ⟨1, 2, none⟩) (cell_lt h)).trans h

set_option maxRecDepth 100000 in
set_option maxHeartbeats 2000000 in
theorem compiles_pr (T : ByteArray) (w : World) (hE : ErrsOk w) (hTab : TabOK w) (hT2 : T.size ≤ 140737488351232) :
    Calls Tryz.prog 3 #[.string T] w fun r w' => r = .returned (.bool true) ∧ Below w.heap.size w w' := by
  have HE : Hid (ErrsOk w) := hE
  have HTab : Hid (TabOK w) := hTab
  clear hE hTab
  go_enter Tryz.func3, Tryz.ntmps3
  go_wp2_with fail
  refine (takes_pr w HE.out).mono ?_
  rintro r w1 ⟨rfl, b1⟩
  go_wp2_with fail
  refine (compile_all T w1 (HE.out.below b1) hT2).mono ?_
  rintro r w2 ⟨b2, vR, rfl, h1, h2⟩
  have b12 : Hid (Below w.heap.size w w2) := b1.trans (b2.mono b1.size)
  have hlt : 1 < w2.heap.size := Nat.lt_of_lt_of_le (cell_lt HTab.out) b12.out.size
  have hra := read_any T w2 _ rfl (HTab.out.below b12.out) hlt hT2
  revert h1 h2 hra
  generalize (RS.read T).err = ee
  generalize (RS.read T).place = pp
  intro h1 h2 hra
  go_wp2_with fail
  refine hra.mono ?_
  rintro r w3 ⟨rfl, c2, c3, b3, -⟩
  have B3 : Hid (Below w2.heap.size w2 w3) := b3
  clear hra b1 b2 b3
  by_cases h0 : ee = 0
  · obtain ⟨g, _, _, _, _, _, _, rfl, _⟩ := h1 h0
    subst h0
    clear h1 h2
    go_wp2_with fail
    go_quiet ((go_at_call 17; exact Calls.quiet_of_same (num_pr _ _)))
    go_wp2_with fail
    go_ret
    exact ⟨rfl, b12.out.trans ((bdrew B3.out _).mono b12.out.size)⟩
  · obtain rfl := h2 h0
    have k0 : (ee == 0) = false := by rw [beq_eq_false_iff_ne]; exact h0
    clear h1 h2 h0
    go_wp2_with fail
    go_quiet ((go_at_call 17; exact Calls.quiet_of_same (num_pr _ _)))
    go_wp2_with fail
    go_ret
    exact ⟨rfl, b12.out.trans ((bdrew B3.out _).mono b12.out.size)⟩
end Go.Proofs.YtodagkkjfipbgaaGreatDoor
/- The span of the surrogates, as start-up lays it. -/
namespace Go.Proofs.YtodagkkjfipbgaaGreatDoor
open Go.ChangeShapes Go.WideShapes Go.ChangeAt Go.RowKit

theorem tSU : (Tryz.prog.globals[0]?).map (·.type) = some 171 := by kernel_rfl
theorem laid_sur {n : String} {r : List (String × DataW Unit)} {W : World} (h : laidMet Tryz.prog ((n, Rows.laid_cleave_kinds_surrogates) :: r) W) (gSU : Tryz.prog.globalNamed n = some 0) : W.cell? ⟨0, 0, none⟩ = some (.int .i32 55296) ∧ W.cell? ⟨0, 1, none⟩ = some (.int .i32 57343) := by
  obtain ⟨ps, ⟨g0, t0, cs0, f0, p0, q0, hg0, ht0, hv0, hd0, _, e0⟩, _, _⟩ := h
  obtain rfl := Option.some.inj (gSU.symm.trans hg0)
  obtain rfl := Option.some.inj (tSU.symm.trans ht0)
  have c1 : Tryz.prog.cellsOf 21 = 1 := by kernel_rfl
  obtain ⟨y0, y1, m, ex, hl, h0, h1⟩ := trod_struct2 Tryz.underlying171 hd0
  have c2 : Tryz.prog.cellsOf 171 = 2 := by kernel_rfl
  rw [c2] at hl
  have e1 := (Prod.mk.inj ex).1
  unfold Rows.laid_cleave_kinds_surrogates at e1
  injection e1 with e1
  injection e1 with ea e1
  injection e1 with eb _
  simp only [c1] at h0 h1
  obtain ⟨a, a0, a1, _⟩ := DataW.trod_int Tryz.underlying21 h0
  obtain ⟨b, b0, b1, _⟩ := DataW.trod_int Tryz.underlying21 h1
  rw [a1] at ea
  rw [b1] at eb
  have hza : a = 55296 := by simpa using ea.symm
  have hzb : b = 57343 := by simpa using eb.symm
  subst hza
  subst hzb
  obtain ⟨l⟩ := cs0
  match l, hl with
  | [x, y], _ =>
    simp at a0 b0
    subst a0
    subst b0
    exact ⟨by rw [World.var?_cell gSU hv0 0]; rfl, by rw [World.var?_cell gSU hv0 1]; rfl⟩
end Go.Proofs.YtodagkkjfipbgaaGreatDoor
