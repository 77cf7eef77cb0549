import Derived.Test.YtodagkkjfipbgaaGreatDoorW14toW15
import Derived.Test.YtodagkkjfipbgaaGreatDoorStoZ1
namespace Go.Proofs.YtodagkkjfipbgaaGreatDoor
open Go.RowKit

theorem rowL_err {T : ByteArray} {sub : RS → RS × Rx} {g : Nat} {s : RS} {e : Rx} (h : s.err ≠ 0) : RS.rowL T sub g s e = (s, e) := by
  cases g with
  | zero => rfl
  | succ g => rw [RS.rowL, if_pos h]
theorem rowL_more {T : ByteArray} {sub : RS → RS × Rx} {g : Nat} {s : RS} {e : Rx} (h : s.err = 0) (hm : RS.moreL (s.tk T) = true) : RS.rowL T sub (g + 1) s e = RS.rowL T sub g ((s.peek T).part T sub).1 (rowR e ((s.peek T).part T sub).2) := by
  rw [RS.rowL, if_neg (by simpa using h), if_pos hm]
theorem rowL_end {T : ByteArray} {sub : RS → RS × Rx} {g : Nat} {s : RS} {e : Rx} (h : s.err = 0) (hm : RS.moreL (s.tk T) = false) : RS.rowL T sub (g + 1) s e = (s.peek T, e) := by
  rw [RS.rowL, if_neg (by simpa using h), if_neg (by simp [hm])]
theorem exprL_err {T : ByteArray} {sub : RS → RS × Rx} {g : Nat} {s : RS} {e : Rx} (h : s.err ≠ 0) : RS.exprL T sub g s e = (s, e) := by
  cases g with
  | zero => rfl
  | succ g => rw [RS.exprL, if_pos h]
theorem exprL_more {T : ByteArray} {sub : RS → RS × Rx} {g : Nat} {s : RS} {e : Rx} (h : s.err = 0) (hm : s.tk T = [47]) : RS.exprL T sub (g + 1) s e = RS.exprL T sub g (((s.peek T).take T).row T sub).1 (eitherX e (((s.peek T).take T).row T sub).2) := by
  rw [RS.exprL, if_neg (by simpa using h), if_pos hm]
theorem exprL_end {T : ByteArray} {sub : RS → RS × Rx} {g : Nat} {s : RS} {e : Rx} (h : s.err = 0) (hm : s.tk T ≠ [47]) : RS.exprL T sub (g + 1) s e = (s.peek T, e) := by
  rw [RS.exprL, if_neg (by simpa using h), if_neg hm]
/-- One piece more behind what is there. -/
theorem pq_more {K : Nat} {s s1 s2 s3 : RS} {x y z : Rx} (hq : PQ K s (s1, x)) (he : s1.err = 0) (h12 : s2.names = s1.names ∧ s2.nest = s1.nest ∧ s1.at_ ≤ s2.at_) (hq2 : PQ K s2 (s3, y)) (hz : z.form.size + 5 ≤ (x.form.size + 5) + (y.form.size + 5)) : PQ K s (s3, z) := by
  obtain ⟨a1, a2, a3, a4, a5⟩ := hq
  obtain ⟨b1, b2, b3, b4, b5⟩ := hq2
  obtain ⟨c1, c2, c3⟩ := h12
  have a3' : s.at_ ≤ s1.at_ := a3
  have b3' : s2.at_ ≤ s3.at_ := b3
  have a4' : s.at_ < s1.at_ := a4 he
  have b1' : s3.names = s2.names := b1
  have b2' : s3.nest = s2.nest := b2
  have a1' : s1.names = s.names := a1
  have a2' : s1.nest = s.nest := a2
  refine ⟨?_, ?_, by show s.at_ ≤ s3.at_; omega, fun _ => by show s.at_ < s3.at_; omega, ?_⟩
  · show s3.names = s.names; rw [b1', c1, a1']
  · show s3.nest = s.nest; rw [b2', c2, a2']
  · show z.form.size + 5 ≤ K * (s3.at_ - s.at_ + bit s3)
    have a5' : x.form.size + 5 ≤ K * (s1.at_ - s.at_ + bit s1) := a5
    have b5' : y.form.size + 5 ≤ K * (s3.at_ - s2.at_ + bit s3) := b5
    rw [bit_zero he] at a5'
    have e : K * (s1.at_ - s.at_ + 0) + K * (s3.at_ - s2.at_ + bit s3) = K * ((s1.at_ - s.at_ + 0) + (s3.at_ - s2.at_ + bit s3)) := (Nat.mul_add K _ _).symm
    have l : K * ((s1.at_ - s.at_ + 0) + (s3.at_ - s2.at_ + bit s3)) ≤ K * (s3.at_ - s.at_ + bit s3) := Nat.mul_le_mul_left K (by omega)
    omega
theorem pq_peek {K : Nat} {T : ByteArray} {s s1 : RS} {x : Rx} (hq : PQ K s (s1, x)) (he : s1.err = 0) (hat : s1.at_ ≤ T.size) : PQ K s (s1.peek T, x) := by
  obtain ⟨a1, a2, a3, a4, a5⟩ := hq
  have p := peek_at T s1 hat
  have a3' : s.at_ ≤ s1.at_ := a3
  have a4' : s.at_ < s1.at_ := a4 he
  refine ⟨a1, a2, by show s.at_ ≤ (s1.peek T).at_; omega, fun _ => by show s.at_ < (s1.peek T).at_; omega, ?_⟩
  refine Nat.le_trans a5 (Nat.mul_le_mul_left K ?_)
  show s1.at_ - s.at_ + bit s1 ≤ (s1.peek T).at_ - s.at_ + bit (s1.peek T)
  have : bit (s1.peek T) = bit s1 := rfl
  omega

set_option maxRecDepth 100000 in
set_option maxHeartbeats 4000000 in
theorem row_p (T : ByteArray) (sub : RS → RS × Rx) (K : Nat) (nst : Int) (hK2 : K ≤ 10000) (ha : Parses T 212 (fun s => s.part T sub) K nst) :
    Parses T 187 (fun s => s.row T sub) K nst := by
  intro base b s w h herr hnst
  have HP : Hid (Parses T 212 (fun s => s.part T sub) K nst) := ha
  have HE : Hid (s.err = 0) := herr
  have HNS : Hid (s.nest = nst) := hnst
  have hT : T.size ≤ 1000 := h.2.2.1
  clear ha herr hnst
  go_enter Tryz.func187, Tryz.ntmps187
  go_wp2_with fail
  refine (HP.out base b s _ h HE.out HNS.out).mono ?_
  rintro e1 w1 ⟨v1, d1, rfl, h1, hv1, r1, q1⟩
  have hR : Hid (s.row T sub = RS.rowL T sub (T.size + 2) (s.part T sub).1 (s.part T sub).2) := rfl
  go_wp2_with fail
  go_loopg [3] (T.size + 3) (fun g ev wx => ∃ (s' : RS) (x' : Rx) (d : Nat), RSt wx base b T s' ∧ RChg base w wx ∧ 0 < g ∧ Hid (IsRe d wx ev x') ∧ Hid (RS.rowL T sub (g - 1) s' x' = s.row T sub) ∧ Hid (s'.err ≠ 0 ∨ T.size < s'.at_ + (g - 1)) ∧ Hid (PQ K s (s', x')))
  case atStart => exact ⟨_, _, d1, h1, r1, by omega, hv1, hR, Or.inr (by omega), q1⟩
  case round =>
    obtain ⟨s', x', d, h2, r2, hg, HV, HL, HF, HQ⟩ := hrel
    have HG : Hid (0 < gk) := hg
    clear hg h1 r1 q1 hv1
    obtain ⟨w2, hw2⟩ : ∃ w2, w2 = wr := ⟨wr, rfl⟩
    subst hw2
    obtain ⟨vN, vS, vL, hblk, hrow, c0, c1, c2, c3, c4, c5, c6, c7, c8, hf⟩ := h2.cells
    have hat2 : s'.at_ ≤ T.size := h2.2.2.2.1.1
    by_cases e0 : s'.err = 0
    · have k0 : (s'.err == 0) = true := by rw [beq_iff_eq]; exact e0
      have E0 : Hid (s'.err = 0) := e0
      obtain ⟨g', hg'⟩ : ∃ g', gk = g' + 2 := ⟨gk - 2, by rcases HF.out with q | q; exact absurd e0 q; omega⟩
      have HG' : Hid (gk = g' + 2) := hg'
      have HFA : Hid (T.size < s'.at_ + (g' + 1)) := by
        show T.size < s'.at_ + (g' + 1)
        rcases HF.out with q | q
        · exact absurd e0 q
        · omega
      clear hg' e0
      have HL' : Hid (RS.rowL T sub (g' + 1) s' x' = s.row T sub) := by show _ = _; rw [← HL.out, HG'.out]; rfl
      have hx' : x'.form.size ≤ 20000000 := pq_size (T := T) HQ.out hK2 hat2 hT
      go_wp2_with fail
      refine (peek_rs base b T s' _ h2).mono ?_
      rintro e3 w3 ⟨rfl, h3, r3⟩
      obtain ⟨t1, ht1⟩ : ∃ t1, t1 = tok T s'.at_ := ⟨_, rfl⟩
      rw [← ht1]
      have HT1 : Hid (s'.tk T = t1.toList) := by rw [ht1]; rfl
      clear ht1 hblk hrow c0 c1 c2 c3 c4 c5 c6 c7 c8 hf
      have HV3 : Hid (IsRe d w3 u3 x') := HV.out.keep r3.2
      have hat3 : (s'.peek T).at_ ≤ T.size := h3.2.2.2.1.1
      cases hm : RS.moreL t1.toList
      · have hcase : (((t1.toList == [40]) = false ∧ t1.toList.isEmpty = true) ∨ ((t1.toList == [40]) = false ∧ t1.toList.isEmpty = false ∧ ∃ hp : 0 < t1.size, letterN (t1[0].toNat) = false)) := by
          unfold RS.moreL at hm
          simp only [Bool.or_eq_false_iff, decide_eq_false_iff_not] at hm
          by_cases hn : t1.toList = []
          · left; exact ⟨by rw [beq_eq_false_iff_ne]; exact hm.1, by simp [hn]⟩
          · have hp : 0 < t1.size := by
              rcases Nat.eq_zero_or_pos t1.size with e | e
              · exfalso; apply hn; rw [ByteArray.toList_eq]; exact List.eq_nil_of_length_eq_zero (by simpa using e)
              · exact e
            right; refine ⟨by rw [beq_eq_false_iff_ne]; exact hm.1, by simpa using hn, hp, ?_⟩
            have := hm.2
            simp only [hn, decide_not, decide_false, Bool.not_false, Bool.true_and] at this
            rw [headD_bytes t1 hp] at this; exact this
        have hres : Hid (s.row T sub = (s'.peek T, x')) := by show _ = _; rw [← HL'.out, rowL_end E0.out (by rw [HT1.out]; exact hm)]
        clear hm
        rcases hcase with ⟨j1, j2⟩ | ⟨j1, j2, hp, j3⟩
        all_goals
          go_wp2_with (go_at_call 90; refine (letter_any _ _).mono ?_; rintro e9 w9 ⟨rfl, rfl⟩)
          go_ret
          refine ⟨_, d, rfl, by show RSt _ _ _ _ (s.row T sub).1; rw [hres.out]; exact h3, by show IsRe _ _ _ (s.row T sub).2; rw [hres.out]; exact HV3.out, r2.trans r3, ?_⟩
          show PQ K s (s.row T sub); rw [hres.out]; exact pq_peek HQ.out E0.out hat2
      · have hcase : (((t1.toList == [40]) = true ∧ t1.toList.isEmpty = false) ∨ ((t1.toList == [40]) = false ∧ t1.toList.isEmpty = false ∧ ∃ hp : 0 < t1.size, letterN (t1[0].toNat) = true)) := by
          unfold RS.moreL at hm
          by_cases h40 : t1.toList = [40]
          · left; exact ⟨by rw [beq_iff_eq]; exact h40, by simp [h40]⟩
          · simp only [h40, decide_false, Bool.false_or, Bool.and_eq_true, decide_eq_true_eq] at hm
            have hn := hm.1
            have hp : 0 < t1.size := by
              rcases Nat.eq_zero_or_pos t1.size with e | e
              · exfalso; apply hn; rw [ByteArray.toList_eq]; exact List.eq_nil_of_length_eq_zero (by simpa using e)
              · exact e
            right; refine ⟨by rw [beq_eq_false_iff_ne]; exact h40, by simpa using hn, hp, ?_⟩
            have := hm.2
            rw [headD_bytes t1 hp] at this; exact this
        have hres : Hid (RS.rowL T sub g' ((s'.peek T).part T sub).1 (rowR x' ((s'.peek T).part T sub).2) = s.row T sub) := by show _ = _; rw [← HL'.out, rowL_more E0.out (by rw [HT1.out]; exact hm)]
        have HP3 : Hid ((s'.peek T).err = 0 ∧ (s'.peek T).nest = nst) := ⟨E0.out, by have := HQ.out.2.1; show s'.nest = nst; exact (show s'.nest = s.nest from this).trans HNS.out⟩
        clear hm
        rcases hcase with ⟨j1, j2⟩ | ⟨j1, j2, hp, j3⟩
        all_goals
          go_wp2_with (go_at_call 90; refine (letter_any _ _).mono ?_; rintro e9 w9 ⟨rfl, rfl⟩)
          refine (HP.out base b (s'.peek T) _ h3 HP3.out.1 HP3.out.2).mono ?_
          rintro e4 w4 ⟨v4, d4, rfl, h4, hv4, r4, q4⟩
          have HV4 : Hid (IsRe d4 w4 v4 ((s'.peek T).part T sub).2) := hv4
          have HQ4 : Hid (PQ K (s'.peek T) ((s'.peek T).part T sub)) := q4
          have hy : ((s'.peek T).part T sub).2.form.size ≤ 20000000 := pq_size (T := T) q4 hK2 h4.2.2.2.1.1 hT
          clear hv4 q4
          go_wp2_with fail
          refine (row_any (x'.form.size + 1) _ (d + d4) u3 v4 x' ((s'.peek T).part T sub).2 (by omega) ((HV3.out.keep r4.2).mono (by omega)) (HV4.out.mono (by omega)) (by omega)).mono ?_
          rintro e5 w5 ⟨v5, d5, rfl, hv5, hs5, hb5⟩
          obtain ⟨h5, r5⟩ := h4.below hb5
          have HV5 : Hid (IsRe d5 w5 v5 (rowR x' ((s'.peek T).part T sub).2)) := hv5
          clear hv5
          go_wp2_with fail
          go_roundg (g' + 1)
          case measure => have := HG'.out; omega
          case rel =>
            have hpa := peek_at T s' hat2
            have hq5 : PQ K s (((s'.peek T).part T sub).1, rowR x' ((s'.peek T).part T sub).2) := pq_more (s2 := s'.peek T) (y := ((s'.peek T).part T sub).2) HQ.out E0.out ⟨rfl, rfl, hpa.2⟩ HQ4.out (by show (rowX (x'.form.size + 1) x' ((s'.peek T).part T sub).2).form.size + 5 ≤ _; omega)
            refine ⟨_, _, d5, h5, ((r2.trans r3).trans r4).trans r5, by omega, HV5, hres, ?_, hq5⟩
            by_cases e6 : ((s'.peek T).part T sub).1.err = 0
            · refine Or.inr ?_
              have a1 : (s'.peek T).at_ < ((s'.peek T).part T sub).1.at_ := HQ4.out.2.2.2.1 e6
              have a2 := HFA.out
              show T.size < ((s'.peek T).part T sub).1.at_ + (g' + 1 - 1)
              omega
            · exact Or.inl e6
    · have k0 : (s'.err == 0) = false := by rw [beq_eq_false_iff_ne]; exact e0
      have hres : Hid (s.row T sub = (s', x')) := by show _ = _; rw [← HL.out, rowL_err e0]
      clear e0
      go_wp2_with fail
      go_ret
      refine ⟨_, d, rfl, by show RSt _ _ _ _ (s.row T sub).1; rw [hres.out]; exact h2, by show IsRe _ _ _ (s.row T sub).2; rw [hres.out]; exact HV.out, r2, ?_⟩
      show PQ K s (s.row T sub); rw [hres.out]; exact HQ.out

set_option maxRecDepth 100000 in
set_option maxHeartbeats 4000000 in
theorem expr_p (T : ByteArray) (sub : RS → RS × Rx) (K : Nat) (nst : Int) (hK2 : K ≤ 10000) (ha : Parses T 187 (fun s => s.row T sub) K nst) :
    Parses T 148 (fun s => s.exprS T sub) K nst := by
  intro base b s w h herr hnst
  have HP : Hid (Parses T 187 (fun s => s.row T sub) K nst) := ha
  have HE : Hid (s.err = 0) := herr
  have HNS : Hid (s.nest = nst) := hnst
  have hT : T.size ≤ 1000 := h.2.2.1
  clear ha herr hnst
  go_enter Tryz.func148, Tryz.ntmps148
  go_wp2_with fail
  refine (HP.out base b s _ h HE.out HNS.out).mono ?_
  rintro e1 w1 ⟨v1, d1, rfl, h1, hv1, r1, q1⟩
  have hR : Hid (s.exprS T sub = RS.exprL T sub (T.size + 2) (s.row T sub).1 (s.row T sub).2) := rfl
  go_wp2_with fail
  go_loopg [3] (T.size + 3) (fun g ev wx => ∃ (s' : RS) (x' : Rx) (d : Nat), RSt wx base b T s' ∧ RChg base w wx ∧ 0 < g ∧ Hid (IsRe d wx ev x') ∧ Hid (RS.exprL T sub (g - 1) s' x' = s.exprS T sub) ∧ Hid (s'.err ≠ 0 ∨ T.size < s'.at_ + (g - 1)) ∧ Hid (PQ K s (s', x')))
  case atStart => exact ⟨_, _, d1, h1, r1, by omega, hv1, hR, Or.inr (by omega), q1⟩
  case round =>
    obtain ⟨s', x', d, h2, r2, hg, HV, HL, HF, HQ⟩ := hrel
    have HG : Hid (0 < gk) := hg
    clear hg h1 r1 q1 hv1
    obtain ⟨w2, hw2⟩ : ∃ w2, w2 = wr := ⟨wr, rfl⟩
    subst hw2
    obtain ⟨vN, vS, vL, hblk, hrow, c0, c1, c2, c3, c4, c5, c6, c7, c8, hf⟩ := h2.cells
    have hat2 : s'.at_ ≤ T.size := h2.2.2.2.1.1
    by_cases e0 : s'.err = 0
    · have k0 : (s'.err == 0) = true := by rw [beq_iff_eq]; exact e0
      have E0 : Hid (s'.err = 0) := e0
      obtain ⟨g', hg'⟩ : ∃ g', gk = g' + 2 := ⟨gk - 2, by rcases HF.out with q | q; exact absurd e0 q; omega⟩
      have HG' : Hid (gk = g' + 2) := hg'
      have HFA : Hid (T.size < s'.at_ + (g' + 1)) := by
        show T.size < s'.at_ + (g' + 1)
        rcases HF.out with q | q
        · exact absurd e0 q
        · omega
      clear hg' e0
      have HL' : Hid (RS.exprL T sub (g' + 1) s' x' = s.exprS T sub) := by show _ = _; rw [← HL.out, HG'.out]; rfl
      have hx' : x'.form.size ≤ 20000000 := pq_size (T := T) HQ.out hK2 hat2 hT
      go_wp2_with fail
      refine (peek_rs base b T s' _ h2).mono ?_
      rintro e3 w3 ⟨rfl, h3, r3⟩
      obtain ⟨t1, ht1⟩ : ∃ t1, t1 = tok T s'.at_ := ⟨_, rfl⟩
      rw [← ht1]
      have HT1 : Hid (s'.tk T = t1.toList) := by rw [ht1]; rfl
      clear ht1 hblk hrow c0 c1 c2 c3 c4 c5 c6 c7 c8 hf
      have HV3 : Hid (IsRe d w3 u3 x') := HV.out.keep r3.2
      have hat3 : (s'.peek T).at_ ≤ T.size := h3.2.2.2.1.1
      by_cases hm : t1.toList = [47]
      · have j1 : (t1.toList == [47]) = true := by rw [beq_iff_eq]; exact hm
        have hres : Hid (RS.exprL T sub g' (((s'.peek T).take T).row T sub).1 (eitherX x' (((s'.peek T).take T).row T sub).2) = s.exprS T sub) := by show _ = _; rw [← HL'.out, exprL_more E0.out (by rw [HT1.out]; exact hm)]
        have HP3 : Hid (((s'.peek T).take T).err = 0 ∧ ((s'.peek T).take T).nest = nst) := ⟨E0.out, by have := HQ.out.2.1; show s'.nest = nst; exact (show s'.nest = s.nest from this).trans HNS.out⟩
        clear hm
        go_wp2_with fail
        refine (take_rs base b T (s'.peek T) _ h3).mono ?_
        rintro e8 w8 ⟨rfl, h8, r8⟩
        go_wp2_with fail
        refine (HP.out base b ((s'.peek T).take T) _ h8 HP3.out.1 HP3.out.2).mono ?_
        rintro e4 w4 ⟨v4, d4, rfl, h4, hv4, r4, q4⟩
        have HV4 : Hid (IsRe d4 w4 v4 (((s'.peek T).take T).row T sub).2) := hv4
        have HQ4 : Hid (PQ K ((s'.peek T).take T) (((s'.peek T).take T).row T sub)) := q4
        have hy : (((s'.peek T).take T).row T sub).2.form.size ≤ 20000000 := pq_size (T := T) q4 hK2 h4.2.2.2.1.1 hT
        clear hv4 q4
        go_wp2_with fail
        refine (either_any _ (d + d4) u3 v4 x' (((s'.peek T).take T).row T sub).2 (((HV3.out.keep r8.2).keep r4.2).mono (by omega)) (HV4.out.mono (by omega)) (by omega)).mono ?_
        rintro e5 w5 ⟨v5, d5, rfl, hv5, hs5, hb5⟩
        obtain ⟨h5, r5⟩ := h4.below hb5
        have HV5 : Hid (IsRe d5 w5 v5 (eitherX x' (((s'.peek T).take T).row T sub).2)) := hv5
        clear hv5
        go_wp2_with fail
        go_roundg (g' + 1)
        case measure => have := HG'.out; omega
        case rel =>
          have hpa := peek_at T s' hat2
          have hta := take_at T (s'.peek T) hat3
          have hq5 : PQ K s ((((s'.peek T).take T).row T sub).1, eitherX x' (((s'.peek T).take T).row T sub).2) := pq_more (s2 := (s'.peek T).take T) (y := (((s'.peek T).take T).row T sub).2) HQ.out E0.out ⟨rfl, rfl, by omega⟩ HQ4.out (by omega)
          refine ⟨_, _, d5, h5, (((r2.trans r3).trans r8).trans r4).trans r5, by omega, HV5, hres, ?_, hq5⟩
          by_cases e6 : (((s'.peek T).take T).row T sub).1.err = 0
          · refine Or.inr ?_
            have a1 : ((s'.peek T).take T).at_ < (((s'.peek T).take T).row T sub).1.at_ := HQ4.out.2.2.2.1 e6
            have a2 := HFA.out
            show T.size < (((s'.peek T).take T).row T sub).1.at_ + (g' + 1 - 1)
            omega
          · exact Or.inl e6
      · have j1 : (t1.toList == [47]) = false := by rw [beq_eq_false_iff_ne]; exact hm
        have hres : Hid (s.exprS T sub = (s'.peek T, x')) := by show _ = _; rw [← HL'.out, exprL_end E0.out (by rw [HT1.out]; exact hm)]
        clear hm
        go_wp2_with fail
        go_ret
        refine ⟨_, d, rfl, by show RSt _ _ _ _ (s.exprS T sub).1; rw [hres.out]; exact h3, by show IsRe _ _ _ (s.exprS T sub).2; rw [hres.out]; exact HV3.out, r2.trans r3, ?_⟩
        show PQ K s (s.exprS T sub); rw [hres.out]; exact pq_peek HQ.out E0.out hat2
    · have k0 : (s'.err == 0) = false := by rw [beq_eq_false_iff_ne]; exact e0
      have hres : Hid (s.exprS T sub = (s', x')) := by show _ = _; rw [← HL.out, exprL_err e0]
      clear e0
      go_wp2_with fail
      go_ret
      refine ⟨_, d, rfl, by show RSt _ _ _ _ (s.exprS T sub).1; rw [hres.out]; exact h2, by show IsRe _ _ _ (s.exprS T sub).2; rw [hres.out]; exact HV.out, r2, ?_⟩
      show PQ K s (s.exprS T sub); rw [hres.out]; exact HQ.out

/-- An Expr within which n brackets more may open. -/
theorem expr_all (hI : ItoaOk) (T : ByteArray) (n : Nat) : n ≤ 4 → Parses T 148 (RS.expr T n) (10 * 3 ^ (n + 1)) (4 - (n : Int)) := by
  induction n with
  | zero =>
    intro _
    have h1 := atom_p hI T (fun s => (s, neverX)) 10 4 (by omega) (by omega) (by omega) (fun h => absurd rfl h)
    exact expr_p T _ 30 4 (by omega) (row_p T _ 30 4 (by omega) (part_p T _ 10 4 (by omega) (by omega) h1))
  | succ n ih =>
    intro hn
    have hi := ih (by omega)
    have hk : 10 ≤ 10 * 3 ^ (n + 1) ∧ 10 * 3 ^ (n + 1) ≤ 810 := by
      have : n = 0 ∨ n = 1 ∨ n = 2 ∨ n = 3 := by omega
      rcases this with rfl | rfl | rfl | rfl <;> decide
    have e : 4 - ((n + 1 : Nat) : Int) + 1 = 4 - (n : Int) := by omega
    have h1 := atom_p hI T (RS.expr T n) (10 * 3 ^ (n + 1)) (4 - ((n + 1 : Nat) : Int)) hk.1 (by omega) (by omega) (fun _ => by rw [e]; exact hi)
    have h2 := part_p T _ _ _ hk.1 (by omega) h1
    have e3 : 3 * (10 * 3 ^ (n + 1)) = 10 * 3 ^ (n + 1 + 1) := by rw [Nat.pow_succ 3 (n + 1)]; omega
    rw [e3] at h2
    exact expr_p T _ _ _ (by omega) (row_p T _ _ _ (by omega) h2)
end Go.Proofs.YtodagkkjfipbgaaGreatDoor
/- Classes: both readers. -/
namespace Go.Proofs.YtodagkkjfipbgaaGreatDoor
open Go.RowKit

theorem spansL_stop {T : ByteArray} {k g : Nat} {p : PS} {l : List (Int × Int × Nat)} (h : p.tk T ≠ [44]) : PS.spansL T k g p l = (p, l) := by
  cases g with
  | zero => rfl
  | succ g => rw [PS.spansL, if_neg h]
theorem spans_z {T : ByteArray} {k : Nat} : ∀ (g : Nat) (s : RS) (p : PS) (l : List (Int × Int × Nat)) (g' : Nat), Okz T s p → s.spans = spI l → s.names.length = k + 1 → T.size < p.p + g → T.size < p.p + g' →
    (Okz T (RS.spansL T g s) ((PS.spansL T k g' (p.span T l) (l ++ [(p.spanX T, p.spanY T, k)])).1.need T [sgn 59]) ∧ (RS.spansL T g s).spans = spI (PS.spansL T k g' (p.span T l) (l ++ [(p.spanX T, p.spanY T, k)])).2 ∧ (RS.spansL T g s).names = s.names) ∨
    Badz T (RS.spansL T g s) ((PS.spansL T k g' (p.span T l) (l ++ [(p.spanX T, p.spanY T, k)])).1.need T [sgn 59]) := by
  intro g
  induction g with
  | zero => intro s p l g' h _ _ hg; have := okz_le h; omega
  | succ g ih =>
    intro s p l g' h hs hn hg hg'
    have hle := okz_le h
    have hsp := span_p hle l
    rw [RS.spansL, if_neg (by rw [h.1]; simp)]
    simp only
    rcases span_z h hs hn with ⟨h1, s1, n1⟩ | hbad
    · rw [if_neg (by rw [h1.1]; simp)]
      have ht := okz_tk h1
      by_cases e59 : (s.span T).tk T = [59]
      · rw [if_pos e59]
        have e : (p.span T l).tk T = [59] := by rw [← ht]; exact e59
        rw [spansL_stop (by rw [e]; decide)]
        left
        rcases okz_want h1 59 with ⟨_, w2, w3⟩ | ⟨w1, _⟩
        · rw [w2] at w3
          exact ⟨w3, s1, n1⟩
        · exact absurd e w1
      · rw [if_neg e59]
        by_cases e44 : (s.span T).tk T = [44]
        · rw [if_pos e44]
          have e : (p.span T l).tk T = [44] := by rw [← ht]; exact e44
          have hlt := tk_lt (okz_le h1) e
          have hnx := nextp_le T (p.span T l).p (okz_le h1)
          obtain ⟨g'', rfl⟩ : ∃ g'', g' = g'' + 1 := ⟨g' - 1, by omega⟩
          rw [PS.spansL, if_pos e]
          have hst : ((p.span T l).step T).p = nextp T (p.span T l).p := rfl
          have hadv := hnx.2.2 hlt
          have := ih ((s.span T).take T) ((p.span T l).step T) (l ++ [(p.spanX T, p.spanY T, k)]) g'' (okz_take h1) s1 (by show (s.span T).names.length = _; rw [n1]; exact hn) (by omega) (by omega)
          rcases this with ⟨a1, a2, a3⟩ | a1
          · left; exact ⟨a1, a2, by rw [a3]; exact n1⟩
          · right; exact a1
        · rw [if_neg e44]
          have e : (p.span T l).tk T ≠ [44] := by rw [← ht]; exact e44
          have e' : (p.span T l).tk T ≠ [59] := by rw [← ht]; exact e59
          rw [spansL_stop e]
          right
          have e2 : (p.span T l).need T [sgn 59] = (p.span T l).fail T 2 := by unfold PS.need; rw [memL_sgn]; simp [e']
          have hb := badz_fail (T := T) (s := (s.span T).take T) h1.1 h1.2.1 2 (by decide) ((s.span T).pos T : Int) (okz_pos h1)
          have e3 : RS.spansL T g (((s.span T).take T).fail 2 ((s.span T).pos T)) = ((s.span T).take T).fail 2 ((s.span T).pos T) := by
            cases g with
            | zero => rfl
            | succ g => rw [RS.spansL, if_pos hb.1]
          rw [e3, e2]; exact hb
    · right
      rw [if_pos hbad.1, spansL_stop (by rw [badz_tk hbad]; decide)]
      exact badz_keep hbad rfl rfl (stk_need T _ _) ((badz_fz hbad).need (by rw [hbad.2.2.2]; omega) _)

/- A NAME. -/
theorem tokp_head {T : ByteArray} {p : Nat} (h : p < T.size) : (tokp T p).toList ≠ [] ∧ ((tokp T p).toList.headD 0).toNat = at0 T p := by
  have h1 := (tokEnd_le T p).2.2 h
  have h2 := (tokEnd_le T p).2.1 (by omega)
  have hsz : 0 < (tokp T p).size := by unfold tokp; rw [ByteArray.size_extract]; omega
  constructor
  · intro e
    have : (tokp T p).toList.length = 0 := by rw [e]; rfl
    rw [ByteArray.toList_eq] at this
    simp at this
    have e2 : (tokp T p).size = (tokp T p).data.size := rfl
    rw [e2, this] at hsz
    simp at hsz
  · have e : ∀ (x : ByteArray) (hx : 0 < x.size), x = T.extract p (tokEnd T p) → x[0]'hx = T[p]'h := by
      intro x hx e; subst e; rw [ByteArray.getElem_extract]; simp
    rw [headD_bytes _ hsz, at0_eq h, e _ hsz rfl]
theorem nameL_word (T : ByteArray) (p : Nat) (hp : p ≤ T.size) : nameL (tokp T p).toList = (wordp T p && !memL six (tokp T p).toList) := by
  have hsix : memL six (tokp T p).toList = true ↔ ((tokp T p).toList = [99, 108, 97, 115, 115] ∨ (tokp T p).toList = [99, 117, 116] ∨ (tokp T p).toList = [106, 111, 105, 110] ∨ (tokp T p).toList = [97, 110, 121] ∨ (tokp T p).toList = [111, 116, 104, 101, 114] ∨ (tokp T p).toList = [98, 97, 100]) := by
    rw [memL_iff]
    unfold six wClass wCut wJoin wAny wOther wBad
    simp only [List.mem_cons, List.not_mem_nil, or_false]
    constructor
    · rintro ⟨x, (rfl | rfl | rfl | rfl | rfl | rfl), hx⟩ <;> rw [ByteArray.toList_eq] at hx <;> simp [← hx]
    · rintro (h | h | h | h | h | h)
      · exact ⟨_, Or.inl rfl, by rw [ByteArray.toList_eq]; exact h.symm⟩
      · exact ⟨_, Or.inr (Or.inl rfl), by rw [ByteArray.toList_eq]; exact h.symm⟩
      · exact ⟨_, Or.inr (Or.inr (Or.inl rfl)), by rw [ByteArray.toList_eq]; exact h.symm⟩
      · exact ⟨_, Or.inr (Or.inr (Or.inr (Or.inl rfl))), by rw [ByteArray.toList_eq]; exact h.symm⟩
      · exact ⟨_, Or.inr (Or.inr (Or.inr (Or.inr (Or.inl rfl)))), by rw [ByteArray.toList_eq]; exact h.symm⟩
      · exact ⟨_, Or.inr (Or.inr (Or.inr (Or.inr (Or.inr rfl)))), by rw [ByteArray.toList_eq]; exact h.symm⟩
  unfold nameL
  rcases Nat.lt_or_ge p T.size with hlt | hge
  · obtain ⟨hne, hhd⟩ := tokp_head hlt
    cases hm : memL six (tokp T p).toList
    · rw [if_neg (by rintro (h | h); exact hne h; exact absurd (hsix.2 h) (by rw [hm]; simp)), hhd]
      unfold wordp
      simp
      omega
    · rw [if_pos (Or.inr (hsix.1 hm))]; simp
  · have e : p = T.size := by omega
    rw [e, tokp_end, if_pos (Or.inl rfl)]
    unfold wordp; simp

theorem class_word {T : ByteArray} {p : PS} (h : memL [wClass] (p.tk T) = true) : p.tk T = [99, 108, 97, 115, 115] := by
  rw [memL_iff] at h
  obtain ⟨x, hx, hx2⟩ := h
  simp at hx
  subst hx
  rw [← hx2]; unfold wClass; rw [ByteArray.toList_eq]
/-- Names that may be: words, none of them one of the six. -/
def NamesOk (names : List ByteArray) : Prop := ∀ x ∈ names, nameL x.toList = true

theorem spansL_fz {T : ByteArray} {k : Nat} : ∀ (g : Nat) (p : PS) (l : List (Int × Int × Nat)), p.p ≤ T.size → Fz T p → Fz T (PS.spansL T k g p l).1 ∧ (PS.spansL T k g p l).1.p ≤ T.size := by
  intro g
  induction g with
  | zero => intro p l hp h; exact ⟨h, hp⟩
  | succ g ih =>
    intro p l hp h
    rw [PS.spansL]
    split
    · have h1 := (nextp_le T p.p hp).1
      exact ih _ _ (span_p (s := p.step T) h1 l).2.1 ((h.step hp).span h1 l)
    · exact ⟨h, hp⟩
theorem class_fz {T : ByteArray} {p : PS} (h : Fz T p) (hp : p.p ≤ T.size) (names : List ByteArray) (l : List (Int × Int × Nat)) : Fz T (p.klass T names l) := by
  have hA := classA_fz h hp names
  have h2 := spansL_fz (T := T) (k := names.length) (T.size + 1) ((p.classA T names).span T l) (l ++ [((p.classA T names).spanX T, (p.classA T names).spanY T, names.length)]) (span_p hA.2.1 l).2.1 (hA.1.span hA.2.1 l)
  exact h2.1.need h2.2 _

theorem class_z {T : ByteArray} {s : RS} {p : PS} {l : List (Int × Int × Nat)} (h : Okz T s p) (hs : s.spans = spI l) (hm : memL [wClass] (p.tk T) = true) (hno : NamesOk s.names) :
    (Okz T (s.classes T) (p.klass T s.names l) ∧ (s.classes T).spans = spI (p.classB T s.names l).2 ∧ (s.classes T).names = s.names ++ [nameTok T s.names p] ∧ NamesOk (s.classes T).names) ∨ Badz T (s.classes T) (p.klass T s.names l) := by
  have hle := okz_le h
  have hfz := okz_fz h
  have hcf := class_fz hfz hle s.names l
  unfold RS.classes
  simp only
  by_cases h6 : s.names.length = 6
  · rw [if_pos (by show (s.take T).names.length = 6; exact h6)]
    right
    have hb := badz_fail (T := T) (s := s.take T) h.1 h.2.1 6 (by decide) (s.pos T : Int) (okz_pos h)
    have ec : p.classN T s.names.length = p.fail T 6 := by unfold PS.classN; rw [if_pos h6]
    have k1 : Stk (p.fail T 6) (p.klass T s.names l) := by
      rw [← ec]
      exact ((((stk_need T _ _).trans (stk_newName T s.names _)).trans (stk_need T _ _)).trans (stk_span T l _)).trans ((stk_spansL T s.names.length (T.size + 1) _ _).trans (stk_need T _ _))
    exact badz_keep hb rfl rfl k1 hcf
  · rw [if_neg (by show ¬ (s.take T).names.length = 6; exact h6)]
    have h1 := okz_take h
    have ec : (p.classN T s.names.length).need T [wClass] = p.step T := by
      have : p.classN T s.names.length = p := by unfold PS.classN; rw [if_neg h6]
      rw [this]; unfold PS.need; rw [hm]; rfl
    have hnt : nameTok T s.names p = tok T (s.take T).at_ := by unfold nameTok; rw [ec]; unfold tokp tok; rw [h1.2.2.1]
    have ht := okz_tk h1
    have hq := okz_pos h1
    have hle1 := okz_le h1
    have hnl : nameL ((s.take T).tk T) = (wordp T (p.step T).p && !memL six ((p.step T).tk T)) := by rw [ht]; exact nameL_word T _ hle1
    have h2 := okz_take h1
    have rest : ∀ (q : PS), Stk q ((p.step T).newName T s.names) → Stk q (p.klass T s.names l) := by
      intro q hk
      have e : p.klass T s.names l = ((PS.spansL T s.names.length (T.size + 1) ((((p.step T).newName T s.names).need T [sgn 61]).span T l) (l ++ [((((p.step T).newName T s.names).need T [sgn 61]).spanX T, (((p.step T).newName T s.names).need T [sgn 61]).spanY T, s.names.length)])).1).need T [sgn 59] := by
        unfold PS.klass PS.classB PS.classA; rw [ec]
      rw [e]
      exact (((hk.trans (stk_need T _ _)).trans (stk_span T l _)).trans (stk_spansL T s.names.length (T.size + 1) _ _)).trans (stk_need T _ _)
    have stop : ∀ (x : RS), x.err ≠ 0 → RS.spansL T (T.size + 2) x = x := fun x hx => by rw [RS.spansL, if_pos hx]
    cases hn : nameL ((s.take T).tk T)
    · right
      have hA : (p.step T).nameA T = (p.step T).fail T 2 := by unfold PS.nameA; rw [← hnl, hn]; rfl
      have hb := badz_fail (T := T) (s := (s.take T).take T) h2.1 h1.2.1 2 (by decide) ((s.take T).pos T : Int) hq
      simp only [Bool.false_eq_true, if_false]
      have e4 : (if 0 ≤ clsIx (((s.take T).take T).fail 2 ((s.take T).pos T)).names ((s.take T).tk T) then (((s.take T).take T).fail 2 ((s.take T).pos T)).fail 4 ((s.take T).pos T) else ((s.take T).take T).fail 2 ((s.take T).pos T)) = ((s.take T).take T).fail 2 ((s.take T).pos T) := by
        split
        · exact rs_fail_same hb.1 _ _
        · rfl
      rw [e4, if_neg hb.1, stop _ (by exact hb.1)]
      have k1 : Stk ((p.step T).fail T 2) ((p.step T).newName T s.names) := by
        unfold PS.newName; rw [hA]; exact (show Stk ((p.step T).fail T 2) (((p.step T).fail T 2).nameB T s.names ((p.step T).tk T)) from stk_if T _ 4).trans (stk_step T _)
      exact badz_keep hb rfl rfl (rest _ k1) hcf
    · have hA : (p.step T).nameA T = p.step T := by unfold PS.nameA; rw [← hnl, hn]; rfl
      simp only [if_true]
      by_cases hc : 0 ≤ clsIx s.names ((s.take T).tk T)
      · right
        have hb := badz_fail (T := T) (s := (s.take T).take T) h2.1 h1.2.1 4 (by decide) ((s.take T).pos T : Int) hq
        rw [if_pos (show 0 ≤ clsIx ((s.take T).take T).names ((s.take T).tk T) from hc), if_neg hb.1, stop _ (by exact hb.1)]
        have k1 : Stk ((p.step T).fail T 4) ((p.step T).newName T s.names) := by
          have : (p.step T).newName T s.names = ((p.step T).fail T 4).step T := by
            unfold PS.newName; rw [hA]; unfold PS.nameB; rw [← ht, if_pos hc]
          rw [this]; exact stk_step T _
        exact badz_keep hb rfl rfl (rest _ k1) hcf
      · rw [if_neg (show ¬ 0 ≤ clsIx ((s.take T).take T).names ((s.take T).tk T) from hc)]
        have hN : (p.step T).newName T s.names = (p.step T).step T := by
          unfold PS.newName; rw [hA]; unfold PS.nameB; rw [← ht, if_neg hc]
        have hA2 : p.classA T s.names = ((p.step T).step T).need T [sgn 61] := by unfold PS.classA; rw [ec, hN]
        have h5 : Okz T { (s.take T).take T with names := ((s.take T).take T).names ++ [tok T (s.take T).at_] } ((p.step T).step T) := h2
        rw [if_pos h5.1]
        rcases okz_want h5 61 with ⟨_, w2, w3⟩ | ⟨_, w3⟩
        · have hw : ({ (s.take T).take T with names := ((s.take T).take T).names ++ [tok T (s.take T).at_] } : RS).want T [61] = ({ (s.take T).take T with names := ((s.take T).take T).names ++ [tok T (s.take T).at_] } : RS).take T := w2
          have hnn : (({ (s.take T).take T with names := ((s.take T).take T).names ++ [tok T (s.take T).at_] } : RS).want T [61]).names = s.names ++ [tok T (s.take T).at_] := by rw [hw]; rfl
          have hss : (({ (s.take T).take T with names := ((s.take T).take T).names ++ [tok T (s.take T).at_] } : RS).want T [61]).spans = spI l := by rw [hw]; exact hs
          have := spans_z (k := s.names.length) (T.size + 2) _ _ l (T.size + 1) w3 hss (by rw [hnn]; simp) (by omega) (by omega)
          rw [← hA2] at this
          rcases this with ⟨a1, a2, a3⟩ | a1
          · left
            refine ⟨a1, a2, by rw [a3, hnn, hnt], ?_⟩
            rw [a3, hnn]
            intro x hx
            rcases List.mem_append.1 hx with hx | hx
            · exact hno x hx
            · simp at hx; subst hx; exact hn
          · right; exact a1
        · right
          rw [stop _ w3.1]
          have k1 : Stk (p.classA T s.names) (p.klass T s.names l) := (stk_span T l _).trans ((stk_spansL T s.names.length (T.size + 1) _ _).trans (stk_need T _ _))
          rw [hA2] at k1
          exact badz_keep w3 rfl rfl k1 hcf
end Go.Proofs.YtodagkkjfipbgaaGreatDoor
