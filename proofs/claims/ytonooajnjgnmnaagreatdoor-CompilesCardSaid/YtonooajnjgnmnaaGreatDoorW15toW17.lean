import Derived.Test.YtonooajnjgnmnaaGreatDoorW14
namespace Go.Proofs.YtonooajnjgnmnaaGreatDoor
open Go.RowKit

theorem tk_peek (T : ByteArray) (s : RS) : (s.peek T).tk T = s.tk T := by
  unfold RS.tk RS.peek tok; simp only; rw [skip_skip]
theorem manyX_size (x : Rx) : (manyX x).form.size ≤ x.form.size + 2 := by
  unfold manyX; split
  · show 1 ≤ _; omega
  · split
    · omega
    · show (⟨#[60]⟩ ++ x.form ++ ⟨#[62]⟩ : ByteArray).size ≤ _
      rw [sizeApp, sizeApp, size1, size1]; omega
theorem pq_size {K : Nat} {s : RS} {r : RS × Rx} {T : ByteArray} (h : PQ K s r) (hK : K ≤ 10000) (ha : r.1.at_ ≤ T.size) (hT : T.size ≤ 1000) : r.2.form.size ≤ 20000000 := by
  have h5 := h.2.2.2.2
  have hb : bit r.1 ≤ 1 := by unfold bit; split <;> omega
  have : K * (r.1.at_ - s.at_ + bit r.1) ≤ 10000 * 1001 := Nat.mul_le_mul hK (by omega)
  omega

set_option maxRecDepth 100000 in
set_option maxHeartbeats 4000000 in
theorem part_p (T : ByteArray) (sub : RS → RS × Rx) (K : Nat) (nst : Int) (hK : 10 ≤ K) (hK2 : K ≤ 1000) (ha : Parses T 68 (fun s => s.atom T sub) K nst) :
    Parses T 55 (fun s => s.part T sub) (3 * K) nst := by
  intro base b s w h herr hnst
  have HP : Hid (Parses T 68 (fun s => s.atom T sub) K nst) := ha
  have HE : Hid (s.err = 0) := herr
  have HNS : Hid (s.nest = nst) := hnst
  have hT : T.size ≤ 1000 := h.2.2.1
  clear ha herr hnst
  go_enter Tryz.func55, Tryz.ntmps55
  go_wp2_with fail
  refine (HP.out base b s _ h HE.out HNS.out).mono ?_
  rintro e1 w1 ⟨v1, d1, rfl, h1, hv1, r1, q1⟩
  obtain ⟨s1, hs1⟩ : ∃ s1, s1 = (s.atom T sub).1 := ⟨_, rfl⟩
  obtain ⟨x1, hx1⟩ : ∃ x1, x1 = (s.atom T sub).2 := ⟨_, rfl⟩
  have hA : s.atom T sub = (s1, x1) := by rw [hs1, hx1]
  have HA : Hid (s.atom T sub = (s1, x1)) := hA
  have h1' : RSt w1 base b T s1 := by rw [hs1]; exact h1
  have HV1 : Hid (IsRe d1 w1 v1 x1) := by rw [hx1]; exact hv1
  have HQ1 : Hid (PQ K s (s1, x1)) := by show PQ K s (s1, x1); rw [← hA]; exact q1
  clear hs1 hx1 hA h1 hv1 q1
  have hx1s : x1.form.size ≤ 20000000 := pq_size (T := T) HQ1.out (by omega) h1'.2.2.2.1.1 hT
  obtain ⟨vN, vS, vL, hblk, hrow, c0, c1, c2, c3, c4, c5, c6, c7, c8, hf⟩ := h1'.cells
  by_cases e0 : s1.err = 0
  · have k0 : (s1.err != 0) = false := by simp [e0]
    have E0 : Hid (s1.err = 0) := e0
    clear e0
    have hres : Hid (s.part T sub = RS.suffix T s1 x1) := by
      show s.part T sub = _
      unfold RS.part; rw [HA.out, if_neg (by simpa using E0.out)]
    go_wp2_with fail
    refine (peek_rs base b T s1 _ h1').mono ?_
    rintro e2 w2 ⟨rfl, h2, r2⟩
    obtain ⟨t1, ht1⟩ : ∃ t1, t1 = tok T s1.at_ := ⟨_, rfl⟩
    rw [← ht1]
    have HT1 : Hid (s1.tk T = t1.toList) := by rw [ht1]; rfl
    clear ht1 hblk hrow c0 c1 c2 c3 c4 c5 c6 c7 c8 hf
    have HV2 : Hid (IsRe d1 w2 v1 x1) := HV1.out.keep r2.2
    have hfin : ∀ (r : RS × Rx), r.1.names = s1.names → r.1.nest = s1.nest → s1.at_ ≤ r.1.at_ → r.2.form.size + 5 ≤ 3 * (x1.form.size + 5) → PQ (3 * K) s r := by
      intro r a1 a2 a3 a4
      obtain ⟨q1, q2, q3, q4, q5⟩ := HQ1.out
      have q3' : s.at_ ≤ s1.at_ := q3
      have q4' : s.at_ < s1.at_ := q4 E0.out
      refine ⟨a1.trans q1, a2.trans q2, by omega, fun _ => by omega, ?_⟩
      refine Nat.le_trans a4 ?_
      rw [Nat.mul_assoc]
      refine Nat.mul_le_mul_left 3 (Nat.le_trans q5 (Nat.mul_le_mul_left K ?_))
      show s1.at_ - s.at_ + bit s1 ≤ _
      rw [bit_zero E0.out]; omega
    have HFIN : Hid (∀ (r : RS × Rx), r.1.names = s1.names → r.1.nest = s1.nest → s1.at_ ≤ r.1.at_ → r.2.form.size + 5 ≤ 3 * (x1.form.size + 5) → PQ (3 * K) s r) := hfin
    clear hfin
    have hat1 : s1.at_ ≤ T.size := h1'.2.2.2.1.1
    have pa := peek_at T s1 hat1
    have ta := take_at T (s1.peek T) pa.1
    by_cases l1 : t1.toList = [42]
    · have k1 : (t1.toList == [42]) = true := by rw [beq_iff_eq]; exact l1
      have hres2 : Hid (s.part T sub = ((s1.peek T).take T, manyX x1)) := by show s.part T sub = _; rw [hres.out]; unfold RS.suffix; simp only; rw [if_pos (by rw [HT1.out]; exact l1)]
      clear l1
      go_wp2_with fail
      refine (take_rs base b T (s1.peek T) _ h2).mono ?_
      rintro e3 w3 ⟨rfl, h3, r3⟩
      go_wp2_with fail
      refine (many_any _ d1 v1 x1 (HV2.out.keep r3.2) (by omega)).mono ?_
      rintro e4 w4 ⟨v4, rfl, hv4, hb4⟩
      go_wp2_with fail
      go_ret
      obtain ⟨h4, r4⟩ := h3.below hb4
      refine ⟨_, _, rfl, by rw [hres2.out]; exact h4, by rw [hres2.out]; exact hv4, ((r1.trans r2).trans r3).trans r4, ?_⟩
      rw [hres2.out]
      have := manyX_size x1
      exact HFIN.out _ rfl rfl (by show s1.at_ ≤ ((s1.peek T).take T).at_; omega) (by show (manyX x1).form.size + 5 ≤ _; omega)
    · have k1 : (t1.toList == [42]) = false := by rw [beq_eq_false_iff_ne]; exact l1
      by_cases l2 : t1.toList = [43]
      · have k2 : (t1.toList == [43]) = true := by rw [beq_iff_eq]; exact l2
        have hres2 : Hid (s.part T sub = ((s1.peek T).take T, rowR x1 (manyX x1))) := by show s.part T sub = _; rw [hres.out]; unfold RS.suffix; simp only; rw [if_neg (by rw [HT1.out]; exact l1), if_pos (by rw [HT1.out]; exact l2)]
        clear l1 l2
        go_wp2_with fail
        refine (take_rs base b T (s1.peek T) _ h2).mono ?_
        rintro e3 w3 ⟨rfl, h3, r3⟩
        have HV3 : Hid (IsRe d1 w3 v1 x1) := HV2.out.keep r3.2
        go_wp2_with fail
        refine (many_any _ d1 v1 x1 HV3.out (by omega)).mono ?_
        rintro e4 w4 ⟨v4, rfl, hv4, hb4⟩
        have HV4 : Hid (IsRe (d1 + 1) w4 v4 (manyX x1)) := hv4
        clear hv4
        have hms := manyX_size x1
        obtain ⟨h4, r4⟩ := h3.below hb4
        go_wp2_with fail
        refine (row_any (x1.form.size + 1) _ (d1 + 1) v1 v4 x1 (manyX x1) (by omega) ((HV3.out.keep r4.2).mono (by omega)) HV4.out (by omega)).mono ?_
        rintro e5 w5 ⟨v5, d5, rfl, hv5, hs5, hb5⟩
        go_wp2_with fail
        go_ret
        obtain ⟨h5, r5⟩ := h4.below hb5
        refine ⟨_, _, rfl, by rw [hres2.out]; exact h5, by rw [hres2.out]; exact hv5, (((r1.trans r2).trans r3).trans r4).trans r5, ?_⟩
        rw [hres2.out]
        exact HFIN.out _ rfl rfl (by show s1.at_ ≤ ((s1.peek T).take T).at_; omega) (by show (rowX (x1.form.size + 1) x1 (manyX x1)).form.size + 5 ≤ _; omega)
      · have k2 : (t1.toList == [43]) = false := by rw [beq_eq_false_iff_ne]; exact l2
        by_cases l3 : t1.toList = [63]
        · have k3 : (t1.toList == [63]) = true := by rw [beq_iff_eq]; exact l3
          have hres2 : Hid (s.part T sub = ((s1.peek T).take T, eitherX x1 emptyX)) := by show s.part T sub = _; rw [hres.out]; unfold RS.suffix; simp only; rw [if_neg (by rw [HT1.out]; exact l1), if_neg (by rw [HT1.out]; exact l2), if_pos (by rw [HT1.out]; exact l3)]
          clear l1 l2 l3
          go_wp2_with fail
          refine (take_rs base b T (s1.peek T) _ h2).mono ?_
          rintro e3 w3 ⟨rfl, h3, r3⟩
          have HV3 : Hid (IsRe d1 w3 v1 x1) := HV2.out.keep r3.2
          go_wp2_with fail
          refine (empty_any _).mono ?_
          rintro e4 w4 ⟨v4, rfl, hv4, hb4⟩
          have HV4 : Hid (IsRe 1 w4 v4 emptyX) := hv4
          clear hv4
          have hes : emptyX.form.size = 1 := rfl
          obtain ⟨h4, r4⟩ := h3.below hb4
          have HES : Hid (emptyX.form.size = 1) := hes
          clear hes
          go_wp2_with fail
          refine (either_any _ (d1 + 1) v1 v4 x1 emptyX ((HV3.out.keep r4.2).mono (by omega)) (HV4.out.mono (by omega)) (by rw [HES.out]; omega)).mono ?_
          rintro e5 w5 ⟨v5, d5, rfl, hv5, hs5, hb5⟩
          go_wp2_with fail
          go_ret
          obtain ⟨h5, r5⟩ := h4.below hb5
          refine ⟨_, _, rfl, by rw [hres2.out]; exact h5, by rw [hres2.out]; exact hv5, (((r1.trans r2).trans r3).trans r4).trans r5, ?_⟩
          rw [hres2.out]
          rw [HES.out] at hs5
          exact HFIN.out _ rfl rfl (by show s1.at_ ≤ ((s1.peek T).take T).at_; omega) (by show (eitherX x1 emptyX).form.size + 5 ≤ _; omega)
        · have k3 : (t1.toList == [63]) = false := by rw [beq_eq_false_iff_ne]; exact l3
          have hres2 : Hid (s.part T sub = (s1.peek T, x1)) := by show s.part T sub = _; rw [hres.out]; unfold RS.suffix; simp only; rw [if_neg (by rw [HT1.out]; exact l1), if_neg (by rw [HT1.out]; exact l2), if_neg (by rw [HT1.out]; exact l3)]
          clear l1 l2 l3
          go_wp2_with fail
          go_ret
          refine ⟨_, _, rfl, by rw [hres2.out]; exact h2, by rw [hres2.out]; exact HV2.out, r1.trans r2, ?_⟩
          rw [hres2.out]
          exact HFIN.out _ rfl rfl (by show s1.at_ ≤ (s1.peek T).at_; omega) (by show x1.form.size + 5 ≤ _; omega)
  · have k0 : (s1.err != 0) = true := by simp [e0]
    have hres : Hid (s.part T sub = (s1, x1)) := by
      show s.part T sub = _
      unfold RS.part; rw [HA.out, if_pos (by simpa using e0)]
    clear e0
    go_wp2_with fail
    go_ret
    refine ⟨_, _, rfl, by rw [hres.out]; exact h1', by rw [hres.out]; exact HV1.out, r1, ?_⟩
    rw [hres.out]
    obtain ⟨q1, q2, q3, q4, q5⟩ := HQ1.out
    exact ⟨q1, q2, q3, q4, Nat.le_trans q5 (Nat.mul_le_mul_right _ (by omega))⟩
end Go.Proofs.YtonooajnjgnmnaaGreatDoor
namespace Go.Proofs.YtonooajnjgnmnaaGreatDoor
open Go.RowKit

theorem rowL_err {T : ByteArray} {sub : RS → RS × Rx} {g : Nat} {s : RS} {e : Rx} (h : s.err ≠ 0) : RS.rowL T sub g s e = (s, e) := by
  cases g with
  | zero => rfl
  | succ g => rw [RS.rowL, if_pos h]
theorem rowL_more {T : ByteArray} {sub : RS → RS × Rx} {g : Nat} {s : RS} {e : Rx} (h : s.err = 0) (hm : RS.moreL (s.tk T) = true) : RS.rowL T sub (g + 1) s e = RS.rowL T sub g ((s.peek T).part T sub).1 (rowR e ((s.peek T).part T sub).2) := by
  rw [RS.rowL, if_neg (by simpa using h), if_pos hm]
theorem rowL_end {T : ByteArray} {sub : RS → RS × Rx} {g : Nat} {s : RS} {e : Rx} (h : s.err = 0) (hm : RS.moreL (s.tk T) = false) : RS.rowL T sub (g + 1) s e = (s.peek T, e) := by
  rw [RS.rowL, if_neg (by simpa using h), if_neg (by simp [hm])]
theorem exprL_err {T : ByteArray} {sub : RS → RS × Rx} {g : Nat} {s : RS} {e : Rx} (h : s.err ≠ 0) : RS.exprL T sub g s e = (s, e) := by
  cases g with
  | zero => rfl
  | succ g => rw [RS.exprL, if_pos h]
theorem exprL_more {T : ByteArray} {sub : RS → RS × Rx} {g : Nat} {s : RS} {e : Rx} (h : s.err = 0) (hm : s.tk T = [47]) : RS.exprL T sub (g + 1) s e = RS.exprL T sub g (((s.peek T).take T).row T sub).1 (eitherX e (((s.peek T).take T).row T sub).2) := by
  rw [RS.exprL, if_neg (by simpa using h), if_pos hm]
theorem exprL_end {T : ByteArray} {sub : RS → RS × Rx} {g : Nat} {s : RS} {e : Rx} (h : s.err = 0) (hm : s.tk T ≠ [47]) : RS.exprL T sub (g + 1) s e = (s.peek T, e) := by
  rw [RS.exprL, if_neg (by simpa using h), if_neg hm]
/-- One piece more behind what is there. -/
theorem pq_more {K : Nat} {s s1 s2 s3 : RS} {x y z : Rx} (hq : PQ K s (s1, x)) (he : s1.err = 0) (h12 : s2.names = s1.names ∧ s2.nest = s1.nest ∧ s1.at_ ≤ s2.at_) (hq2 : PQ K s2 (s3, y)) (hz : z.form.size + 5 ≤ (x.form.size + 5) + (y.form.size + 5)) : PQ K s (s3, z) := by
  obtain ⟨a1, a2, a3, a4, a5⟩ := hq
  obtain ⟨b1, b2, b3, b4, b5⟩ := hq2
  obtain ⟨c1, c2, c3⟩ := h12
  have a3' : s.at_ ≤ s1.at_ := a3
  have b3' : s2.at_ ≤ s3.at_ := b3
  have a4' : s.at_ < s1.at_ := a4 he
  have b1' : s3.names = s2.names := b1
  have b2' : s3.nest = s2.nest := b2
  have a1' : s1.names = s.names := a1
  have a2' : s1.nest = s.nest := a2
  refine ⟨?_, ?_, by show s.at_ ≤ s3.at_; omega, fun _ => by show s.at_ < s3.at_; omega, ?_⟩
  · show s3.names = s.names; rw [b1', c1, a1']
  · show s3.nest = s.nest; rw [b2', c2, a2']
  · show z.form.size + 5 ≤ K * (s3.at_ - s.at_ + bit s3)
    have a5' : x.form.size + 5 ≤ K * (s1.at_ - s.at_ + bit s1) := a5
    have b5' : y.form.size + 5 ≤ K * (s3.at_ - s2.at_ + bit s3) := b5
    rw [bit_zero he] at a5'
    have e : K * (s1.at_ - s.at_ + 0) + K * (s3.at_ - s2.at_ + bit s3) = K * ((s1.at_ - s.at_ + 0) + (s3.at_ - s2.at_ + bit s3)) := (Nat.mul_add K _ _).symm
    have l : K * ((s1.at_ - s.at_ + 0) + (s3.at_ - s2.at_ + bit s3)) ≤ K * (s3.at_ - s.at_ + bit s3) := Nat.mul_le_mul_left K (by omega)
    omega
theorem pq_peek {K : Nat} {T : ByteArray} {s s1 : RS} {x : Rx} (hq : PQ K s (s1, x)) (he : s1.err = 0) (hat : s1.at_ ≤ T.size) : PQ K s (s1.peek T, x) := by
  obtain ⟨a1, a2, a3, a4, a5⟩ := hq
  have p := peek_at T s1 hat
  have a3' : s.at_ ≤ s1.at_ := a3
  have a4' : s.at_ < s1.at_ := a4 he
  refine ⟨a1, a2, by show s.at_ ≤ (s1.peek T).at_; omega, fun _ => by show s.at_ < (s1.peek T).at_; omega, ?_⟩
  refine Nat.le_trans a5 (Nat.mul_le_mul_left K ?_)
  show s1.at_ - s.at_ + bit s1 ≤ (s1.peek T).at_ - s.at_ + bit (s1.peek T)
  have : bit (s1.peek T) = bit s1 := rfl
  omega

set_option maxRecDepth 100000 in
set_option maxHeartbeats 4000000 in
theorem row_p (T : ByteArray) (sub : RS → RS × Rx) (K : Nat) (nst : Int) (hK2 : K ≤ 10000) (ha : Parses T 55 (fun s => s.part T sub) K nst) :
    Parses T 47 (fun s => s.row T sub) K nst := by
  intro base b s w h herr hnst
  have HP : Hid (Parses T 55 (fun s => s.part T sub) K nst) := ha
  have HE : Hid (s.err = 0) := herr
  have HNS : Hid (s.nest = nst) := hnst
  have hT : T.size ≤ 1000 := h.2.2.1
  clear ha herr hnst
  go_enter Tryz.func47, Tryz.ntmps47
  go_wp2_with fail
  refine (HP.out base b s _ h HE.out HNS.out).mono ?_
  rintro e1 w1 ⟨v1, d1, rfl, h1, hv1, r1, q1⟩
  have hR : Hid (s.row T sub = RS.rowL T sub (T.size + 2) (s.part T sub).1 (s.part T sub).2) := rfl
  go_wp2_with fail
  go_loopg [3] (T.size + 3) (fun g ev wx => ∃ (s' : RS) (x' : Rx) (d : Nat), RSt wx base b T s' ∧ RChg base w wx ∧ 0 < g ∧ Hid (IsRe d wx ev x') ∧ Hid (RS.rowL T sub (g - 1) s' x' = s.row T sub) ∧ Hid (s'.err ≠ 0 ∨ T.size < s'.at_ + (g - 1)) ∧ Hid (PQ K s (s', x')))
  case atStart => exact ⟨_, _, d1, h1, r1, by omega, hv1, hR, Or.inr (by omega), q1⟩
  case round =>
    obtain ⟨s', x', d, h2, r2, hg, HV, HL, HF, HQ⟩ := hrel
    have HG : Hid (0 < gk) := hg
    clear hg h1 r1 q1 hv1
    obtain ⟨w2, hw2⟩ : ∃ w2, w2 = wr := ⟨wr, rfl⟩
    subst hw2
    obtain ⟨vN, vS, vL, hblk, hrow, c0, c1, c2, c3, c4, c5, c6, c7, c8, hf⟩ := h2.cells
    have hat2 : s'.at_ ≤ T.size := h2.2.2.2.1.1
    by_cases e0 : s'.err = 0
    · have k0 : (s'.err == 0) = true := by rw [beq_iff_eq]; exact e0
      have E0 : Hid (s'.err = 0) := e0
      obtain ⟨g', hg'⟩ : ∃ g', gk = g' + 2 := ⟨gk - 2, by rcases HF.out with q | q; exact absurd e0 q; omega⟩
      have HG' : Hid (gk = g' + 2) := hg'
      have HFA : Hid (T.size < s'.at_ + (g' + 1)) := by
        show T.size < s'.at_ + (g' + 1)
        rcases HF.out with q | q
        · exact absurd e0 q
        · omega
      clear hg' e0
      have HL' : Hid (RS.rowL T sub (g' + 1) s' x' = s.row T sub) := by show _ = _; rw [← HL.out, HG'.out]; rfl
      have hx' : x'.form.size ≤ 20000000 := pq_size (T := T) HQ.out hK2 hat2 hT
      go_wp2_with fail
      refine (peek_rs base b T s' _ h2).mono ?_
      rintro e3 w3 ⟨rfl, h3, r3⟩
      obtain ⟨t1, ht1⟩ : ∃ t1, t1 = tok T s'.at_ := ⟨_, rfl⟩
      rw [← ht1]
      have HT1 : Hid (s'.tk T = t1.toList) := by rw [ht1]; rfl
      clear ht1 hblk hrow c0 c1 c2 c3 c4 c5 c6 c7 c8 hf
      have HV3 : Hid (IsRe d w3 u3 x') := HV.out.keep r3.2
      have hat3 : (s'.peek T).at_ ≤ T.size := h3.2.2.2.1.1
      cases hm : RS.moreL t1.toList
      · have hcase : (((t1.toList == [40]) = false ∧ t1.toList.isEmpty = true) ∨ ((t1.toList == [40]) = false ∧ t1.toList.isEmpty = false ∧ ∃ hp : 0 < t1.size, letterN (t1[0].toNat) = false)) := by
          unfold RS.moreL at hm
          simp only [Bool.or_eq_false_iff, decide_eq_false_iff_not] at hm
          by_cases hn : t1.toList = []
          · left; exact ⟨by rw [beq_eq_false_iff_ne]; exact hm.1, by simp [hn]⟩
          · have hp : 0 < t1.size := by
              rcases Nat.eq_zero_or_pos t1.size with e | e
              · exfalso; apply hn; rw [ByteArray.toList_eq]; exact List.eq_nil_of_length_eq_zero (by simpa using e)
              · exact e
            right; refine ⟨by rw [beq_eq_false_iff_ne]; exact hm.1, by simpa using hn, hp, ?_⟩
            have := hm.2
            simp only [hn, decide_not, decide_false, Bool.not_false, Bool.true_and] at this
            rw [headD_bytes t1 hp] at this; exact this
        have hres : Hid (s.row T sub = (s'.peek T, x')) := by show _ = _; rw [← HL'.out, rowL_end E0.out (by rw [HT1.out]; exact hm)]
        clear hm
        rcases hcase with ⟨j1, j2⟩ | ⟨j1, j2, hp, j3⟩
        all_goals
          go_wp2_with (go_at_call 19; refine (letter_any _ _).mono ?_; rintro e9 w9 ⟨rfl, rfl⟩)
          go_ret
          refine ⟨_, d, rfl, by show RSt _ _ _ _ (s.row T sub).1; rw [hres.out]; exact h3, by show IsRe _ _ _ (s.row T sub).2; rw [hres.out]; exact HV3.out, r2.trans r3, ?_⟩
          show PQ K s (s.row T sub); rw [hres.out]; exact pq_peek HQ.out E0.out hat2
      · have hcase : (((t1.toList == [40]) = true ∧ t1.toList.isEmpty = false) ∨ ((t1.toList == [40]) = false ∧ t1.toList.isEmpty = false ∧ ∃ hp : 0 < t1.size, letterN (t1[0].toNat) = true)) := by
          unfold RS.moreL at hm
          by_cases h40 : t1.toList = [40]
          · left; exact ⟨by rw [beq_iff_eq]; exact h40, by simp [h40]⟩
          · simp only [h40, decide_false, Bool.false_or, Bool.and_eq_true, decide_eq_true_eq] at hm
            have hn := hm.1
            have hp : 0 < t1.size := by
              rcases Nat.eq_zero_or_pos t1.size with e | e
              · exfalso; apply hn; rw [ByteArray.toList_eq]; exact List.eq_nil_of_length_eq_zero (by simpa using e)
              · exact e
            right; refine ⟨by rw [beq_eq_false_iff_ne]; exact h40, by simpa using hn, hp, ?_⟩
            have := hm.2
            rw [headD_bytes t1 hp] at this; exact this
        have hres : Hid (RS.rowL T sub g' ((s'.peek T).part T sub).1 (rowR x' ((s'.peek T).part T sub).2) = s.row T sub) := by show _ = _; rw [← HL'.out, rowL_more E0.out (by rw [HT1.out]; exact hm)]
        have HP3 : Hid ((s'.peek T).err = 0 ∧ (s'.peek T).nest = nst) := ⟨E0.out, by have := HQ.out.2.1; show s'.nest = nst; exact (show s'.nest = s.nest from this).trans HNS.out⟩
        clear hm
        rcases hcase with ⟨j1, j2⟩ | ⟨j1, j2, hp, j3⟩
        all_goals
          go_wp2_with (go_at_call 19; refine (letter_any _ _).mono ?_; rintro e9 w9 ⟨rfl, rfl⟩)
          refine (HP.out base b (s'.peek T) _ h3 HP3.out.1 HP3.out.2).mono ?_
          rintro e4 w4 ⟨v4, d4, rfl, h4, hv4, r4, q4⟩
          have HV4 : Hid (IsRe d4 w4 v4 ((s'.peek T).part T sub).2) := hv4
          have HQ4 : Hid (PQ K (s'.peek T) ((s'.peek T).part T sub)) := q4
          have hy : ((s'.peek T).part T sub).2.form.size ≤ 20000000 := pq_size (T := T) q4 hK2 h4.2.2.2.1.1 hT
          clear hv4 q4
          go_wp2_with fail
          refine (row_any (x'.form.size + 1) _ (d + d4) u3 v4 x' ((s'.peek T).part T sub).2 (by omega) ((HV3.out.keep r4.2).mono (by omega)) (HV4.out.mono (by omega)) (by omega)).mono ?_
          rintro e5 w5 ⟨v5, d5, rfl, hv5, hs5, hb5⟩
          obtain ⟨h5, r5⟩ := h4.below hb5
          have HV5 : Hid (IsRe d5 w5 v5 (rowR x' ((s'.peek T).part T sub).2)) := hv5
          clear hv5
          go_wp2_with fail
          go_roundg (g' + 1)
          case measure => have := HG'.out; omega
          case rel =>
            have hpa := peek_at T s' hat2
            have hq5 : PQ K s (((s'.peek T).part T sub).1, rowR x' ((s'.peek T).part T sub).2) := pq_more (s2 := s'.peek T) (y := ((s'.peek T).part T sub).2) HQ.out E0.out ⟨rfl, rfl, hpa.2⟩ HQ4.out (by show (rowX (x'.form.size + 1) x' ((s'.peek T).part T sub).2).form.size + 5 ≤ _; omega)
            refine ⟨_, _, d5, h5, ((r2.trans r3).trans r4).trans r5, by omega, HV5, hres, ?_, hq5⟩
            by_cases e6 : ((s'.peek T).part T sub).1.err = 0
            · refine Or.inr ?_
              have a1 : (s'.peek T).at_ < ((s'.peek T).part T sub).1.at_ := HQ4.out.2.2.2.1 e6
              have a2 := HFA.out
              show T.size < ((s'.peek T).part T sub).1.at_ + (g' + 1 - 1)
              omega
            · exact Or.inl e6
    · have k0 : (s'.err == 0) = false := by rw [beq_eq_false_iff_ne]; exact e0
      have hres : Hid (s.row T sub = (s', x')) := by show _ = _; rw [← HL.out, rowL_err e0]
      clear e0
      go_wp2_with fail
      go_ret
      refine ⟨_, d, rfl, by show RSt _ _ _ _ (s.row T sub).1; rw [hres.out]; exact h2, by show IsRe _ _ _ (s.row T sub).2; rw [hres.out]; exact HV.out, r2, ?_⟩
      show PQ K s (s.row T sub); rw [hres.out]; exact HQ.out

set_option maxRecDepth 100000 in
set_option maxHeartbeats 4000000 in
theorem expr_p (T : ByteArray) (sub : RS → RS × Rx) (K : Nat) (nst : Int) (hK2 : K ≤ 10000) (ha : Parses T 47 (fun s => s.row T sub) K nst) :
    Parses T 39 (fun s => s.exprS T sub) K nst := by
  intro base b s w h herr hnst
  have HP : Hid (Parses T 47 (fun s => s.row T sub) K nst) := ha
  have HE : Hid (s.err = 0) := herr
  have HNS : Hid (s.nest = nst) := hnst
  have hT : T.size ≤ 1000 := h.2.2.1
  clear ha herr hnst
  go_enter Tryz.func39, Tryz.ntmps39
  go_wp2_with fail
  refine (HP.out base b s _ h HE.out HNS.out).mono ?_
  rintro e1 w1 ⟨v1, d1, rfl, h1, hv1, r1, q1⟩
  have hR : Hid (s.exprS T sub = RS.exprL T sub (T.size + 2) (s.row T sub).1 (s.row T sub).2) := rfl
  go_wp2_with fail
  go_loopg [3] (T.size + 3) (fun g ev wx => ∃ (s' : RS) (x' : Rx) (d : Nat), RSt wx base b T s' ∧ RChg base w wx ∧ 0 < g ∧ Hid (IsRe d wx ev x') ∧ Hid (RS.exprL T sub (g - 1) s' x' = s.exprS T sub) ∧ Hid (s'.err ≠ 0 ∨ T.size < s'.at_ + (g - 1)) ∧ Hid (PQ K s (s', x')))
  case atStart => exact ⟨_, _, d1, h1, r1, by omega, hv1, hR, Or.inr (by omega), q1⟩
  case round =>
    obtain ⟨s', x', d, h2, r2, hg, HV, HL, HF, HQ⟩ := hrel
    have HG : Hid (0 < gk) := hg
    clear hg h1 r1 q1 hv1
    obtain ⟨w2, hw2⟩ : ∃ w2, w2 = wr := ⟨wr, rfl⟩
    subst hw2
    obtain ⟨vN, vS, vL, hblk, hrow, c0, c1, c2, c3, c4, c5, c6, c7, c8, hf⟩ := h2.cells
    have hat2 : s'.at_ ≤ T.size := h2.2.2.2.1.1
    by_cases e0 : s'.err = 0
    · have k0 : (s'.err == 0) = true := by rw [beq_iff_eq]; exact e0
      have E0 : Hid (s'.err = 0) := e0
      obtain ⟨g', hg'⟩ : ∃ g', gk = g' + 2 := ⟨gk - 2, by rcases HF.out with q | q; exact absurd e0 q; omega⟩
      have HG' : Hid (gk = g' + 2) := hg'
      have HFA : Hid (T.size < s'.at_ + (g' + 1)) := by
        show T.size < s'.at_ + (g' + 1)
        rcases HF.out with q | q
        · exact absurd e0 q
        · omega
      clear hg' e0
      have HL' : Hid (RS.exprL T sub (g' + 1) s' x' = s.exprS T sub) := by show _ = _; rw [← HL.out, HG'.out]; rfl
      have hx' : x'.form.size ≤ 20000000 := pq_size (T := T) HQ.out hK2 hat2 hT
      go_wp2_with fail
      refine (peek_rs base b T s' _ h2).mono ?_
      rintro e3 w3 ⟨rfl, h3, r3⟩
      obtain ⟨t1, ht1⟩ : ∃ t1, t1 = tok T s'.at_ := ⟨_, rfl⟩
      rw [← ht1]
      have HT1 : Hid (s'.tk T = t1.toList) := by rw [ht1]; rfl
      clear ht1 hblk hrow c0 c1 c2 c3 c4 c5 c6 c7 c8 hf
      have HV3 : Hid (IsRe d w3 u3 x') := HV.out.keep r3.2
      have hat3 : (s'.peek T).at_ ≤ T.size := h3.2.2.2.1.1
      by_cases hm : t1.toList = [47]
      · have j1 : (t1.toList == [47]) = true := by rw [beq_iff_eq]; exact hm
        have hres : Hid (RS.exprL T sub g' (((s'.peek T).take T).row T sub).1 (eitherX x' (((s'.peek T).take T).row T sub).2) = s.exprS T sub) := by show _ = _; rw [← HL'.out, exprL_more E0.out (by rw [HT1.out]; exact hm)]
        have HP3 : Hid (((s'.peek T).take T).err = 0 ∧ ((s'.peek T).take T).nest = nst) := ⟨E0.out, by have := HQ.out.2.1; show s'.nest = nst; exact (show s'.nest = s.nest from this).trans HNS.out⟩
        clear hm
        go_wp2_with fail
        refine (take_rs base b T (s'.peek T) _ h3).mono ?_
        rintro e8 w8 ⟨rfl, h8, r8⟩
        go_wp2_with fail
        refine (HP.out base b ((s'.peek T).take T) _ h8 HP3.out.1 HP3.out.2).mono ?_
        rintro e4 w4 ⟨v4, d4, rfl, h4, hv4, r4, q4⟩
        have HV4 : Hid (IsRe d4 w4 v4 (((s'.peek T).take T).row T sub).2) := hv4
        have HQ4 : Hid (PQ K ((s'.peek T).take T) (((s'.peek T).take T).row T sub)) := q4
        have hy : (((s'.peek T).take T).row T sub).2.form.size ≤ 20000000 := pq_size (T := T) q4 hK2 h4.2.2.2.1.1 hT
        clear hv4 q4
        go_wp2_with fail
        refine (either_any _ (d + d4) u3 v4 x' (((s'.peek T).take T).row T sub).2 (((HV3.out.keep r8.2).keep r4.2).mono (by omega)) (HV4.out.mono (by omega)) (by omega)).mono ?_
        rintro e5 w5 ⟨v5, d5, rfl, hv5, hs5, hb5⟩
        obtain ⟨h5, r5⟩ := h4.below hb5
        have HV5 : Hid (IsRe d5 w5 v5 (eitherX x' (((s'.peek T).take T).row T sub).2)) := hv5
        clear hv5
        go_wp2_with fail
        go_roundg (g' + 1)
        case measure => have := HG'.out; omega
        case rel =>
          have hpa := peek_at T s' hat2
          have hta := take_at T (s'.peek T) hat3
          have hq5 : PQ K s ((((s'.peek T).take T).row T sub).1, eitherX x' (((s'.peek T).take T).row T sub).2) := pq_more (s2 := (s'.peek T).take T) (y := (((s'.peek T).take T).row T sub).2) HQ.out E0.out ⟨rfl, rfl, by omega⟩ HQ4.out (by omega)
          refine ⟨_, _, d5, h5, (((r2.trans r3).trans r8).trans r4).trans r5, by omega, HV5, hres, ?_, hq5⟩
          by_cases e6 : (((s'.peek T).take T).row T sub).1.err = 0
          · refine Or.inr ?_
            have a1 : ((s'.peek T).take T).at_ < (((s'.peek T).take T).row T sub).1.at_ := HQ4.out.2.2.2.1 e6
            have a2 := HFA.out
            show T.size < (((s'.peek T).take T).row T sub).1.at_ + (g' + 1 - 1)
            omega
          · exact Or.inl e6
      · have j1 : (t1.toList == [47]) = false := by rw [beq_eq_false_iff_ne]; exact hm
        have hres : Hid (s.exprS T sub = (s'.peek T, x')) := by show _ = _; rw [← HL'.out, exprL_end E0.out (by rw [HT1.out]; exact hm)]
        clear hm
        go_wp2_with fail
        go_ret
        refine ⟨_, d, rfl, by show RSt _ _ _ _ (s.exprS T sub).1; rw [hres.out]; exact h3, by show IsRe _ _ _ (s.exprS T sub).2; rw [hres.out]; exact HV3.out, r2.trans r3, ?_⟩
        show PQ K s (s.exprS T sub); rw [hres.out]; exact pq_peek HQ.out E0.out hat2
    · have k0 : (s'.err == 0) = false := by rw [beq_eq_false_iff_ne]; exact e0
      have hres : Hid (s.exprS T sub = (s', x')) := by show _ = _; rw [← HL.out, exprL_err e0]
      clear e0
      go_wp2_with fail
      go_ret
      refine ⟨_, d, rfl, by show RSt _ _ _ _ (s.exprS T sub).1; rw [hres.out]; exact h2, by show IsRe _ _ _ (s.exprS T sub).2; rw [hres.out]; exact HV.out, r2, ?_⟩
      show PQ K s (s.exprS T sub); rw [hres.out]; exact HQ.out

/-- An Expr within which n brackets more may open. -/
theorem expr_all (hI : ItoaOk) (T : ByteArray) (n : Nat) : n ≤ 4 → Parses T 39 (RS.expr T n) (10 * 3 ^ (n + 1)) (4 - (n : Int)) := by
  induction n with
  | zero =>
    intro _
    have h1 := atom_p hI T (fun s => (s, neverX)) 10 4 (by omega) (by omega) (by omega) (fun h => absurd rfl h)
    exact expr_p T _ 30 4 (by omega) (row_p T _ 30 4 (by omega) (part_p T _ 10 4 (by omega) (by omega) h1))
  | succ n ih =>
    intro hn
    have hi := ih (by omega)
    have hk : 10 ≤ 10 * 3 ^ (n + 1) ∧ 10 * 3 ^ (n + 1) ≤ 810 := by
      have : n = 0 ∨ n = 1 ∨ n = 2 ∨ n = 3 := by omega
      rcases this with rfl | rfl | rfl | rfl <;> decide
    have e : 4 - ((n + 1 : Nat) : Int) + 1 = 4 - (n : Int) := by omega
    have h1 := atom_p hI T (RS.expr T n) (10 * 3 ^ (n + 1)) (4 - ((n + 1 : Nat) : Int)) hk.1 (by omega) (by omega) (fun _ => by rw [e]; exact hi)
    have h2 := part_p T _ _ _ hk.1 (by omega) h1
    have e3 : 3 * (10 * 3 ^ (n + 1)) = 10 * 3 ^ (n + 1 + 1) := by rw [Nat.pow_succ 3 (n + 1)]; omega
    rw [e3] at h2
    exact expr_p T _ _ _ (by omega) (row_p T _ _ _ (by omega) h2)
end Go.Proofs.YtonooajnjgnmnaaGreatDoor
namespace Go.Proofs.YtonooajnjgnmnaaGreatDoor
open Go.RowKit

/- What the pieces of an Expr leave of the rules. -/
theorem want_L (T : ByteArray) (s : RS) (l : List UInt8) : (s.want T l).L = s.L := (want_same T s l).2.2.1
theorem closeB_L (T : ByteArray) (s : RS) : (s.closeB T).L = s.L := by
  unfold RS.closeB; simp only; split
  · rw [want_L]
  · rfl
theorem atomLeaf_L (T : ByteArray) (s : RS) : (s.atomLeaf T).1.L = s.L := by
  unfold RS.atomLeaf RS.leafMany; simp only
  have h := (leafErr_same (s.take T) (s.tk T) (s.pos T)).2.2.1
  split
  · show ((((s.take T).leafErr (s.tk T) (s.pos T)).fail 6 (s.pos T))).L = _
    rw [(fail_same _ _ _).2.2.1, h]; rfl
  · exact h.trans rfl
theorem atom_L (T : ByteArray) (sub : RS → RS × Rx) (hs : ∀ s, (sub s).1.L = s.L) (s : RS) : (s.atom T sub).1.L = s.L := by
  unfold RS.atom; split
  · split
    · show ((s.take T).fail 6 (s.pos T)).L = _
      rw [(fail_same _ _ _).2.2.1]; rfl
    · show ((sub _).1.closeB T).L = _
      rw [closeB_L, hs]; rfl
  · exact atomLeaf_L T s
theorem part_L (T : ByteArray) (sub : RS → RS × Rx) (hs : ∀ s, (sub s).1.L = s.L) (s : RS) : (s.part T sub).1.L = s.L := by
  unfold RS.part; split
  · exact atom_L T sub hs s
  · unfold RS.suffix; simp only
    split
    · exact atom_L T sub hs s
    · split
      · exact atom_L T sub hs s
      · split
        · exact atom_L T sub hs s
        · exact atom_L T sub hs s
theorem rowL_L (T : ByteArray) (sub : RS → RS × Rx) (hs : ∀ s, (sub s).1.L = s.L) (g : Nat) : ∀ s e, (RS.rowL T sub g s e).1.L = s.L := by
  induction g with
  | zero => intro s e; rfl
  | succ g ih =>
    intro s e; rw [RS.rowL]; split
    · rfl
    · split
      · rw [ih, part_L T sub hs]; rfl
      · rfl
theorem row_L (T : ByteArray) (sub : RS → RS × Rx) (hs : ∀ s, (sub s).1.L = s.L) (s : RS) : (s.row T sub).1.L = s.L := by
  unfold RS.row; rw [rowL_L T sub hs, part_L T sub hs]
theorem exprL_L (T : ByteArray) (sub : RS → RS × Rx) (hs : ∀ s, (sub s).1.L = s.L) (g : Nat) : ∀ s e, (RS.exprL T sub g s e).1.L = s.L := by
  induction g with
  | zero => intro s e; rfl
  | succ g ih =>
    intro s e; rw [RS.exprL]; split
    · rfl
    · split
      · rw [ih, row_L T sub hs]; rfl
      · rfl
theorem exprS_L (T : ByteArray) (sub : RS → RS × Rx) (hs : ∀ s, (sub s).1.L = s.L) (s : RS) : (s.exprS T sub).1.L = s.L := by
  unfold RS.exprS; rw [exprL_L T sub hs, row_L T sub hs]
theorem expr_L (T : ByteArray) (n : Nat) : ∀ s, (RS.expr T n s).1.L = s.L := by
  induction n with
  | zero => intro s; exact exprS_L T _ (fun _ => rfl) s
  | succ n ih => intro s; exact exprS_L T _ ih s
theorem endB_L (T : ByteArray) (s : RS) (l : List UInt8) : (s.endB T l).L = s.L := by
  unfold RS.endB; split
  · exact want_L T s l
  · rfl
theorem side_L (T : ByteArray) (s : RS) (l : List UInt8) : (s.side T l).1.L = s.L := by
  unfold RS.side; simp only; split
  · rw [endB_L]; rfl
  · rw [endB_L, expr_L]; rfl
theorem endB_at (T : ByteArray) (s : RS) (l : List UInt8) (hat : s.at_ ≤ T.size) : s.at_ ≤ (s.endB T l).at_ ∧ (s.endB T l).nest = s.nest ∧ (s.endB T l).names = s.names := by
  unfold RS.endB; split
  · have w := want_same T s l
    have t := take_at T s hat
    exact ⟨by rw [w.2.2.2.1]; exact t.2.1, w.2.2.2.2.2, w.1⟩
  · exact ⟨Nat.le_refl _, rfl, rfl⟩

set_option maxRecDepth 100000 in
set_option maxHeartbeats 4000000 in
theorem side_rs (hI : ItoaOk) (T : ByteArray) (base b : Nat) (s : RS) (x : ByteArray) (w : World) (h : RSt w base b T s) (herr : s.err = 0) (hnst : s.nest = 0) :
    Calls Tryz.prog 26 #[.pointer (some ⟨b, 0, none⟩), .string x] w fun e w' => ∃ v d, e = .returned v ∧ RSt w' base b T (s.side T x.toList).1 ∧ IsRe d w' v (s.side T x.toList).2 ∧ RChg base w w' ∧ (s.side T x.toList).1.nest = 0 ∧ s.at_ ≤ (s.side T x.toList).1.at_ := by
  have HP : Hid (Parses T 39 (RS.expr T 4) 2430 0) := expr_all hI T 4 (by omega)
  have HE : Hid (s.err = 0) := herr
  have HNS : Hid (s.nest = 0) := hnst
  clear hI herr hnst
  obtain ⟨vN, vS, vL, hblk, hrow, c0, c1, c2, c3, c4, c5, c6, c7, c8, hf⟩ := h.cells
  have hok0 : ({ s with atoms := 0 } : RS).Ok T := by
    obtain ⟨p1, p2, p3, p4, p5, p6, p7, p8, p9⟩ := h.2.2.2.1
    exact ⟨p1, p2, p3, p4, by show (0 : Int) ≤ 0; omega, by show (0 : Int) ≤ 5; omega, p7, p8, fun e => ⟨(p9 e).1, by show (0 : Int) ≤ 4; omega, (p9 e).2.2⟩⟩
  obtain ⟨h1, r1⟩ := h.setAtoms 0 hok0
  obtain ⟨s1, hs1⟩ : ∃ s1 : RS, s1 = { s with atoms := 0 } := ⟨_, rfl⟩
  rw [← hs1] at h1
  have HS1 : Hid (s1 = { s with atoms := 0 }) := hs1
  have A1 : Hid (s1.at_ = s.at_ ∧ s1.err = s.err ∧ s1.nest = s.nest) := by rw [hs1]; exact ⟨rfl, rfl, rfl⟩
  clear hs1 hok0
  go_enter Tryz.func26, Tryz.ntmps26
  go_wp2_with fail
  refine (empty_any _).mono ?_
  rintro e2 w2 ⟨v2, rfl, hv2, hb2⟩
  obtain ⟨h2, r2⟩ := h1.below hb2
  have HV2 : Hid (IsRe 1 w2 v2 emptyX) := hv2
  clear hv2 hblk hrow c0 c1 c2 c3 c4 c5 c6 c7 c8 hf
  go_wp2_with fail
  refine (peek_rs base b T s1 _ h2).mono ?_
  rintro e3 w3 ⟨rfl, h3, r3⟩
  obtain ⟨t1, ht1⟩ : ∃ t1, t1 = tok T s1.at_ := ⟨_, rfl⟩
  rw [← ht1]
  have HT1 : Hid ((s1.peek T).tk T = t1.toList) := by rw [ht1]; exact tk_peek T s1
  clear ht1
  have hat1 : s1.at_ ≤ T.size := h1.2.2.2.1.1
  have pa := peek_at T s1 hat1
  obtain ⟨B, hB⟩ : ∃ B, B = (t1.toList == x.toList) := ⟨_, rfl⟩
  have HB : Hid (B = (t1.toList == x.toList)) := hB
  clear hB
  go_upto_if 19 with fail
  rw [← HB.out]
  go_cut [5, 6, 7] (fun ev _ _ wx => ∃ (s4 : RS) (x4 : Rx) (d : Nat), RSt wx base b T s4 ∧ RChg base w wx ∧ Hid (IsRe d wx ev x4) ∧ Hid (s.side T x.toList = (s4.endB T x.toList, x4)) ∧ Hid (s4.nest = 0 ∧ s.at_ ≤ s4.at_))
  case first =>
    cases B
    rotate_left
    · have l1 : t1.toList = x.toList := by have := HB.out.symm; rw [beq_iff_eq] at this; exact this
      have hres : Hid (s.side T x.toList = ((s1.peek T).endB T x.toList, emptyX)) := by show s.side T x.toList = _; unfold RS.side; simp only; rw [← HS1.out, if_pos (by rw [HT1.out]; exact l1)]
      clear l1
      go_wp2_with fail
      go_meet
      exact ⟨s1.peek T, emptyX, 1, h3, (r1.trans r2).trans r3, HV2.out.keep r3.2, hres, A1.out.2.2.trans HNS.out, by have := A1.out.1; omega⟩
    · have l1 : ¬ t1.toList = x.toList := by have := HB.out.symm; rw [beq_eq_false_iff_ne] at this; exact this
      have hres : Hid (s.side T x.toList = ((RS.expr T 4 (s1.peek T)).1.endB T x.toList, (RS.expr T 4 (s1.peek T)).2)) := by show s.side T x.toList = _; unfold RS.side; simp only; rw [← HS1.out, if_neg (by rw [HT1.out]; exact l1)]
      clear l1
      go_wp2_with fail
      refine (HP.out base b (s1.peek T) _ h3 (A1.out.2.1.trans HE.out) (A1.out.2.2.trans HNS.out)).mono ?_
      rintro e4 w4 ⟨v4, d4, rfl, h4, hv4, r4, q4⟩
      go_wp2_with fail
      go_meet
      exact ⟨_, _, d4, h4, ((r1.trans r2).trans r3).trans r4, hv4, hres, q4.2.1.trans (A1.out.2.2.trans HNS.out), by have := A1.out.1; have := q4.2.2.1; omega⟩
  case rest =>
    obtain ⟨s4, x4, d, h4, r4, HV4, HR4, HN4⟩ := hcut
    obtain ⟨w4, hw4⟩ : ∃ w4, w4 = wc := ⟨wc, rfl⟩
    subst hw4
    obtain ⟨vN, vS, vL, hblk, hrow, c0, c1, c2, c3, c4, c5, c6, c7, c8, hf⟩ := h4.cells
    have ha4 : s4.at_ ≤ T.size := h4.2.2.2.1.1
    have hen := endB_at T s4 x.toList ha4
    have HEN : Hid (s4.at_ ≤ (s4.endB T x.toList).at_ ∧ (s4.endB T x.toList).nest = s4.nest ∧ (s4.endB T x.toList).names = s4.names) := hen
    clear hen
    by_cases e0 : s4.err = 0
    · have k0 : (s4.err == 0) = true := by rw [beq_iff_eq]; exact e0
      have hb : Hid (s4.endB T x.toList = s4.want T x.toList) := by show _ = _; unfold RS.endB; rw [if_pos e0]
      clear e0
      go_wp2_with fail
      refine (want_rs base b T s4 x _ h4).mono ?_
      rintro e5 w5 ⟨rfl, h5, r5⟩
      go_wp2_with fail
      go_ret
      refine ⟨_, d, rfl, by rw [HR4.out, hb.out]; exact h5, by rw [HR4.out]; exact HV4.out.keep r5.2, r4.trans r5, by rw [HR4.out]; exact HEN.out.2.1.trans HN4.out.1, by rw [HR4.out]; exact Nat.le_trans HN4.out.2 HEN.out.1⟩
    · have k0 : (s4.err == 0) = false := by rw [beq_eq_false_iff_ne]; exact e0
      have hb : Hid (s4.endB T x.toList = s4) := by show _ = _; unfold RS.endB; rw [if_neg e0]
      clear e0
      go_wp2_with fail
      go_ret
      refine ⟨_, d, rfl, by rw [HR4.out, hb.out]; exact h4, by rw [HR4.out]; exact HV4.out, r4, by rw [HR4.out]; exact HEN.out.2.1.trans HN4.out.1, by rw [HR4.out]; exact Nat.le_trans HN4.out.2 HEN.out.1⟩
end Go.Proofs.YtonooajnjgnmnaaGreatDoor
