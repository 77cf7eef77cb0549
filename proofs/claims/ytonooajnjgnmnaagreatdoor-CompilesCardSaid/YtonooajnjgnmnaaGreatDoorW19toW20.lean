import Derived.Test.YtonooajnjgnmnaaGreatDoorW18
import Derived.Test.YtonooajnjgnmnaaGreatDoorI
namespace Go.Proofs.YtonooajnjgnmnaaGreatDoor
open Go.RowKit

theorem itoa_ok : ItoaOk := by
  intro n w hn ht h2
  rcases hn with hn | hn
  · refine (itoa_small n hn w).mono ?_
    rintro e w' ⟨rfl, rfl⟩
    exact ⟨rfl, Below.refl _ _⟩
  · exact itoa_great n hn w ht h2

/-- The list of rules lies below a block. -/
def LBelow (w : World) (b lim : Nat) : Prop := ∃ cs : Array Value, w.heap[b]? = some (.cells cs 35 (0, 0)) ∧ ∀ v k, cs[6]? = some v → v.ownBlock = some k → k < lim
theorem LBelow.kl {w w' : World} {b lim : Nat} (h : LBelow w b lim) (hk : KL w w') : LBelow w' b lim := by
  obtain ⟨cs, hh, h2⟩ := h
  obtain ⟨cs', hh', e⟩ := hk b cs hh
  exact ⟨cs', hh', fun v k hv hk => h2 v k (by rw [← e]; exact hv) hk⟩
theorem RSt.lbelow {w : World} {base b : Nat} {T : ByteArray} {s : RS} (h : RSt w base b T s) : LBelow w b w.heap.size := by
  obtain ⟨g, hbb, hT, hok, ht, vN, vS, vL, hblk, hN, hS, vs, hL, har⟩ := h
  refine ⟨_, hblk, fun v k hv hk => ?_⟩
  have hv' : vL = v := Option.some.inj hv
  subst hv'
  exact (hL.lt k hk).2
theorem LBelow.at {w : World} {b lim : Nat} {T : ByteArray} {s : RS} {vN vS vL : Value} (h : LBelow w b lim) (hb : Blk w b T s vN vS vL) : ∀ k, vL.ownBlock = some k → k < lim := by
  obtain ⟨cs, hh, h2⟩ := h
  have hb' := hb
  unfold Blk at hb'
  rw [hb'] at hh
  simp at hh
  intro k hk
  exact h2 vL k (by rw [← hh]; rfl) hk
theorem RSt.setOther {w : World} {base b : Nat} {T : ByteArray} {s : RS} {q lim : Nat} {cs : Array Value} (h : RSt w base b T s) (hl : LBelow w b lim) (hq : w.heap[q]? = some (.cells cs 60 (0, 0))) (hlim : lim ≤ q) (hbq : base ≤ q) (o : Nat) (u : Value) :
    RSt (w.setCell ⟨q, o, none⟩ u) base b T s ∧ Below base w (w.setCell ⟨q, o, none⟩ u) ∧ KeepRe w (w.setCell ⟨q, o, none⟩ u) ∧ LBelow (w.setCell ⟨q, o, none⟩ u) b lim ∧ (w.setCell ⟨q, o, none⟩ u).heap[q]? = some (.cells (cs.setIfInBounds o u) 60 (0, 0)) := by
  obtain ⟨g, hbb, hT, hok, ht, vN, vS, vL, hblk, hN, hS, vs, hL, har⟩ := h
  have hb : Below base w (w.setCell ⟨q, o, none⟩ u) := (Below.refl _ _).setCell hbq u
  have kt : ∀ t, t ≠ 60 → Kt t w (w.setCell ⟨q, o, none⟩ u) := fun t ht => Kt.setCell hq ht u
  have hkr : KeepRe w (w.setCell ⟨q, o, none⟩ u) := keepRe_kt (kt _ (by decide)) (kt _ (by decide))
  have hne : vL.ownBlock ≠ some q := fun e => by have := hl.at hblk q e; omega
  have hblk' : Blk (w.setCell ⟨q, o, none⟩ u) b T s vN vS vL := kt _ (by decide) _ _ _ hblk
  refine ⟨⟨g, hbb, hT, hok, ht.on hb g, vN, vS, vL, hblk', ownsRow_chg hN (kt _ (by decide)), ownsRow_chg hS (kt _ (by decide)), vs, ownsRow_setCell_other hL hne u, har.keep hkr⟩, hb, hkr, ⟨_, hblk', fun v k hv hk => ?_⟩, block_setCell hq o u⟩
  have hv' : vL = v := Option.some.inj hv
  subst hv'
  exact hl.at hblk k hk

theorem IsRe.ptr {d : Nat} {w : World} {v : Value} {x : Rx} (h : IsRe d w v x) : ∃ p, v = .pointer (some ⟨p, 0, none⟩) := by
  obtain ⟨p, _, _, _, hv, _⟩ := h.open
  exact ⟨p, hv⟩
theorem rule_last (T : ByteArray) (s s1 : RS) (hs1 : s1 = s.take T) (h4 : ¬ s1.L.length = 4) : s.rule T = { (if (s1.side T [124]).1.err = 0 then (s1.side T [124]).1.side T [59] else ((s1.side T [124]).1, emptyX)).1 with L := (if (s1.side T [124]).1.err = 0 then (s1.side T [124]).1.side T [59] else ((s1.side T [124]).1, emptyX)).1.L ++ [(decide (s.tk T = [99, 117, 116]), (s1.side T [124]).2, (if (s1.side T [124]).1.err = 0 then (s1.side T [124]).1.side T [59] else ((s1.side T [124]).1, emptyX)).2)] } := by
  unfold RS.rule; simp only; rw [← hs1, if_neg h4]

set_option maxRecDepth 100000 in
set_option maxHeartbeats 8000000 in
theorem rule_rs (T : ByteArray) (base b : Nat) (s : RS) (w : World) (h : RSt w base b T s) (herr : s.err = 0) (hnst : s.nest = 0) :
    Calls Tryz.prog 12 #[.pointer (some ⟨b, 0, none⟩)] w fun e w' => e = .returned (.tuple #[]) ∧ RSt w' base b T (s.rule T) ∧ Below base w w' ∧ (s.rule T).nest = 0 ∧ (s.take T).at_ ≤ (s.rule T).at_ := by
  have HE : Hid (s.err = 0) := herr
  have HNS : Hid (s.nest = 0) := hnst
  clear herr hnst
  obtain ⟨s1, hs1⟩ : ∃ s1, s1 = s.take T := ⟨_, rfl⟩
  have HS1 : Hid (s1 = s.take T) := hs1
  have A1 : Hid (s1.err = 0 ∧ s1.nest = 0) := by rw [hs1]; exact ⟨HE.out, HNS.out⟩
  clear hs1
  obtain ⟨t1, ht1⟩ : ∃ t1, t1 = tok T s.at_ := ⟨_, rfl⟩
  have HT1 : Hid (t1 = tok T s.at_) := ht1
  clear ht1
  go_enter Tryz.func12, Tryz.ntmps12
  go_wp2_with fail
  refine (take_rs base b T s _ h).mono ?_
  rintro e1 w1 ⟨rfl, h1, r1⟩
  rw [← HS1.out] at h1
  rw [← HT1.out]
  obtain ⟨vN, vS, vL, hblk, hrow, c0, c1, c2, c3, c4, c5, c6, c7, c8, hf⟩ := h1.cells
  obtain ⟨aoL, capL, rfl⟩ : ∃ ao cap, vL = .slice ao s1.L.length cap := by obtain ⟨_, _, vs, hL, _⟩ := hrow; exact ownsRow_shape hL
  have hLl : s1.L.length ≤ 4 := h1.2.2.2.1.2.2.2.1
  by_cases h4 : s1.L.length = 4
  · have k4 : ((s1.L.length : Int) == 4) = true := by rw [beq_iff_eq]; omega
    have hfin : Hid (s.rule T = s1.fail 6 (s.pos T)) := by show s.rule T = _; unfold RS.rule; simp only; rw [← HS1.out, if_pos h4]
    clear h4
    go_wp2_with fail
    refine (fail_rs base b T s1 6 (s.pos T) _ h1 (by omega)).mono ?_
    rintro e2 w2 ⟨rfl, h2, r2⟩
    go_wp2_with fail
    refine bodyPost_ret (results_none rfl _ _ _) rfl ?_
    have f := fail_same s1 6 (s.pos T)
    exact ⟨rfl, by rw [hfin.out]; exact h2, (r1.trans r2).1, by rw [hfin.out, f.2.2.2.2.2]; exact A1.out.2, by rw [hfin.out, f.2.2.2.1, HS1.out]; exact Nat.le_refl _⟩
  · have k4 : ((s1.L.length : Int) == 4) = false := by rw [beq_eq_false_iff_ne]; omega
    have H4 : Hid (¬ s1.L.length = 4) := h4
    clear h4
    have hlb1 := h1.lbelow
    have HLB1 : Hid (LBelow w1 b w1.heap.size) := hlb1
    clear hlb1
    go_wp2_with fail
    refine (empty_any _).mono ?_
    rintro e2 w2 ⟨v2, rfl, hv2, hb2⟩
    obtain ⟨h2, r2⟩ := h1.below hb2
    obtain ⟨p2, rfl⟩ := hv2.ptr
    go_wp2_with fail
    refine (empty_any _).mono ?_
    rintro e3 w3 ⟨v3, rfl, hv3, hb3⟩
    obtain ⟨h3, r3⟩ := h2.below hb3
    obtain ⟨p3, rfl⟩ := hv3.ptr
    have HV3 : Hid (IsRe 1 w3 (.pointer (some ⟨p3, 0, none⟩)) emptyX) := hv3
    clear hv2 hv3 hblk hrow c0 c1 c2 c3 c4 c5 c6 c7 c8 hf
    obtain ⟨cB, hcB⟩ : ∃ cB, cB = (t1.toList == [99, 117, 116]) := ⟨_, rfl⟩
    have HCB : Hid (cB = decide (s.tk T = [99, 117, 116])) := by
      show cB = _
      have e : s.tk T = t1.toList := by rw [HT1.out]; rfl
      rw [hcB, e, Bool.eq_iff_iff]; simp
    have HCB0 : Hid (cB = (t1.toList == [99, 117, 116])) := hcB
    clear hcB
    go_wp2_with fail
    rw [← HCB0.out]
    obtain ⟨q, hq⟩ : ∃ q, q = w3.heap.size := ⟨_, rfl⟩
    rw [← hq]
    have HQ : Hid (q = w3.heap.size) := hq
    have hbel4 : Below w3.heap.size w3 (w3.alloc (.cells #[.bool cB, .pointer (some ⟨p2, 0, none⟩), .pointer (some ⟨p3, 0, none⟩)] 60)) := (Below.refl _ _).alloc (Nat.le_refl _) _
    obtain ⟨h4, r4⟩ := h3.below hbel4
    have hq4 : (w3.alloc (.cells #[.bool cB, .pointer (some ⟨p2, 0, none⟩), .pointer (some ⟨p3, 0, none⟩)] 60)).heap[q]? = some (.cells #[.bool cB, .pointer (some ⟨p2, 0, none⟩), .pointer (some ⟨p3, 0, none⟩)] 60 (0, 0)) := by rw [hq]; exact heap_alloc_new _ _
    have hlb4 : LBelow (w3.alloc (.cells #[.bool cB, .pointer (some ⟨p2, 0, none⟩), .pointer (some ⟨p3, 0, none⟩)] 60)) b w1.heap.size := ((HLB1.out.kl r2.4).kl r3.4).kl r4.4
    have hlim : w1.heap.size ≤ q := by have q1 := hb2.size; have q2 := hb3.size; omega
    have hbq : base ≤ q := by
      have q1 := h1.2.1
      obtain ⟨_, _, _, _, _, vN', vS', vL', hb', _⟩ := h1
      have := (Array.getElem?_eq_some_iff.1 hb').1; omega
    have HV4 : Hid (IsRe 1 (w3.alloc (.cells #[.bool cB, .pointer (some ⟨p2, 0, none⟩), .pointer (some ⟨p3, 0, none⟩)] 60)) (.pointer (some ⟨p3, 0, none⟩)) emptyX) := HV3.out.keep r4.2
    have R4 : Hid (Below base w (w3.alloc (.cells #[.bool cB, .pointer (some ⟨p2, 0, none⟩), .pointer (some ⟨p3, 0, none⟩)] 60))) := (((r1.trans r2).trans r3).trans r4).1
    generalize w3.alloc (.cells #[.bool cB, .pointer (some ⟨p2, 0, none⟩), .pointer (some ⟨p3, 0, none⟩)] 60) = w4 at *
    clear hbel4 r1 r2 r3 r4 h2 h3 hb2 hb3 hq HV3
    have HQ4 : Hid (w4.heap[q]? = some (.cells #[.bool cB, .pointer (some ⟨p2, 0, none⟩), .pointer (some ⟨p3, 0, none⟩)] 60 (0, 0))) := hq4
    have HLB4 : Hid (LBelow w4 b w1.heap.size) := hlb4
    clear hq4 hlb4
    refine (side_rs itoa_ok T base b s1 ⟨#[124]⟩ _ h4 A1.out.1 A1.out.2).mono ?_
    rintro e5 w5 ⟨v5, d5, rfl, h5, hv5, r5, hn5, ha5⟩
    rw [show (⟨#[124]⟩ : ByteArray).toList = [124] from by rw [ByteArray.toList_eq]] at h5 hv5 hn5 ha5
    obtain ⟨p5, rfl⟩ := hv5.ptr
    have hq5 := r5.3 _ _ _ HQ4.out
    have hlb5 := HLB4.out.kl r5.4
    have so5 := h5.setOther hlb5 hq5 hlim hbq 1 (.pointer (some ⟨p5, 0, none⟩))
    obtain ⟨h6, b6, k6, lb6, q6⟩ := so5
    have HV6 : Hid (IsRe d5 (w5.setCell ⟨q, 1, none⟩ (.pointer (some ⟨p5, 0, none⟩))) (.pointer (some ⟨p5, 0, none⟩)) (s1.side T [124]).2) := hv5.keep k6
    have HV6e : Hid (IsRe 1 (w5.setCell ⟨q, 1, none⟩ (.pointer (some ⟨p5, 0, none⟩))) (.pointer (some ⟨p3, 0, none⟩)) emptyX) := (HV4.out.keep r5.2).keep k6
    have R6 : Hid (Below base w (w5.setCell ⟨q, 1, none⟩ (.pointer (some ⟨p5, 0, none⟩)))) := (R4.out.trans r5.1).trans b6
    have HQ6 : Hid ((w5.setCell ⟨q, 1, none⟩ (.pointer (some ⟨p5, 0, none⟩))).heap[q]? = some (.cells #[.bool cB, .pointer (some ⟨p5, 0, none⟩), .pointer (some ⟨p3, 0, none⟩)] 60 (0, 0))) := q6.trans rfl
    have HLB6 : Hid (LBelow (w5.setCell ⟨q, 1, none⟩ (.pointer (some ⟨p5, 0, none⟩))) b w1.heap.size) := lb6
    have x5 : w5.cell? ⟨q, 1, none⟩ = some (.pointer (some ⟨p2, 0, none⟩)) := cell_of_block hq5 1 _ rfl
    have xf5 := free_of_block hq5
    obtain ⟨s5, hs5⟩ : ∃ s5, s5 = (s1.side T [124]).1 := ⟨_, rfl⟩
    obtain ⟨xl, hxl⟩ : ∃ xl, xl = (s1.side T [124]).2 := ⟨_, rfl⟩
    rw [← hs5] at h6 h5 hn5 ha5
    rw [← hxl] at HV6
    have HSD : Hid (s1.side T [124] = (s5, xl)) := by show _ = _; rw [hs5, hxl]
    have HL5 : Hid (s5.L = s1.L) := by show s5.L = _; rw [hs5]; exact side_L T s1 _
    clear hs5 hxl hv5 r5 hq5 hlb5 b6 k6 lb6 q6 hbq
    obtain ⟨vN, vS, vL, hblk, hrow, c0, c1, c2, c3, c4, c5, c6, c7, c8, hf⟩ := h6.cells
    go_upto_if 31 with fail
    go_cut [2, 3, 4] (fun _ _ xv wx => xv = .pointer (some ⟨q, 0, none⟩) ∧ ∃ (s6 : RS) (xr : Rx) (p6 dl dr : Nat), RSt wx base b T s6 ∧ Hid (Below base w wx) ∧ Hid (wx.heap[q]? = some (.cells #[.bool cB, .pointer (some ⟨p5, 0, none⟩), .pointer (some ⟨p6, 0, none⟩)] 60 (0, 0))) ∧ Hid (IsRe dl wx (.pointer (some ⟨p5, 0, none⟩)) xl) ∧ Hid (IsRe dr wx (.pointer (some ⟨p6, 0, none⟩)) xr) ∧ Hid ((if s5.err = 0 then s5.side T [59] else (s5, emptyX)) = (s6, xr)) ∧ Hid (s6.nest = 0 ∧ s5.at_ ≤ s6.at_ ∧ s6.L = s5.L))
    case first =>
      by_cases e0 : s5.err = 0
      · have k0 : (s5.err == 0) = true := by rw [beq_iff_eq]; exact e0
        have E0 : Hid (s5.err = 0) := e0
        clear e0
        go_wp2_with fail
        refine (side_rs itoa_ok T base b s5 ⟨#[59]⟩ _ h6 E0.out hn5).mono ?_
        rintro e7 w7 ⟨v7, d7, rfl, h7, hv7, r7, hn7, ha7⟩
        rw [show (⟨#[59]⟩ : ByteArray).toList = [59] from by rw [ByteArray.toList_eq]] at h7 hv7 hn7 ha7
        obtain ⟨p7, rfl⟩ := hv7.ptr
        have hq7 := r7.3 _ _ _ HQ6.out
        have hlb7 := HLB6.out.kl r7.4
        have hbq7 : base ≤ q := by
          have q1 := h1.2.1
          obtain ⟨_, _, _, _, _, vN', vS', vL', hb', _⟩ := h1
          have := (Array.getElem?_eq_some_iff.1 hb').1; omega
        have so7 := h7.setOther hlb7 hq7 hlim hbq7 2 (.pointer (some ⟨p7, 0, none⟩))
        obtain ⟨h8, b8, k8, lb8, q8⟩ := so7
        have x7 : w7.cell? ⟨q, 2, none⟩ = some (.pointer (some ⟨p3, 0, none⟩)) := cell_of_block hq7 2 _ rfl
        have xf7 := free_of_block hq7
        have HV8 : Hid (IsRe d7 (w7.setCell ⟨q, 2, none⟩ (.pointer (some ⟨p7, 0, none⟩))) (.pointer (some ⟨p7, 0, none⟩)) (s5.side T [59]).2) := hv7.keep k8
        have HV8l : Hid (IsRe d5 (w7.setCell ⟨q, 2, none⟩ (.pointer (some ⟨p7, 0, none⟩))) (.pointer (some ⟨p5, 0, none⟩)) xl) := (HV6.out.keep r7.2).keep k8
        have R8 : Hid (Below base w (w7.setCell ⟨q, 2, none⟩ (.pointer (some ⟨p7, 0, none⟩)))) := (R6.out.trans r7.1).trans b8
        have HQ8 : Hid ((w7.setCell ⟨q, 2, none⟩ (.pointer (some ⟨p7, 0, none⟩))).heap[q]? = some (.cells #[.bool cB, .pointer (some ⟨p5, 0, none⟩), .pointer (some ⟨p7, 0, none⟩)] 60 (0, 0))) := q8.trans rfl
        clear hv7 r7 hq7 hlb7 b8 k8 lb8 q8
        go_wp2_with fail
        go_meet
        exact ⟨rfl, _, _, p7, d5, d7, h8, R8, HQ8, HV8l, HV8, by show _ = _; rw [if_pos E0.out], hn7, ha7, side_L T s5 _⟩
      · have k0 : (s5.err == 0) = false := by rw [beq_eq_false_iff_ne]; exact e0
        have E0 : Hid (¬ s5.err = 0) := e0
        clear e0
        go_wp2_with fail
        go_meet
        exact ⟨rfl, s5, emptyX, p3, d5, 1, h6, R6, HQ6, HV6, HV6e, by show _ = _; rw [if_neg E0.out], hn5, Nat.le_refl _, rfl⟩
    case rest =>
      obtain ⟨rfl, s6, xr, p6, dl, dr, h8, R8, HQ8, HVl, HVr, HIF, HN6⟩ := hcut
      obtain ⟨w8, hw8⟩ : ∃ w8, w8 = wc := ⟨wc, rfl⟩
      subst hw8
      clear hblk hrow c0 c1 c2 c3 c4 c5 c6 c7 c8 hf h5 h6 h4 x5 xf5
      obtain ⟨vN, vS, vL, hblk, hrow, c0, c1, c2, c3, c4, c5, c6, c7, c8, hf⟩ := h8.cells
      obtain ⟨hRN, hRS, vs, hRL, hAR⟩ := hrow
      obtain ⟨ao8, cap8, rfl⟩ := ownsRow_shape hRL
      have hl6 : s6.L.length ≤ 3 := by rw [HN6.out.2.2, HL5.out]; have := H4.out; omega
      have hbb : base ≤ b := h8.2.1
      have hbs : b < w8.heap.size := (Array.getElem?_eq_some_iff.1 hblk).1
      have x0 : w8.cell? ⟨q, 0, none⟩ = some (.bool cB) := cell_of_block HQ8.out 0 _ rfl
      have x1 : w8.cell? ⟨q, 1, none⟩ = some (.pointer (some ⟨p5, 0, none⟩)) := cell_of_block HQ8.out 1 _ rfl
      have x2 : w8.cell? ⟨q, 2, none⟩ = some (.pointer (some ⟨p6, 0, none⟩)) := cell_of_block HQ8.out 2 _ rfl
      have HRL : Hid (w8.ownsRow base 60 3 (.slice ao8 s6.L.length cap8) s6.L.length (ruleCells vs)) := hRL
      have HRN : Hid (w8.ownsRow base 9 1 vN s6.names.length (s6.names.map .string) ∧ w8.ownsRow base 81 3 vS s6.spans.length (spanCells s6.spans) ∧ AreRules w8 vs s6.L) := ⟨hRN, hRS, hAR⟩
      clear hRN hRS hRL hAR
      go_wp2
      go_region_law (refine step_push rfl (.tmp 39) (.tmp 41) 32 rfl base 60 (.agg #[.bool false, .pointer none, .pointer none]) 3 24 Tryz.infoRule Tryz.undRule rfl (by decide) (.slice ao8 s6.L.length cap8) s6.L.length (ruleCells vs) rfl (by exact HRL.out.alloc _) w8.heap.size 1 [.bool cB, .pointer (some ⟨p5, 0, none⟩), .pointer (some ⟨p6, 0, none⟩)] rfl rfl (by exact heap_alloc_new _ _) (by intro u hu; simp at hu; rcases hu with rfl | rfl | rfl <;> rfl) (by omega) (by omega) (by simp; omega) ?_; intro v' w' hown hg; obtain ⟨ao', cap', hv'⟩ := ownsRow_shape hown; subst hv'; have hb' := pushed_free hg hblk (by exact (((Below.refl _ _).alloc (Nat.le_refl _) _)).drew) (by exact HRL.out.alloc _) (by decide); obtain ⟨_, _, _, _, _, _, e6, _, _, ef⟩ := rcells hb')
      all_goals go_wp2
      all_goals go_end0
      all_goals
        have hpu : Pushed 60 6 base b (.slice ao8 s6.L.length cap8) (.slice ao' (s6.L.length + 1) cap') w8 _ w' (w'.setCell ⟨b, 6, none⟩ (.slice ao' (s6.L.length + 1) cap')) := ⟨((Below.refl _ _).alloc (Nat.le_refl _) _).drew, hg, rfl, rfl, rfl, rfl⟩
        have hfin := h8.pushRule hblk HRN.out.1 HRN.out.2.1 HRL.out HRN.out.2.2 hpu hown HVl.out HVr.out hl6
        have heq : s.rule T = { s6 with L := s6.L ++ [(cB, xl, xr)] } := by
          rw [rule_last T s s1 HS1.out H4.out, HSD.out]
          simp only
          rw [HIF.out, ← HCB.out]
        exact ⟨rfl, by rw [heq]; exact hfin.1, R8.out.trans hfin.2, by rw [heq]; exact HN6.out.1, by rw [heq, ← HS1.out]; exact Nat.le_trans ha5 HN6.out.2.1⟩
end Go.Proofs.YtonooajnjgnmnaaGreatDoor
namespace Go.Proofs.YtonooajnjgnmnaaGreatDoor
open Go.RowKit

theorem hex_mono (T : ByteArray) (s : RS) (hat : s.at_ ≤ T.size) : s.at_ ≤ (s.hex T).at_ ∧ (s.hex T).at_ ≤ T.size ∧ (s.hex T).nest = s.nest := by
  have h := hex_same T s
  have t := take_at T s hat
  rw [h.2.2.2.1]; exact ⟨t.2.1, t.1, h.2.2.2.2.2⟩
theorem addSpan_nest (s : RS) (a b p : Int) : (s.addSpan a b p).nest = s.nest := by
  unfold RS.addSpan; simp only
  split
  · exact (fail_same s 5 p).2.2.2.2.2
  · rfl
theorem span_mono (T : ByteArray) (s : RS) (hat : s.at_ ≤ T.size) : s.at_ ≤ (s.span T).at_ ∧ (s.span T).at_ ≤ T.size ∧ (s.span T).nest = s.nest := by
  unfold RS.span; simp only
  have h1 := hex_mono T s hat
  have p1 := peek_at T (s.hex T) h1.2.1
  split
  · have t1 := take_at T ((s.hex T).peek T) p1.1
    have h2 := hex_mono T (((s.hex T).peek T).take T) t1.1
    rw [(addSpan_at _ _ _ _).1, addSpan_nest]
    exact ⟨by omega, h2.2.1, h2.2.2.trans h1.2.2⟩
  · rw [(addSpan_at _ _ _ _).1, addSpan_nest]
    exact ⟨by omega, p1.1, h1.2.2⟩
theorem spansL_mono (T : ByteArray) (g : Nat) : ∀ s : RS, s.at_ ≤ T.size → s.at_ ≤ (RS.spansL T g s).at_ ∧ (RS.spansL T g s).nest = s.nest := by
  induction g with
  | zero => intro s _; exact ⟨Nat.le_refl _, rfl⟩
  | succ g ih =>
    intro s hat
    rw [RS.spansL]; split
    · exact ⟨Nat.le_refl _, rfl⟩
    · simp only
      have h1 := span_mono T s hat
      have t1 := take_at T (s.span T) h1.2.1
      split
      · exact ⟨h1.1, h1.2.2⟩
      · split
        · exact ⟨by omega, h1.2.2⟩
        · split
          · have := ih ((s.span T).take T) t1.1
            exact ⟨by omega, this.2.trans h1.2.2⟩
          · have f := fail_same ((s.span T).take T) 2 ((s.span T).pos T)
            have := ih (((s.span T).take T).fail 2 ((s.span T).pos T)) (by rw [f.2.2.2.1]; exact t1.1)
            rw [f.2.2.2.1, f.2.2.2.2.2] at this
            exact ⟨by omega, this.2.trans h1.2.2⟩
theorem classes_mono (T : ByteArray) (s : RS) (hat : s.at_ ≤ T.size) : (s.take T).at_ ≤ (s.classes T).at_ ∧ (s.classes T).nest = s.nest := by
  unfold RS.classes; simp only
  have t1 := take_at T s hat
  split
  · have f := fail_same (s.take T) 6 (s.pos T)
    exact ⟨by rw [f.2.2.2.1]; exact Nat.le_refl _, f.2.2.2.2.2⟩
  · have t2 := take_at T (s.take T) t1.1
    have key : ∀ s3 : RS, s3.at_ = ((s.take T).take T).at_ ∧ s3.nest = s.nest → ∀ p : Int, ∀ c : Prop, ∀ _ : Decidable c, (if c then s3.fail 4 p else s3).at_ = ((s.take T).take T).at_ ∧ (if c then s3.fail 4 p else s3).nest = s.nest := by
      intro s3 h3 p c _
      split
      · have f := fail_same s3 4 p; exact ⟨f.2.2.2.1.trans h3.1, f.2.2.2.2.2.trans h3.2⟩
      · exact h3
    have key2 : ∀ c : Prop, ∀ _ : Decidable c, (if c then (s.take T).take T else ((s.take T).take T).fail 2 ((s.take T).pos T)).at_ = ((s.take T).take T).at_ ∧ (if c then (s.take T).take T else ((s.take T).take T).fail 2 ((s.take T).pos T)).nest = s.nest := by
      intro c _
      split
      · exact ⟨rfl, rfl⟩
      · have f := fail_same ((s.take T).take T) 2 ((s.take T).pos T); exact ⟨f.2.2.2.1, f.2.2.2.2.2⟩
    have k4 := key _ (key2 (nameL ((s.take T).tk T) = true) inferInstance) ((s.take T).pos T) (0 ≤ clsIx (if nameL ((s.take T).tk T) = true then (s.take T).take T else ((s.take T).take T).fail 2 ((s.take T).pos T)).names ((s.take T).tk T)) inferInstance
    generalize (if 0 ≤ clsIx (if nameL ((s.take T).tk T) = true then (s.take T).take T else ((s.take T).take T).fail 2 ((s.take T).pos T)).names ((s.take T).tk T) then (if nameL ((s.take T).tk T) = true then (s.take T).take T else ((s.take T).take T).fail 2 ((s.take T).pos T)).fail 4 ((s.take T).pos T) else (if nameL ((s.take T).tk T) = true then (s.take T).take T else ((s.take T).take T).fail 2 ((s.take T).pos T))) = s4 at *
    have k6 : ∀ s5 : RS, s5.at_ = ((s.take T).take T).at_ ∧ s5.nest = s.nest → ((s.take T).take T).at_ ≤ (if s5.err = 0 then s5.want T [61] else s5).at_ ∧ (if s5.err = 0 then s5.want T [61] else s5).at_ ≤ T.size ∧ (if s5.err = 0 then s5.want T [61] else s5).nest = s.nest := by
      intro s5 h5
      split
      · have w := want_same T s5 [61]
        have t := take_at T s5 (by rw [h5.1]; exact t2.1)
        rw [w.2.2.2.1, w.2.2.2.2.2]; exact ⟨by omega, t.1, h5.2⟩
      · exact ⟨by omega, by rw [h5.1]; exact t2.1, h5.2⟩
    have k7 := k6 { s4 with names := s4.names ++ [tok T (s.take T).at_] } k4
    have k8 := spansL_mono T (T.size + 2) _ k7.2.1
    exact ⟨Nat.le_trans (Nat.le_trans t2.2.1 k7.1) k8.1, k8.2.trans k7.2.2⟩

theorem readL_err {T : ByteArray} {g : Nat} {s : RS} (h : s.err ≠ 0) : RS.readL T g s = s := by
  cases g with
  | zero => rfl
  | succ g => rw [RS.readL, if_pos h]
theorem readL_class {T : ByteArray} {g : Nat} {s : RS} (h : s.err = 0) (h1 : s.tk T = [99, 108, 97, 115, 115]) (h2 : s.L.length = 0) : RS.readL T (g + 1) s = RS.readL T g ((s.peek T).classes T) := by
  rw [RS.readL, if_neg (by simpa using h)]; simp only; rw [if_pos ⟨h1, h2⟩]
theorem readL_rule {T : ByteArray} {g : Nat} {s : RS} (h : s.err = 0) (h1 : s.tk T = [99, 117, 116] ∨ s.tk T = [106, 111, 105, 110]) : RS.readL T (g + 1) s = RS.readL T g ((s.peek T).rule T) := by
  rw [RS.readL, if_neg (by simpa using h)]; simp only
  rw [if_neg (by rintro ⟨e, _⟩; rw [e] at h1; rcases h1 with h1 | h1 <;> simp at h1), if_pos h1]
theorem readL_end {T : ByteArray} {g : Nat} {s : RS} (h : s.err = 0) (h1 : s.tk T = []) : RS.readL T (g + 1) s = s.peek T := by
  rw [RS.readL, if_neg (by simpa using h)]; simp only
  rw [if_neg (by rintro ⟨e, _⟩; rw [e] at h1; simp at h1), if_neg (by rw [h1]; simp), if_pos h1]
theorem readL_bad {T : ByteArray} {g : Nat} {s : RS} (h : s.err = 0) (h1 : ¬ (s.tk T = [99, 108, 97, 115, 115] ∧ s.L.length = 0)) (h2 : ¬ (s.tk T = [99, 117, 116] ∨ s.tk T = [106, 111, 105, 110])) (h3 : s.tk T ≠ []) : RS.readL T (g + 1) s = RS.readL T g ((s.peek T).fail 2 (s.pos T)) := by
  rw [RS.readL, if_neg (by simpa using h)]; simp only
  rw [if_neg (show ¬ (s.tk T = [99, 108, 97, 115, 115] ∧ (s.peek T).L.length = 0) from h1), if_neg h2, if_neg h3]

set_option maxRecDepth 100000 in
set_option maxHeartbeats 8000000 in
theorem read_any (T : ByteArray) (w : World) (b : Nat) (hbs : w.heap.size = b) (ht : TabOK w) (h2 : 2 < b) (hT : T.size ≤ 140737488351232) :
    Calls Tryz.prog 6 #[.string T] w fun e w' => e = .returned (.pointer (some ⟨b, 0, none⟩)) ∧ w'.cell? ⟨b, 2, none⟩ = some (.int .i64 (RS.read T).err) ∧ w'.cell? ⟨b, 3, none⟩ = some (.int .i64 (RS.read T).place) ∧
      Below b w w' ∧ (T.size ≤ 1000 → RSt w' b b T (RS.read T)) := by
  have hblk : Blk (w.alloc (.cells (rcell T 0 0 0 (.slice none 0 0) (.slice none 0 0) (.slice none 0 0) 0 0) 35)) b T RS.start (.slice none 0 0) (.slice none 0 0) (.slice none 0 0) := by
    show _ = _
    rw [← hbs]; exact heap_alloc_new _ _
  have hbel : Below b w (w.alloc (.cells (rcell T 0 0 0 (.slice none 0 0) (.slice none 0 0) (.slice none 0 0) 0 0) 35)) := (Below.refl _ _).alloc (by omega) _
  by_cases hbig : 1000 < T.size
  · have hfin : Hid (RS.read T = RS.start.fail 1 0) := by show RS.read T = _; unfold RS.read; rw [if_pos hbig]
    have HBK : Hid (Blk (w.alloc (.cells (rcell T 0 0 0 (.slice none 0 0) (.slice none 0 0) (.slice none 0 0) 0 0) 35)) b T RS.start (.slice none 0 0) (.slice none 0 0) (.slice none 0 0)) := hblk
    clear hblk ht
    go_enter Tryz.func6, Tryz.ntmps6
    go_wp2_with fail
    refine (fail_st b T RS.start (.slice none 0 0) (.slice none 0 0) (.slice none 0 0) 1 0 _ HBK.out).mono ?_
    rintro e1 w1 ⟨rfl, hb1, hc1⟩
    go_wp2_with fail
    go_ret
    obtain ⟨c0, c1, c2, c3, _⟩ := rcells hb1
    refine ⟨rfl, by rw [hfin.out]; exact c2, by rw [hfin.out]; exact c3, hbel.trans (hc1.below (by simp; omega) (fun k hk e => by omega)), fun h => by omega⟩
  · have hst : RSt (w.alloc (.cells (rcell T 0 0 0 (.slice none 0 0) (.slice none 0 0) (.slice none 0 0) 0 0) 35)) b b T RS.start := by
      refine ⟨h2, by omega, by omega, ⟨Nat.zero_le _, by decide, by decide, by decide, by decide, by decide, by decide, by decide, fun _ => ⟨by decide, by decide, fun x hx => by simp [RS.start] at hx⟩⟩, ht.on hbel h2, _, _, _, hblk, World.ownsRow_nil _ _ _ _, World.ownsRow_nil _ _ _ _, [], World.ownsRow_nil _ _ _ _, rfl, fun i v x hv => by simp at hv⟩
    have hfin : Hid (RS.read T = RS.readL T (T.size + 2) RS.start) := by show RS.read T = _; unfold RS.read; rw [if_neg hbig]
    have hsm : T.size ≤ 1000 := by omega
    have hd : decide (1000 < (T.size : Int)) = false := by simp; omega
    clear hblk ht hbig
    go_enter Tryz.func6, Tryz.ntmps6
    go_wp2_with fail
    go_loopg [4, 5] (T.size + 3) (fun g _ _ wx => ∃ (s' : RS), RSt wx b b T s' ∧ Hid (Below b w wx) ∧ 0 < g ∧ Hid (RS.readL T (g - 1) s' = RS.read T) ∧ Hid (s'.err ≠ 0 ∨ T.size < s'.at_ + (g - 1)) ∧ Hid (s'.nest = 0))
    case atStart => exact ⟨RS.start, hst, hbel, by omega, hfin.out.symm, Or.inr (by show T.size < 0 + (T.size + 3 - 1); omega), rfl⟩
    case round =>
      obtain ⟨s', h3, R3, hg, HL, HF, HN⟩ := hrel
      have HG : Hid (0 < gk) := hg
      clear hg hst hbel
      obtain ⟨w3, hw3⟩ : ∃ w3, w3 = wr := ⟨wr, rfl⟩
      subst hw3
      obtain ⟨vN, vS, vL, hblk, hrow, c0, c1, c2, c3, c4, c5, c6, c7, c8, hf⟩ := h3.cells
      have hat3 : s'.at_ ≤ T.size := h3.2.2.2.1.1
      by_cases e0 : s'.err = 0
      · have k0 : (s'.err == 0) = true := by rw [beq_iff_eq]; exact e0
        have E0 : Hid (s'.err = 0) := e0
        obtain ⟨g', hg'⟩ : ∃ g', gk = g' + 2 := ⟨gk - 2, by rcases HF.out with q | q; exact absurd e0 q; omega⟩
        have HG' : Hid (gk = g' + 2) := hg'
        have HFA : Hid (T.size < s'.at_ + (g' + 1)) := by
          show T.size < s'.at_ + (g' + 1)
          rcases HF.out with q | q
          · exact absurd e0 q
          · omega
        clear hg' e0
        have HL' : Hid (RS.readL T (g' + 1) s' = RS.read T) := by show _ = _; rw [← HL.out, HG'.out]; rfl
        go_wp2_with fail
        refine (peek_rs b b T s' _ h3).mono ?_
        rintro e4 w4 ⟨rfl, h4, r4⟩
        obtain ⟨t1, ht1⟩ : ∃ t1, t1 = tok T s'.at_ := ⟨_, rfl⟩
        rw [← ht1]
        have HT1 : Hid (s'.tk T = t1.toList) := by rw [ht1]; rfl
        clear ht1 hblk hrow c0 c1 c2 c3 c4 c5 c6 c7 c8 hf
        obtain ⟨vN, vS, vL, hblk, hrow, c0, c1, c2, c3, c4, c5, c6, c7, c8, hf⟩ := h4.cells
        obtain ⟨aoL, capL, rfl⟩ : ∃ ao cap, vL = .slice ao (s'.peek T).L.length cap := by obtain ⟨_, _, vs, hL, _⟩ := hrow; exact ownsRow_shape hL
        have hpa := peek_at T s' hat3
        have hLe : (s'.peek T).L = s'.L := rfl
        have HLE : Hid ((s'.peek T).L = s'.L) := hLe
        clear hLe
        have R4 : Hid (Below b w w4) := R3.out.trans r4.1
        by_cases l1 : t1.toList = [99, 108, 97, 115, 115]
        · have j1 : (t1.toList == [99, 108, 97, 115, 115]) = true := by rw [beq_iff_eq]; exact l1
          have j2 : (t1.toList == [99, 117, 116]) = false := by rw [beq_eq_false_iff_ne, l1]; decide
          have j3 : (t1.toList == [106, 111, 105, 110]) = false := by rw [beq_eq_false_iff_ne, l1]; decide
          have j4 : t1.toList.isEmpty = false := by rw [l1]; rfl
          by_cases hl0 : (s'.peek T).L.length = 0
          · have j5 : (((s'.peek T).L.length : Int) == 0) = true := by rw [beq_iff_eq]; omega
            have hres : Hid (RS.readL T g' ((s'.peek T).classes T) = RS.read T) := by show _ = _; rw [← HL'.out, readL_class E0.out (by rw [HT1.out]; exact l1) hl0]
            have hadv := take_adv T (s'.peek T) hpa.1 (by rw [tk_peek, HT1.out, l1]; simp)
            clear l1 hl0
            go_wp2_with fail
            refine (classes_rs b b T (s'.peek T) _ h4 E0.out).mono ?_
            rintro e5 w5 ⟨rfl, h5, r5⟩
            go_wp2_with fail
            go_roundg (g' + 1)
            case measure => have := HG'.out; omega
            case rel =>
              have cm := classes_mono T (s'.peek T) hpa.1
              refine ⟨_, h5, R4.out.trans r5.1, by omega, hres, Or.inr ?_, cm.2.trans HN.out⟩
              show T.size < ((s'.peek T).classes T).at_ + (g' + 1 - 1)
              have := HFA.out; omega
          · have j5 : (((s'.peek T).L.length : Int) == 0) = false := by rw [beq_eq_false_iff_ne]; omega
            have hres : Hid (RS.readL T g' ((s'.peek T).fail 2 (s'.pos T)) = RS.read T) := by
              show _ = _
              rw [← HL'.out, readL_bad E0.out (fun q => hl0 q.2) (by rw [HT1.out, l1]; decide) (by rw [HT1.out, l1]; decide)]
            clear l1 hl0
            go_wp2_with fail
            refine (fail_rs b b T (s'.peek T) 2 (s'.pos T) _ h4 (by omega)).mono ?_
            rintro e5 w5 ⟨rfl, h5, r5⟩
            go_wp2_with fail
            go_roundg (g' + 1)
            case measure => have := HG'.out; omega
            case rel => exact ⟨_, h5, R4.out.trans r5.1, by omega, hres, Or.inl (fail_err _ _ _ (by omega)), (fail_same _ _ _).2.2.2.2.2.trans HN.out⟩
        · have j1 : (t1.toList == [99, 108, 97, 115, 115]) = false := by rw [beq_eq_false_iff_ne]; exact l1
          by_cases l2 : t1.toList = [99, 117, 116] ∨ t1.toList = [106, 111, 105, 110]
          · have jj : ((t1.toList == [99, 117, 116]) = true) ∨ ((t1.toList == [99, 117, 116]) = false ∧ (t1.toList == [106, 111, 105, 110]) = true) := by
              rcases l2 with q | q
              · left; rw [beq_iff_eq]; exact q
              · right; exact ⟨by rw [beq_eq_false_iff_ne, q]; decide, by rw [beq_iff_eq]; exact q⟩
            have hres : Hid (RS.readL T g' ((s'.peek T).rule T) = RS.read T) := by show _ = _; rw [← HL'.out, readL_rule E0.out (by rw [HT1.out]; exact l2)]
            have hadv := take_adv T (s'.peek T) hpa.1 (by rw [tk_peek, HT1.out]; rcases l2 with q | q <;> rw [q] <;> simp)
            clear l1 l2
            rcases jj with j2 | ⟨j2, j3⟩
            all_goals
              go_wp2_with fail
              refine (rule_rs T b b (s'.peek T) _ h4 E0.out HN.out).mono ?_
              rintro e5 w5 ⟨rfl, h5, b5, hn5, ha5⟩
              go_wp2_with fail
              go_roundg (g' + 1)
              case measure => have := HG'.out; omega
              case rel =>
                refine ⟨_, h5, R4.out.trans b5, by omega, hres, Or.inr ?_, hn5⟩
                show T.size < ((s'.peek T).rule T).at_ + (g' + 1 - 1)
                have := HFA.out; omega
          · have j2 : (t1.toList == [99, 117, 116]) = false := by rw [beq_eq_false_iff_ne]; exact fun q => l2 (Or.inl q)
            have j3 : (t1.toList == [106, 111, 105, 110]) = false := by rw [beq_eq_false_iff_ne]; exact fun q => l2 (Or.inr q)
            by_cases l3 : t1.toList = []
            · have j4 : t1.toList.isEmpty = true := by rw [l3]; rfl
              have hres : Hid (RS.read T = s'.peek T) := by show _ = _; rw [← HL'.out, readL_end E0.out (by rw [HT1.out]; exact l3)]
              clear l1 l2 l3
              go_wp2_with fail
              go_ret
              exact ⟨rfl, by rw [hres.out]; exact c2, by rw [hres.out]; exact c3, R4.out, fun _ => by rw [hres.out]; exact h4⟩
            · have j4 : t1.toList.isEmpty = false := by simpa using l3
              have hres : Hid (RS.readL T g' ((s'.peek T).fail 2 (s'.pos T)) = RS.read T) := by
                show _ = _
                rw [← HL'.out, readL_bad E0.out (fun q => l1 (by rw [← HT1.out]; exact q.1)) (by rw [HT1.out]; exact l2) (by rw [HT1.out]; exact l3)]
              clear l1 l2 l3
              go_wp2_with fail
              refine (fail_rs b b T (s'.peek T) 2 (s'.pos T) _ h4 (by omega)).mono ?_
              rintro e5 w5 ⟨rfl, h5, r5⟩
              go_wp2_with fail
              go_roundg (g' + 1)
              case measure => have := HG'.out; omega
              case rel => exact ⟨_, h5, R4.out.trans r5.1, by omega, hres, Or.inl (fail_err _ _ _ (by omega)), (fail_same _ _ _).2.2.2.2.2.trans HN.out⟩
      · have k0 : (s'.err == 0) = false := by rw [beq_eq_false_iff_ne]; exact e0
        have hres : Hid (RS.read T = s') := by show _ = _; rw [← HL.out, readL_err e0]
        clear e0
        go_wp2_with fail
        go_ret
        exact ⟨rfl, by rw [hres.out]; exact c2, by rw [hres.out]; exact c3, R3.out, fun _ => by rw [hres.out]; exact h3⟩
end Go.Proofs.YtonooajnjgnmnaaGreatDoor
