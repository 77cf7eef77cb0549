/- A Hex, read. -/
import Derived.Test.YtonooajnjgnmnaaGreatDoorH1
import Derived.Test.YtonooajnjgnmnaaGreatDoorK1
namespace Go.Proofs.YtonooajnjgnmnaaGreatDoor
open Go.RowKit

/-- What is wrong with a word that should be a Hex (0: nothing). -/
def hexErr (l : List UInt8) : Int := if 6 < l.length ∨ RS.hexOk l = false ∨ l = [] then 2 else if 1114111 < RS.hexN l then 5 else 0
def PS.hex (T : ByteArray) (s : PS) : PS := if hexErr (s.tk T) = 0 then s.step T else s.fail T (hexErr (s.tk T))
theorem step_end (T : ByteArray) (s : PS) (h : s.p = T.size) : s.step T = s := by
  have h1 := nextp_le T s.p (by omega)
  unfold PS.step
  have : nextp T s.p = s.p := by omega
  rw [this]
theorem tok_short (T : ByteArray) (p : Nat) (h : T.size ≤ 1000) : (tokp T p).size ≤ 1000 := by
  unfold tokp; rw [ByteArray.size_extract]; omega
theorem fail_twice (T : ByteArray) (s : PS) (a b : Int) (ha : a ≠ 0) : (s.fail T a).fail T b = s.fail T a := by
  unfold PS.fail PS.failAt pf pp
  by_cases h : s.f = 0
  · simp [h, ha]
  · simp [h]
theorem ErrsOk.chg {b : Nat} {w w' : World} (h : ErrsOk w) (hc : Chg (fun k => k = b) w w') (hg : 0 ≠ b ∧ 1 ≠ b) : ErrsOk w' :=
  h.on fun k o v hk hv => by
    have : k ≠ b := by rcases hk with rfl | rfl; exact hg.1; exact hg.2
    exact (World.cell?_of_block (a := ⟨k, o, none⟩) (w := w) (hc.block k (cell_lt hv) this)).trans hv

set_option maxRecDepth 100000 in
set_option maxHeartbeats 2000000 in
theorem hex_ps (b : Nat) (T : ByteArray) (vN vE vL : Value) (s : PS) (w : World) (h : RAt w b T vN vE vL s) (hE : ErrsOk w) :
    Calls Tryz.prog 43 #[.pointer (some ⟨b, 0, none⟩)] w fun r w' => (∃ x : Int, r = .returned (.int .i32 x) ∧ (hexErr (s.tk T) = 0 → x = RS.hexN (s.tk T))) ∧ RAt w' b T vN vE vL (s.hex T) ∧ Chg (fun k => k = b) w w' := by
  have HH : Hid (RAt w b T vN vE vL s) := h
  have HE : Hid (ErrsOk w) := hE
  have hT := h.short
  clear h hE
  go_enter Tryz.func43, Tryz.ntmps43
  go_wp2_with fail
  refine (now_ps b T vN vE vL s w HH.out).mono ?_
  rintro r w1 ⟨rfl, n, hw1⟩
  have b1 : Below w.heap.size w w1 := by rw [hw1]; exact bdrew (Below.refl _ _) n
  clear hw1
  have H1 : Hid (RAt w1 b T vN vE vL s) := HH.out.later b1
  go_wp2_with fail
  refine (parse_any (tokp T s.p) w1 (tok_short T s.p hT) (HE.out.below b1)).mono ?_
  rintro r w2 ⟨hp, b2⟩
  have H2 : Hid (RAt w2 b T vN vE vL s) := H1.out.later b2
  have C2 : Hid (Chg (fun k => k = b) w w2) := (Chg.of_below b1).trans (Chg.of_below b2)
  clear b1 b2 H1
  obtain ⟨l, hl⟩ : ∃ l, l = s.tk T := ⟨_, rfl⟩
  have hlen : l.length = (tokp T s.p).size := by rw [hl]; unfold PS.tk; rw [ByteArray.toList_eq]; simp
  have hPU : ∃ (x : Int) (ev : Value), r = .returned (.tuple #[.int .u64 x, ev]) ∧ 0 ≤ x ∧ x ≤ 4294967295 ∧ ((ev = .nilIface ∧ RS.hexOk l = true ∧ l ≠ [] ∧ x = RS.hexN l) ∨ ((∃ t a, ev = .iface t a) ∧ (x = 0 ∨ x = 4294967295) ∧ (RS.hexOk l = false ∨ l = [] ∨ 6 < l.length))) := by
    rw [hl]
    rcases hp with ⟨rfl, h1, h2, h3⟩ | ⟨x, t, a, rfl, hx, hbad⟩
    · exact ⟨_, _, rfl, (hexN_bd (tokp T s.p).toList.length (tokp T s.p).toList (Nat.le_refl _)).1, h3, Or.inl ⟨rfl, h1, h2, rfl⟩⟩
    · exact ⟨x, _, rfl, by omega, by omega, Or.inr ⟨⟨t, a, rfl⟩, hx, hbad⟩⟩
  clear hp
  obtain ⟨x, ev, rfl, hx0, hx1, hcase⟩ := hPU
  have HCase : Hid ((ev = .nilIface ∧ RS.hexOk l = true ∧ l ≠ [] ∧ x = RS.hexN l) ∨ ((∃ t a, ev = .iface t a) ∧ (x = 0 ∨ x = 4294967295) ∧ (RS.hexOk l = false ∨ l = [] ∨ 6 < l.length))) := hcase
  have HLEN : Hid (l.length = (tokp T s.p).size) := hlen
  have HLL : Hid (l = s.tk T) := hl
  clear hcase hlen hl
  obtain ⟨bd, hbd⟩ : ∃ bd : Bool, bd = decide (6 < l.length ∨ RS.hexOk l = false ∨ l = []) := ⟨_, rfl⟩
  have HBD : Hid (bd = decide (6 < l.length ∨ RS.hexOk l = false ∨ l = [])) := hbd
  clear hbd
  go_upto_region 2 with fail
  go_cut [4, 18] (fun _ cv wx => cv = .bool bd ∧ Hid (RAt wx b T vN vE vL s) ∧ Hid (Chg (fun k => k = b) w wx))
  case first =>
    rcases HCase.out with ⟨rfl, h1, h2, h3⟩ | ⟨⟨t, a, rfl⟩, hx, hbad⟩
    · have hb1 : Hid (bd = decide (6 < (tokp T s.p).size)) := by show _ = _; rw [HBD.out, HLEN.out]; simp [h1, h2]
      clear h1 h2 h3
      go_wp2_with fail
      refine (now_ps b T vN vE vL s w2 H2.out).mono ?_
      rintro r w3 ⟨rfl, n, hw3⟩
      have b3 : Below w2.heap.size w2 w3 := by rw [hw3]; exact bdrew (Below.refl _ _) n
      clear hw3
      go_wp2_with fail
      go_meet
      refine ⟨?_, H2.out.later b3, C2.out.trans (Chg.of_below b3)⟩
      rw [hb1.out]
      congr 1
      rw [Bool.eq_iff_iff]; simp; omega
    · have hb1 : Hid (bd = true) := by show _ = _; rw [HBD.out]; simp; rcases hbad with h | h | h <;> simp [h]
      clear hx hbad
      go_wp2_with fail
      go_meet
      exact ⟨by rw [hb1.out], H2, C2⟩
  case rest =>
    obtain ⟨rfl, h3, c3⟩ := hcut
    obtain ⟨w3, hw3⟩ : ∃ w3, w3 = wc := ⟨wc, rfl⟩
    subst hw3
    clear H2 C2
    obtain ⟨s3, hs3⟩ : ∃ s3, s3 = if bd = true then s.fail T 2 else s := ⟨_, rfl⟩
    have HS3 : Hid (s3 = if bd = true then s.fail T 2 else s) := hs3
    clear hs3
    go_upto_if 18 with fail
    go_cut [] (fun wx => Hid (RAt wx b T vN vE vL s3) ∧ Hid (Chg (fun k => k = b) w wx))
    case first =>
      cases bd
      · have e : Hid (s3 = s) := by show _ = _; rw [HS3.out]; rfl
        go_wp2_with fail
        go_meet
        exact ⟨by rw [e.out]; exact h3, c3⟩
      · have e : Hid (s3 = s.fail T 2) := by show _ = _; rw [HS3.out]; rfl
        go_wp2_with fail
        refine (fail_ps b T vN vE vL s 2 w3 h3.out).mono ?_
        rintro r w4 ⟨rfl, h4, c4⟩
        have H4 : Hid (RAt w4 b T vN vE vL (s.fail T 2)) := h4
        clear h4
        go_wp2_with fail
        go_meet
        exact ⟨by rw [e.out]; exact H4, c3.out.trans c4⟩
    case rest =>
      obtain ⟨h4, c4⟩ := hcut
      obtain ⟨w4, hw4⟩ : ∃ w4, w4 = wc := ⟨wc, rfl⟩
      subst hw4
      clear h3 c3
      obtain ⟨s4, hs4⟩ : ∃ s4, s4 = if 1114111 < x then s3.fail T 5 else s3 := ⟨_, rfl⟩
      have HS4 : Hid (s4 = if 1114111 < x then s3.fail T 5 else s3) := hs4
      clear hs4
      go_upto_if 22 with fail
      go_cut [] (fun wx => Hid (RAt wx b T vN vE vL s4) ∧ Hid (Chg (fun k => k = b) w wx))
      case first =>
        by_cases h5 : 1114111 < x
        · have e : Hid (s4 = s3.fail T 5) := by show _ = _; rw [HS4.out, if_pos h5]
          go_wp2_with fail
          refine (fail_ps b T vN vE vL s3 5 w4 h4.out).mono ?_
          rintro r w5 ⟨rfl, h6, c5⟩
          have H6 : Hid (RAt w5 b T vN vE vL (s3.fail T 5)) := h6
          clear h6
          go_wp2_with fail
          go_meet
          exact ⟨by rw [e.out]; exact H6, c4.out.trans c5⟩
        · have e : Hid (s4 = s3) := by show _ = _; rw [HS4.out, if_neg h5]
          go_wp2_with fail
          go_meet
          exact ⟨by rw [e.out]; exact h4, c4⟩
      case rest =>
        obtain ⟨h5, c5⟩ := hcut
        obtain ⟨w5, hw5⟩ : ∃ w5, w5 = wc := ⟨wc, rfl⟩
        subst hw5
        clear h4 c4
        have HFin : Hid (s4.step T = s.hex T ∧ (hexErr (s.tk T) = 0 → x = RS.hexN (s.tk T) ∧ x ≤ 1114111)) := by
          have hb := HBD.out
          have h3 := HS3.out
          have h4 := HS4.out
          have he := HCase.out
          rw [HLL.out] at hb he
          constructor
          · unfold PS.hex hexErr
            by_cases hbad : 6 < (s.tk T).length ∨ RS.hexOk (s.tk T) = false ∨ s.tk T = []
            · have hbt : bd = true := by rw [hb]; exact decide_eq_true hbad
              rw [hbt] at h3
              simp only [if_true] at h3
              have h4' : s4 = s.fail T 2 := by
                rw [h4]; split
                · rw [h3]; exact fail_twice T s 2 5 (by decide)
                · exact h3
              rw [if_pos hbad, h4', if_neg (by decide)]
              exact step_end T _ rfl
            · have hbf : bd = false := by rw [hb]; exact decide_eq_false hbad
              rw [hbf] at h3
              simp only [Bool.false_eq_true, if_false] at h3
              have hx2 : x = RS.hexN (s.tk T) := by
                rcases he with ⟨_, _, _, h⟩ | ⟨_, _, h⟩
                · exact h
                · exfalso; apply hbad; rcases h with h | h | h <;> simp [h]
              rw [if_neg hbad, ← hx2, h4, h3]
              by_cases h5 : 1114111 < x
              · rw [if_pos h5, if_pos h5, if_neg (by decide)]; exact step_end T _ rfl
              · rw [if_neg h5, if_neg h5, if_pos rfl]
          · intro h0
            unfold hexErr at h0
            by_cases hbad : 6 < (s.tk T).length ∨ RS.hexOk (s.tk T) = false ∨ s.tk T = []
            · rw [if_pos hbad] at h0; omega
            · rw [if_neg hbad] at h0
              rcases he with ⟨_, _, _, h⟩ | ⟨_, _, h⟩
              · refine ⟨h, ?_⟩
                by_cases h5 : 1114111 < RS.hexN (s.tk T)
                · rw [if_pos h5] at h0; omega
                · omega
              · exfalso; apply hbad; rcases h with h | h | h <;> simp [h]
        obtain ⟨y, hy⟩ : ∃ y, IntKind.i32.wrap x = y := ⟨_, rfl⟩
        have HY : Hid (y = IntKind.i32.wrap x) := hy.symm
        go_wp2_with fail
        refine (step_ps b T vN vE vL s4 w5 h5.out).mono ?_
        rintro r w6 ⟨rfl, h6, c6⟩
        rw [HFin.out.1] at h6
        have H6 : Hid (RAt w6 b T vN vE vL (s.hex T)) := h6
        clear h6
        go_wp2_with fail
        go_ret
        refine ⟨⟨y, rfl, fun h0 => ?_⟩, H6.out, c5.out.trans c6⟩
        have := HFin.out.2 h0
        rw [HY.out, IntWalk.i32_in _ ⟨by omega, by omega⟩]
        exact this.1
end Go.Proofs.YtonooajnjgnmnaaGreatDoor
