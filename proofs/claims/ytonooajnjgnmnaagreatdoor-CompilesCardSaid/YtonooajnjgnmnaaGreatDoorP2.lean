import Derived.Deep.DeepCutAuto
import Derived.Deep.CutBlock
import Derived.Test.YtonooajnjgnmnaaGreatDoorP1
namespace Go.Proofs.YtonooajnjgnmnaaGreatDoor
open Go.RowKit

theorem pset_at {w : World} {b : Nat} {T : ByteArray} {a e : Int} {vN vE vL : Value} {fault place : Int} (h : PBlk w b T a e vN vE vL fault place) (x : Int) : PBlk (w.setCell ⟨b, 1, none⟩ (.int .i64 x)) b T x e vN vE vL fault place := (block_setCell h 1 _).trans rfl
theorem pset_en {w : World} {b : Nat} {T : ByteArray} {a e : Int} {vN vE vL : Value} {fault place : Int} (h : PBlk w b T a e vN vE vL fault place) (x : Int) : PBlk (w.setCell ⟨b, 2, none⟩ (.int .i64 x)) b T a x vN vE vL fault place := (block_setCell h 2 _).trans rfl

set_option maxRecDepth 100000 in
set_option maxHeartbeats 4000000 in
theorem step_any (b : Nat) (T : ByteArray) (a e : Nat) (vN vE vL : Value) (fault place : Int) (w : World) (h : PBlk w b T a e vN vE vL fault place) (he : e ≤ T.size) (hT : T.size ≤ 1000) :
    Calls Tryz.prog 13 #[.pointer (some ⟨b, 0, none⟩)] w fun r w' => r = .returned (.tuple #[]) ∧ PBlk w' b T (skip T e : Nat) (tokEnd T (skip T e) : Nat) vN vE vL fault place ∧ Chg (fun k => k = b) w w' := by
  obtain ⟨c0, c1, c2, c3, c4, c5, c6, c7, hf⟩ := pcells h
  have HH : Hid (PBlk w b T a e vN vE vL fault place) := h
  clear h
  go_enter Tryz.func13, Tryz.ntmps13
  go_upto_block 0 with fail
  go_cut [] (fun wx => Chg (fun k => k = b) w wx ∧ Hid (PBlk wx b T (skip T e : Nat) e vN vE vL fault place))
  case first =>
    go_wp2_with fail
    go_loopg [] (T.size - e) (fun g wx => ∃ k : Nat, e ≤ k ∧ k ≤ T.size ∧ g = T.size - k ∧ Hid (skip T k = skip T e) ∧ Chg (fun k => k = b) w wx ∧ Hid (PBlk wx b T k e vN vE vL fault place))
    case atStart => exact ⟨e, Nat.le_refl _, he, rfl, rfl, (Chg.refl _ _).set1 _, pset_at HH.out _⟩
    case round =>
      obtain ⟨k, hk1, hk2, rfl, hs, hc, hb⟩ := hrel
      obtain ⟨w1, hw1⟩ : ∃ w1, w1 = wr := ⟨wr, rfl⟩
      subst hw1
      clear c0 c1 c2 c3 c4 c5 c6 c7 hf
      obtain ⟨c0, c1, c2, c3, c4, c5, c6, c7, hf⟩ := pcells hb.out
      by_cases hlt : k < T.size
      · cases hbl : blankN (T[k].toNat)
        · have hstop : Hid (skip T e = k) := by show _ = _; rw [← hs.out]; exact skip_stop (Or.inr (by rw [at0_eq hlt]; exact hbl))
          go_wp2_with fail
          go_quiet ((go_at_call 27; exact Calls.quiet_of_same (isBlank_any _ _)))
          go_wp2_with fail
          go_meet
          exact ⟨hc.drewN _, by rw [hstop.out]; exact hb.out⟩
        · have hgo : Hid (skip T (k + 1) = skip T e) := by show _ = _; rw [← hs.out]; exact (skip_go hlt (by rw [at0_eq hlt]; exact hbl)).symm
          go_wp2_with fail
          go_quiet ((go_at_call 27; exact Calls.quiet_of_same (isBlank_any _ _)))
          go_wp2_with fail
          go_roundg (T.size - (k + 1))
          case measure => omega
          case rel => exact ⟨k + 1, by omega, by omega, rfl, hgo, (hc.drewN _).set1 _, by show PBlk _ _ _ _ _ _ _ _ _ _; exact pset_at hb.out _⟩
      · have hd : decide ((k : Int) < (T.size : Int)) = false := by simp; omega
        have hstop : Hid (skip T e = k) := by show _ = _; rw [← hs.out]; exact skip_stop (Or.inl (by omega))
        go_wp2_with fail
        go_quiet ((go_at_call 27; exact Calls.quiet_of_same (isBlank_any _ _)))
        go_wp2_with fail
        go_meet
        exact ⟨hc.drewN _, by rw [hstop.out]; exact hb.out⟩
  case rest =>
    obtain ⟨hc1, hb1⟩ := hcut
    obtain ⟨w1, hw1⟩ : ∃ w1, w1 = wc := ⟨wc, rfl⟩
    subst hw1
    clear c0 c1 c2 c3 c4 c5 c6 c7 hf
    obtain ⟨c0, c1, c2, c3, c4, c5, c6, c7, hf⟩ := pcells hb1.out
    have hsk := (skip_le T e).2 he
    obtain ⟨p, hp⟩ : ∃ p, p = skip T e := ⟨_, rfl⟩
    rw [← hp] at hb1 c1 hsk
    have HP : Hid (p = skip T e) := hp
    clear hp
    go_upto_block 2 with fail
    go_cut [] (fun wx => Chg (fun k => k = b) w wx ∧ Hid (PBlk wx b T p (wordEnd T p : Nat) vN vE vL fault place))
    case first =>
      go_wp2_with fail
      go_loopg [] (T.size - p) (fun g wx => ∃ k : Nat, p ≤ k ∧ k ≤ T.size ∧ g = T.size - k ∧ Hid (wordEnd T k = wordEnd T p) ∧ Chg (fun k => k = b) w wx ∧ Hid (PBlk wx b T p k vN vE vL fault place))
      case atStart => exact ⟨p, Nat.le_refl _, hsk, rfl, rfl, hc1.set1 _, pset_en hb1.out _⟩
      case round =>
        obtain ⟨k, hk1, hk2, rfl, hs, hc, hb⟩ := hrel
        obtain ⟨w2, hw2⟩ : ∃ w2, w2 = wr := ⟨wr, rfl⟩
        subst hw2
        clear c0 c1 c2 c3 c4 c5 c6 c7 hf
        obtain ⟨c0, c1, c2, c3, c4, c5, c6, c7, hf⟩ := pcells hb.out
        by_cases hlt : k < T.size
        · cases hbl : letterN (T[k].toNat)
          · have hstop : Hid (wordEnd T p = k) := by show _ = _; rw [← hs.out]; exact word_stop (Or.inr (by rw [at0_eq hlt]; exact hbl))
            go_wp2_with fail
            go_quiet ((go_at_call 28; exact Calls.quiet_of_same (isWordByte_any _ _)))
            go_wp2_with fail
            go_meet
            exact ⟨hc.drewN _, by rw [hstop.out]; exact hb.out⟩
          · have hgo : Hid (wordEnd T (k + 1) = wordEnd T p) := by show _ = _; rw [← hs.out]; exact (word_go hlt (by rw [at0_eq hlt]; exact hbl)).symm
            go_wp2_with fail
            go_quiet ((go_at_call 28; exact Calls.quiet_of_same (isWordByte_any _ _)))
            go_wp2_with fail
            go_roundg (T.size - (k + 1))
            case measure => omega
            case rel => exact ⟨k + 1, by omega, by omega, rfl, hgo, (hc.drewN _).set1 _, by show PBlk _ _ _ _ _ _ _ _ _ _; exact pset_en hb.out _⟩
        · have hd : decide ((k : Int) < (T.size : Int)) = false := by simp; omega
          have hstop : Hid (wordEnd T p = k) := by show _ = _; rw [← hs.out]; exact word_stop (Or.inl (by omega))
          go_wp2_with fail
          go_quiet ((go_at_call 28; exact Calls.quiet_of_same (isWordByte_any _ _)))
          go_wp2_with fail
          go_meet
          exact ⟨hc.drewN _, by rw [hstop.out]; exact hb.out⟩
    case rest =>
      obtain ⟨hc2, hb2⟩ := hcut
      obtain ⟨w2, hw2⟩ : ∃ w2, w2 = wc := ⟨wc, rfl⟩
      subst hw2
      clear c0 c1 c2 c3 c4 c5 c6 c7 hf hc1 hb1
      obtain ⟨c0, c1, c2, c3, c4, c5, c6, c7, hf⟩ := pcells hb2.out
      have hwl := word_le T p
      have hw2' := hwl.2 hsk
      have hw1' := hwl.1
      obtain ⟨q, hq⟩ : ∃ q, q = wordEnd T p := ⟨_, rfl⟩
      rw [← hq] at hb2 c2 hw1' hw2'
      have HQ : Hid (q = wordEnd T p) := hq
      clear hq hwl
      by_cases e1 : q = p
      · have k1 : ((q : Int) == (p : Int)) = true := by rw [beq_iff_eq]; omega
        by_cases e2 : q < T.size
        · have hend : Hid (tokEnd T p = q + 1) := by show _ = _; unfold tokEnd; rw [if_pos ⟨by rw [← HQ.out]; exact e1, by omega⟩]; omega
          clear e1
          go_wp2_with fail
          go_quiet (fail)
          go_wp2_with fail
          go_end0
          exact ⟨rfl, by rw [← HP.out, hend.out]; exact pset_en hb2.out _, (hc2.drewN _).set1 _⟩
        · have hd : decide ((q : Int) < (T.size : Int)) = false := by simp; omega
          have hend : Hid (tokEnd T p = q) := by show _ = _; unfold tokEnd; rw [if_neg (by omega)]; exact HQ.out.symm
          clear e1
          go_wp2_with fail
          go_quiet (fail)
          go_wp2_with fail
          go_end0
          exact ⟨rfl, by rw [← HP.out, hend.out]; exact hb2.out, hc2.drewN _⟩
      · have k1 : ((q : Int) == (p : Int)) = false := by rw [beq_eq_false_iff_ne]; omega
        have hend : Hid (tokEnd T p = q) := by show _ = _; unfold tokEnd; rw [if_neg (by rw [← HQ.out]; omega)]; exact HQ.out.symm
        clear e1
        go_wp2_with fail
        go_quiet (fail)
        go_wp2_with fail
        go_end0
        exact ⟨rfl, by rw [← HP.out, hend.out]; exact hb2.out, hc2.drewN _⟩
end Go.Proofs.YtonooajnjgnmnaaGreatDoor
