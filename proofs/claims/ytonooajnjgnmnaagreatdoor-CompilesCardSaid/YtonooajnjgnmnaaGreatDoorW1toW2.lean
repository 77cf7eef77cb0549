import Derived.Test.YtonooajnjgnmnaaGreatDoorProg
import Derived.Test.YtonooajnjgnmnaaGreatDoorB
namespace Go.Proofs.YtonooajnjgnmnaaGreatDoor
open Go.RowKit

set_option maxHeartbeats 400000 in
theorem letter_any (c : UInt8) (w : World) :
    Calls Tryz.prog 19 #[.int .u8 c.toNat] w fun e w' => e = .returned (.bool (letterN c.toNat)) ∧ w' = w := by
  go_enter Tryz.func19, Tryz.ntmps19
  go_wp2
  all_goals (go_ret; refine ⟨ret_bool ?_, rfl⟩; rw [Bool.eq_iff_iff]; simp [letterN]; omega)

/-- The cells of a reference Rules. -/
def rcell (T : ByteArray) (at_ err place : Int) (vN vS vL : Value) (atoms nest : Int) : Array Value :=
  #[.string T, .int .i64 at_, .int .i64 err, .int .i64 place, vN, vS, vL, .int .i64 atoms, .int .i64 nest, .slice none 0 0, .slice none 0 0]

theorem rcells {w : World} {b : Nat} {T : ByteArray} {at_ err place : Int} {vN vS vL : Value} {atoms nest : Int} (h : w.heap[b]? = some (.cells (rcell T at_ err place vN vS vL atoms nest) 35 (0, 0))) :
    w.cell? ⟨b, 0, none⟩ = some (.string T) ∧ w.cell? ⟨b, 1, none⟩ = some (.int .i64 at_) ∧ w.cell? ⟨b, 2, none⟩ = some (.int .i64 err) ∧ w.cell? ⟨b, 3, none⟩ = some (.int .i64 place) ∧
    w.cell? ⟨b, 4, none⟩ = some vN ∧ w.cell? ⟨b, 5, none⟩ = some vS ∧ w.cell? ⟨b, 6, none⟩ = some vL ∧ w.cell? ⟨b, 7, none⟩ = some (.int .i64 atoms) ∧ w.cell? ⟨b, 8, none⟩ = some (.int .i64 nest) ∧ (∀ o, w.frozen? ⟨b, o, none⟩ = false) :=
  ⟨cell_of_block h _ _ rfl, cell_of_block h _ _ rfl, cell_of_block h _ _ rfl, cell_of_block h _ _ rfl, cell_of_block h _ _ rfl, cell_of_block h _ _ rfl, cell_of_block h _ _ rfl, cell_of_block h _ _ rfl, cell_of_block h _ _ rfl, free_of_block h⟩

set_option maxHeartbeats 400000 in
theorem fail_no (b : Nat) (T : ByteArray) (at_ err place : Int) (vN vS vL : Value) (atoms nest : Int) (e0 p0 : Int) (w : World)
    (h : w.heap[b]? = some (.cells (rcell T at_ err place vN vS vL atoms nest) 35 (0, 0))) (hn : (err == 0) = false) :
    Calls Tryz.prog 9 #[.pointer (some ⟨b, 0, none⟩), .int .i64 e0, .int .i64 p0] w fun e w' => e = .returned (.tuple #[]) ∧ w' = w := by
  obtain ⟨c0, c1, c2, c3, c4, c5, c6, c7, c8, hf⟩ := rcells h
  go_enter Tryz.func9, Tryz.ntmps9
  go_wp2
  go_end0
  exact ⟨rfl, rfl⟩

set_option maxHeartbeats 400000 in
theorem fail_yes (b : Nat) (T : ByteArray) (at_ place : Int) (vN vS vL : Value) (atoms nest : Int) (e0 p0 : Int) (w : World)
    (h : w.heap[b]? = some (.cells (rcell T at_ 0 place vN vS vL atoms nest) 35 (0, 0))) :
    Calls Tryz.prog 9 #[.pointer (some ⟨b, 0, none⟩), .int .i64 e0, .int .i64 p0] w fun e w' => e = .returned (.tuple #[]) ∧
      w'.heap[b]? = some (.cells (rcell T at_ e0 p0 vN vS vL atoms nest) 35 (0, 0)) ∧ Chg (fun k => k = b) w w' := by
  obtain ⟨c0, c1, c2, c3, c4, c5, c6, c7, c8, hf⟩ := rcells h
  go_enter Tryz.func9, Tryz.ntmps9
  go_wp2
  go_end0
  refine ⟨rfl, ?_, ((Chg.refl _ _).set1 _).set1 _⟩
  rw [block_setCell (block_setCell h _ _)]; rfl
end Go.Proofs.YtonooajnjgnmnaaGreatDoor
namespace Go.Proofs.YtonooajnjgnmnaaGreatDoor
open Go.RowKit

theorem at0_eq {T : ByteArray} {i : Nat} (h : i < T.size) : at0 T i = (T[i]'h).toNat := by simp [at0, h]

theorem peek_fin {T : ByteArray} {at_ k : Nat} (hs : skip T at_ = k) (j : Nat) (h : (wordEnd T k = k ∧ k < T.size ∧ j = k + 1) ∨ (wordEnd T k = j ∧ (j ≠ k ∨ T.size ≤ k))) :
    Ending.returned (.tuple #[.string (T.extract k j), .int .i64 (k : Int)]) = Ending.returned (.tuple #[.string (tok T at_), .int .i64 (skip T at_ : Nat)]) := by
  have : tokEnd T k = j := by
    unfold tokEnd
    rcases h with ⟨h1, h2, h3⟩ | ⟨h1, h2⟩
    · rw [if_pos ⟨h1, h2⟩, h3]
    · rw [if_neg (by omega), h1]
  unfold tok; rw [hs, this]

set_option maxHeartbeats 2000000 in
theorem peek_any (b : Nat) (T : ByteArray) (at_ : Nat) (err place : Int) (vN vS vL : Value) (atoms nest : Int) (w : World)
    (h : w.heap[b]? = some (.cells (rcell T at_ err place vN vS vL atoms nest) 35 (0, 0))) (hT : T.size ≤ 1000) (hat : at_ ≤ T.size) :
    Calls Tryz.prog 10 #[.pointer (some ⟨b, 0, none⟩)] w fun e w' => e = .returned (.tuple #[.string (tok T at_), .int .i64 (skip T at_ : Nat)]) ∧
      w'.heap[b]? = some (.cells (rcell T (skip T at_ : Nat) err place vN vS vL atoms nest) 35 (0, 0)) ∧ Chg (fun k => k = b) w w' := by
  go_enter Tryz.func10, Tryz.ntmps10
  go_wp2
  go_loopg [] (T.size - at_) (fun g wr => ∃ k : Nat, at_ ≤ k ∧ k ≤ T.size ∧ g = T.size - k ∧ Hid (skip T k = skip T at_) ∧ Chg (fun k => k = b) w wr ∧ wr.heap[b]? = some (.cells (rcell T k err place vN vS vL atoms nest) 35 (0, 0)))
  case atStart => exact ⟨at_, Nat.le_refl _, hat, rfl, rfl, Chg.refl _ _, h⟩
  case round =>
    obtain ⟨k, hk1, hk2, rfl, hs, hc, hb⟩ := hrel
    obtain ⟨c0, c1, c2, c3, c4, c5, c6, c7, c8, hf⟩ := rcells hb
    by_cases hbl : ∃ hlt : k < T.size, T[k].toNat = 32 ∨ T[k].toNat = 10
    · obtain ⟨hlt, hbl⟩ := hbl
      have hgo : Hid (skip T (k + 1) = skip T at_) := by
        rw [← hs.out]; exact (skip_go hlt (by rw [at0_eq hlt]; simpa [blankN] using hbl)).symm
      by_cases h1 : T[k].toNat = 32
      · have h1' : ((T[k].toNat : Int) == 32) = true := by simp [h1]
        clear hbl
        go_wp2
        go_quiet (fail)
        go_wp2
        go_roundg (T.size - (k + 1))
        case measure => omega
        case rel => exact ⟨k + 1, by omega, by omega, rfl, hgo, (hc.drewN _).set1 _, (block_setCell (w := wr.drewN nq) hb 1 _).trans rfl⟩
      · have h2 : T[k].toNat = 10 := by omega
        have h1' : ((T[k].toNat : Int) == 32) = false := by simp; omega
        have h2' : ((T[k].toNat : Int) == 10) = true := by simp [h2]
        clear hbl h1 h2
        go_wp2
        go_quiet (fail)
        go_wp2
        go_roundg (T.size - (k + 1))
        case measure => omega
        case rel => exact ⟨k + 1, by omega, by omega, rfl, hgo, (hc.drewN _).set1 _, (block_setCell (w := wr.drewN nq) hb 1 _).trans rfl⟩
    · have hstop : Hid (skip T at_ = k) := by
        show skip T at_ = k
        rw [← hs.out]; refine skip_stop ?_
        by_cases hlt : k < T.size
        · right; rw [at0_eq hlt]; simp [blankN]; exact ⟨fun e => hbl ⟨hlt, Or.inl e⟩, fun e => hbl ⟨hlt, Or.inr e⟩⟩
        · left; omega
      have hp : (∃ hlt : k < T.size, ((T[k].toNat : Int) == 32) = false ∧ ((T[k].toNat : Int) == 10) = false) ∨ (¬ k < T.size ∧ decide ((k : Int) < (T.size : Int)) = false) := by
        by_cases hlt : k < T.size
        · left
          refine ⟨hlt, ?_, ?_⟩
          · simp; intro e; exact hbl ⟨hlt, Or.inl (by omega)⟩
          · simp; intro e; exact hbl ⟨hlt, Or.inr (by omega)⟩
        · right; exact ⟨by omega, by simp; omega⟩
      clear hbl hs
      rcases hp with ⟨hlt, h1', h2'⟩ | ⟨hge, hlt'⟩
      all_goals
        go_wp2
        go_quiet (fail)
        go_wp2
        go_loop [4] (fun v => ∃ j : Nat, k ≤ j ∧ j ≤ T.size ∧ v = .int .i64 j ∧ Hid (wordEnd T k = wordEnd T j)) (fun v => T.size - (intOf v).toNat)
        case atStart => exact ⟨k, Nat.le_refl _, hk2, rfl, rfl⟩
        case round =>
          obtain ⟨j, hj1, hj2, rfl, hj⟩ := hrel
          by_cases hjl : j < T.size
          · try (exfalso; omega)
            all_goals
              cases hl : letterN (T[j].toNat)
              · have HW : Hid (wordEnd T k = j) := by rw [hj.out]; exact word_stop (Or.inr (by rw [at0_eq hjl]; exact hl))
                by_cases hjk : j = k
                · subst hjk
                  go_wp2_with (go_at_call 19; refine (letter_any _ _).mono ?_; rintro e w' ⟨rfl, rfl⟩)
                  go_quiet (fail)
                  go_wp2
                  go_ret2
                  exact ⟨peek_fin hstop.out (j + 1) (Or.inl ⟨HW.out, hjl, rfl⟩), by rw [hstop.out]; exact hb, (hc.drewN _).drewN _⟩
                · have hjk' : ((j : Int) == (k : Int)) = false := by simp; omega
                  go_wp2_with (go_at_call 19; refine (letter_any _ _).mono ?_; rintro e w' ⟨rfl, rfl⟩)
                  go_quiet (fail)
                  go_wp2
                  go_ret2
                  exact ⟨peek_fin hstop.out j (Or.inr ⟨HW.out, by omega⟩), by rw [hstop.out]; exact hb, (hc.drewN _).drewN _⟩
              · go_wp2_with (go_at_call 19; refine (letter_any _ _).mono ?_; rintro e w' ⟨rfl, rfl⟩)
                go_round
                case rel => exact ⟨j + 1, by omega, by omega, by go_num, by rw [hj.out]; exact word_go hjl (by rw [at0_eq hjl]; exact hl)⟩
                case measure => simp [intOf]; omega
          · have HW : Hid (wordEnd T k = j) := by rw [hj.out]; exact word_stop (Or.inl (by omega))
            by_cases hjk : j = k
            · try (exfalso; omega)
              all_goals subst hjk
              all_goals go_wp2
              all_goals go_quiet (fail)
              all_goals go_wp2
              all_goals go_ret2
              all_goals exact ⟨by simpa using peek_fin hstop.out j (Or.inr ⟨HW.out, by omega⟩), by rw [hstop.out]; exact hb, (hc.drewN _).drewN _⟩
            · try (exfalso; omega)
              all_goals have hjk' : ((j : Int) == (k : Int)) = false := by simp; omega
              all_goals go_wp2
              all_goals go_quiet (fail)
              all_goals go_wp2
              all_goals go_ret2
              all_goals exact ⟨peek_fin hstop.out j (Or.inr ⟨HW.out, by omega⟩), by rw [hstop.out]; exact hb, (hc.drewN _).drewN _⟩
end Go.Proofs.YtonooajnjgnmnaaGreatDoor
