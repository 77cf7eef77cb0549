/- The program's reader: its words. -/
import Derived.Test.YtonooajnjgnmnaaGreatDoorL
import Derived.Test.YtonooajnjgnmnaaGreatDoorW3
namespace Go.Proofs.YtonooajnjgnmnaaGreatDoor
open Go.RowKit

set_option maxHeartbeats 400000 in
theorem isBlank_any (c : UInt8) (w : World) :
    Calls Tryz.prog 27 #[.int .u8 c.toNat] w fun e w' => e = .returned (.bool (blankN c.toNat)) ∧ w' = w := by
  go_enter Tryz.func27, Tryz.ntmps27
  go_wp2
  all_goals (go_ret; refine ⟨ret_bool ?_, rfl⟩; rw [Bool.eq_iff_iff]; simp [blankN]; omega)

set_option maxHeartbeats 1000000 in
theorem isWordByte_any (c : UInt8) (w : World) :
    Calls Tryz.prog 28 #[.int .u8 c.toNat] w fun e w' => e = .returned (.bool (letterN c.toNat)) ∧ w' = w := by
  have hc : c.toNat < 256 := c.toNat_lt
  have hr : c.toNat < 48 ∨ (48 ≤ c.toNat ∧ c.toNat ≤ 57) ∨ (58 ≤ c.toNat ∧ c.toNat ≤ 64) ∨ (65 ≤ c.toNat ∧ c.toNat ≤ 90) ∨ (91 ≤ c.toNat ∧ c.toNat ≤ 96) ∨ (97 ≤ c.toNat ∧ c.toNat ≤ 122) ∨ 123 ≤ c.toNat := by omega
  rcases hr with hr | ⟨hr, hr'⟩ | ⟨hr, hr'⟩ | ⟨hr, hr'⟩ | ⟨hr, hr'⟩ | ⟨hr, hr'⟩ | hr
  all_goals
    go_enter Tryz.func28, Tryz.ntmps28
    go_wp2
    go_ret
    refine ⟨ret_bool ?_, rfl⟩
    rw [Bool.eq_iff_iff]; simp [letterN]; omega

/-- The fault that is kept, and its place. -/
def pf (fault no : Int) : Int := if fault = 0 then no else fault
def pp (fault at_ place : Int) : Int := if fault = 0 then at_ else place
/-- The cells of the program's reader. -/
def pcell (T : ByteArray) (at_ en : Int) (vN vE vL : Value) (fault place : Int) : Array Value :=
  #[.string T, .int .i64 at_, .int .i64 en, vN, vE, vL, .int .i64 fault, .int .i64 place]
def PBlk (w : World) (b : Nat) (T : ByteArray) (at_ en : Int) (vN vE vL : Value) (fault place : Int) : Prop :=
  w.heap[b]? = some (.cells (pcell T at_ en vN vE vL fault place) 51 (0, 0))
theorem pcells {w : World} {b : Nat} {T : ByteArray} {at_ en : Int} {vN vE vL : Value} {fault place : Int} (h : PBlk w b T at_ en vN vE vL fault place) :
    w.cell? ⟨b, 0, none⟩ = some (.string T) ∧ w.cell? ⟨b, 1, none⟩ = some (.int .i64 at_) ∧ w.cell? ⟨b, 2, none⟩ = some (.int .i64 en) ∧ w.cell? ⟨b, 3, none⟩ = some vN ∧ w.cell? ⟨b, 4, none⟩ = some vE ∧ w.cell? ⟨b, 5, none⟩ = some vL ∧
    w.cell? ⟨b, 6, none⟩ = some (.int .i64 fault) ∧ w.cell? ⟨b, 7, none⟩ = some (.int .i64 place) ∧ (∀ o, w.frozen? ⟨b, o, none⟩ = false) :=
  ⟨cell_of_block h _ _ rfl, cell_of_block h _ _ rfl, cell_of_block h _ _ rfl, cell_of_block h _ _ rfl, cell_of_block h _ _ rfl, cell_of_block h _ _ rfl, cell_of_block h _ _ rfl, cell_of_block h _ _ rfl, free_of_block h⟩

set_option maxHeartbeats 1000000 in
theorem now_any (b : Nat) (T : ByteArray) (a e : Nat) (vN vE vL : Value) (fault place : Int) (w : World) (h : PBlk w b T a e vN vE vL fault place) (h1 : a ≤ e) (h2 : e ≤ T.size) :
    Calls Tryz.prog 30 #[.pointer (some ⟨b, 0, none⟩)] w fun r w' => r = .returned (.string (T.extract a e)) ∧ ∃ n, w' = w.drewN n := by
  obtain ⟨c0, c1, c2, c3, c4, c5, c6, c7, hf⟩ := pcells h
  go_enter Tryz.func30, Tryz.ntmps30
  go_wp2
  go_quiet (fail)
  go_wp2
  go_ret
  exact ⟨rfl, _, rfl⟩

set_option maxHeartbeats 1000000 in
theorem ended_any (b : Nat) (T : ByteArray) (a e : Nat) (vN vE vL : Value) (fault place : Int) (w : World) (h : PBlk w b T a e vN vE vL fault place) :
    Calls Tryz.prog 17 #[.pointer (some ⟨b, 0, none⟩)] w fun r w' => r = .returned (.bool (decide (a = T.size))) ∧ ∃ n, w' = w.drewN n := by
  obtain ⟨c0, c1, c2, c3, c4, c5, c6, c7, hf⟩ := pcells h
  go_enter Tryz.func17, Tryz.ntmps17
  go_wp2
  go_quiet (fail)
  go_wp2
  go_ret
  refine ⟨ret_bool ?_, _, rfl⟩
  rw [Bool.eq_iff_iff]; simp; omega

theorem pset4 {w : World} {b : Nat} {T : ByteArray} {a e : Int} {vN vE vL : Value} {fault place : Int} (h : PBlk w b T a e vN vE vL fault place) (no at_ : Int) (x : Int) :
    PBlk ((((w.setCell ⟨b, 6, none⟩ (.int .i64 no)).setCell ⟨b, 7, none⟩ (.int .i64 at_)).setCell ⟨b, 1, none⟩ (.int .i64 x)).setCell ⟨b, 2, none⟩ (.int .i64 x)) b T x x vN vE vL no at_ ∧
    Chg (fun k => k = b) w ((((w.setCell ⟨b, 6, none⟩ (.int .i64 no)).setCell ⟨b, 7, none⟩ (.int .i64 at_)).setCell ⟨b, 1, none⟩ (.int .i64 x)).setCell ⟨b, 2, none⟩ (.int .i64 x)) :=
  ⟨(block_setCell (block_setCell (block_setCell (block_setCell h 6 _) 7 _) 1 _) 2 _).trans rfl, ((((Chg.refl _ _).set1 _).set1 _).set1 _).set1 _⟩
theorem pset2 {w : World} {b : Nat} {T : ByteArray} {a e : Int} {vN vE vL : Value} {fault place : Int} (h : PBlk w b T a e vN vE vL fault place) (x : Int) :
    PBlk ((w.setCell ⟨b, 1, none⟩ (.int .i64 x)).setCell ⟨b, 2, none⟩ (.int .i64 x)) b T x x vN vE vL fault place ∧ Chg (fun k => k = b) w ((w.setCell ⟨b, 1, none⟩ (.int .i64 x)).setCell ⟨b, 2, none⟩ (.int .i64 x)) :=
  ⟨(block_setCell (block_setCell h 1 _) 2 _).trans rfl, ((Chg.refl _ _).set1 _).set1 _⟩

set_option maxHeartbeats 1000000 in
theorem failAt_any (b : Nat) (T : ByteArray) (a e : Nat) (vN vE vL : Value) (fault place : Int) (no at_ : Int) (w : World) (h : PBlk w b T a e vN vE vL fault place) :
    Calls Tryz.prog 37 #[.pointer (some ⟨b, 0, none⟩), .int .i64 no, .int .i64 at_] w fun r w' => r = .returned (.tuple #[]) ∧ PBlk w' b T T.size T.size vN vE vL (pf fault no) (pp fault at_ place) ∧ Chg (fun k => k = b) w w' := by
  obtain ⟨c0, c1, c2, c3, c4, c5, c6, c7, hf⟩ := pcells h
  have HH : Hid (PBlk w b T a e vN vE vL fault place) := h
  clear h
  by_cases h0 : fault = 0
  · have k0 : (fault == 0) = true := by rw [beq_iff_eq]; exact h0
    have e1 : pf fault no = no := by unfold pf; rw [if_pos h0]
    have e2 : pp fault at_ place = at_ := by unfold pp; rw [if_pos h0]
    rw [e1, e2]
    clear h0 e1 e2
    go_enter Tryz.func37, Tryz.ntmps37
    go_wp2
    go_region
    all_goals (try go_wp2)
    all_goals go_end0
    all_goals exact ⟨rfl, (pset4 HH.out no at_ _).1, (pset4 HH.out no at_ _).2.drew⟩
  · have k0 : (fault == 0) = false := by rw [beq_eq_false_iff_ne]; exact h0
    have e1 : pf fault no = fault := by unfold pf; rw [if_neg h0]
    have e2 : pp fault at_ place = place := by unfold pp; rw [if_neg h0]
    rw [e1, e2]
    clear h0 e1 e2
    go_enter Tryz.func37, Tryz.ntmps37
    go_wp2
    go_region
    all_goals (try go_wp2)
    all_goals go_end0
    all_goals exact ⟨rfl, (pset2 HH.out _).1, (pset2 HH.out _).2.drew⟩

set_option maxHeartbeats 1000000 in
theorem fail_pr (b : Nat) (T : ByteArray) (a e : Nat) (vN vE vL : Value) (fault place : Int) (no : Int) (w : World) (h : PBlk w b T a e vN vE vL fault place) :
    Calls Tryz.prog 18 #[.pointer (some ⟨b, 0, none⟩), .int .i64 no] w fun r w' => r = .returned (.tuple #[]) ∧ PBlk w' b T T.size T.size vN vE vL (pf fault no) (pp fault (a : Int) place) ∧ Chg (fun k => k = b) w w' := by
  obtain ⟨c0, c1, c2, c3, c4, c5, c6, c7, hf⟩ := pcells h
  go_enter Tryz.func18, Tryz.ntmps18
  go_wp2_with fail
  refine (failAt_any b T a e vN vE vL fault place no a _ h).mono ?_
  rintro r w1 ⟨rfl, h1, c1'⟩
  have H1 : Hid (PBlk w1 b T T.size T.size vN vE vL (pf fault no) (pp fault (a : Int) place)) := h1
  clear h1
  go_wp2_with fail
  go_end0
  exact ⟨rfl, H1.out, c1'⟩

set_option maxHeartbeats 1000000 in
theorem index_any (v : Value) (base : Nat) (names : List ByteArray) (s : ByteArray) (w : World) (hN : w.ownsRow base 9 1 v names.length (names.map .string)) (hl : names.length ≤ 100) :
    Calls Tryz.prog 40 #[v, .string s] w fun e w' => e = .returned (.int .i64 (clsIx names s.toList)) ∧ w' = w := by
  have hform : ∃ ao cap, v = .slice ao names.length cap ∧ ∀ i (hi : i < names.length), ∃ g, ao = some ⟨g, 0, none⟩ ∧ w.cell? ⟨g, i, none⟩ = some (.string names[i]) := by
    obtain ⟨h1, h2⟩ := hN
    rcases h2 with ⟨hv, hn⟩ | ⟨g, cap, cur, hv, hg, hh, hcap, hmx, hsz, hcur⟩
    · exact ⟨none, 0, by rw [hv, hn], fun i hi => by omega⟩
    · refine ⟨some ⟨g, 0, none⟩, cap, hv, fun i hi => ⟨g, rfl, ?_⟩⟩
      refine cell_of_block hh i _ ?_
      have e1 : (cur.toList.take (names.length * 1))[i]? = some (.string names[i]) := by rw [hcur]; simp [hi]
      rw [List.getElem?_take] at e1
      rw [if_pos (by omega)] at e1
      simpa using e1
  obtain ⟨ao, cap, hv, hcells⟩ := hform
  subst hv
  have HC : Hid (∀ i (hi : i < names.length), ∃ g, ao = some ⟨g, 0, none⟩ ∧ w.cell? ⟨g, i, none⟩ = some (.string names[i])) := hcells
  clear hcells hN
  go_enter Tryz.func40, Tryz.ntmps40
  go_wp2
  go_loop [8] (fun v => ∃ i : Nat, i ≤ names.length ∧ v = .int .i64 i ∧ Hid (∀ j (_ : j < i) (hj : j < names.length), (s.toList == names[j].toList) = false)) (fun v => names.length - (intOf v).toNat)
  case atStart => exact ⟨0, Nat.zero_le _, rfl, fun j hj => by omega⟩
  case round =>
    obtain ⟨i, hi, rfl, hnot⟩ := hrel
    by_cases hlt : i < names.length
    · obtain ⟨g, rfl, hcell⟩ := HC.out i hlt
      cases he : (s.toList == names[i].toList)
      · go_wp2
        go_round
        case rel => exact ⟨i + 1, by omega, by go_num, fun j hj hj2 => if e : j = i then by subst e; exact he else hnot.out j (by omega) hj2⟩
        case measure => simp [intOf]; omega
      · go_wp2
        go_ret
        exact ⟨ret_int (clsIx_some hlt (by rw [BEq.comm]; exact he) (fun j hj hj2 => by rw [BEq.comm]; exact hnot.out j hj hj2)).symm, rfl⟩
    · go_wp2
      go_ret
      exact ⟨ret_int (clsIx_none (fun j hj => by rw [BEq.comm]; exact hnot.out j (by omega) hj)).symm, rfl⟩
end Go.Proofs.YtonooajnjgnmnaaGreatDoor
