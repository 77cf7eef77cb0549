import Derived.Test.YtonooajnjgnmnaaGreatDoorW1toW2
import Derived.Test.YtonooajnjgnmnaaGreatDoorR
namespace Go.Proofs.YtonooajnjgnmnaaGreatDoor
open Go.RowKit

theorem tok_size (T : ByteArray) (at_ : Nat) (hat : at_ ≤ T.size) : (skip T at_ : Int) + ((tok T at_).size : Int) = (tokEnd T (skip T at_) : Int) ∧ (tok T at_).size ≤ T.size := by
  have hsk := (skip_le T at_).2 hat
  have htk := tokEnd_le T (skip T at_)
  unfold tok; rw [ByteArray.size_extract]; omega

set_option maxHeartbeats 1000000 in
theorem take_any (b : Nat) (T : ByteArray) (at_ : Nat) (err place : Int) (vN vS vL : Value) (atoms nest : Int) (w : World)
    (h : w.heap[b]? = some (.cells (rcell T at_ err place vN vS vL atoms nest) 35 (0, 0))) (hT : T.size ≤ 1000) (hat : at_ ≤ T.size) :
    Calls Tryz.prog 20 #[.pointer (some ⟨b, 0, none⟩)] w fun e w' => e = .returned (.tuple #[.string (tok T at_), .int .i64 (skip T at_ : Nat)]) ∧
      w'.heap[b]? = some (.cells (rcell T (tokEnd T (skip T at_) : Nat) err place vN vS vL atoms nest) 35 (0, 0)) ∧ Chg (fun k => k = b) w w' := by
  have hsk := (skip_le T at_).2 hat
  have hsz := (tok_size T at_ hat).2
  go_enter Tryz.func20, Tryz.ntmps20
  go_wp2_with (go_at_call 10; refine (peek_any b T at_ err place vN vS vL atoms nest _ h hT hat).mono ?_; rintro e w1 ⟨rfl, hb1, hc1⟩; obtain ⟨c0, c1, c2, c3, c4, c5, c6, c7, c8, hf⟩ := rcells hb1)
  go_ret2
  refine ⟨rfl, ?_, hc1.set1 _⟩
  rw [block_setCell hb1, ← (tok_size T at_ hat).1]; rfl

theorem headD_bytes (s : ByteArray) (h : 0 < s.size) : s.toList.headD 0 = s[0] := by
  rw [ByteArray.toList_eq]
  obtain ⟨⟨l⟩⟩ := s
  cases l with
  | nil => simp [ByteArray.size] at h
  | cons a r => rfl

set_option maxHeartbeats 1000000 in
theorem name_any (s : ByteArray) (w : World) :
    Calls Tryz.prog 21 #[.string s] w fun e w' => e = .returned (.bool (nameL s.toList)) ∧ w' = w := by
  by_cases h0 : s.toList = []
  · go_enter Tryz.func21, Tryz.ntmps21
    go_wp2_with fail
    go_ret
    exact ⟨ret_bool (by unfold nameL; rw [if_pos (Or.inl h0)]), rfl⟩
  · have hp : 0 < s.size := by
      rcases Nat.eq_zero_or_pos s.size with e | e
      · exfalso; apply h0; rw [ByteArray.toList_eq]; exact List.eq_nil_of_length_eq_zero (by simpa using e)
      · exact e
    have hh := headD_bytes s hp
    have HH : Hid (s.toList.headD 0 = s[0]) := hh
    clear hh
    go_enter Tryz.func21, Tryz.ntmps21
    go_wp2_with (go_at_call 19; refine (letter_any _ _).mono ?_; rintro e w' ⟨rfl, rfl⟩)
    all_goals go_ret
    all_goals refine ⟨ret_bool ?_, rfl⟩
    all_goals first
      | (simp_all [nameL]; done)
      | (have hx := HH.out; unfold nameL; rw [if_neg (by simp_all), hx])

theorem clsIx_none {names : List ByteArray} {l : List UInt8} (h : ∀ j (hj : j < names.length), (names[j].toList == l) = false) : clsIx names l = -1 := by
  unfold clsIx
  rw [List.findIdx?_eq_none_iff.2]
  intro x hx
  obtain ⟨j, hj, rfl⟩ := List.getElem_of_mem hx
  exact h j hj
theorem clsIx_some {names : List ByteArray} {l : List UInt8} {i : Nat} (hi : i < names.length) (hit : (names[i].toList == l) = true) (h : ∀ j (_ : j < i) (hj : j < names.length), (names[j].toList == l) = false) : clsIx names l = i := by
  unfold clsIx
  have : names.findIdx? (fun x => x.toList == l) = some i := by
    rw [List.findIdx?_eq_some_iff_getElem]
    exact ⟨hi, hit, fun j hj => by simp [h j hj (by omega)]⟩
  rw [this]

set_option maxHeartbeats 1000000 in
theorem class_any (b base : Nat) (T : ByteArray) (at_ err place : Int) (vN vS vL : Value) (atoms nest : Int) (names : List ByteArray) (s : ByteArray) (w : World)
    (h : w.heap[b]? = some (.cells (rcell T at_ err place vN vS vL atoms nest) 35 (0, 0))) (hN : w.ownsRow base 9 1 vN names.length (names.map .string)) (hl : names.length ≤ 100) :
    Calls Tryz.prog 22 #[.pointer (some ⟨b, 0, none⟩), .string s] w fun e w' => e = .returned (.int .i64 (clsIx names s.toList)) ∧ w' = w := by
  obtain ⟨c0, c1, c2, c3, c4, c5, c6, c7, c8, hf⟩ := rcells h
  have hform : ∃ ao cap, vN = .slice ao names.length cap ∧ ∀ i (hi : i < names.length), ∃ g, ao = some ⟨g, 0, none⟩ ∧ w.cell? ⟨g, i, none⟩ = some (.string names[i]) := by
    obtain ⟨h1, h2⟩ := hN
    rcases h2 with ⟨hv, hn⟩ | ⟨g, cap, cur, hv, hg, hh, hcap, hmx, hsz, hcur⟩
    · exact ⟨none, 0, by rw [hv, hn], fun i hi => by omega⟩
    · refine ⟨some ⟨g, 0, none⟩, cap, hv, fun i hi => ⟨g, rfl, ?_⟩⟩
      refine cell_of_block hh i _ ?_
      have e1 : (cur.toList.take (names.length * 1))[i]? = some (.string names[i]) := by rw [hcur]; simp [hi]
      rw [List.getElem?_take] at e1
      rw [if_pos (by omega)] at e1
      simpa using e1
  obtain ⟨ao, cap, hv, hcells⟩ := hform
  subst hv
  have HC : Hid (∀ i (hi : i < names.length), ∃ g, ao = some ⟨g, 0, none⟩ ∧ w.cell? ⟨g, i, none⟩ = some (.string names[i])) := hcells
  clear hcells hN
  go_enter Tryz.func22, Tryz.ntmps22
  go_wp2
  go_loop [5] (fun v => ∃ i : Nat, i ≤ names.length ∧ v = .int .i64 i ∧ Hid (∀ j (_ : j < i) (hj : j < names.length), (names[j].toList == s.toList) = false)) (fun v => names.length - (intOf v).toNat)
  case atStart => exact ⟨0, Nat.zero_le _, rfl, fun j hj => by omega⟩
  case round =>
    obtain ⟨i, hi, rfl, hnot⟩ := hrel
    by_cases hlt : i < names.length
    · obtain ⟨g, rfl, hcell⟩ := HC.out i hlt
      cases he : (names[i].toList == s.toList)
      · go_wp2
        go_round
        case rel => exact ⟨i + 1, by omega, by go_num, fun j hj hj2 => if e : j = i then by subst e; exact he else hnot.out j (by omega) hj2⟩
        case measure => simp [intOf]; omega
      · go_wp2
        go_ret
        exact ⟨ret_int (clsIx_some hlt he hnot.out).symm, rfl⟩
    · go_wp2
      go_ret
      exact ⟨ret_int (clsIx_none (fun j hj => hnot.out j (by omega) hj)).symm, rfl⟩
end Go.Proofs.YtonooajnjgnmnaaGreatDoor
