import Derived.Test.YtonooajnjgnmnaaGreatDoorP2
namespace Go.Proofs.YtonooajnjgnmnaaGreatDoor
open Go.RowKit

/-- The word or sign that the reader looks at; where the next one begins; is it one of these? -/
def tokp (T : ByteArray) (p : Nat) : ByteArray := T.extract p (tokEnd T p)
def nextp (T : ByteArray) (p : Nat) : Nat := skip T (tokEnd T p)
def memL (L : List ByteArray) (l : List UInt8) : Bool := decide (0 ≤ clsIx L l)
/-- The reader at a word. -/
def PAt (w : World) (b : Nat) (T : ByteArray) (p : Nat) (vN vE vL : Value) (fault place : Int) : Prop := PBlk w b T p (tokEnd T p : Nat) vN vE vL fault place
/-- These words, as they are handed in. -/
def These (w : World) (v : Value) (L : List ByteArray) : Prop := w.ownsRow 0 9 1 v L.length (L.map .string) ∧ L.length ≤ 100

set_option maxHeartbeats 1000000 in
theorem contains_any (v : Value) (L : List ByteArray) (s : ByteArray) (w : World) (hN : These w v L) :
    Calls Tryz.prog 29 #[v, .string s] w fun e w' => e = .returned (.bool (memL L s.toList)) ∧ w' = w := by
  have HN : Hid (These w v L) := hN
  clear hN
  go_enter Tryz.func29, Tryz.ntmps29
  go_wp2_with fail
  refine (index_any v 0 L s _ HN.out.1 HN.out.2).mono ?_
  rintro e1 w1 ⟨rfl, rfl⟩
  go_wp2_with fail
  go_ret
  exact ⟨rfl, rfl⟩

theorem these_drewN {w : World} {v : Value} {L : List ByteArray} (h : These w v L) (n : Nat) : These (w.drewN n) v L := h
theorem pat_drewN {w : World} {b : Nat} {T : ByteArray} {p : Nat} {vN vE vL : Value} {fault place : Int} (h : PAt w b T p vN vE vL fault place) (n : Nat) : PAt (w.drewN n) b T p vN vE vL fault place := h

set_option maxHeartbeats 1000000 in
theorem is_any (b : Nat) (T : ByteArray) (p : Nat) (vN vE vL : Value) (fault place : Int) (v : Value) (L : List ByteArray) (w : World) (h : PAt w b T p vN vE vL fault place) (hp : p ≤ T.size) (hN : These w v L) :
    Calls Tryz.prog 14 #[.pointer (some ⟨b, 0, none⟩), v] w fun r w' => r = .returned (.bool (memL L (tokp T p).toList)) ∧ ∃ n, w' = w.drewN n := by
  have HN : Hid (These w v L) := hN
  have HH : Hid (PAt w b T p vN vE vL fault place) := h
  have ht := tokEnd_le T p
  obtain ⟨ht1, ht2, ht3⟩ := ht
  have ht2' := ht2 hp
  clear hN h ht2 ht3
  go_enter Tryz.func14, Tryz.ntmps14
  go_wp2_with fail
  refine (now_any b T p (tokEnd T p) vN vE vL fault place _ HH.out ht1 ht2').mono ?_
  rintro e1 w1 ⟨rfl, n, rfl⟩
  go_wp2_with fail
  refine (contains_any v L (T.extract p (tokEnd T p)) _ (these_drewN HN.out n)).mono ?_
  rintro e2 w2 ⟨rfl, rfl⟩
  go_wp2_with fail
  go_ret
  exact ⟨rfl, n, rfl⟩

set_option maxHeartbeats 1000000 in
theorem take_no (b : Nat) (T : ByteArray) (p : Nat) (vN vE vL : Value) (fault place : Int) (v : Value) (L : List ByteArray) (w : World) (h : PAt w b T p vN vE vL fault place) (hp : p ≤ T.size) (hN : These w v L) (hm : memL L (tokp T p).toList = false) :
    Calls Tryz.prog 34 #[.pointer (some ⟨b, 0, none⟩), v] w fun r w' => r = .returned (.string ⟨#[]⟩) ∧ ∃ n, w' = w.drewN n := by
  have HN : Hid (These w v L) := hN
  have HH : Hid (PAt w b T p vN vE vL fault place) := h
  clear hN h
  go_enter Tryz.func34, Tryz.ntmps34
  go_wp2_with fail
  refine (is_any b T p vN vE vL fault place v L _ HH.out hp HN.out).mono ?_
  rintro e1 w1 ⟨rfl, n, rfl⟩
  go_wp2_with fail
  go_ret
  exact ⟨rfl, n, rfl⟩

set_option maxHeartbeats 1000000 in
theorem take_yes (b : Nat) (T : ByteArray) (p : Nat) (vN vE vL : Value) (fault place : Int) (v : Value) (L : List ByteArray) (w : World) (h : PAt w b T p vN vE vL fault place) (hp : p ≤ T.size) (hT : T.size ≤ 1000) (hN : These w v L) (hm : memL L (tokp T p).toList = true) :
    Calls Tryz.prog 34 #[.pointer (some ⟨b, 0, none⟩), v] w fun r w' => r = .returned (.string (tokp T p)) ∧ PAt w' b T (nextp T p) vN vE vL fault place ∧ Chg (fun k => k = b) w w' := by
  have HN : Hid (These w v L) := hN
  have HH : Hid (PAt w b T p vN vE vL fault place) := h
  have ht := tokEnd_le T p
  obtain ⟨ht1, ht2, ht3⟩ := ht
  have ht2' := ht2 hp
  clear hN h ht2 ht3
  go_enter Tryz.func34, Tryz.ntmps34
  go_wp2_with fail
  refine (is_any b T p vN vE vL fault place v L _ HH.out hp HN.out).mono ?_
  rintro e1 w1 ⟨rfl, n, rfl⟩
  go_wp2_with fail
  refine (now_any b T p (tokEnd T p) vN vE vL fault place _ (pat_drewN HH.out n) ht1 ht2').mono ?_
  rintro e2 w2 ⟨rfl, n2, hw2⟩
  have H2 : Hid (PAt w2 b T p vN vE vL fault place) := by rw [hw2]; exact HH.out
  have C2 : Hid (Chg (fun k => k = b) w w2) := by rw [hw2]; exact ((Chg.refl _ _).drewN n).drewN n2
  clear hw2
  go_wp2_with fail
  refine (step_any b T p (tokEnd T p) vN vE vL fault place _ H2.out ht2' hT).mono ?_
  rintro e3 w3 ⟨rfl, h3, c3⟩
  have H3 : Hid (PAt w3 b T (nextp T p) vN vE vL fault place) := h3
  clear h3
  go_wp2_with fail
  go_ret
  exact ⟨rfl, H3.out, C2.out.trans c3⟩

theorem tokp_ne {T : ByteArray} {p : Nat} {L : List ByteArray} (hm : memL L (tokp T p).toList = true) (hL : ∀ x ∈ L, x.toList ≠ []) : (tokp T p).toList.isEmpty = false := by
  unfold memL at hm
  simp at hm
  unfold clsIx at hm
  cases hf : L.findIdx? (fun x => x.toList == (tokp T p).toList) with
  | none => rw [hf] at hm; simp at hm
  | some i =>
    obtain ⟨hi, he, _⟩ := List.findIdx?_eq_some_iff_getElem.1 hf
    simp at he
    have := hL L[i] (List.getElem_mem hi)
    rw [he] at this
    simpa using this

set_option maxHeartbeats 1000000 in
theorem need_yes (b : Nat) (T : ByteArray) (p : Nat) (vN vE vL : Value) (fault place : Int) (v : Value) (L : List ByteArray) (w : World) (h : PAt w b T p vN vE vL fault place) (hp : p ≤ T.size) (hT : T.size ≤ 1000) (hN : These w v L) (hm : memL L (tokp T p).toList = true) (hL : ∀ x ∈ L, x.toList ≠ []) :
    Calls Tryz.prog 31 #[.pointer (some ⟨b, 0, none⟩), v] w fun r w' => r = .returned (.string (tokp T p)) ∧ PAt w' b T (nextp T p) vN vE vL fault place ∧ Chg (fun k => k = b) w w' := by
  have HN : Hid (These w v L) := hN
  have HH : Hid (PAt w b T p vN vE vL fault place) := h
  have hne := tokp_ne hm hL
  have HM : Hid (memL L (tokp T p).toList = true) := hm
  clear hN h hm hL
  go_enter Tryz.func31, Tryz.ntmps31
  go_wp2_with fail
  refine (take_yes b T p vN vE vL fault place v L _ HH.out hp hT HN.out HM.out).mono ?_
  rintro e1 w1 ⟨rfl, h1, c1⟩
  have H1 : Hid (PAt w1 b T (nextp T p) vN vE vL fault place) := h1
  clear h1
  go_wp2_with fail
  go_ret
  exact ⟨rfl, H1.out, c1⟩

theorem tokEnd_size (T : ByteArray) : tokEnd T T.size = T.size := by
  unfold tokEnd; rw [if_neg (by omega)]; exact word_stop (Or.inl (Nat.le_refl _))

set_option maxHeartbeats 1000000 in
theorem need_no (b : Nat) (T : ByteArray) (p : Nat) (vN vE vL : Value) (fault place : Int) (v : Value) (L : List ByteArray) (w : World) (h : PAt w b T p vN vE vL fault place) (hp : p ≤ T.size) (hN : These w v L) (hm : memL L (tokp T p).toList = false) :
    Calls Tryz.prog 31 #[.pointer (some ⟨b, 0, none⟩), v] w fun r w' => r = .returned (.string ⟨#[]⟩) ∧ PAt w' b T T.size vN vE vL (pf fault 2) (pp fault p place) ∧ Chg (fun k => k = b) w w' := by
  have HN : Hid (These w v L) := hN
  have HH : Hid (PAt w b T p vN vE vL fault place) := h
  have HM : Hid (memL L (tokp T p).toList = false) := hm
  clear hN h hm
  go_enter Tryz.func31, Tryz.ntmps31
  go_wp2_with fail
  refine (take_no b T p vN vE vL fault place v L _ HH.out hp HN.out HM.out).mono ?_
  rintro e1 w1 ⟨rfl, n, rfl⟩
  go_wp2_with fail
  refine (fail_pr b T p (tokEnd T p) vN vE vL fault place 2 _ (pat_drewN HH.out n)).mono ?_
  rintro e2 w2 ⟨rfl, h2, c2⟩
  have H2 : Hid (PBlk w2 b T T.size T.size vN vE vL (pf fault 2) (pp fault (p : Int) place)) := h2
  clear h2
  go_wp2_with fail
  go_ret
  refine ⟨rfl, ?_, ((Chg.refl _ _).drewN n).trans c2⟩
  show PBlk _ _ _ _ _ _ _ _ _ _
  rw [tokEnd_size]; exact H2.out
end Go.Proofs.YtonooajnjgnmnaaGreatDoor
namespace Go.Proofs.YtonooajnjgnmnaaGreatDoor
open Go.RowKit

/-- Is a word looked at? -/
def wordp (T : ByteArray) (p : Nat) : Bool := decide (p ≠ T.size) && letterN (at0 T p)

set_option maxRecDepth 100000 in
set_option maxHeartbeats 2000000 in
theorem isWordBut_any (b : Nat) (T : ByteArray) (p : Nat) (vN vE vL : Value) (fault place : Int) (v : Value) (L : List ByteArray) (w : World) (h : PAt w b T p vN vE vL fault place) (hp : p ≤ T.size) (hN : These w v L) :
    Calls Tryz.prog 41 #[.pointer (some ⟨b, 0, none⟩), v] w fun r w' => r = .returned (.bool (wordp T p && !memL L (tokp T p).toList)) ∧ ∃ n, w' = w.drewN n := by
  have HN : Hid (These w v L) := hN
  have HH : Hid (PAt w b T p vN vE vL fault place) := h
  obtain ⟨c0, c1, c2, c3, c4, c5, c6, c7, hf⟩ := pcells h
  clear hN h
  by_cases he : p = T.size
  · have hd : decide (p = T.size) = true := by simpa using he
    have hw : Hid ((wordp T p && !memL L (tokp T p).toList) = false) := by show _ = false; unfold wordp; simp [he]
    rw [hw.out]
    go_enter Tryz.func41, Tryz.ntmps41
    go_wp2_with fail
    go_quiet ((first | (go_at_call 17; exact Calls.quiet_of (ended_any b T p (tokEnd T p) vN vE vL fault place _ (by exact HH.out))) | (go_at_call 28; exact Calls.quiet_of_same (isWordByte_any _ _)) | (go_at_call 14; exact Calls.quiet_of (is_any b T p vN vE vL fault place v L _ (by exact HH.out) hp (by exact HN.out)))))
    go_wp2_with fail
    go_ret
    exact ⟨rfl, _, rfl⟩
  · have hd : decide (p = T.size) = false := by simpa using he
    have hlt : p < T.size := by omega
    cases hl : letterN (T[p].toNat)
    · have hw : Hid ((wordp T p && !memL L (tokp T p).toList) = false) := by show _ = false; unfold wordp; rw [at0_eq hlt, hl]; simp
      rw [hw.out]
      clear he
      go_enter Tryz.func41, Tryz.ntmps41
      go_wp2_with fail
      go_quiet ((first | (go_at_call 17; exact Calls.quiet_of (ended_any b T p (tokEnd T p) vN vE vL fault place _ (by exact HH.out))) | (go_at_call 28; exact Calls.quiet_of_same (isWordByte_any _ _)) | (go_at_call 14; exact Calls.quiet_of (is_any b T p vN vE vL fault place v L _ (by exact HH.out) hp (by exact HN.out)))))
      go_wp2_with fail
      go_ret
      exact ⟨rfl, _, rfl⟩
    · have hw : Hid ((wordp T p && !memL L (tokp T p).toList) = !memL L (tokp T p).toList) := by show _ = _; unfold wordp; rw [at0_eq hlt, hl]; simp [he]
      rw [hw.out]
      clear he
      go_enter Tryz.func41, Tryz.ntmps41
      go_wp2_with fail
      go_quiet ((first | (go_at_call 17; exact Calls.quiet_of (ended_any b T p (tokEnd T p) vN vE vL fault place _ (by exact HH.out))) | (go_at_call 28; exact Calls.quiet_of_same (isWordByte_any _ _)) | (go_at_call 14; exact Calls.quiet_of (is_any b T p vN vE vL fault place v L _ (by exact HH.out) hp (by exact HN.out)))))
      go_wp2_with fail
      go_ret
      exact ⟨rfl, _, rfl⟩

set_option maxHeartbeats 2000000 in
theorem kindOf_any (b base : Nat) (T : ByteArray) (p : Nat) (vN vE vL : Value) (fault place : Int) (names : List ByteArray) (x : ByteArray) (w : World) (h : PAt w b T p vN vE vL fault place) (hN : w.ownsRow base 9 1 vN names.length (names.map .string)) (hl : names.length ≤ 100) :
    Calls Tryz.prog 42 #[.pointer (some ⟨b, 0, none⟩), .string x] w fun r w' => r = .returned (.tuple #[.int .u8 (max (clsIx names x.toList) 0), .bool (decide (0 ≤ clsIx names x.toList))]) ∧ w' = w := by
  obtain ⟨c0, c1, c2, c3, c4, c5, c6, c7, hf⟩ := pcells h
  have HN : Hid (w.ownsRow base 9 1 vN names.length (names.map .string)) := hN
  have hbd : -1 ≤ clsIx names x.toList ∧ clsIx names x.toList < 100 := by
    unfold clsIx
    cases hfi : names.findIdx? (fun y => y.toList == x.toList) with
    | none => simp
    | some i => have := (List.findIdx?_eq_some_iff_getElem.1 hfi).1; simp; omega
  obtain ⟨hb1, hb2⟩ := hbd
  obtain ⟨k, hk⟩ : ∃ k, k = clsIx names x.toList := ⟨_, rfl⟩
  have HK : Hid (k = clsIx names x.toList) := hk
  rw [← hk] at hb1 hb2
  clear hN h hk
  rw [← HK.out]
  have hcase : (0 ≤ k ∧ max k 0 = k ∧ decide (0 ≤ k) = true) ∨ (k < 0 ∧ max k 0 = 0 ∧ decide (0 ≤ k) = false) := by
    by_cases h0 : 0 ≤ k
    · left; exact ⟨h0, by omega, by simpa using h0⟩
    · right; exact ⟨by omega, by omega, by simp; omega⟩
  rcases hcase with ⟨h0, e1, e2⟩ | ⟨h0, e1, e2⟩
  all_goals
    rw [e1, e2]
    clear e1
    go_enter Tryz.func42, Tryz.ntmps42
    go_wp2_with fail
    refine (index_any vN base names x _ HN.out hl).mono ?_
    rintro e1 w1 ⟨rfl, rfl⟩
    rw [← HK.out]
    go_wp2_with fail
    go_ret2
    exact ⟨rfl, rfl⟩
end Go.Proofs.YtonooajnjgnmnaaGreatDoor
