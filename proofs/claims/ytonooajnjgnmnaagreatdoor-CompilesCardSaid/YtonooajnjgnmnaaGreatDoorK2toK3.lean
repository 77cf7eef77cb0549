/- What a word means; an atom that is a word. -/
import Derived.Test.YtonooajnjgnmnaaGreatDoorK1
namespace Go.Proofs.YtonooajnjgnmnaaGreatDoor
open Go.RowKit

set_option maxHeartbeats 2000000 in
theorem only_any (g k : Nat) (w : World) (hk : k ≤ 7) (h : w.cell? ⟨g, 0, none⟩ = some (.int .u8 k)) :
    Calls Tryz.prog 94 #[.slice (some ⟨g, 0, none⟩) 1 1] w fun e w' => e = .returned (.int .u8 (2 ^ k : Nat)) ∧ w' = w := by
  obtain ⟨r, hr⟩ : ∃ r : Int, r = ((2 ^ k : Nat) : Int) := ⟨_, rfl⟩
  rw [← hr]
  have HR : Hid (r = ((2 ^ k : Nat) : Int)) := hr
  clear hr
  have hc : k = 0 ∨ k = 1 ∨ k = 2 ∨ k = 3 ∨ k = 4 ∨ k = 5 ∨ k = 6 ∨ k = 7 := by omega
  rcases hc with rfl | rfl | rfl | rfl | rfl | rfl | rfl | rfl
  all_goals
    clear hk
    go_enter Tryz.func94, Tryz.ntmps94
    go_wp2_with fail
    go_loopg [3, 8] 1 (fun gg sv iv wx => wx = w ∧ ((gg = 1 ∧ iv = .int .i64 0 ∧ sv = .int .u8 0) ∨ (gg = 0 ∧ iv = .int .i64 1 ∧ ∃ v, sv = .int .u8 v ∧ Hid (v = r))))
    case atStart => exact ⟨rfl, Or.inl ⟨rfl, rfl, rfl⟩⟩
    case round =>
      obtain ⟨rfl, ⟨rfl, rfl, rfl⟩ | ⟨rfl, rfl, v, rfl, hs⟩⟩ := hrel
      · go_wp2_with fail
        go_roundg 0
        case measure => omega
        case rel => exact ⟨rfl, Or.inr ⟨rfl, rfl, _, rfl, by show _ = r; rw [HR.out]; decide⟩⟩
      · go_wp2_with fail
        go_ret
        exact ⟨ret_int hs.out, rfl⟩

def wAny : ByteArray := ⟨#[97, 110, 121]⟩
def wOther : ByteArray := ⟨#[111, 116, 104, 101, 114]⟩
def wBad : ByteArray := ⟨#[98, 97, 100]⟩
/-- The kinds that a word speaks of; does it speak of some? -/
def meaningP (names : List ByteArray) (l : List UInt8) : Nat × Bool :=
  if l = [97, 110, 121] then (255, true) else if l = [111, 116, 104, 101, 114] then (64, true) else if l = [98, 97, 100] then (128, true)
  else (2 ^ (max (clsIx names l) 0).toNat, decide (0 ≤ clsIx names l))
theorem clsIx_lt (names : List ByteArray) (l : List UInt8) : -1 ≤ clsIx names l ∧ clsIx names l < (names.length : Int) + 1 ∧ (0 < names.length → clsIx names l < names.length) := by
  unfold clsIx
  cases hfi : names.findIdx? (fun y => y.toList == l) with
  | none => simp; omega
  | some i => have := (List.findIdx?_eq_some_iff_getElem.1 hfi).1; simp; omega
theorem meaningP_lt (names : List ByteArray) (l : List UInt8) (h : names.length ≤ 7) : (meaningP names l).1 < 256 := by
  unfold meaningP
  split
  · decide
  · split
    · decide
    · split
      · decide
      · have := clsIx_lt names l
        have h1 : (max (clsIx names l) 0).toNat ≤ 7 := by omega
        calc 2 ^ (max (clsIx names l) 0).toNat ≤ 2 ^ 7 := Nat.pow_le_pow_right (by decide) h1
          _ < 256 := by decide

set_option maxRecDepth 100000 in
set_option maxHeartbeats 2000000 in
theorem meaning_any (b : Nat) (T : ByteArray) (vN vE vL : Value) (s : PS) (names : List ByteArray) (x : ByteArray) (w : World) (h : RAt w b T vN vE vL s) (hN : w.ownsRow 0 9 1 vN names.length (names.map .string)) (hl : names.length ≤ 7) :
    Calls Tryz.prog 91 #[.pointer (some ⟨b, 0, none⟩), .string x] w fun r w' => r = .returned (.tuple #[.int .u8 (meaningP names x.toList).1, .bool (meaningP names x.toList).2]) ∧ Below w.heap.size w w' := by
  have HH : Hid (RAt w b T vN vE vL s) := h
  have HN : Hid (w.ownsRow 0 9 1 vN names.length (names.map .string)) := hN
  clear h hN
  by_cases h1 : x.toList = [97, 110, 121]
  · have k1 : (x.toList == [97, 110, 121]) = true := by simpa using h1
    have e : Hid (meaningP names x.toList = (255, true)) := by show _ = _; unfold meaningP; rw [if_pos h1]
    rw [e.out]
    clear h1
    go_enter Tryz.func91, Tryz.ntmps91
    go_wp2_with fail
    go_ret2
    exact ⟨rfl, Below.refl _ _⟩
  · have k1 : (x.toList == [97, 110, 121]) = false := by simpa using h1
    by_cases h2 : x.toList = [111, 116, 104, 101, 114]
    · have k2 : (x.toList == [111, 116, 104, 101, 114]) = true := by simpa using h2
      have e : Hid (meaningP names x.toList = (64, true)) := by show _ = _; unfold meaningP; rw [if_neg h1, if_pos h2]
      rw [e.out]
      clear h1 h2
      go_enter Tryz.func91, Tryz.ntmps91
      go_wp2_with fail
      refine (only_any w.heap.size 6 _ (by decide) (cell_of_block (heap_alloc_new _ _) 0 _ rfl)).mono ?_
      rintro r w1 ⟨rfl, rfl⟩
      go_wp2_with fail
      go_ret2
      exact ⟨rfl, below_alloc _ _⟩
    · have k2 : (x.toList == [111, 116, 104, 101, 114]) = false := by simpa using h2
      by_cases h3 : x.toList = [98, 97, 100]
      · have k3 : (x.toList == [98, 97, 100]) = true := by simpa using h3
        have e : Hid (meaningP names x.toList = (128, true)) := by show _ = _; unfold meaningP; rw [if_neg h1, if_neg h2, if_pos h3]
        rw [e.out]
        clear h1 h2 h3
        go_enter Tryz.func91, Tryz.ntmps91
        go_wp2_with fail
        refine (only_any w.heap.size 7 _ (by decide) (cell_of_block (heap_alloc_new _ _) 0 _ rfl)).mono ?_
        rintro r w1 ⟨rfl, rfl⟩
        go_wp2_with fail
        go_ret2
        exact ⟨rfl, below_alloc _ _⟩
      · have k3 : (x.toList == [98, 97, 100]) = false := by simpa using h3
        have e : Hid (meaningP names x.toList = (2 ^ (max (clsIx names x.toList) 0).toNat, decide (0 ≤ clsIx names x.toList))) := by show _ = _; unfold meaningP; rw [if_neg h1, if_neg h2, if_neg h3]
        rw [e.out]
        have hb := clsIx_lt names x.toList
        obtain ⟨i, hi⟩ : ∃ i : Nat, i = (max (clsIx names x.toList) 0).toNat := ⟨_, rfl⟩
        have hi2 : max (clsIx names x.toList) 0 = (i : Int) := by omega
        have hi7 : i ≤ 7 := by omega
        obtain ⟨d, hd⟩ : ∃ d, d = decide (0 ≤ clsIx names x.toList) := ⟨_, rfl⟩
        have HK := kindOf_any b 0 T s.p vN vE vL s.f s.pl names x w HH.out.blk HN.out (by omega)
        rw [hi2, ← hd] at HK
        rw [← hi, ← hd]
        have HK2 : Hid (Calls Tryz.prog 42 #[.pointer (some ⟨b, 0, none⟩), .string x] w fun r w' => r = .returned (.tuple #[.int .u8 i, .bool d]) ∧ w' = w) := HK
        clear h1 h2 h3 hi hi2 hd HK hb
        go_enter Tryz.func91, Tryz.ntmps91
        go_wp2_with fail
        refine HK2.out.mono ?_
        rintro r w1 ⟨rfl, rfl⟩
        go_wp2_with fail
        refine (only_any _ i _ hi7 (cell_of_block (heap_alloc_new _ _) 0 _ rfl)).mono ?_
        rintro r w1 ⟨rfl, rfl⟩
        go_wp2_with fail
        go_ret2
        exact ⟨rfl, below_alloc _ _⟩
end Go.Proofs.YtonooajnjgnmnaaGreatDoor
/- Atoms and parts. -/
namespace Go.Proofs.YtonooajnjgnmnaaGreatDoor
open Go.RowKit

namespace PS
def more (s : PS) : PS := { s with a := IntKind.i64.wrap (s.a + 1) }
def many (T : ByteArray) (s : PS) : PS := if s.a = 4 then s.fail T 6 else s
def known (T : ByteArray) (names : List ByteArray) (s : PS) : PS := if (meaningP names (s.tk T)).2 = true then s else s.fail T 3
def one (T : ByteArray) (names : List ByteArray) (s : PS) : PS × Px := ((((s.known T names).many T).more).step T, oneP (meaningP names (s.tk T)).1)
def nest (T : ByteArray) (s : PS) : PS := if s.k = 4 then s.fail T 6 else s
def inK (s : PS) : PS := { s with k := s.k + 1 }
def outK (s : PS) : PS := { s with k := s.k - 1 }
def bracket (T : ByteArray) (sub : PS → PS × Px) (s : PS) : PS × Px :=
  ((((sub (((s.nest T).need T [sgn 40]).inK)).1.outK).need T [sgn 41]), (sub (((s.nest T).need T [sgn 40]).inK)).2)
def atomOk (T : ByteArray) (s : PS) : PS := if s.isAtom T = true then s else s.fail T 2
def atom (T : ByteArray) (names : List ByteArray) (sub : PS → PS × Px) (s : PS) : PS × Px :=
  if memL [sgn 40] ((s.atomOk T).tk T) = true then (s.atomOk T).bracket T sub else (s.atomOk T).one T names
end PS

/-- The reader, the counts and the names. -/
structure EAt (w : World) (b c : Nat) (T : ByteArray) (names : List ByteArray) (vN vE vL : Value) (s : PS) : Prop where
  rd : RAt w b T vN vE vL s
  cnt : w.heap[c]? = some (.cells #[.int .i64 s.a, .int .i64 s.k] 94 (0, 0))
  row : w.ownsRow 0 9 1 vN names.length (names.map .string)
  few : names.length ≤ 7
def EChg (b c : Nat) (w w' : World) : Prop := Chg (fun k => k = b ∨ k = c) w w'

theorem EAt.bc {w : World} {b c : Nat} {T : ByteArray} {names : List ByteArray} {vN vE vL : Value} {s : PS} (h : EAt w b c T names vN vE vL s) : b ≠ c := type_ne h.rd.blk h.cnt (by decide)
theorem EAt.later {w w' : World} {b c : Nat} {T : ByteArray} {names : List ByteArray} {vN vE vL : Value} {s : PS} (h : EAt w b c T names vN vE vL s) (hb : Below w.heap.size w w') : EAt w' b c T names vN vE vL s :=
  ⟨h.rd.later hb, by rw [hb.block c (heap_lt h.cnt)]; exact h.cnt, row_kp h.row (Kp.below hb), h.few⟩
theorem Kp.chg1 {t t0 : TypeId} {b : Nat} {w w' : World} {cs0 : Array Value} {m0 : Nat × Nat} (hb : w.heap[b]? = some (.cells cs0 t0 m0)) (hc : Chg (fun k => k = b) w w') (ht : t ≠ t0) : Kp t w w' := fun k cs m hh => by
  rw [hc.block k (heap_lt hh) (type_ne hh hb ht)]; exact hh
/-- The reader has gone on, the counts have not. -/
theorem EAt.on {w w' : World} {b c : Nat} {T : ByteArray} {names : List ByteArray} {vN vE vL : Value} {s s' : PS} (h : EAt w b c T names vN vE vL s) (hr : RAt w' b T vN vE vL s') (hc : Chg (fun k => k = b) w w') (ha : s'.a = s.a) (hk : s'.k = s.k) : EAt w' b c T names vN vE vL s' :=
  ⟨hr, by rw [ha, hk, hc.block c (heap_lt h.cnt) (fun e => h.bc e.symm)]; exact h.cnt, row_kp h.row (Kp.chg1 h.rd.blk hc (by decide)), h.few⟩
theorem EChg.of1 {b c : Nat} {w w' : World} (h : Chg (fun k => k = b) w w') : EChg b c w w' := h.mono fun _ _ e => Or.inl e
theorem EChg.trans {b c : Nat} {w w' w2 : World} (h : EChg b c w w') (h2 : EChg b c w' w2) : EChg b c w w2 := Chg.trans h h2
theorem EChg.below {b c : Nat} {w w' : World} (h : Below w.heap.size w w') : EChg b c w w' := Chg.of_below h
/-- The counts are set. -/
theorem EAt.setA {w : World} {b c : Nat} {T : ByteArray} {names : List ByteArray} {vN vE vL : Value} {s : PS} (h : EAt w b c T names vN vE vL s) (x : Int) : EAt (w.setCell ⟨c, 0, none⟩ (.int .i64 x)) b c T names vN vE vL { s with a := x } :=
  ⟨⟨by show _ = _; rw [Below.heap_setCell _ _ _ _ h.bc]; exact h.rd.blk, h.rd.le, h.rd.short⟩, setCell0 h.cnt, row_kp h.row ((Kp.refl _ _).setCell h.cnt (by decide) _), h.few⟩
theorem EAt.setK {w : World} {b c : Nat} {T : ByteArray} {names : List ByteArray} {vN vE vL : Value} {s : PS} (h : EAt w b c T names vN vE vL s) (x : Int) : EAt (w.setCell ⟨c, 1, none⟩ (.int .i64 x)) b c T names vN vE vL { s with k := x } :=
  ⟨⟨by show _ = _; rw [Below.heap_setCell _ _ _ _ h.bc]; exact h.rd.blk, h.rd.le, h.rd.short⟩, setCell1 h.cnt, row_kp h.row ((Kp.refl _ _).setCell h.cnt (by decide) _), h.few⟩
theorem EChg.setC (b c : Nat) (w : World) (o : Nat) (v : Value) : EChg b c w (w.setCell ⟨c, o, none⟩ v) := (Chg.refl _ _).setCell (q := ⟨c, o, none⟩) (Or.inr (Or.inr rfl)) v

theorem fail_e (b c : Nat) (T : ByteArray) (names : List ByteArray) (vN vE vL : Value) (s : PS) (no : Int) (w : World) (h : EAt w b c T names vN vE vL s) :
    Calls Tryz.prog 18 #[.pointer (some ⟨b, 0, none⟩), .int .i64 no] w fun r w' => r = .returned (.tuple #[]) ∧ EAt w' b c T names vN vE vL (s.fail T no) ∧ EChg b c w w' := by
  refine (fail_ps b T vN vE vL s no w h.rd).mono ?_
  rintro r w' ⟨rfl, h1, h2⟩
  exact ⟨rfl, h.on h1 h2 rfl rfl, EChg.of1 h2⟩
theorem step_e (b c : Nat) (T : ByteArray) (names : List ByteArray) (vN vE vL : Value) (s : PS) (w : World) (h : EAt w b c T names vN vE vL s) :
    Calls Tryz.prog 13 #[.pointer (some ⟨b, 0, none⟩)] w fun r w' => r = .returned (.tuple #[]) ∧ EAt w' b c T names vN vE vL (s.step T) ∧ EChg b c w w' := by
  refine (step_ps b T vN vE vL s w h.rd).mono ?_
  rintro r w' ⟨rfl, h1, h2⟩
  exact ⟨rfl, h.on h1 h2 rfl rfl, EChg.of1 h2⟩
theorem need_ak (T : ByteArray) (L : List ByteArray) (s : PS) : (s.need T L).a = s.a ∧ (s.need T L).k = s.k := by unfold PS.need; split <;> exact ⟨rfl, rfl⟩
theorem take_ak (T : ByteArray) (L : List ByteArray) (s : PS) : (s.take T L).a = s.a ∧ (s.take T L).k = s.k := by unfold PS.take; split <;> exact ⟨rfl, rfl⟩
theorem need_e (b c : Nat) (T : ByteArray) (names : List ByteArray) (vN vE vL : Value) (s : PS) (L : List ByteArray) (w : World) (h : EAt w b c T names vN vE vL s) (hL : L.length ≤ 100) (h1 : 1 ≤ L.length) (hne : ∀ x ∈ L, x.toList ≠ []) :
    Calls Tryz.prog 31 #[.pointer (some ⟨b, 0, none⟩), .slice (some ⟨w.heap.size, 0, none⟩) L.length L.length] (w.alloc (.cells (L.map .string).toArray 9)) fun r w' => (∃ x, r = .returned (.string x)) ∧ EAt w' b c T names vN vE vL (s.need T L) ∧ EChg b c w w' := by
  refine (need_new b T vN vE vL s L w h.rd hL h1 hne).mono ?_
  rintro r w' ⟨rfl, h1, h2⟩
  exact ⟨⟨_, rfl⟩, h.on h1 h2 (need_ak T L s).1 (need_ak T L s).2, EChg.of1 h2⟩
theorem take_e (b c : Nat) (T : ByteArray) (names : List ByteArray) (vN vE vL : Value) (s : PS) (L : List ByteArray) (w : World) (h : EAt w b c T names vN vE vL s) (hL : L.length ≤ 100) (h1 : 1 ≤ L.length) :
    Calls Tryz.prog 34 #[.pointer (some ⟨b, 0, none⟩), .slice (some ⟨w.heap.size, 0, none⟩) L.length L.length] (w.alloc (.cells (L.map .string).toArray 9)) fun r w' => r = .returned (.string (takenOf T L s.p)) ∧ EAt w' b c T names vN vE vL (s.take T L) ∧ EChg b c w w' := by
  refine (take_new b T vN vE vL s L w h.rd hL h1).mono ?_
  rintro r w' ⟨rfl, h1, h2⟩
  exact ⟨rfl, h.on h1 h2 (take_ak T L s).1 (take_ak T L s).2, EChg.of1 h2⟩

set_option maxRecDepth 100000 in
set_option maxHeartbeats 2000000 in
theorem one_e (b c : Nat) (T : ByteArray) (names : List ByteArray) (vN vE vL : Value) (s : PS) (w : World) (h : EAt w b c T names vN vE vL s) :
    Calls Tryz.prog 86 #[.pointer (some ⟨b, 0, none⟩), .pointer (some ⟨c, 0, none⟩)] w fun r w' => ∃ v, r = .returned v ∧ EAt w' b c T names vN vE vL (s.one T names).1 ∧ PIn 1 (From w.heap.size) w' v (s.one T names).2 ∧ EChg b c w w' := by
  have HH : Hid (EAt w b c T names vN vE vL s) := h
  have hlt := meaningP_lt names (s.tk T) h.few
  clear h
  unfold PS.one
  go_enter Tryz.func86, Tryz.ntmps86
  go_wp2_with fail
  refine (now_ps b T vN vE vL s w HH.out.rd).mono ?_
  rintro r w1 ⟨rfl, n, hw1⟩
  have hb1 : Below w.heap.size w w1 := by rw [hw1]; exact bdrew (Below.refl _ _) n
  clear hw1
  have H1 : Hid (EAt w1 b c T names vN vE vL s) := HH.out.later hb1
  go_wp2_with fail
  refine (meaning_any b T vN vE vL s names (tokp T s.p) w1 H1.out.rd H1.out.row H1.out.few).mono ?_
  rintro r w2 ⟨rfl, hb2⟩
  have H2 : Hid (EAt w2 b c T names vN vE vL s) := H1.out.later hb2
  have C2 : Hid (EChg b c w w2) := (EChg.below hb1).trans (EChg.below hb2)
  have S2 : Hid (w.heap.size ≤ w2.heap.size) := Nat.le_trans hb1.size hb2.size
  clear hb1 hb2
  rw [show (tokp T s.p).toList = s.tk T from rfl]
  obtain ⟨kd, hkd⟩ : ∃ kd, kd = meaningP names (s.tk T) := ⟨_, rfl⟩
  rw [← hkd] at hlt ⊢
  have HKD : Hid (kd = meaningP names (s.tk T)) := hkd
  clear hkd
  go_upto_if 15 with fail
  go_cut [6] (fun _ wx => Hid (EAt wx b c T names vN vE vL (s.known T names)) ∧ EChg b c w wx ∧ w.heap.size ≤ wx.heap.size)
  case first =>
    cases hk : kd.2
    · have e : Hid (s.known T names = s.fail T 3) := by show _ = _; unfold PS.known; rw [← HKD.out, hk]; rfl
      go_wp2_with fail
      refine (fail_e b c T names vN vE vL s 3 w2 H2.out).mono ?_
      rintro r w3 ⟨rfl, h3, c3⟩
      have H3 : Hid (EAt w3 b c T names vN vE vL (s.fail T 3)) := h3
      clear h3
      go_wp2_with fail
      go_meet
      exact ⟨by rw [e.out]; exact H3, C2.out.trans c3, (C2.out.trans c3).size⟩
    · have e : Hid (s.known T names = s) := by show _ = _; unfold PS.known; rw [← HKD.out, hk]; rfl
      go_wp2_with fail
      go_meet
      exact ⟨by rw [e.out]; exact H2, C2.out, C2.out.size⟩
  case rest =>
    obtain ⟨h3, c3, z3⟩ := hcut
    obtain ⟨w3, hw3⟩ : ∃ w3, w3 = wc := ⟨wc, rfl⟩
    subst hw3
    obtain ⟨s3, hs3⟩ : ∃ s3, s3 = s.known T names := ⟨_, rfl⟩
    rw [← hs3] at h3
    have HS3 : Hid (s3 = s.known T names) := hs3
    have hcnt := h3.out.cnt
    have c0 := cell_of_block hcnt 0 _ rfl
    clear H1 H2 C2 S2 hs3 hcnt
    go_upto_if 22 with fail
    go_cut [] (fun wx => Hid (EAt wx b c T names vN vE vL (s3.many T)) ∧ EChg b c w wx ∧ w.heap.size ≤ wx.heap.size)
    case first =>
      by_cases h4 : s3.a = 4
      · have k4 : (s3.a == 4) = true := by simpa using h4
        have e : Hid (s3.many T = s3.fail T 6) := by show _ = _; unfold PS.many; rw [if_pos h4]
        clear h4
        go_wp2_with fail
        refine (fail_e b c T names vN vE vL s3 6 w3 h3.out).mono ?_
        rintro r w4 ⟨rfl, h4, c4⟩
        have H4 : Hid (EAt w4 b c T names vN vE vL (s3.fail T 6)) := h4
        clear h4
        go_wp2_with fail
        go_meet
        exact ⟨by rw [e.out]; exact H4, c3.trans c4, (c3.trans c4).size⟩
      · have k4 : (s3.a == 4) = false := by simpa using h4
        have e : Hid (s3.many T = s3) := by show _ = _; unfold PS.many; rw [if_neg h4]
        clear h4
        go_wp2_with fail
        go_meet
        exact ⟨by rw [e.out]; exact h3, c3, z3⟩
    case rest =>
      obtain ⟨h4, c4, z4⟩ := hcut
      obtain ⟨w4, hw4⟩ : ∃ w4, w4 = wc := ⟨wc, rfl⟩
      subst hw4
      obtain ⟨s4, hs4⟩ : ∃ s4, s4 = s3.many T := ⟨_, rfl⟩
      rw [← hs4] at h4
      have HS4 : Hid (s4 = s3.many T) := hs4
      clear c0
      have hcnt := h4.out.cnt
      have c0 := cell_of_block hcnt 0 _ rfl
      have cf := free_of_block hcnt
      obtain ⟨a', ha'⟩ : ∃ a', IntKind.i64.wrap (s4.a + 1) = a' := ⟨_, rfl⟩
      have HA : Hid (a' = IntKind.i64.wrap (s4.a + 1)) := ha'.symm
      clear h3 c3 z3 hs4 hcnt
      go_wp2_with fail
      refine (step_e b c T names vN vE vL { s4 with a := a' } _ (h4.out.setA a')).mono ?_
      rintro r w5 ⟨rfl, h5, c5⟩
      have H5 : Hid (EAt w5 b c T names vN vE vL (PS.step T { s4 with a := a' })) := h5
      have C5 : Hid (EChg b c w w5) := c4.trans ((EChg.setC b c w4 0 _).trans c5)
      clear h5
      go_wp2_with fail
      refine (one_any kd.1 hlt w5).mono ?_
      rintro r w6 ⟨v, rfl, h6, hb6⟩
      have H6 : Hid (PIn 1 (From w5.heap.size) w6 v (oneP kd.1)) := h6
      clear h6
      go_wp2_with fail
      go_ret
      refine ⟨v, rfl, ?_, ?_, C5.out.trans (EChg.below hb6)⟩
      · have := H5.out.later hb6
        rw [HA.out, HS4.out, HS3.out] at this
        exact this
      · rw [← HKD.out]; exact H6.out.from C5.out.size
end Go.Proofs.YtonooajnjgnmnaaGreatDoor
