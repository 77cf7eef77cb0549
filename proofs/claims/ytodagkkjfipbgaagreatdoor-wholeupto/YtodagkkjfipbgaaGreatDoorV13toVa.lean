/- The keep's joined, same, rules, given, Whole. -/
import Derived.Deep.QuietTactic
import Derived.BigQuiet
import Derived.Deep.CutBlock
import Derived.Test.YtodagkkjfipbgaaGreatDoorProg
import Derived.Test.YtodagkkjfipbgaaGreatDoorRows
import Derived.ProofKit
import Derived.LaidLaws
import Derived.Lay
import Derived.LaidOnce
import Derived.OpenShut
import Derived.ChangeSame
import Derived.SizedLaws
import Derived.Stop.LaidErr
import Derived.Lib.LaidU8
import Derived.Test.YtodagkkjfipbgaaGreatDoorG2toV12
import Derived.Test.YtodagkkjfipbgaaGreatDoorV6lone
import Derived.Test.YtodagkkjfipbgaaGreatDoorV10toN19
import Derived.Test.YtodagkkjfipbgaaGreatDoorN20toD7
import Derived.Test.YtodagkkjfipbgaaGreatDoorN21lone
import Derived.Test.YtodagkkjfipbgaaGreatDoorJ12lone
import Derived.Test.YtodagkkjfipbgaaGreatDoorJ10toJ11
import Derived.Test.YtodagkkjfipbgaaGreatDoorK9toJ9
import Derived.Test.YtodagkkjfipbgaaGreatDoorJ8toQ4
import Derived.Test.YtodagkkjfipbgaaGreatDoorJ6toK3
import Derived.Test.YtodagkkjfipbgaaGreatDoorK7toL3
import Derived.Test.YtodagkkjfipbgaaGreatDoorP2toQ1
import Derived.Test.YtodagkkjfipbgaaGreatDoorBtoP1
import Derived.Test.YtodagkkjfipbgaaGreatDoorK4toK6
import Derived.Test.YtodagkkjfipbgaaGreatDoorQ5toK2
import Derived.Test.YtodagkkjfipbgaaGreatDoorQ2toQ3
import Derived.Test.YtodagkkjfipbgaaGreatDoorJ3toJ5
import Derived.Test.YtodagkkjfipbgaaGreatDoorJ2toJ7
import Derived.Test.YtodagkkjfipbgaaGreatDoorZ5toM2
import Derived.Test.YtodagkkjfipbgaaGreatDoorZ3toW17
import Derived.Test.YtodagkkjfipbgaaGreatDoorZ1toZ2
import Derived.Test.YtodagkkjfipbgaaGreatDoorC5toS
import Derived.Test.YtodagkkjfipbgaaGreatDoorV7toW5
import Derived.Test.YtodagkkjfipbgaaGreatDoorC3toC4
import Derived.Test.YtodagkkjfipbgaaGreatDoorH1toC2
import Derived.Test.YtodagkkjfipbgaaGreatDoorUlone
import Derived.Test.YtodagkkjfipbgaaGreatDoorShlone
import Derived.Test.YtodagkkjfipbgaaGreatDoorD6toV9
import Derived.Test.YtodagkkjfipbgaaGreatDoorD1toD5
import Derived.Test.YtodagkkjfipbgaaGreatDoorN12lone
import Derived.Test.YtodagkkjfipbgaaGreatDoorSh2lone
import Derived.Test.YtodagkkjfipbgaaGreatDoorN17toV1
import Derived.Test.YtodagkkjfipbgaaGreatDoorN15toN16
import Derived.Test.YtodagkkjfipbgaaGreatDoorN13toN14
import Derived.Test.YtodagkkjfipbgaaGreatDoorN10toN11
import Derived.Test.YtodagkkjfipbgaaGreatDoorN9lone
import Derived.Test.YtodagkkjfipbgaaGreatDoorN1toN5
import Derived.Test.YtodagkkjfipbgaaGreatDoorN8lone
import Derived.Test.YtodagkkjfipbgaaGreatDoorN6toN0
import Derived.Test.YtodagkkjfipbgaaGreatDoorSh4lone
import Derived.Test.YtodagkkjfipbgaaGreatDoorV4toV5
import Derived.Test.YtodagkkjfipbgaaGreatDoorSh3lone
import Derived.Test.YtodagkkjfipbgaaGreatDoorV2toV3
namespace Go.Proofs.YtodagkkjfipbgaaGreatDoor
open Go.RowKit Go.Maps Go.Lib

theorem ba_ext {x y : ByteArray} (h : x.toList = y.toList) : x = y := by
  rw [ByteArray.toList_eq, ByteArray.toList_eq] at h
  obtain ⟨a⟩ := x
  obtain ⟨b⟩ := y
  have h' : a = b := Array.toList_inj.1 h
  rw [h']
theorem joinB_size : ∀ l : List ByteArray, (joinB l).size = (l.map ByteArray.size).sum := by
  apply snoc_ind
  · rfl
  · intro l a ih; rw [joinB_snoc, ByteArray.size_append, ih, List.map_append, List.sum_append]; simp
theorem joinB_take (l : List ByteArray) (i : Nat) : (joinB (l.take i)).size ≤ (joinB l).size := by
  rw [joinB_size, joinB_size, List.map_take]
  exact sumTake_le _ i

set_option maxRecDepth 100000 in
set_option maxHeartbeats 2000000 in
theorem joined_any (base : Nat) (v : Value) (l : List ByteArray) (w : World) (h : w.ownsRow base 9 1 v l.length (strCells l)) (hl : l.length ≤ 1500000) (hsz : (joinB l).size ≤ 1500000) :
    Calls Tryz.prog 25 #[v] w fun r w' => r = .returned (.string (joinB l)) ∧ w' = w := by
  obtain ⟨ao, cap, rfl⟩ := row_shape h
  have H : Hid (w.ownsRow base 9 1 (.slice ao l.length cap) l.length (strCells l)) := h
  have HSZ : Hid ((joinB l).size ≤ 1500000) := hsz
  clear h hsz
  go_enter Tryz.func25, Tryz.ntmps25
  go_wp2_with fail
  go_loopg [3, 4] l.length (fun gh sv iv wx => ∃ i : Nat, i ≤ l.length ∧ gh = l.length - i ∧ sv = .string (joinB (l.take i)) ∧ iv = .int .i64 i ∧ wx = w)
  case atStart => exact ⟨0, Nat.zero_le _, rfl, rfl, rfl, rfl⟩
  case round =>
    obtain ⟨i, hi, rfl, rfl, rfl, rfl⟩ := hrel
    by_cases hlt : i < l.length
    · obtain ⟨x, hx⟩ : ∃ x, l[i]? = some x := ⟨l[i], List.getElem?_eq_getElem hlt⟩
      obtain ⟨q, hq, _, hc⟩ := row_at H.out (strCells_at hx) (by omega)
      subst hq
      have HJ : Hid (joinB (l.take (i + 1)) = joinB (l.take i) ++ x) := by
        show _ = _
        rw [List.take_add_one, hx]
        exact joinB_snoc _ _
      have hax : (joinB (l.take i)).size + x.size ≤ 1500000 := by
        have h1 := joinB_take l (i + 1)
        rw [HJ.out, ByteArray.size_append] at h1
        exact Nat.le_trans h1 HSZ.out
      clear hx
      generalize joinB (l.take i) = a at HJ hax ⊢
      go_wp2_with fail
      go_roundg (l.length - (i + 1))
      case measure => omega
      case rel => exact ⟨i + 1, by omega, rfl, by rw [HJ.out], by go_num, rfl⟩
    · obtain rfl : i = l.length := by omega
      go_wp2_with fail
      go_ret
      exact ⟨by show Ending.returned (.string (joinB (l.take l.length))) = _; rw [List.take_length], rfl⟩
set_option maxRecDepth 100000 in
set_option maxHeartbeats 2000000 in
theorem keepSame_any (ba bb : Nat) (va vb : Value) (la lb : List ByteArray) (w : World) (ha : w.ownsRow ba 9 1 va la.length (strCells la)) (hb : w.ownsRow bb 9 1 vb lb.length (strCells lb)) (hla : la.length ≤ 1500000) :
    Calls Tryz.prog 28 #[va, vb] w fun r w' => r = .returned (.bool (decide (la = lb))) ∧ Below w.heap.size w w' := by
  obtain ⟨aa, ca, rfl⟩ := row_shape ha
  obtain ⟨ab, cb, rfl⟩ := row_shape hb
  have HA : Hid (w.ownsRow ba 9 1 (.slice aa la.length ca) la.length (strCells la)) := ha
  have HB : Hid (w.ownsRow bb 9 1 (.slice ab lb.length cb) lb.length (strCells lb)) := hb
  clear ha hb
  by_cases hlen : la.length = lb.length
  · have HL : Hid (la.length = lb.length) := hlen
    have hd : ((la.length : Int) == (lb.length : Int)) = true := by simp [hlen]
    clear hlen
    go_enter Tryz.func28, Tryz.ntmps28
    go_wp2_with fail
    go_loopg [5] la.length (fun gh iv wx => ∃ i : Nat, i ≤ la.length ∧ gh = la.length - i ∧ iv = .int .i64 i ∧ Hid (la.take i = lb.take i) ∧ Hid (Below w.heap.size w wx))
    case atStart => exact ⟨0, Nat.zero_le _, rfl, rfl, rfl, Below.refl _ _⟩
    case round =>
      obtain ⟨i, hi, rfl, rfl, hE, hB⟩ := hrel
      obtain ⟨w1, hw1⟩ : ∃ w1, w1 = wr := ⟨wr, rfl⟩
      subst hw1
      by_cases hlt : i < la.length
      · obtain ⟨x, hx⟩ : ∃ x, la[i]? = some x := ⟨la[i], List.getElem?_eq_getElem hlt⟩
        have hltb : i < lb.length := by rw [← HL.out]; exact hlt
        obtain ⟨y, hy⟩ : ∃ y, lb[i]? = some y := ⟨lb[i], List.getElem?_eq_getElem hltb⟩
        obtain ⟨q, hq, _, hc⟩ := row_at (row_kp HA.out (Kp.below hB.out)) (strCells_at hx) (by omega)
        subst hq
        obtain ⟨q', hq', _, hc'⟩ := row_at (row_kp HB.out (Kp.below hB.out)) (strCells_at hy) (by omega)
        subst hq'
        by_cases e : x = y
        · subst e
          have E2 : Hid (la.take (i + 1) = lb.take (i + 1)) := by show _ = _; rw [List.take_add_one, List.take_add_one, hx, hy, hE.out]
          clear hx hy hE
          go_wp2_with fail
          go_quiet (fail)
          go_wp2_with fail
          go_roundg (la.length - (i + 1))
          case measure => omega
          case rel => exact ⟨i + 1, by omega, rfl, by go_num, E2, bdrew hB.out _⟩
        · have E2 : Hid (decide (la = lb) = false) := by
            show _ = _
            simp only [decide_eq_false_iff_not]
            intro h
            rw [h, hy] at hx
            exact e (Option.some.inj hx).symm
          have hne : (x.toList == y.toList) = false := by
            rw [beq_eq_false_iff_ne]
            exact fun h => e (ba_ext h)
          clear hx hy hE e
          go_wp2_with fail
          go_quiet (fail)
          go_wp2_with fail
          go_ret
          exact ⟨by rw [E2.out]; rfl, bdrew hB.out _⟩
      · obtain rfl : i = la.length := by omega
        have E2 : Hid (decide (la = lb) = true) := by
          show _ = _
          have h := hE.out
          rw [List.take_length, HL.out, List.take_length] at h
          simp [h]
        go_wp2_with fail
        go_ret
        exact ⟨by rw [E2.out]; rfl, hB.out⟩
  · have E : decide (la = lb) = false := by simp; intro e; exact hlen (by rw [e])
    rw [E]
    have hd : ((la.length : Int) == (lb.length : Int)) = false := by simp; omega
    clear hlen E
    go_enter Tryz.func28, Tryz.ntmps28
    go_wp2_with fail
    go_ret
    exact ⟨rfl, Below.refl _ _⟩
/-- What the laws need of the package-level variables. -/
structure VarsOk (w : World) : Prop where
  errs : ErrsOk w
  utf : Utf8Tabs 2 3 w
  low : 2 < w.heap.size ∧ 3 < w.heap.size
theorem VarsOk.below {w w' : World} (h : VarsOk w) (hB : Below w.heap.size w w') : VarsOk w' :=
  ⟨h.errs.below hB, ⟨fun c hc => (hB.cell (p := ⟨_, c, none⟩) h.low.1).trans (h.utf.1 c hc), fun i hi => ⟨(hB.cell (p := ⟨_, 2 * i, none⟩) h.low.2).trans (h.utf.2 i hi).1, (hB.cell (p := ⟨_, 2 * i + 1, none⟩) h.low.2).trans (h.utf.2 i hi).2⟩⟩, Nat.lt_of_lt_of_le h.low.1 hB.size, Nat.lt_of_lt_of_le h.low.2 hB.size⟩
def RulesAt (T : ByteArray) (w : World) (v : Value) : Prop := ∃ g vE vJ vP vH vV L, v = .pointer (some ⟨g, 0, none⟩) ∧ RulesIn w g T vE vJ vP vH vV L

set_option maxRecDepth 100000 in
set_option maxHeartbeats 2000000 in
theorem keepRules_ok (T : ByteArray) (w : World) (hE : ErrsOk w) (hT : T.size ≤ 140737488351232) (h0 : (RS.read T).err = 0) :
    Calls Tryz.prog 27 #[.string T] w fun r w' => (∃ v, r = .returned v ∧ RulesAt T w' v) ∧ Below w.heap.size w w' := by
  have hc := compile_all T w hE hT
  have hp : (RS.read T).place = 0 := read_err0 T h0
  have H0 : Hid ((RS.read T).err = 0) := h0
  have HP : Hid ((RS.read T).place = 0) := hp
  clear h0 hp
  go_enter Tryz.func27, Tryz.ntmps27
  go_wp2_with fail
  refine hc.mono ?_
  rintro r w1 ⟨b1, v1, rfl, h1, -⟩
  obtain ⟨g, vE, vJ, vP, vH, vV, L, rfl, _, hR⟩ := h1 H0.out
  have HR : Hid (RulesIn w1 g T vE vJ vP vH vV L) := hR
  rw [H0.out, HP.out]
  clear h1 hc hR
  go_wp2_with fail
  go_ret
  exact ⟨⟨_, rfl, g, vE, vJ, vP, vH, vV, L, rfl, HR.out⟩, b1⟩
set_option maxRecDepth 100000 in
set_option maxHeartbeats 4000000 in
theorem given_any (T : ByteArray) (w : World) (hV : VarsOk w) (hT : T.size ≤ 140737488351232) :
    Calls Tryz.prog 24 #[.string T] w fun r w' => (∃ v, r = .returned (.tuple #[v, .bool true]) ∧ ((RS.read T).err = 0 → RulesAt T w' v) ∧ ((RS.read T).err ≠ 0 → v = .pointer none)) ∧ Below w.heap.size w w' := by
  have HV : Hid (VarsOk w) := hV
  have hr := keepRules_ok joinT w hV.errs (by decide) joinT_read.1
  clear hV
  go_enter Tryz.func24, Tryz.ntmps24
  go_wp2_with fail
  refine hr.mono ?_
  rintro r w1 ⟨⟨v1, rfl, g, vE, vJ, vP, vH, vV, L, rfl, hR⟩, b1⟩
  have HL : Hid (∀ o ∈ L, o.2.2 < 8) := hR.spans.2
  have V1 : Hid (VarsOk w1) := HV.out.below b1
  have hcut := cut_any w1 g joinT ⟨#[97, 98]⟩ vE vJ vP vH vV L hR V1.out.utf V1.out.low (by decide)
  have B1 : Hid (Below w.heap.size w w1) := b1
  clear hr hR b1
  go_wp2_with fail
  refine hcut.mono ?_
  rintro r w2 ⟨⟨v2, told, rfl, hct, hrow⟩, b2⟩
  obtain rfl := told_joined HL.out hct (by decide)
  have B2 : Hid (Below w.heap.size w w2) := B1.out.trans (b2.mono B1.out.size)
  obtain ⟨ao2, cap2, rfl⟩ := row_shape hrow
  obtain ⟨W3, hW3⟩ : ∃ W3, W3 = w2.alloc (.cells #[.string ⟨#[97, 98]⟩] 9) := ⟨_, rfl⟩
  have HW3 : Hid (W3 = w2.alloc (.cells #[.string ⟨#[97, 98]⟩] 9)) := hW3
  have b23 : Below w2.heap.size w2 W3 := by rw [hW3]; exact below_alloc w2 _
  have B3 : Hid (Below w.heap.size w W3) := B2.out.trans (b23.mono B2.out.size)
  have hown : W3.ownsRow 0 9 1 (.slice (some ⟨w2.heap.size, 0, none⟩) 1 1) [(⟨#[97, 98]⟩ : ByteArray)].length (strCells [⟨#[97, 98]⟩]) := by
    rw [hW3]
    exact ⟨rfl, Or.inr ⟨w2.heap.size, 1, #[.string ⟨#[97, 98]⟩], rfl, Nat.zero_le _, heap_alloc_new w2 _, Nat.le_refl _, by decide, rfl, rfl⟩⟩
  have hsame := keepSame_any w1.heap.size 0 _ _ [⟨#[97, 98]⟩] [⟨#[97, 98]⟩] W3 (row_kp hrow (Kp.below b23)) hown (by decide)
  rw [show decide ([(⟨#[97, 98]⟩ : ByteArray)] = [⟨#[97, 98]⟩]) = true from by simp] at hsame
  clear hcut hct hrow b2 hW3 b23 hown HL
  go_wp2_with fail
  rw [← HW3.out]
  refine hsame.mono ?_
  rintro r w4 ⟨rfl, b4⟩
  have B4 : Hid (Below w.heap.size w w4) := B3.out.trans (b4.mono B3.out.size)
  have V4 : Hid (VarsOk w4) := HV.out.below B4.out
  have hcomp := compile_all T w4 V4.out.errs hT
  clear hsame b4 HW3
  go_wp2_with fail
  refine hcomp.mono ?_
  rintro r w5 ⟨b5, v5, rfl, h5, h6⟩
  have B5 : Hid (Below w.heap.size w w5) := B4.out.trans (b5.mono B4.out.size)
  by_cases e0 : (RS.read T).err = 0
  · obtain ⟨g5, vE5, vJ5, vP5, vH5, vV5, L5, rfl, _, hR⟩ := h5 e0
    have HR : Hid (RulesAt T w5 (.pointer (some ⟨g5, 0, none⟩))) := ⟨g5, vE5, vJ5, vP5, vH5, vV5, L5, rfl, hR⟩
    have E0 : Hid ((RS.read T).err = 0) := e0
    rw [e0]
    clear h5 h6 hR hcomp b5 e0
    go_wp2_with fail
    go_ret2
    exact ⟨⟨_, rfl, fun _ => HR.out, fun h => absurd E0.out h⟩, B5.out⟩
  · obtain rfl := h6 e0
    have E0 : Hid (¬ (RS.read T).err = 0) := e0
    have hd : (((RS.read T).err : Int) == 0) = false := by simp; omega
    generalize (RS.read T).place = pl
    generalize (RS.read T).err = er at hd ⊢
    clear h5 h6 hcomp b5 e0
    go_wp2_with fail
    go_ret2
    exact ⟨⟨_, rfl, fun h => absurd h E0.out, fun _ => rfl⟩, B5.out⟩
set_option maxRecDepth 100000 in
set_option maxHeartbeats 4000000 in
theorem whole_pr (T s : ByteArray) (w : World) (hV : VarsOk w) (hT : T.size ≤ 140737488351232) (hs : s.size ≤ 1500000) :
    Calls Tryz.prog 5 #[.string T, .string s] w fun r w' => r = .returned (.bool true) ∧ Below w.heap.size w w' := by
  have HV : Hid (VarsOk w) := hV
  have hg := given_any T w hV hT
  clear hV
  go_enter Tryz.func5, Tryz.ntmps5
  go_wp2_with fail
  refine hg.mono ?_
  rintro r w1 ⟨⟨v1, rfl, h1, h2⟩, b1⟩
  have B1 : Hid (Below w.heap.size w w1) := b1
  have V1 : Hid (VarsOk w1) := HV.out.below b1
  by_cases e0 : (RS.read T).err = 0
  · obtain ⟨g, vE, vJ, vP, vH, vV, L, rfl, hR⟩ := h1 e0
    have HL : Hid (∀ o ∈ L, o.2.2 < 8) := hR.spans.2
    have hcut := cut_any w1 g T s vE vJ vP vH vV L hR V1.out.utf V1.out.low hs
    clear hg h1 h2 b1 hR e0
    go_wp2_with fail
    refine hcut.mono ?_
    rintro r w2 ⟨⟨v2, told, rfl, hct, hrow⟩, b2⟩
    obtain ⟨t1, t2, t3⟩ := told_whole HL.out hct
    obtain ⟨ao, cap, rfl⟩ := row_shape hrow
    have B2 : Hid (Below w.heap.size w w2) := B1.out.trans (b2.mono B1.out.size)
    have R2 : Hid (w2.ownsRow w1.heap.size 9 1 (.slice ao told.length cap) told.length (strCells told)) := hrow
    have T1 : Hid (∀ x ∈ told, 1 ≤ x.size) := t1
    have T2 : Hid (joinB told = s) := t2
    have htl : told.length ≤ 1500000 := Nat.le_trans t3 hs
    have hj := joined_any w1.heap.size (.slice ao told.length cap) told w2 hrow htl (by rw [t2]; exact hs)
    rw [t2] at hj
    have HJ : Hid (Calls Tryz.prog 25 #[.slice ao told.length cap] w2 fun r w' => r = .returned (.string s) ∧ w' = w2) := hj
    clear hcut hct hrow b2 t1 t2 t3 hj
    go_wp2_with fail
    go_loopg [8] told.length (fun gh iv wx => ∃ i : Nat, i ≤ told.length ∧ gh = told.length - i ∧ iv = .int .i64 i ∧ wx = w2)
    case atStart => exact ⟨0, Nat.zero_le _, rfl, rfl, rfl⟩
    case round =>
      obtain ⟨i, hi, rfl, rfl, rfl⟩ := hrel
      by_cases hlt : i < told.length
      · obtain ⟨x, hx⟩ : ∃ x, told[i]? = some x := ⟨told[i], List.getElem?_eq_getElem hlt⟩
        have hx1 := T1.out x (List.mem_of_getElem? hx)
        obtain ⟨q, hq, _, hc⟩ := row_at R2.out (strCells_at hx) (by omega)
        subst hq
        have hxe : x.toList.isEmpty = false := by
          rw [ByteArray.toList_eq]
          obtain ⟨⟨l⟩⟩ := x
          cases l with
          | nil => exact absurd hx1 (by decide)
          | cons a l => rfl
        clear hx
        go_wp2_with fail
        go_roundg (told.length - (i + 1))
        case measure => omega
        case rel => exact ⟨i + 1, by omega, rfl, by go_num, rfl⟩
      · obtain rfl : i = told.length := by omega
        go_wp2_with fail
        refine HJ.out.mono ?_
        rintro r w3 ⟨rfl, rfl⟩
        go_wp2_with fail
        go_ret
        exact ⟨rfl, B2.out⟩
  · obtain rfl := h2 e0
    clear hg h1 h2 b1 e0
    go_wp2_with fail
    go_ret
    exact ⟨rfl, B1.out⟩
end Go.Proofs.YtodagkkjfipbgaaGreatDoor
/- The span of the surrogates, as start-up lays it. -/
namespace Go.Proofs.YtodagkkjfipbgaaGreatDoor
open Go.ChangeShapes Go.WideShapes Go.ChangeAt Go.RowKit

theorem tSU : (Tryz.prog.globals[0]?).map (·.type) = some 171 := by kernel_rfl
theorem laid_sur {n : String} {r : List (String × DataW Unit)} {W : World} (h : laidMet Tryz.prog ((n, Rows.laid_cleave_kinds_surrogates) :: r) W) (gSU : Tryz.prog.globalNamed n = some 0) : W.cell? ⟨0, 0, none⟩ = some (.int .i32 55296) ∧ W.cell? ⟨0, 1, none⟩ = some (.int .i32 57343) := by
  obtain ⟨ps, ⟨g0, t0, cs0, f0, p0, q0, hg0, ht0, hv0, hd0, _, e0⟩, _, _⟩ := h
  obtain rfl := Option.some.inj (gSU.symm.trans hg0)
  obtain rfl := Option.some.inj (tSU.symm.trans ht0)
  have c1 : Tryz.prog.cellsOf 21 = 1 := by kernel_rfl
  obtain ⟨y0, y1, m, ex, hl, h0, h1⟩ := trod_struct2 Tryz.underlying171 hd0
  have c2 : Tryz.prog.cellsOf 171 = 2 := by kernel_rfl
  rw [c2] at hl
  have e1 := (Prod.mk.inj ex).1
  unfold Rows.laid_cleave_kinds_surrogates at e1
  injection e1 with e1
  injection e1 with ea e1
  injection e1 with eb _
  simp only [c1] at h0 h1
  obtain ⟨a, a0, a1, _⟩ := DataW.trod_int Tryz.underlying21 h0
  obtain ⟨b, b0, b1, _⟩ := DataW.trod_int Tryz.underlying21 h1
  rw [a1] at ea
  rw [b1] at eb
  have hza : a = 55296 := by simpa using ea.symm
  have hzb : b = 57343 := by simpa using eb.symm
  subst hza
  subst hzb
  obtain ⟨l⟩ := cs0
  match l, hl with
  | [x, y], _ =>
    simp at a0 b0
    subst a0
    subst b0
    exact ⟨by rw [World.var?_cell gSU hv0 0]; rfl, by rw [World.var?_cell gSU hv0 1]; rfl⟩
end Go.Proofs.YtodagkkjfipbgaaGreatDoor
/- What the laid variables give. -/
namespace Go.Proofs.YtodagkkjfipbgaaGreatDoor
open Go.ChangeShapes Go.WideShapes Go.ChangeAt Go.RowKit

theorem ownW : ownKnob Tryz.prog.godebug = none := by kernel_rfl
theorem gESW : Tryz.prog.globalNamed "strconv.ErrSyntax" = some 6 := by kernel_rfl
theorem gERW : Tryz.prog.globalNamed "strconv.ErrRange" = some 7 := by kernel_rfl
theorem tESW : (Tryz.prog.globals[6]?).map (·.type) = some 332 := by kernel_rfl
theorem tERW : (Tryz.prog.globals[7]?).map (·.type) = some 332 := by kernel_rfl
theorem laid_ifaceW {n nm : String} {d : DataW Unit} {r : List (String × DataW Unit)} {W : World} {g : Nat} {ti : TypeId} {ms : Array (String × TypeId)}
    (h : laidMet Tryz.prog ((n, .iface nm d) :: r) W) (hg : Tryz.prog.globalNamed n = some g) (ht : (Tryz.prog.globals[g]?).map (·.type) = some ti) (hi : Tryz.prog.underlying ti = some (.interface ms)) :
    ∃ u v, W.cell? ⟨g, 0, none⟩ = some (.iface u v) := by
  obtain ⟨ps, ⟨g0, t0, cs0, f0, p0, q0, hg0, ht0, hv0, hd0, _, e0⟩, _, _⟩ := h
  obtain rfl := Option.some.inj (hg.symm.trans hg0)
  obtain rfl := Option.some.inj (ht.symm.trans ht0)
  obtain ⟨_, u, v, hcs, _, _⟩ := iface_of_trod hi hd0
  refine ⟨u, v, ?_⟩
  rw [World.var?_cell hg hv0 0]
  obtain ⟨l⟩ := cs0
  simp at hcs
  subst hcs
  rfl
theorem u8x : U8Extra Tryz.prog Tryz.laysDec_ren := ⟨by kernel_rfl, by kernel_rfl, by kernel_rfl, by kernel_rfl, by kernel_rfl, by kernel_rfl, by kernel_rfl⟩
theorem firstIs : Rows.laid_unicode_utf8_first = Lib.firstData := by kernel_rfl
theorem acceptIs : Rows.laid_unicode_utf8_acceptRanges = Lib.acceptData := by kernel_rfl
theorem utf_laid {l : List (String × DataW Unit)} {W : World} (h : laidMet Tryz.prog l W) (h1 : ("unicode/utf8.first", Rows.laid_unicode_utf8_first) ∈ l) (h2 : ("unicode/utf8.acceptRanges", Rows.laid_unicode_utf8_acceptRanges) ∈ l) :
    Lib.Utf8Tabs 2 3 W ∧ (2 < W.heap.size ∧ 3 < W.heap.size) := by
  rw [firstIs] at h1
  rw [acceptIs] at h2
  have hT := utf8Tabs_of_reads { Tryz.laysDec with } u8x (Lib.laidMet.reads h h1) (Lib.laidMet.reads h h2)
  rw [show Tryz.laysDec_ren.g 3 = 2 from by kernel_rfl, show Tryz.laysDec_ren.g 4 = 3 from by kernel_rfl] at hT
  exact ⟨hT, cell_lt (hT.1 0 (by omega)), cell_lt (hT.2 0 (by omega)).1⟩
theorem vars_laid {W : World} {a b c : String × DataW Unit} {l : List (String × DataW Unit)} (h : laidMet Tryz.prog (a :: b :: c :: ("unicode/utf8.acceptRanges", Rows.laid_unicode_utf8_acceptRanges) :: ("cleave/kinds.surrogates", Rows.laid_cleave_kinds_surrogates) :: ("strconv.ErrRange", Rows.laid_strconv_ErrRange) :: ("strconv.ErrSyntax", Rows.laid_strconv_ErrSyntax) :: ("unicode/utf8.first", Rows.laid_unicode_utf8_first) :: l) W) : VarsOk W := by
  have hU := utf_laid h (List.mem_of_getElem? (i := 7) rfl) (List.mem_of_getElem? (i := 3) rfl)
  exact ⟨⟨laid_ifaceW h.tail.tail.tail.tail.tail.tail gESW tESW Tryz.underlying332, laid_ifaceW h.tail.tail.tail.tail.tail gERW tERW Tryz.underlying332, laid_sur h.tail.tail.tail.tail (by kernel_rfl)⟩, hU.1, hU.2⟩
end Go.Proofs.YtodagkkjfipbgaaGreatDoor
