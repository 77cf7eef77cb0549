/- rule.judge. -/
import Derived.Deep.RegionHeld3
import Derived.Laws.CopyOwn
import Derived.Deep.RegionLaw
import Derived.Test.YtodagkkjfipbgaaGreatDoorV2toV3
import Derived.Test.YtodagkkjfipbgaaGreatDoorN17toV1
import Derived.Test.YtodagkkjfipbgaaGreatDoorN15toN16
import Derived.Test.YtodagkkjfipbgaaGreatDoorN13toN14
import Derived.Test.YtodagkkjfipbgaaGreatDoorN12lone
import Derived.Test.YtodagkkjfipbgaaGreatDoorN10toN11
import Derived.Test.YtodagkkjfipbgaaGreatDoorN9lone
import Derived.Test.YtodagkkjfipbgaaGreatDoorN1toN5
import Derived.Test.YtodagkkjfipbgaaGreatDoorJ10toJ11
import Derived.Test.YtodagkkjfipbgaaGreatDoorK9toJ9
import Derived.Test.YtodagkkjfipbgaaGreatDoorJ8toQ4
import Derived.Test.YtodagkkjfipbgaaGreatDoorJ6toK3
import Derived.Test.YtodagkkjfipbgaaGreatDoorK7toL3
import Derived.Test.YtodagkkjfipbgaaGreatDoorP2toQ1
import Derived.Test.YtodagkkjfipbgaaGreatDoorBtoP1
import Derived.Test.YtodagkkjfipbgaaGreatDoorK4toK6
import Derived.Test.YtodagkkjfipbgaaGreatDoorQ5toK2
import Derived.Test.YtodagkkjfipbgaaGreatDoorQ2toQ3
import Derived.Test.YtodagkkjfipbgaaGreatDoorJ3toJ5
import Derived.Test.YtodagkkjfipbgaaGreatDoorJ2toJ7
import Derived.Test.YtodagkkjfipbgaaGreatDoorN8lone
import Derived.Test.YtodagkkjfipbgaaGreatDoorN6toN0
import Derived.Test.YtodagkkjfipbgaaGreatDoorSh3lone
namespace Go.Proofs.YtodagkkjfipbgaaGreatDoor
open Go.RowKit Go.Maps

theorem grown_t {A B C : World} {r : Option Nat} (h : A.grownBy B r) (k : B.grownBy C r) : A.grownBy C r :=
  ⟨k.os.trans h.os, k.tape.trans h.tape, k.output.trans h.output, Nat.le_trans h.size k.size, fun i hi hn => (k.block i (Nat.lt_of_lt_of_le hi h.size) hn).trans (h.block i hi hn)⟩
theorem grown_of_below {A B : World} (h : Below A.heap.size A B) (r : Option Nat) : A.grownBy B r := ⟨h.os, h.tape, h.output, h.size, fun k hk _ => h.block k hk⟩
theorem grown_set (A : World) (N i : Nat) (u : Value) : A.grownBy (A.setCell ⟨N, i, none⟩ u) (some N) := by
  have h := (Below.refl N A).setCell (p := ⟨N, i, none⟩) (Nat.le_refl N) u
  exact ⟨h.os, h.tape, h.output, h.size, fun k _ hn => setCell_type (fun e => hn (by rw [e]))⟩
/-- What a rule says of the places ahead of m, where it matches. -/
def judgedTo (c : Bool) (fl fr : Nat → Bool) (m : Nat) (cuts : List Bool) : List Bool := cuts.mapIdx fun i b => if 1 ≤ i ∧ i < m ∧ fl i = true ∧ fr i = true then c else b
theorem judgedTo_len (c : Bool) (fl fr : Nat → Bool) (m : Nat) (cuts : List Bool) : (judgedTo c fl fr m cuts).length = cuts.length := by unfold judgedTo; simp
theorem judgedTo_low (c : Bool) (fl fr : Nat → Bool) {m : Nat} (hm : m ≤ 1) (cuts : List Bool) : judgedTo c fl fr m cuts = cuts := by
  apply List.ext_getElem?
  intro i
  unfold judgedTo
  rw [List.getElem?_mapIdx]
  cases h : cuts[i]? with
  | none => rfl
  | some b => rw [Option.map_some, if_neg (by omega)]
theorem judgedTo_one (c : Bool) (fl fr : Nat → Bool) (cuts : List Bool) : judgedTo c fl fr 1 cuts = cuts := judgedTo_low c fl fr (Nat.le_refl _) cuts
theorem judgedTo_yes (c : Bool) (fl fr : Nat → Bool) {m : Nat} {cuts : List Bool} (hm : 1 ≤ m) (hl : m < cuts.length) (h1 : fl m = true) (h2 : fr m = true) : judgedTo c fl fr (m + 1) cuts = (judgedTo c fl fr m cuts).set m c := by
  apply List.ext_getElem?
  intro i
  rw [List.getElem?_set, judgedTo_len]
  unfold judgedTo
  rw [List.getElem?_mapIdx, List.getElem?_mapIdx]
  by_cases e : m = i
  · subst e
    rw [if_pos rfl, if_pos hl, List.getElem?_eq_getElem hl, Option.map_some, if_pos ⟨hm, by omega, h1, h2⟩]
  · rw [if_neg e]
    cases h : cuts[i]? with
    | none => rfl
    | some b =>
      rw [Option.map_some, Option.map_some]
      by_cases hc : 1 ≤ i ∧ i < m ∧ fl i = true ∧ fr i = true
      · rw [if_pos hc, if_pos ⟨hc.1, by omega, hc.2.2⟩]
      · rw [if_neg hc, if_neg (fun h => hc ⟨h.1, by omega, h.2.2⟩)]
theorem judgedTo_no (c : Bool) (fl fr : Nat → Bool) {m : Nat} (cuts : List Bool) (h : fl m = false ∨ fr m = false) : judgedTo c fl fr (m + 1) cuts = judgedTo c fl fr m cuts := by
  apply List.ext_getElem?
  intro i
  unfold judgedTo
  rw [List.getElem?_mapIdx, List.getElem?_mapIdx]
  cases hi : cuts[i]? with
  | none => rfl
  | some b =>
    rw [Option.map_some, Option.map_some]
    by_cases hc : 1 ≤ i ∧ i < m ∧ fl i = true ∧ fr i = true
    · rw [if_pos hc, if_pos ⟨hc.1, by omega, hc.2.2⟩]
    · rw [if_neg hc, if_neg]
      rintro ⟨h1, h2, h3, h4⟩
      by_cases e : i = m
      · subst e; rcases h with h | h
        · rw [h] at h3; cases h3
        · rw [h] at h4; cases h4
      · exact hc ⟨h1, by omega, h3, h4⟩
theorem told_at (f : Nat → Bool) {n i : Nat} (h : i < n) : ((List.range n).map f)[i]? = some (f i) := by rw [List.getElem?_map, List.getElem?_range h]; rfl

set_option maxRecDepth 100000 in
set_option maxHeartbeats 4000000 in
theorem judge_any (w : World) (c : Bool) (vL vR vK : Value) (tl tr : Tab) (row : List Nat) (N : Nat) (cuts : List Bool) (hL : TabIn 0 w vL tl) (gL : TabGood tl) (hR : TabIn 0 w vR tr) (gR : TabGood tr) (hK : KRow w vK row) (hC : w.heap[N]? = some (.cells (boolCells cuts) 4 (0, 0))) (hlen : cuts.length = row.length + 1) :
    Calls Tryz.prog 102 #[.agg #[.bool c, vL, vR], vK, .slice (some ⟨N, 0, none⟩) (row.length + 1) (row.length + 1)] w fun r w' => (∃ v, r = .returned v) ∧ w'.heap[N]? = some (.cells (boolCells (judgedTo c (fun i => tmatch tl (leftAt tl row i)) (fun i => tmatch tr (rightAt tr row i)) row.length cuts)) 4 (0, 0)) ∧ w.grownBy w' (some N) := by
  obtain ⟨aoL, capL, rfl⟩ := row_shape hL
  obtain ⟨aoR, capR, rfl⟩ := row_shape hR
  obtain ⟨aoK, capK, rfl⟩ := row_shape hK.own
  obtain ⟨fl, hfl⟩ : ∃ fl : Nat → Bool, fl = fun i => tmatch tl (leftAt tl row i) := ⟨_, rfl⟩
  obtain ⟨fr, hfr⟩ : ∃ fr : Nat → Bool, fr = fun i => tmatch tr (rightAt tr row i) := ⟨_, rfl⟩
  rw [← hfl, ← hfr]
  have hfew := hK.few
  have hNl := heap_lt hC
  obtain ⟨W0, hW0⟩ : ∃ W0, W0 = w.alloc (.cells #[.bool c, .slice aoL tl.length capL, .slice aoR tr.length capR] 157) := ⟨_, rfl⟩
  have HW0 : Hid (W0 = w.alloc (.cells #[.bool c, .slice aoL tl.length capL, .slice aoR tr.length capR] 157)) := hW0
  have b0 : Below w.heap.size w W0 := by rw [hW0]; exact below_alloc w _
  have hz0 : W0.heap.size = w.heap.size + 1 := by rw [hW0]; simp
  have p0 : W0.heap[w.heap.size]? = some (.cells #[.bool c, .slice aoL tl.length capL, .slice aoR tr.length capR] 157 (0, 0)) := by rw [hW0]; exact heap_alloc_new w _
  have BW : Hid (Below w.heap.size w W0) := b0
  have P0 : Hid (W0.heap[w.heap.size]? = some (.cells #[.bool c, .slice aoL tl.length capL, .slice aoR tr.length capR] 157 (0, 0))) := p0
  have C0 : Hid (W0.heap[N]? = some (.cells (boolCells cuts) 4 (0, 0))) := (b0.block _ hNl).trans hC
  have CL : Hid (∀ W, Below W0.heap.size W0 W → Calls Tryz.prog 155 #[.agg #[.slice aoL tl.length capL], .slice aoK row.length capK] W fun r w' => ∃ g, r = .returned (.slice (some ⟨g, 0, none⟩) (row.length + 1) (row.length + 1)) ∧ W.heap.size ≤ g ∧ w'.heap[g]? = some (.cells (boolCells ((List.range (row.length + 1)).map fl)) 4 (0, 0)) ∧ Below W.heap.size W w') := fun W hb => by
    rw [hfl]
    exact lmatches_any W _ _ tl row (row_kp hL (Kp.below (b0.trans (hb.mono b0.size)))) gL (hK.below (b0.trans (hb.mono b0.size)))
  have CR : Hid (∀ W, Below W0.heap.size W0 W → Calls Tryz.prog 156 #[.agg #[.slice aoR tr.length capR], .slice aoK row.length capK] W fun r w' => ∃ g, r = .returned (.slice (some ⟨g, 0, none⟩) (row.length + 1) (row.length + 1)) ∧ W.heap.size ≤ g ∧ w'.heap[g]? = some (.cells (boolCells ((List.range (row.length + 1)).map fr)) 4 (0, 0)) ∧ Below W.heap.size W w') := fun W hb => by
    rw [hfr]
    exact rmatches_any W _ _ tr row (row_kp hR (Kp.below (b0.trans (hb.mono b0.size)))) gR (hK.below (b0.trans (hb.mono b0.size)))
  have m0 : W0.cell? ⟨w.heap.size, 0, none⟩ = some (.bool c) := cell_of_block p0 0 _ rfl
  have m1 : W0.cell? ⟨w.heap.size, 1, none⟩ = some (.slice aoL tl.length capL) := cell_of_block p0 1 _ rfl
  have m2 : W0.cell? ⟨w.heap.size, 2, none⟩ = some (.slice aoR tr.length capR) := cell_of_block p0 2 _ rfl
  clear hW0 b0 p0 hL hR hK hC hfl hfr gL gR
  go_enter Tryz.func102, Tryz.ntmps102
  go_wp2_with fail
  rw [← HW0.out]
  go_region_held3 (fun w' => w'.cell? ⟨w.heap.size, 0, none⟩ = some (.bool c) ∧ w'.cell? ⟨w.heap.size, 1, none⟩ = some (.slice aoL tl.length capL) ∧ w'.cell? ⟨w.heap.size, 2, none⟩ = some (.slice aoR tr.length capR))
    (first | exact HH.out | exact II.out | go_keep)
    (first
      | (go_at_call 155
         refine (CL.out _ ((Below.refl _ _).drew)).mono ?_
         rintro e W1 ⟨g1, rfl, hg1, hG1, hB1⟩
         have B1 : Hid (Below W0.heap.size W0 W1) := below_drew hB1
         have G1 : Hid (W1.heap[g1]? = some (.cells (boolCells ((List.range (row.length + 1)).map fl)) 4 (0, 0))) := hG1
         have L1 : Hid (W0.heap.size ≤ g1) := hg1
         have HH : Hid (W1.cell? ⟨w.heap.size, 0, none⟩ = some (.bool c) ∧ W1.cell? ⟨w.heap.size, 1, none⟩ = some (.slice aoL tl.length capL) ∧ W1.cell? ⟨w.heap.size, 2, none⟩ = some (.slice aoR tr.length capR)) :=
           ⟨(B1.out.cell (p := ⟨w.heap.size, 0, none⟩) (by show w.heap.size < _; omega)).trans m0, (B1.out.cell (p := ⟨w.heap.size, 1, none⟩) (by show w.heap.size < _; omega)).trans m1, (B1.out.cell (p := ⟨w.heap.size, 2, none⟩) (by show w.heap.size < _; omega)).trans m2⟩
         clear hG1 hB1 hg1)
      | (go_at_call 156
         refine (CR.out _ B1.out).mono ?_
         rintro e W2 ⟨g2, rfl, hg2, hG2, hB2⟩
         have B2 : Hid (Below W0.heap.size W0 W2) := B1.out.trans (hB2.mono B1.out.size)
         have G2 : Hid (W2.heap[g2]? = some (.cells (boolCells ((List.range (row.length + 1)).map fr)) 4 (0, 0))) := hG2
         have G1b : Hid (W2.heap[g1]? = some (.cells (boolCells ((List.range (row.length + 1)).map fl)) 4 (0, 0))) := (hB2.block _ (heap_lt G1.out)).trans G1.out
         have L2 : Hid (W0.heap.size ≤ g2) := Nat.le_trans B1.out.size hg2
         have II : Hid (W2.cell? ⟨w.heap.size, 0, none⟩ = some (.bool c) ∧ W2.cell? ⟨w.heap.size, 1, none⟩ = some (.slice aoL tl.length capL) ∧ W2.cell? ⟨w.heap.size, 2, none⟩ = some (.slice aoR tr.length capR)) :=
           ⟨(B2.out.cell (p := ⟨w.heap.size, 0, none⟩) (by show w.heap.size < _; omega)).trans m0, (B2.out.cell (p := ⟨w.heap.size, 1, none⟩) (by show w.heap.size < _; omega)).trans m1, (B2.out.cell (p := ⟨w.heap.size, 2, none⟩) (by show w.heap.size < _; omega)).trans m2⟩
         clear hG2 hB2 hg2))
  have GW : Hid (w.grownBy W2 (some N)) := grown_of_below (BW.out.trans (B2.out.mono BW.out.size)) _
  have C2 : Hid (W2.heap[N]? = some (.cells (boolCells (judgedTo c fl fr 1 cuts)) 4 (0, 0))) := by
    show _ = _
    rw [judgedTo_one]
    exact (B2.out.block _ (by omega)).trans C0.out
  have P2 : Hid (W2.heap[w.heap.size]? = some (.cells #[.bool c, .slice aoL tl.length capL, .slice aoR tr.length capR] 157 (0, 0))) := (B2.out.block _ (by omega)).trans P0.out
  have N1 : Hid (g1 ≠ N ∧ g2 ≠ N) := ⟨by have := L1.out; omega, by have := L2.out; omega⟩
  clear HW0 BW P0 C0 CL CR m0 m1 m2 B1 B2 G1 HH II L1 L2 hz0
  go_wp2_with fail
  go_loopg [8] (row.length - 1) (fun gh iv wx => ∃ i : Nat, 1 ≤ i ∧ gh = row.length - i ∧ iv = .int .i64 i ∧ Hid (i ≤ row.length ∨ i = 1) ∧ Hid (wx.heap[N]? = some (.cells (boolCells (judgedTo c fl fr i cuts)) 4 (0, 0))) ∧ Hid (wx.heap[w.heap.size]? = some (.cells #[.bool c, .slice aoL tl.length capL, .slice aoR tr.length capR] 157 (0, 0))) ∧ Hid (wx.heap[g1]? = some (.cells (boolCells ((List.range (row.length + 1)).map fl)) 4 (0, 0))) ∧ Hid (wx.heap[g2]? = some (.cells (boolCells ((List.range (row.length + 1)).map fr)) 4 (0, 0))) ∧ Hid (w.grownBy wx (some N)))
  case atStart => exact ⟨1, Nat.le_refl _, rfl, rfl, Or.inr rfl, C2, P2, G1b, G2, GW⟩
  case round =>
    obtain ⟨i, hi, rfl, rfl, hD, hC, hP, hG1, hG2, hW⟩ := hrel
    obtain ⟨w3, hw3⟩ : ∃ w3, w3 = wr := ⟨wr, rfl⟩
    subst hw3
    clear C2 P2 G1b G2 GW
    by_cases hlt : i < row.length
    · obtain ⟨b0, hb0⟩ : ∃ b0, (judgedTo c fl fr i cuts)[i]? = some b0 := ⟨_, List.getElem?_eq_getElem (by rw [judgedTo_len]; omega)⟩
      have c0 := cell_of_block hP.out 0 _ rfl
      have cN := cell_of_block hC.out i _ (boolCells_at hb0)
      have cNf := free_of_block hC.out i
      have d1 := cell_of_block hG1.out i _ (boolCells_at (told_at fl (show i < row.length + 1 by omega)))
      have d2 := cell_of_block hG2.out i _ (boolCells_at (told_at fr (show i < row.length + 1 by omega)))
      clear hb0
      cases e1 : fl i with
      | false =>
        rw [e1] at d1
        have E : Hid (judgedTo c fl fr (i + 1) cuts = judgedTo c fl fr i cuts) := judgedTo_no c fl fr cuts (Or.inl e1)
        clear e1
        go_wp2_with fail
        go_roundg (row.length - (i + 1))
        case rel => exact ⟨i + 1, by omega, rfl, by go_num, Or.inl (by omega), by rw [E.out]; exact hC, hP, hG1, hG2, hW⟩
        case measure => omega
      | true =>
        rw [e1] at d1
        cases e2 : fr i with
        | false =>
          rw [e2] at d2
          have E : Hid (judgedTo c fl fr (i + 1) cuts = judgedTo c fl fr i cuts) := judgedTo_no c fl fr cuts (Or.inr e2)
          clear e1 e2
          go_wp2_with fail
          go_roundg (row.length - (i + 1))
          case rel => exact ⟨i + 1, by omega, rfl, by go_num, Or.inl (by omega), by rw [E.out]; exact hC, hP, hG1, hG2, hW⟩
          case measure => omega
        | true =>
          rw [e2] at d2
          have E : Hid (judgedTo c fl fr (i + 1) cuts = (judgedTo c fl fr i cuts).set i c) := judgedTo_yes c fl fr hi (by omega) e1 e2
          clear e1 e2
          go_wp2_with fail
          go_roundg (row.length - (i + 1))
          case rel =>
            refine ⟨i + 1, by omega, rfl, by go_num, Or.inl (by omega), ?_, (setCell_type (by omega)).trans hP.out, (setCell_type N1.out.1).trans hG1.out, (setCell_type N1.out.2).trans hG2.out, grown_t hW.out (grown_set _ N i _)⟩
            rw [E.out]
            exact (block_setCell hC.out i _).trans (by rw [boolCells_set])
          case measure => omega
    · have E : Hid (judgedTo c fl fr row.length cuts = judgedTo c fl fr i cuts) := by
        show _ = _
        rcases hD.out with h | h
        · rw [show i = row.length from by omega]
        · rw [judgedTo_low c fl fr (by omega), judgedTo_low c fl fr (by omega)]
      go_wp2_with fail
      go_end0
      exact ⟨⟨_, rfl⟩, by rw [E.out]; exact hC.out, hW.out⟩
end Go.Proofs.YtodagkkjfipbgaaGreatDoor
/- slices.Repeat. -/
namespace Go.Proofs.YtodagkkjfipbgaaGreatDoor
open Go.RowKit Go.Maps

theorem mul64_one (m : Nat) (hm : m ≤ 2000000) (w : World) : Calls Tryz.prog 192 #[.int .u64 1, .int .u64 m] w fun e w' => e = .returned (.tuple #[.int .u64 0, .int .u64 m]) ∧ w' = w := by
  have h := Any.bits_Mul64 Tryz.laysMul 1 m (by omega) (by omega) w
  rw [show Tryz.laysMul_ren.f 264 = 192 from by kernel_rfl] at h
  rw [show 1 * m / 18446744073709551616 = 0 from by omega, show 1 * m % 18446744073709551616 = m from by omega] at h
  exact h
set_option maxHeartbeats 1000000 in
theorem mul_one_any (m : Nat) (hm : m ≤ 2000000) (w : World) : Calls Tryz.prog 153 #[.int .u64 1, .int .u64 m] w fun e w' => e = .returned (.tuple #[.int .u64 0, .int .u64 m]) ∧ w' = w := by
  have h := mul64_one m hm w
  go_enter Tryz.func153, Tryz.ntmps153
  go_wp2_with fail
  refine h.mono ?_
  rintro r w' ⟨rfl, rfl⟩
  go_wp2_with fail
  go_ret2
  exact ⟨rfl, rfl⟩
theorem splice_trues {m n : Nat} (h : n < m) : splice ((toldTo (fun _ => true) n m).map Value.bool) n (((toldTo (fun _ => true) n m).map Value.bool).take (min n (m - n))) = (toldTo (fun _ => true) (n + min n (m - n)) m).map Value.bool := by
  have hl : ((toldTo (fun _ => true) n m).map Value.bool).length = m := by rw [List.length_map, toldTo_len]
  have hk : (((toldTo (fun _ => true) n m).map Value.bool).take (min n (m - n))).length = min n (m - n) := by rw [List.length_take, hl]; omega
  have hs : (splice ((toldTo (fun _ => true) n m).map Value.bool) n (((toldTo (fun _ => true) n m).map Value.bool).take (min n (m - n)))).length = m := by rw [length_splice _ _ _ (by rw [hk, hl]; omega), hl]
  have at_ : ∀ k j, j < m → ((toldTo (fun _ => true) k m).map Value.bool)[j]? = some (.bool (decide (j < k))) := fun k j hj => by
    unfold toldTo
    rw [List.getElem?_map, List.getElem?_map, List.getElem?_range hj]
    by_cases hjk : j < k <;> simp [hjk]
  apply List.ext_getElem?
  intro j
  by_cases hj : j < m
  · rw [at_ _ j hj]
    unfold splice
    rw [hk]
    by_cases h1 : j < n
    · rw [List.getElem?_append_left (by rw [List.length_take, hl]; omega), List.getElem?_take, if_pos h1, at_ _ j hj]
      simp; omega
    · have hn : (((toldTo (fun _ => true) n m).map Value.bool).take n).length = n := by rw [List.length_take, hl]; omega
      rw [List.getElem?_append_right (by rw [hn]; omega), hn]
      by_cases h2 : j - n < min n (m - n)
      · rw [List.getElem?_append_left (by rw [hk]; exact h2), List.getElem?_take, if_pos h2, at_ _ _ (by omega)]
        simp; omega
      · rw [List.getElem?_append_right (by rw [hk]; omega), hk, List.getElem?_drop, show n + min n (m - n) + (j - n - min n (m - n)) = j from by omega, at_ _ j hj]
        simp; omega
  · rw [List.getElem?_eq_none (by rw [hs]; omega), List.getElem?_eq_none (by rw [List.length_map, toldTo_len]; omega)]

set_option maxRecDepth 100000 in
set_option maxHeartbeats 2000000 in
theorem repeat_any (w : World) (q m : Nat) (hq : w.heap[q]? = some (.cells #[.bool true] 4 (0, 0))) (h1 : 1 ≤ m) (hm : m ≤ 1500001) :
    Calls Tryz.prog 100 #[.slice (some ⟨q, 0, none⟩) 1 1, .int .i64 m] w fun r w' => r = .returned (.slice (some ⟨w.heap.size, 0, none⟩) m m) ∧ w'.heap[w.heap.size]? = some (.cells (boolCells (List.replicate m true)) 4 (0, 0)) ∧ Below w.heap.size w w' := by
  have hmu := mul_one_any m (by omega) w
  have hmk : ∀ W : World, (Instr.makeSlice 108 (.int .i64 m) (.int .i64 m)).run Tryz.prog W = .ok (.slice (some ⟨W.heap.size, 0, none⟩) m m) (W.alloc (.cells (boolCells (List.replicate m false)) 4)) := fun W => make_bools W m (by omega)
  have HQ : Hid (w.heap[q]? = some (.cells #[.bool true] 4 (0, 0))) := hq
  clear hq
  go_enter Tryz.func100, Tryz.ntmps100
  obtain ⟨W0, hW0⟩ : ∃ W0, W0 = w.alloc (.cells (boolCells (List.replicate m false)) 4) := ⟨_, rfl⟩
  have b0 : Below w.heap.size w W0 := by rw [hW0]; exact below_alloc w _
  have G0 : W0.heap[w.heap.size]? = some (.cells ((toldTo (fun _ => true) 0 m).map Value.bool).toArray 4 (0, 0)) := by rw [hW0, toldTo_zero]; exact heap_alloc_new w _
  have hrun := run_copy_row Tryz.prog W0 108 108 3 4 w.heap.size 0 m m ⟨q, 0, none⟩ 1 1 _ 4 [.bool true] Tryz.undRowB (by kernel_rfl) G0 (Nat.min_eq_left h1).symm (fun j v hj => by
    have hj0 : j = 0 := by have := (List.getElem?_eq_some_iff.1 hj).1; simpa using this
    subst hj0
    have hv : v = .bool true := by simpa using hj.symm
    rw [hv]
    exact (b0.cell (p := ⟨q, 0, none⟩) (heap_lt HQ.out)).trans (cell_of_block HQ.out 0 _ rfl)) (by simp [toldTo_len]; omega) (by simp [Value.oneCell'])
  obtain ⟨W1, hW1⟩ : ∃ W1, W1 = W0.setRow w.heap.size (((((toldTo (fun _ => true) 0 m).map Value.bool).toArray).toList.take 0 ++ [Value.bool true] ++ ((((toldTo (fun _ => true) 0 m).map Value.bool).toArray).toList.drop (0 + [Value.bool true].length))).toArray) := ⟨_, rfl⟩
  rw [← hW1, show goInt [Value.bool true].length = .int .i64 1 from rfl] at hrun
  have G1 : Hid (W1.heap[w.heap.size]? = some (.cells ((toldTo (fun _ => true) 1 m).map Value.bool).toArray 4 (0, 0))) := by
    show _ = _
    rw [hW1]
    refine (setRow_heap W0 _ _ _ _ _ G0).trans ?_
    congr 2
    apply Array.toList_inj.1
    simp only [List.take_zero, List.nil_append, List.length_singleton, Nat.zero_add]
    rw [toldTo_succ _ (by omega)]
    obtain ⟨a, l, hal⟩ : ∃ a l, toldTo (fun _ => true) 0 m = a :: l := by
      cases h : toldTo (fun _ => true) 0 m with
      | nil => have := congrArg List.length h; rw [toldTo_len] at this; simp at this; omega
      | cons a l => exact ⟨a, l, rfl⟩
    rw [hal]
    simp
  have B1 : Hid (Below w.heap.size w W1) := by rw [hW1]; exact below_setRow b0 (Nat.le_refl _) _
  rw [hW0] at hrun
  clear hW1 G0 b0 hW0
  go_wp2_with fail
  refine hmu.mono ?_
  rintro r wq ⟨rfl, rfl⟩
  go_wp2_with fail
  clear hrun hmk hmu HQ
  go_loopg [8] (m - 1) (fun gh iv wx => ∃ n : Nat, 1 ≤ n ∧ n ≤ m ∧ gh = m - n ∧ iv = .int .i64 n ∧ Hid (wx.heap[wq.heap.size]? = some (.cells ((toldTo (fun _ => true) n m).map Value.bool).toArray 4 (0, 0))) ∧ Hid (Below wq.heap.size wq wx))
  case atStart => exact ⟨1, Nat.le_refl _, h1, rfl, rfl, G1, B1⟩
  case round =>
    obtain ⟨n, hn1, hnm, rfl, rfl, hG, hB⟩ := hrel
    obtain ⟨w3, hw3⟩ : ∃ w3, w3 = wr := ⟨wr, rfl⟩
    subst hw3
    clear G1 B1
    have hs3 := hB.out.size
    by_cases hlt : n < m
    · have hne : ¬ m = n := by omega
      obtain ⟨k, hk⟩ : ∃ k, k = min n (m - n) := ⟨_, rfl⟩
      have hk1 : 1 ≤ k := by omega
      have hk2 : k ≤ n := by omega
      have hk3 : n + k ≤ m := by omega
      have hw1 : IntKind.i64.wrap ((n : Int) + k) = (n : Int) + k := by rw [IntKind.wrap_i64]; omega
      obtain ⟨cur, hcur⟩ : ∃ cur, cur = (toldTo (fun _ => true) n m).map Value.bool := ⟨_, rfl⟩
      obtain ⟨cs, hcs⟩ : ∃ cs, cs = cur.take k := ⟨_, rfl⟩
      have hl : cur.length = m := by rw [hcur, List.length_map, toldTo_len]
      have hcl : cs.length = k := by rw [hcs, List.length_take, hl]; omega
      have SP : Hid (splice cur n cs = (toldTo (fun _ => true) (n + k) m).map Value.bool) := by show _ = _; rw [hcs, hcur, hk]; exact splice_trues hlt
      have HN : Hid (cs.length = Nat.min n (m - n)) := by show _ = _; rw [hcl, hk]
      have HF : Hid (n + cs.length ≤ cur.length) := by show _ ≤ _; rw [hcl, hl]; omega
      have H1 : Hid (∀ v ∈ cs, v.oneCell' = true) := fun v hv => by
        rw [hcs, hcur] at hv
        obtain ⟨b, _, rfl⟩ := List.mem_map.1 (List.mem_of_mem_take hv)
        rfl
      have GD : Hid (w3.drew.heap[wq.heap.size]? = some (.cells cur.toArray 4 (0, 0))) := by rw [hcur]; exact hG.out
      have HP : Hid (∀ j v, cs[j]? = some v → w3.drew.cell? ((⟨wq.heap.size, 0, none⟩ : Addr).add j) = some v) := fun j v hj => by
        rw [hcs, List.getElem?_take] at hj
        split at hj
        · rw [show (⟨wq.heap.size, 0, none⟩ : Addr).add j = ⟨wq.heap.size, j, none⟩ from by simp [Addr.add]; omega]
          exact cell_of_block GD.out j v (by simpa using hj)
        · cases hj
      clear hk hcs hl hcur
      go_wp2_with fail
      go_region_law
        (refine step_copy_splice rfl (.tmp 41) (.tmp 44) 108 108 rfl 4 Tryz.undRowB (by kernel_rfl) (some ⟨wq.heap.size, n, none⟩) (some ⟨wq.heap.size, 0, none⟩) (m - n) (m - n) n m (by simp [Act.eval, Act.put]) (by simp [Act.eval, Act.put]) wq.heap.size n cur 4 GD.out cs HN.out (fun _ => ⟨rfl, _, rfl, HP.out⟩) HF.out H1.out wq.heap.size wq (hB.out.drew) (Nat.le_refl _) ?_
         intro w4 hG4 hB4)
      all_goals (have G4 : Hid (w4.heap[wq.heap.size]? = some (.cells ((toldTo (fun _ => true) (n + k) m).map Value.bool).toArray 4 (0, 0))) := by rw [← SP.out]; exact hG4.out)
      all_goals (have B4 : Hid (Below wq.heap.size wq w4) := hB4)
      all_goals clear hG4 hB4 HP GD H1 HF HN SP
      all_goals go_wp2_with fail
      all_goals go_roundg (m - (n + k))
      all_goals first
        | (case measure => omega)
        | exact ⟨n + k, by omega, by omega, rfl, by go_num, G4, B4⟩
    · obtain rfl : n = m := by omega
      go_wp2_with fail
      go_ret
      refine ⟨rfl, ?_, hB.out⟩
      have h := hG.out
      rw [toldTo_all] at h
      refine h.trans ?_
      congr 2
      unfold boolCells
      congr 2
      apply List.ext_getElem?
      intro i
      rw [List.getElem?_map, List.getElem?_replicate]
      by_cases hi : i < n
      · rw [List.getElem?_range hi, if_pos hi]; rfl
      · rw [List.getElem?_eq_none (by simp; omega), if_neg hi]; rfl
end Go.Proofs.YtodagkkjfipbgaaGreatDoor
