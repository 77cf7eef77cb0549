/- The kinds that characters have. -/
import Derived.Shelf.Abstract
import Derived.Deep.QuietTactic
import Derived.BigQuiet
import Derived.Test.YtodagkkjfipbgaaGreatDoorD6toV9
import Derived.Test.YtodagkkjfipbgaaGreatDoorN12lone
import Derived.Test.YtodagkkjfipbgaaGreatDoorH1toC2
import Derived.Test.YtodagkkjfipbgaaGreatDoorV7toW5
import Derived.Test.YtodagkkjfipbgaaGreatDoorSh2lone
import Derived.Test.YtodagkkjfipbgaaGreatDoorN17toV1
import Derived.Test.YtodagkkjfipbgaaGreatDoorN15toN16
import Derived.Test.YtodagkkjfipbgaaGreatDoorN13toN14
import Derived.Test.YtodagkkjfipbgaaGreatDoorUlone
import Derived.Test.YtodagkkjfipbgaaGreatDoorShlone
import Derived.Test.YtodagkkjfipbgaaGreatDoorP2toQ1
import Derived.Test.YtodagkkjfipbgaaGreatDoorBtoP1
import Derived.Test.YtodagkkjfipbgaaGreatDoorN10toN11
import Derived.Test.YtodagkkjfipbgaaGreatDoorN9lone
import Derived.Test.YtodagkkjfipbgaaGreatDoorN1toN5
import Derived.Test.YtodagkkjfipbgaaGreatDoorJ10toJ11
import Derived.Test.YtodagkkjfipbgaaGreatDoorK9toJ9
import Derived.Test.YtodagkkjfipbgaaGreatDoorJ8toQ4
import Derived.Test.YtodagkkjfipbgaaGreatDoorJ6toK3
import Derived.Test.YtodagkkjfipbgaaGreatDoorK7toL3
import Derived.Test.YtodagkkjfipbgaaGreatDoorK4toK6
import Derived.Test.YtodagkkjfipbgaaGreatDoorQ5toK2
import Derived.Test.YtodagkkjfipbgaaGreatDoorQ2toQ3
import Derived.Test.YtodagkkjfipbgaaGreatDoorJ3toJ5
import Derived.Test.YtodagkkjfipbgaaGreatDoorJ2toJ7
import Derived.Test.YtodagkkjfipbgaaGreatDoorN8lone
import Derived.Test.YtodagkkjfipbgaaGreatDoorN6toN0
import Derived.Test.YtodagkkjfipbgaaGreatDoorD1toD5
namespace Go.Proofs.YtodagkkjfipbgaaGreatDoor
open Go.RowKit Go.Maps

def sizeP (x y : Int) : Int := wrap64 (wrap64 (wrap32 (y - x)) + 1)
set_option maxRecDepth 100000 in
set_option maxHeartbeats 1000000 in
theorem ssize_any (w : World) (x y : Int) : Calls Tryz.prog 88 #[.agg #[.int .i32 x, .int .i32 y]] w fun r w' => r = .returned (.int .i64 (sizeP x y)) ∧ Below w.heap.size w w' := by
  go_enter Tryz.func88, Tryz.ntmps88
  go_wp2_with fail
  go_ret
  exact ⟨rfl, below_alloc w _⟩
theorem bits_or_all : ((List.range 256).all fun t => (List.range 8).all fun k => (bits BinOp.or IntKind.u8 (t : Nat) ((2 ^ k : Nat) : Int) == ((t ||| 2 ^ k : Nat) : Int)) && decide (t ||| 2 ^ k < 256)) = true := by kernel_rfl
theorem bits_or (t k : Nat) (ht : t < 256) (hk : k < 8) : bits BinOp.or IntKind.u8 (t : Nat) ((2 ^ k : Nat) : Int) = ((t ||| 2 ^ k : Nat) : Int) ∧ t ||| 2 ^ k < 256 := by
  have h := List.all_eq_true.1 (List.all_eq_true.1 bits_or_all t (List.mem_range.2 ht)) k (List.mem_range.2 hk)
  rw [Bool.and_eq_true] at h
  exact ⟨by simpa using h.1, of_decide_eq_true h.2⟩
def maskN (L : List (Int × Int × Nat)) (m : Nat) : Nat := L.foldl (fun m o => m ||| 2 ^ o.2.2) m
def leftN (L : List (Int × Int × Nat)) (z : Int) : Int := L.foldl (fun z o => wrap64 (z - sizeP o.1 o.2.1)) z
theorem maskN_snoc (L : List (Int × Int × Nat)) (o : Int × Int × Nat) (m : Nat) : maskN (L ++ [o]) m = maskN L m ||| 2 ^ o.2.2 := by unfold maskN; simp
theorem leftN_snoc (L : List (Int × Int × Nat)) (o : Int × Int × Nat) (z : Int) : leftN (L ++ [o]) z = wrap64 (leftN L z - sizeP o.1 o.2.1) := by unfold leftN; simp
/-- The kinds that there are. -/
def possMask (L : List (Int × Int × Nat)) : Nat := if 0 < leftN L 1112064 then maskN L 128 ||| 2 ^ 6 else maskN L 128
def possOf (L : List (Int × Int × Nat)) : List Nat := (List.range 8).filter fun k => (possMask L).testBit k
theorem possOf_lt (L : List (Int × Int × Nat)) : ∀ k ∈ possOf L, k < 8 := fun k hk => by unfold possOf at hk; rw [List.mem_filter, List.mem_range] at hk; exact hk.1
theorem possOf_len (L : List (Int × Int × Nat)) : (possOf L).length ≤ 8 := by unfold possOf; exact Nat.le_trans (List.length_filter_le _ _) (by simp)
theorem range_filter (m j : Nat) : (List.range (j + 1)).filter (fun k => m.testBit k) = (List.range j).filter (fun k => m.testBit k) ++ if m.testBit j = true then [j] else [] := by
  rw [List.range_succ, List.filter_append]
  congr 1
  cases h : m.testBit j <;> simp [h]

set_option maxRecDepth 100000 in
set_option maxHeartbeats 4000000 in
theorem possible_any (w : World) (p base : Nat) (vE : Value) (L : List (Int × Int × Nat)) (hE : ErrsOk w) (hT : TRe base w vE L) (hk : ∀ o ∈ L, o.2.2 < 8) (hl : L.length ≤ 100000) (hc : w.cell? ⟨p, 0, none⟩ = some vE) :
    Calls Tryz.prog 45 #[.pointer (some ⟨p, 0, none⟩)] w fun r w' => ∃ v, r = .returned v ∧ w'.ownsRow w.heap.size 169 1 v (possOf L).length (kCells (possOf L)) ∧ Below w.heap.size w w' := by
  obtain ⟨ao, cap, rfl, hf⟩ := entRow_form hT
  have HF : Hid (∀ i (hi : i < L.length), ∃ g, ao = some ⟨g, 0, none⟩ ∧ g < w.heap.size ∧ w.cell? ⟨g, i * 3, none⟩ = some (.int .i32 L[i].1) ∧ w.cell? ⟨g, i * 3 + 1, none⟩ = some (.int .i32 L[i].2.1) ∧ w.cell? ⟨g, i * 3 + 2, none⟩ = some (.int .u8 L[i].2.2)) := hf
  have HK : Hid (∀ o ∈ L, o.2.2 < 8) := hk
  have hpl := cellLt hc
  have g0 := hE.2.2.1
  have g1 := hE.2.2.2
  have hgl := cellLt g0
  have hss : Hid (wrap64 (1114112 - sizeP 55296 57343) = 1112064) := by show _ = _; kernel_rfl
  obtain ⟨W0, hW0⟩ : ∃ W0, W0 = w.alloc (.cells #[.int .u8 7] 169) := ⟨_, rfl⟩
  have HW0 : Hid (W0 = w.alloc (.cells #[.int .u8 7] 169)) := hW0
  have b0 : Below w.heap.size w W0 := by rw [hW0]; exact below_alloc w _
  have B0 : Hid (Below w.heap.size w W0) := b0
  have n0 : W0.cell? ⟨w.heap.size, 0, none⟩ = some (.int .u8 (7 : Nat)) := by rw [hW0]; exact cell_of_block (heap_alloc_new w _) 0 _ rfl
  have e0 := (b0.cell (p := ⟨0, 0, none⟩) hgl).trans g0
  have e1 := (b0.cell (p := ⟨0, 1, none⟩) hgl).trans g1
  clear hE hT hf hk hW0 b0 g0 g1
  go_enter Tryz.func45, Tryz.ntmps45
  go_wp2_with fail
  rw [← HW0.out]
  refine (only_any w.heap.size 7 W0 (by omega) n0).mono ?_
  rintro r w1 ⟨rfl, rfl⟩
  go_wp2_with fail
  refine (ssize_any _ 55296 57343).mono ?_
  obtain ⟨zs, hzs⟩ : ∃ zs, zs = sizeP 55296 57343 := ⟨_, rfl⟩
  rw [← hzs]
  have HZS : Hid (zs = sizeP 55296 57343) := hzs
  rintro r w1 ⟨rfl, hb1⟩
  have B1 : Hid (Below w.heap.size w w1) := B0.out.trans (hb1.mono B0.out.size)
  have c1 := (B1.out.cell (p := ⟨p, 0, none⟩) hpl).trans hc
  clear hb1 e0 e1 n0 hzs
  go_wp2_with fail
  go_loopg [3, 4, 19] L.length (fun gh mv zv iv wx => ∃ (i m : Nat) (z : Int), i ≤ L.length ∧ gh = L.length - i ∧ mv = .int .u8 m ∧ zv = .int .i64 z ∧ iv = .int .i64 i ∧ m < 256 ∧ Hid (m = maskN (L.take i) 128) ∧ Hid (z = leftN (L.take i) 1112064) ∧ Hid (Below w.heap.size w wx))
  case atStart => exact ⟨0, 128, wrap64 (1114112 - zs), Nat.zero_le _, rfl, rfl, rfl, rfl, by omega, (rfl : (128 : Nat) = 128), (by show _ = _; rw [HZS.out]; exact hss.out), B1⟩
  case round =>
    obtain ⟨i, m, z, hi, rfl, rfl, rfl, rfl, hm, hM, hZ, hB⟩ := hrel
    obtain ⟨w2, hw2⟩ : ∃ w2, w2 = wr := ⟨wr, rfl⟩
    subst hw2
    clear B1 c1
    have hs2 := hB.out.size
    by_cases hlt : i < L.length
    · obtain ⟨g, rfl, hg, a0, a1, a2⟩ := HF.out i hlt
      have hk8 := HK.out L[i] (List.getElem_mem hlt)
      have HT : Hid (L.take (i + 1) = L.take i ++ [L[i]]) := by show _ = _; rw [List.take_add_one, List.getElem?_eq_getElem hlt]; rfl
      generalize L[i] = en at a0 a1 a2 hk8 HT
      obtain ⟨ex, ey, ek⟩ := en
      simp only at a0 a1 a2 hk8
      have d0 := (hB.out.cell (p := ⟨g, i * 3, none⟩) hg).trans a0
      have d1 := (hB.out.cell (p := ⟨g, i * 3 + 1, none⟩) hg).trans a1
      have d2 := (hB.out.cell (p := ⟨g, i * 3 + 2, none⟩) hg).trans a2
      have hor := bits_or m ek hm hk8
      obtain ⟨W2, hW2⟩ : ∃ W2, W2 = w2.alloc (.cells #[.int .i32 ex, .int .i32 ey, .int .u8 (ek : Nat)] 173) := ⟨_, rfl⟩
      have HW2 : Hid (W2 = w2.alloc (.cells #[.int .i32 ex, .int .i32 ey, .int .u8 (ek : Nat)] 173)) := hW2
      have b2 : Below w2.heap.size w2 W2 := by rw [hW2]; exact below_alloc w2 _
      have hz2 : W2.heap.size = w2.heap.size + 1 := by rw [hW2]; simp
      have Q2 : Hid (W2.heap[w2.heap.size]? = some (.cells #[.int .i32 ex, .int .i32 ey, .int .u8 (ek : Nat)] 173 (0, 0))) := by rw [hW2]; exact heap_alloc_new w2 _
      have B2 : Hid (Below w.heap.size w W2) := hB.out.trans (b2.mono hs2)
      have n2 : (W2.alloc (.cells #[.int .u8 (ek : Nat)] 169)).cell? ⟨w2.heap.size + 1, 0, none⟩ = some (.int .u8 (ek : Nat)) := by rw [← hz2]; exact cell_of_block (heap_alloc_new W2 _) 0 _ rfl
      have q0 := ((below_alloc W2 (.cells #[.int .u8 (ek : Nat)] 169)).cell (p := ⟨w2.heap.size, 0, none⟩) (by show w2.heap.size < _; omega)).trans (cell_of_block Q2.out 0 _ rfl)
      have q1 := ((below_alloc W2 (.cells #[.int .u8 (ek : Nat)] 169)).cell (p := ⟨w2.heap.size, 1, none⟩) (by show w2.heap.size < _; omega)).trans (cell_of_block Q2.out 1 _ rfl)
      rw [HW2.out] at n2 q0 q1
      clear hW2 b2 a0 a1 a2
      go_wp2_with fail
      refine (only_any (w2.heap.size + 1) ek _ (by omega) n2).mono ?_
      rintro r w3 ⟨rfl, rfl⟩
      have HOR : Hid (bits BinOp.or IntKind.u8 (m : Nat) ((2 ^ ek : Nat) : Int) = ((m ||| 2 ^ ek : Nat) : Int)) := hor.1
      have hm2 := hor.2
      clear hor
      go_wp2_with fail
      refine (ssize_any _ ex ey).mono ?_
      obtain ⟨ze, hze⟩ : ∃ ze, ze = sizeP ex ey := ⟨_, rfl⟩
      rw [← hze]
      have HZE : Hid (ze = sizeP ex ey) := hze
      rintro r w3 ⟨rfl, hb3⟩
      have B3 : Hid (Below w.heap.size w w3) := by
        rw [← HW2.out] at hb3
        exact (B2.out.alloc (by omega) _).trans (hb3.mono (by simp; omega))
      clear hb3 hze
      go_wp2_with fail
      go_roundg (L.length - (i + 1))
      case measure => omega
      case rel => exact ⟨i + 1, m ||| 2 ^ ek, wrap64 (z - ze), by omega, rfl, congrArg (Value.int IntKind.u8) (by simpa using HOR.out), rfl, by go_num, hm2, (by show _ = _; rw [HT.out, maskN_snoc, ← hM.out]), (by show _ = _; rw [HT.out, leftN_snoc, ← hZ.out, HZE.out]), B3⟩
    · have hii : L.take i = L := List.take_of_length_le (by omega)
      have HM2 : Hid (m = maskN L 128) := by have := hM.out; rw [hii] at this; exact this
      have HZ2 : Hid (z = leftN L 1112064) := by have := hZ.out; rw [hii] at this; exact this
      clear hii
      go_upto_if 36 with fail
      go_cut [3] (fun mv wx => ∃ m' : Nat, mv = .int .u8 m' ∧ m' < 256 ∧ Hid (m' = possMask L) ∧ Hid (Below w.heap.size w wx))
      case first =>
        by_cases hz : 0 < z
        · have HP : Hid (m ||| 2 ^ 6 = possMask L) := by show _ = _; unfold possMask; rw [← HM2.out, ← HZ2.out, if_pos hz]
          have hor := bits_or m 6 hm (by omega)
          have hm1 : bits BinOp.or IntKind.u8 (m : Nat) 64 = ((m ||| 2 ^ 6 : Nat) : Int) := hor.1
          have n2 : (w2.alloc (.cells #[.int .u8 6] 169)).cell? ⟨w2.heap.size, 0, none⟩ = some (.int .u8 ((6 : Nat) : Int)) := cell_of_block (heap_alloc_new w2 _) 0 _ rfl
          go_wp2_with fail
          refine (only_any w2.heap.size 6 _ (by omega) n2).mono ?_
          rintro r w3 ⟨rfl, rfl⟩
          go_wp2_with fail
          go_meet
          exact ⟨m ||| 2 ^ 6, by rw [← hm1], hor.2, HP, hB.out.alloc hs2 _⟩
        · have HP : Hid (m = possMask L) := by show _ = _; unfold possMask; rw [← HM2.out, ← HZ2.out, if_neg hz]
          go_wp2_with fail
          go_meet
          exact ⟨m, rfl, hm, HP, hB⟩
      case rest =>
        obtain ⟨m', rfl, hm', hP', hB'⟩ := hcut
        obtain ⟨w3, hw3⟩ : ∃ w3, w3 = wc := ⟨wc, rfl⟩
        subst hw3
        clear hm hM hZ HM2 HZ2 hB
        go_wp2_with fail
        go_loopg [7, 41] 8 (fun gh lv kv wx => ∃ (j : Nat) (ao : Option Addr) (cap : Nat), j ≤ 8 ∧ gh + j = 8 ∧ kv = .int .u8 j ∧ lv = .slice ao ((List.range j).filter fun k => m'.testBit k).length cap ∧ Hid (wx.ownsRow w.heap.size 169 1 (.slice ao ((List.range j).filter fun k => m'.testBit k).length cap) ((List.range j).filter fun k => m'.testBit k).length (kCells ((List.range j).filter fun k => m'.testBit k))) ∧ Hid (Below w.heap.size w wx))
        case atStart => exact ⟨0, none, 0, Nat.zero_le _, rfl, rfl, rfl, World.ownsRow_nil _ _ _ _, hB'⟩
        case round =>
          obtain ⟨j, aoR, capR, hj, hgj, rfl, rfl, hR, hB4⟩ := hrel
          obtain ⟨w4, hw4⟩ : ∃ w4, w4 = wr := ⟨wr, rfl⟩
          subst hw4
          have hs4 := hB4.out.size
          have HRF := range_filter m' j
          have hfl : ((List.range j).filter fun k => m'.testBit k).length ≤ 8 := Nat.le_trans (List.length_filter_le _ _) (by simp; omega)
          have HRF' : Hid ((List.range (j + 1)).filter (fun k => m'.testBit k) = (List.range j).filter (fun k => m'.testBit k) ++ if m'.testBit j = true then [j] else []) := HRF
          clear HRF
          by_cases hj8 : j < 8
          · have hj8' : (j : Int) < 8 := by omega
            generalize hF : (List.range j).filter (fun k => m'.testBit k) = F at *
            go_wp2_with fail
            refine (hasK_any w4 m' j hm' hj8).mono ?_
            rintro r w5 ⟨rfl, hb5⟩
            have B5 : Hid (Below w.heap.size w w5) := hB4.out.trans (hb5.mono hs4)
            have R5 : Hid (w5.ownsRow w.heap.size 169 1 (.slice aoR F.length capR) F.length (kCells F)) := row_kp hR.out (Kp.below hb5)
            have hs5 := B5.out.size
            clear hb5
            obtain ⟨tb, htb⟩ : ∃ tb, tb = m'.testBit j := ⟨_, rfl⟩
            rw [← htb] at HRF'
            rw [← htb]
            clear htb
            cases tb
            · have HR2 : Hid ((List.range (j + 1)).filter (fun k => m'.testBit k) = F) := by show _ = _; have := HRF'.out; simpa using this
              go_wp2_with fail
              go_roundg (8 - (j + 1))
              case measure => omega
              case rel => exact ⟨j + 1, aoR, capR, by omega, by omega, by go_num, by rw [HR2.out], by rw [HR2.out]; exact R5, B5⟩
            · have HR2 : Hid ((List.range (j + 1)).filter (fun k => m'.testBit k) = F ++ [j]) := by show _ = _; have := HRF'.out; simpa using this
              have R6 : Hid ((w5.alloc (.cells #[.int .u8 (j : Nat)] 169)).ownsRow w.heap.size 169 1 (.slice aoR F.length capR) F.length (kCells F)) := row_kp R5.out (Kp.below (below_alloc w5 _))
              have LA : w.heap.size ≤ (w5.alloc (.cells #[.int .u8 (j : Nat)] 169)).heap.size := by simp; omega
              go_wp2_with (at_builtin; refine wpList_push2 rfl (.tmp 47) (.tmp 49) 91 rfl w.heap.size 169 (.int .u8 0) 1 1 Tryz.infoKd Tryz.undKd rfl (by decide) (.slice aoR F.length capR) F.length (kCells F) rfl R6.out w5.heap.size 1 [.int .u8 (j : Nat)] rfl rfl (fun i u hu => cell_of_block (heap_alloc_new w5 _) i u (by simpa using hu)) (one_u8 j) (by omega) (by omega) LA ?_; intro v' W6 hown hgr hsn; obtain ⟨ao6, cap6, rfl⟩ := row_shape hown; have R7 : Hid (W6.ownsRow w.heap.size 169 1 (.slice ao6 (F.length + 1) cap6) (F.length + 1) (kCells F ++ [.int .u8 (j : Nat)])) := hown; have B6 : Hid (Below w.heap.size w W6) := (B5.out.alloc hs5 _).grown hgr LA (fun k hk => (R6.out.lt k hk).1); clear hown hgr hsn)
              go_roundg (8 - (j + 1))
              case measure => omega
              case rel => exact ⟨j + 1, ao6, cap6, by omega, by omega, by go_num, by rw [HR2.out, List.length_append]; rfl, by rw [HR2.out, List.length_append, kCells_snoc]; exact R7, B6⟩
          · have ej : j = 8 := by omega
            subst ej
            have HPO : Hid ((List.range 8).filter (fun k => m'.testBit k) = possOf L) := by show _ = _; unfold possOf; rw [hP'.out]
            go_wp2_with fail
            go_ret
            exact ⟨_, rfl, by rw [← HPO.out]; exact hR.out, hB4.out⟩
end Go.Proofs.YtodagkkjfipbgaaGreatDoor
/- Machines: how many states take a character; all ways lead to states. -/
namespace Go.Proofs.YtodagkkjfipbgaaGreatDoor
open Go.RowKit

/-- How many ways on take a character. -/
def cnum (S : List St) : Nat := (S.map fun s => if s.1 = 0 then 0 else s.2.length).sum
theorem cnum_app (S R : List St) : cnum (S ++ R) = cnum S + cnum R := by unfold cnum; simp
theorem stAdds_chars (fw : Bool) (i : Nat) (s : St) : ((stAdds fw i s).filter fun a => a.2.1 != 0).length = if s.1 = 0 then 0 else s.2.length := by
  unfold stAdds
  by_cases h : s.1 = 0
  · rw [if_pos h, List.length_eq_zero_iff, List.filter_eq_nil_iff]
    intro a ha
    obtain ⟨u, _, rfl⟩ := List.mem_map.1 ha
    cases fw <;> simp [h]
  · rw [if_neg h, List.filter_eq_self.2, List.length_map]
    intro a ha
    obtain ⟨u, _, rfl⟩ := List.mem_map.1 ha
    cases fw <;> simpa using h
theorem chars_len (fw : Bool) (S : List St) : (chars fw S).length = cnum S := by
  unfold chars
  have key : ∀ (S : List St) (i : Nat), ((allAdds fw S i).filter fun a => a.2.1 != 0).length = cnum S := by
    intro S
    induction S with
    | nil => intro i; rfl
    | cons s S ih =>
      intro i
      rw [allAdds, List.filter_append, List.length_append, ih, stAdds_chars]
      simp [cnum]
  exact key S 0
/-- How many characters a part speaks of. -/
def atn : Nat → Px → Nat
  | 0, _ => 0
  | d + 1, x => if x.what = 0 then 1 else (x.l.map (atn d)).sum
/-- All of its kinds are some. -/
def kok : Nat → Px → Prop
  | 0, _ => True
  | d + 1, x => (x.what = 0 → x.k < 256) ∧ ∀ y ∈ x.l, kok d y
/-- What a part makes of a machine. -/
structure Mk (n : Nat) (S R : List St) (f : Nat) : Prop where
  len : S.length ≤ R.length
  old : ∀ i, i < S.length → (R[i]?).map Prod.fst = (S[i]?).map Prod.fst
  num : cnum R ≤ cnum S + n
  kind : (∀ s ∈ S, s.1 < 256) → ∀ s ∈ R, s.1 < 256
  to_ : (∀ s ∈ S, ∀ t ∈ s.2, t < S.length) → ∀ s ∈ R, ∀ t ∈ s.2, t < R.length
  first : f < R.length
theorem leadS_mem {S : List St} {f t : Nat} {s : St} (h : s ∈ leadS S f t) : s ∈ S ∨ ∃ s0 ∈ S, s = (s0.1, s0.2 ++ [t]) := by
  unfold leadS at h
  obtain ⟨i, hi⟩ := List.mem_iff_getElem?.1 h
  rw [List.getElem?_modify] at hi
  cases hS : S[i]? with
  | none => rw [hS] at hi; simp at hi
  | some x =>
    rw [hS] at hi
    have hi' : (if f = i then (x.1, x.2 ++ [t]) else x) = s := by simpa using hi
    split at hi'
    · exact Or.inr ⟨x, List.mem_of_getElem? hS, hi'.symm⟩
    · exact Or.inl (hi' ▸ List.mem_of_getElem? hS)
theorem leadS_fst (S : List St) (f t i : Nat) : ((leadS S f t)[i]?).map Prod.fst = (S[i]?).map Prod.fst := by
  unfold leadS
  rw [List.getElem?_modify]
  cases S[i]? with
  | none => rfl
  | some x =>
    show some (if f = i then (x.1, x.2 ++ [t]) else x).1 = some x.1
    split <;> rfl
theorem leadS_cnum : ∀ (S : List St) (f t : Nat), (S[f]?).map Prod.fst = some 0 → cnum (leadS S f t) = cnum S := by
  intro S
  induction S with
  | nil => intro f t h; simp at h
  | cons a S ih =>
    intro f t h
    cases f with
    | zero => simp at h; simp [leadS, cnum, h]
    | succ f =>
      have := ih f t (by simpa using h)
      unfold leadS cnum at *
      simp at *
      omega
theorem Mk.lead {n : Nat} {S R : List St} {f g t : Nat} (h : Mk n S R f) (hg : (R[g]?).map Prod.fst = some 0) (ht : t < R.length) {f' : Nat} (hf : f' < R.length) : Mk n S (leadS R g t) f' := by
  refine ⟨by rw [leadS_len]; exact h.len, fun i hi => (leadS_fst R g t i).trans (h.old i hi), by rw [leadS_cnum R g t hg]; exact h.num, fun hk s hs => ?_, fun hk s hs u hu => ?_, by rw [leadS_len]; exact hf⟩
  · rcases leadS_mem hs with h1 | ⟨s0, h1, rfl⟩
    · exact h.kind hk s h1
    · exact h.kind hk s0 h1
  · rw [leadS_len]
    rcases leadS_mem hs with h1 | ⟨s0, h1, rfl⟩
    · exact h.to_ hk s h1 u hu
    · simp at hu
      rcases hu with hu | rfl
      · exact h.to_ hk s0 h1 u hu
      · exact ht
theorem Mk.trans {n m k : Nat} {S R Q : List St} {f g : Nat} (h : Mk n S R f) (h' : Mk m R Q g) (hk : n + m ≤ k) : Mk k S Q g :=
  ⟨Nat.le_trans h.len h'.len, fun i hi => (h'.old i (Nat.lt_of_lt_of_le hi h.len)).trans (h.old i hi), by have := h.num; have := h'.num; omega, fun a => h'.kind (h.kind a), fun a => h'.to_ (h.to_ a), h'.first⟩
theorem Mk.weak {n k : Nat} {S R : List St} {f : Nat} (h : Mk n S R f) (hk : n ≤ k) : Mk k S R f := ⟨h.len, h.old, by have := h.num; omega, h.kind, h.to_, h.first⟩
theorem mk_add (S : List St) (k : Nat) (l : List Nat) (hk : k < 256) (hl : ∀ t ∈ l, t ≤ S.length) (n : Nat) (hn : (if k = 0 then 0 else l.length) ≤ n) : Mk n S (S ++ [(k, l)]) S.length := by
  refine ⟨by simp, fun i hi => by rw [List.getElem?_append_left hi], by rw [cnum_app]; simp [cnum]; exact hn, fun h s hs => ?_, fun h s hs t ht => ?_, by simp⟩
  · rw [List.mem_append] at hs
    rcases hs with hs | hs
    · exact h s hs
    · simp at hs; subst hs; exact hk
  · rw [List.mem_append] at hs
    rw [List.length_append]
    rcases hs with hs | hs
    · have := h s hs t ht; omega
    · simp at hs; subst hs; have := hl t ht; simp; omega
theorem Mk.refl (S : List St) (b : Nat) (hb : b < S.length) : Mk 0 S S b := ⟨Nat.le_refl _, fun _ _ => rfl, Nat.le_refl _, fun h => h, fun h => h, hb⟩
theorem mk_ok (d : Nat) : ∀ (x : Px) (S : List St) (b : Nat), kok d x → b < S.length → Mk (atn d x) S (mk d x S b).1 (mk d x S b).2 := by
  induction d with
  | zero => intro x S b _ hb; exact Mk.refl S b hb
  | succ d ih =>
    intro x S b hk hb
    rw [mk, atn]
    split
    · rename_i h0
      exact mk_add S x.k [b] (hk.1 h0) (fun t ht => by simp at ht; omega) 1 (by split <;> simp)
    · split
      · have key : ∀ (l : List Px), (∀ y ∈ l, kok d y) → Mk (l.map (atn d)).sum S (l.foldr (fun y r => mk d y r.1 r.2) (S, b)).1 (l.foldr (fun y r => mk d y r.1 r.2) (S, b)).2 := by
          intro l hl
          induction l with
          | nil => exact Mk.refl S b hb
          | cons y l ihl =>
            rw [List.foldr_cons, List.map_cons, List.sum_cons]
            have h1 := ihl fun z hz => hl z (List.mem_cons_of_mem _ hz)
            exact h1.trans (ih y _ _ (hl y List.mem_cons_self) h1.first) (by omega)
        exact key x.l hk.2
      · split
        · have key : ∀ (l : List Px) (Z : List St), (∀ y ∈ l, kok d y) → S.length < Z.length → (Z[S.length]?).map Prod.fst = some 0 → Mk (l.map (atn d)).sum Z (l.foldl (fun Z y => leadS (mk d y Z b).1 S.length (mk d y Z b).2) Z) S.length := by
            intro l
            induction l with
            | nil => intro Z _ hz _; exact Mk.refl Z _ hz
            | cons y l ihl =>
              intro Z hl hz h0
              rw [List.foldl_cons, List.map_cons, List.sum_cons]
              have h1 := ih y Z b (hl y List.mem_cons_self) (by omega)
              have hz0 := (h1.old _ hz).trans h0
              have h2 := h1.lead hz0 h1.first (f' := S.length) (Nat.lt_of_lt_of_le hz h1.len)
              have h3 := ihl _ (fun z hz => hl z (List.mem_cons_of_mem _ hz)) h2.first ((leadS_fst _ _ _ _).trans hz0)
              exact h2.trans h3 (by omega)
          have h0 := mk_add S 0 [] (by omega) (fun t ht => by simp at ht) 0 (by simp)
          exact h0.trans (key x.l (S ++ [(0, [])]) hk.2 (by simp) (by simp)) (by omega)
        · split
          · rename_i y hy
            have h0 := mk_add S 0 [b] (by omega) (fun t ht => by simp at ht; omega) 0 (by simp)
            have h1 := ih y (S ++ [(0, [b])]) S.length (hk.2 y (by rw [hy]; exact List.mem_cons_self)) (by simp)
            have hz0 : ((mk d y (S ++ [(0, [b])]) S.length).1[S.length]?).map Prod.fst = some 0 := (h1.old _ (by simp)).trans (by simp)
            have hf : (if x.what = 3 then S.length else (mk d y (S ++ [(0, [b])]) S.length).2) < (mk d y (S ++ [(0, [b])]) S.length).1.length := by
              split
              · have := h1.len; simp at this; omega
              · exact h1.first
            have h2 := h1.lead hz0 h1.first hf
            simp only [hy, List.map_cons, List.map_nil, List.sum_cons, List.sum_nil]
            exact h0.trans h2 (by omega)
          · exact (Mk.refl S b hb).weak (Nat.zero_le _)
/-- The machine of a whole expression. -/
theorem make_sok (x : Px) (hk : kok 24 x) (hw : wtx 24 x ≤ 8000) (ha : atn 24 x ≤ 4) : SOk (mk 24 x startS 0).1 ∧ (∀ fw, (chars fw (mk 24 x startS 0).1).length ≤ 4) ∧ (mk 24 x startS 0).2 < (mk 24 x startS 0).1.length := by
  have h := mk_ok 24 x startS 0 hk (by decide)
  have h2 := mk_adds 24 x startS 0
  have e1 : startS.length = 1 := rfl
  have e2 : tot startS = 0 := rfl
  have e3 : cnum startS = 0 := rfl
  unfold Adds at h2
  refine ⟨⟨by omega, by omega, h.kind (by decide), h.to_ (by decide)⟩, fun fw => ?_, h.first⟩
  rw [chars_len]
  have := h.num
  omega
end Go.Proofs.YtodagkkjfipbgaaGreatDoor
/- The table's Add, in order. -/
namespace Go.Proofs.YtodagkkjfipbgaaGreatDoor
open Go.RowKit

theorem step_fnN {P : Program} {w : World} {ops : Array Oper} {o : Oper} {a : Act} {K : Act → World → Prop} {Q : Exit → Act → World → Prop} {E : Prop} (hgd : o.guard = none) (f : Nat) (x y z : Operand) (ts : Array TypeId)
    (ho : o.op = .call { callee := .value (.func f), args := #[x, y, z], argTypes := ts }) (he : Go.Proofs.Enters P f) (v0 v1 v2 : Value) (hx : a.eval x = v0) (hy : a.eval y = v1) (hz : a.eval z = v2) (R : Ending → World → Prop) (hc : Calls P f #[v0, v1, v2] w R)
    (hK : ∀ e w', R e w' → ∃ v, e = .returned v ∧ K (a.put o.dst v) w') :
    if Region.wanted o (yielded ops a.tmps) = true then Oper.wp P o a w K Q else E := by
  have hw : Region.wanted o (yielded ops a.tmps) = true := by simp [Region.wanted, hgd]
  rw [if_pos hw]
  unfold Go.Proofs.Enters at he
  unfold Oper.wp execOp
  have hfe : a.eval (.func f) = .func (.func f) #[] #[] := rfl
  simp [ho, resolve, invoke, hx, hy, hz, hfe, Deferred.ofValue, he, Oper.upon_enter]
  refine hc.mono ?_
  intro e w' hr
  obtain ⟨v, rfl, hk⟩ := hK e w' hr
  exact hk

theorem step_fn2g {P : Program} {w : World} {ops : Array Oper} {o : Oper} {a : Act} {K : Act → World → Prop} {Q : Exit → Act → World → Prop} {E : Prop} (hw : Region.wanted o (yielded ops a.tmps) = true) (f : Nat) (x y : Operand) (ts : Array TypeId)
    (ho : o.op = .call { callee := .value (.func f), args := #[x, y], argTypes := ts }) (he : Go.Proofs.Enters P f) (v0 v1 : Value) (hx : a.eval x = v0) (hy : a.eval y = v1) (R : Ending → World → Prop) (hc : Calls P f #[v0, v1] w R)
    (hK : ∀ e w', R e w' → ∃ v, e = .returned v ∧ K (a.put o.dst v) w') :
    if Region.wanted o (yielded ops a.tmps) = true then Oper.wp P o a w K Q else E := by
  rw [if_pos hw]
  unfold Go.Proofs.Enters at he
  unfold Oper.wp execOp
  have hfe : a.eval (.func f) = .func (.func f) #[] #[] := rfl
  simp [ho, resolve, invoke, hx, hy, hfe, Deferred.ofValue, he, Oper.upon_enter]
  refine hc.mono ?_
  intro e w' hr
  obtain ⟨v, rfl, hk⟩ := hK e w' hr
  exact hk
theorem keptD {w W w' : World} {m base size n : Nat} {t e : TypeId} {cs : Array Value} {v : Value} {us : List Value} (hm : w.heap[m]? = some (.cells cs t (0, 0))) (h1 : Below w.heap.size w W) (hown : w.ownsRow base e size v n us) (hc : Chg (fun k => v.ownBlock = some k) W w') (ht : t ≠ e) : w'.heap[m]? = some (.cells cs t (0, 0)) := by
  rw [hc.block m (Nat.lt_of_lt_of_le (heap_lt hm) h1.size) (fun e1 => by obtain ⟨c2, h2⟩ := row_type hown m e1; exact type_ne hm h2 ht rfl), h1.block m (heap_lt hm)]
  exact hm
theorem entersInsert : Go.Proofs.Enters Tryz.prog 205 := enters_of Tryz.func205 (by kernel_rfl) rfl
theorem entersMeets : Go.Proofs.Enters Tryz.prog 204 := enters_of Tryz.func204 (by kernel_rfl) rfl

set_option maxRecDepth 100000 in
set_option maxHeartbeats 4000000 in
theorem add_s (base b : Nat) (T : ByteArray) (vN vE vL : Value) (s : PS) (l : List (Int × Int × Nat)) (x y : Int) (k : Nat) (w : World) (hr : RAt w b T vN vE vL s) (hE : ErrsOk w) (h : TRs base w vE l) (hl : l.length ≤ 2000) (hbase : base ≤ w.heap.size) :
    Calls Tryz.prog 173 #[.pointer (some ⟨b, 4, none⟩), .agg #[.int .i32 x, .int .i32 y], .int .u8 k] w fun r w' => r = .returned (.bool (!RS.badSpan x y (spI l))) ∧
      ∃ vE', RAt w' b T vN vE' vL s ∧ TRs base w' vE' (if RS.badSpan x y (spI l) = true then l else l ++ [(x, y, k)]) ∧ Chg (fun k => k = b ∨ vE.ownBlock = some k) w w' := by
  obtain ⟨L, hpm, hte, hir⟩ := h
  have hLl : L.length ≤ 2000 := by rw [hpm.length_eq]; exact hl
  have HR : Hid (RAt w b T vN vE vL s) := hr
  have HT : Hid (TRe base w vE L) := hte
  obtain ⟨ao, cap, rfl⟩ := row_shape hte
  have hbl := hr.lt
  have HTS : Hid (TRs base w (.slice ao L.length cap) l) := ⟨L, hpm, hte, hir⟩
  clear hte hr
  obtain ⟨W, hW⟩ : ∃ W, W = w.alloc (.cells #[.int .i32 x, .int .i32 y] 171) := ⟨_, rfl⟩
  have HW : Hid (W = w.alloc (.cells #[.int .i32 x, .int .i32 y] 171)) := hW
  have bW : Below w.heap.size w W := by rw [hW]; exact (Below.refl _ _).alloc (Nat.le_refl _) _
  have hb0 : W.heap[w.heap.size]? = some (.cells #[.int .i32 x, .int .i32 y] 171 (0, 0)) := by rw [hW]; exact heap_alloc_new w _
  have hsz : W.heap.size = w.heap.size + 1 := by rw [hW]; simp
  have HB0 : Hid (W.heap[w.heap.size]? = some (.cells #[.int .i32 x, .int .i32 y] 171 (0, 0))) := hb0
  have BW : Hid (Below w.heap.size w W) := bW
  have HE : Hid (ErrsOk W) := hE.below bW
  clear hW hb0 bW hE
  obtain ⟨bd, hbd⟩ : ∃ bd, bd = RS.badSpan x y (spI l) := ⟨_, rfl⟩
  rw [← hbd]
  have HBD : Hid (bd = RS.badSpan x y (spI l)) := hbd
  clear hbd
  go_enter Tryz.func173, Tryz.ntmps173
  go_upto_region 1 with fail
  go_cut [17] (fun cv wx => cv = .bool (decide (y < x) || meet1 x y 55296 57343) ∧ Hid (Below W.heap.size W wx))
  case first =>
    rw [← HW.out]
    have e0 := cell_of_block HB0.out 0 _ rfl
    have e1 := cell_of_block HB0.out 1 _ rfl
    have f0 := HE.out.2.2.1
    have f1 := HE.out.2.2.2
    by_cases h1 : y < x
    · go_wp2_with fail
      go_meet
      exact ⟨by simp [h1], Below.refl _ _⟩
    · have e : Hid ((decide (y < x) || meet1 x y 55296 57343) = meet1 x y 55296 57343) := by show _ = _; rw [decide_eq_false h1]; rfl
      go_wp2_with fail
      refine (meets_any x y 55296 57343 W).mono ?_
      rintro r w2 ⟨rfl, b2⟩
      go_wp2_with fail
      go_meet
      exact ⟨by rw [e.out], b2⟩
  case rest =>
    obtain ⟨rfl, f1⟩ := hcut
    obtain ⟨w1, hw1⟩ : ∃ w1, w1 = wc := ⟨wc, rfl⟩
    subst hw1
    have bw1 : Below w.heap.size w w1 := BW.out.trans (f1.out.mono BW.out.size)
    have BW1 : Hid (Below w.heap.size w w1) := bw1
    have hs1 := bw1.size
    have R1 : Hid (RAt w1 b T vN (.slice ao L.length cap) vL s) := HR.out.later bw1
    have T1 : Hid (TRe base w1 (.slice ao L.length cap) L) := row_kp HT.out (Kp.below bw1)
    have HB0' : Hid (w1.heap[w.heap.size]? = some (.cells #[.int .i32 x, .int .i32 y] 171 (0, 0))) := by
      show _ = _
      rw [f1.out.block _ (by rw [hsz]; omega)]; exact HB0.out
    have g0 := cell_of_block HB0'.out 0 _ rfl
    have g1 := cell_of_block HB0'.out 1 _ rfl
    clear bw1
    cases hb1 : (decide (y < x) || meet1 x y 55296 57343)
    · have HX : Hid (x ≤ y ∧ bd = RS.meets x y (spI L)) := by
        show _ ∧ _
        rw [Bool.or_eq_false_iff] at hb1
        have h1 := of_decide_eq_false hb1.1
        refine ⟨by omega, ?_⟩
        rw [HBD.out, meets_perm hpm]
        have hm := hb1.2
        unfold RS.badSpan
        unfold meet1 at hm
        rw [hm, decide_eq_false h1]
        simp
      go_wp2_with fail
      refine (first_any base b T vN _ vL s L x w1 R1.out T1.out hLl hir.ends).mono ?_
      rintro r w2 ⟨⟨i, rfl, hi, hp⟩, b2⟩
      have HP : Hid (Parted L x i i) := hp
      clear hp
      have HBdi : Hid (bd = (match L[i]? with | some o => meet1 o.1 o.2.1 x y | none => false)) := by
        show _ = _
        rw [HX.out.2]; exact meets_first hir HP.out
      have B2 : Hid (Below w.heap.size w w2) := BW1.out.trans (b2.mono hs1)
      have hs2 := B2.out.size
      have R2 : Hid (RAt w2 b T vN (.slice ao L.length cap) vL s) := R1.out.later b2
      have T2 : Hid (TRe base w2 (.slice ao L.length cap) L) := row_kp T1.out (Kp.below b2)
      have HB02 : Hid (w2.heap[w.heap.size]? = some (.cells #[.int .i32 x, .int .i32 y] 171 (0, 0))) := by
        show _ = _
        rw [b2.block _ (heap_lt HB0'.out)]; exact HB0'.out
      have c4 := (pcells R2.out.blk).2.2.2.2.1
      have k0 := cell_of_block HB02.out 0 _ rfl
      have k1 := cell_of_block HB02.out 1 _ rfl
      clear g0 g1 b2
      go_upto_region 4 with fail
      go_cut [40] (fun cv wx => cv = .bool bd ∧ Hid (Below w2.heap.size w2 wx))
      case first =>
        by_cases hil : i < L.length
        · obtain ⟨ao', cap', e, hcs⟩ := entRow_form T2.out
          obtain ⟨g, hao, hgl, d0, d1, d2⟩ := hcs i hil
          simp at e
          obtain ⟨rfl, rfl⟩ := e
          subst hao
          have HM : Hid (meet1 L[i].1 L[i].2.1 x y = bd) := by
            show _ = _
            rw [HBdi.out, List.getElem?_eq_getElem hil]
          have hd : decide ((i : Int) < (L.length : Int)) = true := by simpa using hil
          have hd2 : (i : Int) < (L.length : Int) := by omega
          clear hcs d2
          go_region_law
            (refine step_fn2g ?_ 204 (.tmp 37) (.tmp 38) _ rfl entersMeets (.agg #[.int .i32 L[i].1, .int .i32 L[i].2.1]) (.agg #[.int .i32 x, .int .i32 y]) ?_ ?_ _ (meets_any L[i].1 L[i].2.1 x y _) ?_
             · simp [Region.wanted, yielded]
             · simp [Act.eval]
             · simp [Act.eval]
             rintro _ w3 ⟨rfl, b3⟩
             refine ⟨_, rfl, ?_⟩
             rw [HM.out])
          all_goals go_wp2_with fail
          all_goals go_meet
          all_goals exact ⟨rfl, ⟨b3.os, b3.tape, b3.output, b3.size, b3.block⟩⟩
        · have HF : Hid (bd = false) := by
            show _ = _
            rw [HBdi.out, List.getElem?_eq_none (by omega)]
          have hd : decide ((i : Int) < (L.length : Int)) = false := by simp; omega
          go_quiet (fail)
          go_wp2_with fail
          go_meet
          exact ⟨by rw [HF.out], bdrew (Below.refl _ _) _⟩
      case rest =>
        obtain ⟨rfl, f3⟩ := hcut
        obtain ⟨w3, hw3⟩ : ∃ w3, w3 = wc := ⟨wc, rfl⟩
        subst hw3
        have B3 : Hid (Below w.heap.size w w3) := B2.out.trans (f3.out.mono hs2)
        have hs3 := B3.out.size
        have R3 : Hid (RAt w3 b T vN (.slice ao L.length cap) vL s) := HR.out.later B3.out
        have T3 : Hid (TRe base w3 (.slice ao L.length cap) L) := row_kp HT.out (Kp.below B3.out)
        clear c4 k0 k1
        cases hb : bd
        · have HB03 : Hid (w3.heap[w.heap.size]? = some (.cells #[.int .i32 x, .int .i32 y] 171 (0, 0))) := by
            show _ = _
            rw [f3.out.block _ (heap_lt HB02.out)]; exact HB02.out
          have c4 := (pcells R3.out.blk).2.2.2.2.1
          have cf := free_of_block R3.out.blk
          have k0 := cell_of_block HB03.out 0 _ rfl
          have k1 := cell_of_block HB03.out 1 _ rfl
          have c4' := fun o => ((below_alloc w3 o).cell (p := ⟨b, 4, none⟩) (Nat.lt_of_lt_of_le hbl hs3)).trans c4
          have k0' := fun o => ((below_alloc w3 o).cell (p := ⟨w.heap.size, 0, none⟩) (heap_lt HB03.out)).trans k0
          have k1' := fun o => ((below_alloc w3 o).cell (p := ⟨w.heap.size, 1, none⟩) (heap_lt HB03.out)).trans k1
          have BA : Hid (Below w3.heap.size w3 (w3.alloc (.cells #[.int .i32 x, .int .i32 y, .int .u8 k] 173)).drew) := (below_alloc w3 _).drew
          have TA : Hid (TRe base (w3.alloc (.cells #[.int .i32 x, .int .i32 y, .int .u8 k] 173)).drew (.slice ao L.length cap) L) := row_kp T3.out (Kp.below BA.out)
          have LA : Hid (base ≤ (w3.alloc (.cells #[.int .i32 x, .int .i32 y, .int .u8 k] 173)).drew.heap.size) := Nat.le_trans hbase (Nat.le_trans hs3 BA.out.size)
          have QA : Hid ((w3.alloc (.cells #[.int .i32 x, .int .i32 y, .int .u8 k] 173)).drew.heap[w3.heap.size]? = some (.cells #[.int .i32 x, .int .i32 y, .int .u8 k] 173 (0, 0))) := heap_alloc_new w3 _
          have OA : Hid ((Value.slice ao L.length cap).ownBlock ≠ some w3.heap.size) := fun e => by
            obtain ⟨cs, hh⟩ := row_type T3.out _ e
            have := heap_lt hh
            omega
          have hii : ((i : Int) : Int) = (i : Int) := rfl
          go_wp2_with fail
          go_region_law
            (refine step_fnN rfl 205 (.tmp 45) (.tmp 46) (.tmp 50) _ rfl entersInsert (.slice ao L.length cap) (.int .i64 i) (.slice (some ⟨w3.heap.size, 0, none⟩) 1 1) ?_ ?_ ?_ _ (ins_any base i _ L x y k w3.heap.size _ TA.out hLl LA.out hi OA.out QA.out) ?_
             · simp [Act.eval]
             · simp [Act.eval]
             · simp [Act.eval]
             rintro _ w4 ⟨v', rfl, ht4, hc4⟩
             refine ⟨v', rfl, ?_⟩
             have T4 : Hid (TRe base w4 v' (insE L i (x, y, k))) := ht4
             have C4 : Hid (Chg (fun k => (Value.slice ao L.length cap).ownBlock = some k) (w3.alloc (.cells #[.int .i32 x, .int .i32 y, .int .u8 k] 173)).drew w4) := hc4
             obtain ⟨ao4, cap4, rfl⟩ := row_shape ht4
             have hbl4 := keptD R3.out.blk BA.out T3.out hc4 (by decide)
             have i4 := (pcells hbl4).2.2.2.2.1
             have i4f := free_of_block hbl4
             clear ht4 hc4)
          all_goals go_wp2_with fail
          all_goals go_ret
          all_goals
            refine ⟨rfl, _, ⟨pset_en4 hbl4 _, R3.out.le, R3.out.short⟩, ⟨insE L i (x, y, k), (insE_perm L i _).trans (hpm.append_right _), row_kp T4.out ((Kp.refl _ _).setCell hbl4 (by decide) _), hir.ins hi HP.out HX.out.1 (HX.out.2.symm.trans hb)⟩, ?_⟩
            have h1 : Chg (fun k => k = b ∨ (Value.slice ao L.length cap).ownBlock = some k) w _ := Chg.of_below (B3.out.trans (BA.out.mono hs3))
            have h2 : Chg (fun k => k = b ∨ (Value.slice ao L.length cap).ownBlock = some k) w w4 := ⟨C4.out.os.trans h1.os, C4.out.tape.trans h1.tape, C4.out.output.trans h1.output, Nat.le_trans h1.size C4.out.size, fun k hk hp => by
              rw [C4.out.block k (Nat.lt_of_lt_of_le hk h1.size) (fun e => hp (Or.inr e))]; exact h1.block k hk hp⟩
            exact h2.setCell (q := ⟨b, 4, none⟩) (Or.inr (Or.inl rfl)) _
        · obtain rfl : bd = true := hb
          go_wp2_with fail
          go_ret
          exact ⟨rfl, _, R3.out, ⟨L, hpm, T3.out, hir⟩, Chg.of_below B3.out⟩
    · have HX : Hid (bd = true) := by
        show _ = _
        rw [HBD.out]
        unfold RS.badSpan
        unfold meet1 at hb1
        rw [Bool.or_eq_true] at hb1
        rcases hb1 with h1 | h1
        · rw [h1]; simp
        · rw [h1]; simp
      obtain rfl : bd = true := HX.out
      go_wp2_with fail
      go_ret
      exact ⟨rfl, _, R1.out, ⟨L, hpm, T1.out, hir⟩, Chg.of_below BW1.out⟩
theorem addOk_s (base : Nat) : AddOk base (TRs base) :=
  ⟨fun w => ⟨[], List.Perm.refl _, (by show World.ownsRow _ _ _ _ _ _ _; exact World.ownsRow_nil _ _ _ _), (fun o ho => by simp at ho), fun i j a b _ ha => by simp at ha⟩,
   fun w v l h => (by obtain ⟨L, _, h, _⟩ := h; obtain ⟨ao, cap, e⟩ := row_shape h; exact ⟨ao, _, cap, e⟩),
   fun w w' v l h hk => (by obtain ⟨L, h1, h2, h3⟩ := h; exact ⟨L, h1, row_kp h2 hk, h3⟩),
   fun w v l k h hk => (by obtain ⟨L, _, h, _⟩ := h; exact row_type h k hk),
   fun w v l k h hk => (by obtain ⟨L, _, h, _⟩ := h; exact (h.lt k hk).1),
   fun b T vN vE vL s l x y k w hr hE h hl _ hb => add_s base b T vN vE vL s l x y k w hr hE h hl hb⟩
end Go.Proofs.YtodagkkjfipbgaaGreatDoor
