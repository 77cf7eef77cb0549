/- The keep's lines, runs. -/
import Derived.Deep.CutBlock
import Derived.Test.YtodagkkjfipbgaaGreatDoorProg
import Derived.Test.YtodagkkjfipbgaaGreatDoorY0toY3
import Derived.Test.YtodagkkjfipbgaaGreatDoorQ2toQ3
import Derived.Test.YtodagkkjfipbgaaGreatDoorP2toQ1
import Derived.Test.YtodagkkjfipbgaaGreatDoorBtoP1
import Derived.Test.YtodagkkjfipbgaaGreatDoorV10toN19
import Derived.Test.YtodagkkjfipbgaaGreatDoorSh4lone
import Derived.Test.YtodagkkjfipbgaaGreatDoorD6toV9
import Derived.Test.YtodagkkjfipbgaaGreatDoorV7toW5
import Derived.Test.YtodagkkjfipbgaaGreatDoorD1toD5
import Derived.Test.YtodagkkjfipbgaaGreatDoorH1toC2
import Derived.Test.YtodagkkjfipbgaaGreatDoorK4toK6
import Derived.Test.YtodagkkjfipbgaaGreatDoorJ6toK3
import Derived.Test.YtodagkkjfipbgaaGreatDoorQ5toK2
import Derived.Test.YtodagkkjfipbgaaGreatDoorJ8toQ4
import Derived.Test.YtodagkkjfipbgaaGreatDoorUlone
import Derived.Test.YtodagkkjfipbgaaGreatDoorShlone
import Derived.Test.YtodagkkjfipbgaaGreatDoorSh2lone
import Derived.Test.YtodagkkjfipbgaaGreatDoorN17toV1
import Derived.Test.YtodagkkjfipbgaaGreatDoorN15toN16
import Derived.Test.YtodagkkjfipbgaaGreatDoorN13toN14
import Derived.Test.YtodagkkjfipbgaaGreatDoorN12lone
import Derived.Test.YtodagkkjfipbgaaGreatDoorN10toN11
import Derived.Test.YtodagkkjfipbgaaGreatDoorN9lone
import Derived.Test.YtodagkkjfipbgaaGreatDoorN1toN5
import Derived.Test.YtodagkkjfipbgaaGreatDoorJ10toJ11
import Derived.Test.YtodagkkjfipbgaaGreatDoorK9toJ9
import Derived.Test.YtodagkkjfipbgaaGreatDoorK7toL3
import Derived.Test.YtodagkkjfipbgaaGreatDoorJ3toJ5
import Derived.Test.YtodagkkjfipbgaaGreatDoorJ2toJ7
import Derived.Test.YtodagkkjfipbgaaGreatDoorN8lone
import Derived.Test.YtodagkkjfipbgaaGreatDoorN6toN0
import Derived.Test.YtodagkkjfipbgaaGreatDoorG2toVa
import Derived.Test.YtodagkkjfipbgaaGreatDoorV6lone
import Derived.Test.YtodagkkjfipbgaaGreatDoorN20toD7
import Derived.Test.YtodagkkjfipbgaaGreatDoorN21lone
import Derived.Test.YtodagkkjfipbgaaGreatDoorJ12lone
import Derived.Test.YtodagkkjfipbgaaGreatDoorZ5toM2
import Derived.Test.YtodagkkjfipbgaaGreatDoorZ3toW17
import Derived.Test.YtodagkkjfipbgaaGreatDoorZ1toZ2
import Derived.Test.YtodagkkjfipbgaaGreatDoorC5toS
import Derived.Test.YtodagkkjfipbgaaGreatDoorC3toC4
import Derived.Test.YtodagkkjfipbgaaGreatDoorV4toV5
import Derived.Test.YtodagkkjfipbgaaGreatDoorSh3lone
import Derived.Test.YtodagkkjfipbgaaGreatDoorV2toV3
namespace Go.Proofs.YtodagkkjfipbgaaGreatDoor
open Go.RowKit Go.Maps Go.Lib

theorem byte_get (s : ByteArray) (i : Nat) (h : i < s.size) : byte s i = (s[i]'h).toNat := by unfold byte; rw [Utf8W.get!_of_lt s i h]
set_option maxRecDepth 100000 in
set_option maxHeartbeats 4000000 in
theorem lines_any (s : ByteArray) (w : World) (hs : s.size ≤ 1500000) :
    Calls Tryz.prog 29 #[.string s] w fun r w' => (∃ v, r = .returned v ∧ w'.ownsRow w.heap.size 9 1 v (linesP s).length (strCells (linesP s))) ∧ Below w.heap.size w w' := by
  go_enter Tryz.func29, Tryz.ntmps29
  go_wp2_with fail
  go_loopg [3, 4, 5] s.size (fun gh tv bv iv wx => ∃ (i b : Nat) (told : List ByteArray) (ao : Option Addr) (cap : Nat), i ≤ s.size ∧ gh = s.size - i ∧ tv = .slice ao told.length cap ∧ bv = .int .i64 b ∧ iv = .int .i64 i ∧ Hid (segA s (lineAt s) i = (b, told)) ∧ Hid (wx.ownsRow w.heap.size 9 1 (.slice ao told.length cap) told.length (strCells told)) ∧ Hid (Below w.heap.size w wx))
  case atStart => exact ⟨0, 0, [], none, 0, Nat.zero_le _, rfl, rfl, rfl, rfl, rfl, World.ownsRow_nil _ _ _ _, Below.refl _ _⟩
  case round =>
    obtain ⟨i, b, told, ao, cap, hi, rfl, rfl, rfl, rfl, hSt, hW, hB⟩ := hrel
    obtain ⟨w1, hw1⟩ : ∃ w1, w1 = wr := ⟨wr, rfl⟩
    subst hw1
    have hbl : b ≤ i := by have := segA_le s (lineAt s) i; rw [hSt.out] at this; exact this
    have htl : told.length ≤ 1500000 := by have := segA_len s (lineAt s) i; rw [hSt.out] at this; exact Nat.le_trans this (by omega)
    by_cases hlt : i < s.size
    · obtain ⟨lv, hlv⟩ : ∃ lv, lv = lineAt s i := ⟨_, rfl⟩
      have HLV : Hid (lv = lineAt s i) := hlv
      clear hlv
      go_upto_region 6 with fail
      go_cut [35] from 12 to 34 (fun cv wx => cv = .bool lv ∧ wx = w1)
      case first =>
        obtain ⟨x, hx⟩ : ∃ x, s[i]'hlt = x := ⟨_, rfl⟩
        have hbx : byte s i = x.toNat := by rw [byte_get s i hlt, hx]
        by_cases h10 : x.toNat = 10
        · have hd : ((x.toNat : Int) == 10) = true := by simp; omega
          have hL : Hid (lv = true) := by show _ = _; rw [HLV.out]; unfold lineAt; rw [hbx, h10]; rfl
          clear hbx h10
          go_wp2_with fail
          go_meet
          exact ⟨by rw [hL.out], rfl⟩
        · have hd : ((x.toNat : Int) == 10) = false := by simp; omega
          by_cases h13 : x.toNat = 13
          · have hd2 : ((x.toNat : Int) == 13) = true := by simp; omega
            by_cases he : i + 1 = s.size
            · have hd3 : (((i : Int) + 1) == (s.size : Int)) = true := by simp; omega
              have hL : Hid (lv = true) := by show _ = _; rw [HLV.out]; unfold lineAt; rw [hbx, h13, he]; simp
              clear hbx h10 h13
              go_wp2_with fail
              go_meet
              exact ⟨by rw [hL.out], rfl⟩
            · have hd3 : (((i : Int) + 1) == (s.size : Int)) = false := by simp; omega
              have hlt1 : i + 1 < s.size := by omega
              obtain ⟨x1, hx1⟩ : ∃ x1, s[i + 1]'hlt1 = x1 := ⟨_, rfl⟩
              have hbx1 : byte s (i + 1) = x1.toNat := by rw [byte_get s (i + 1) hlt1, hx1]
              have hL : Hid (lv = !((x1.toNat : Int) == 10)) := by
                show _ = _
                rw [HLV.out]
                unfold lineAt
                rw [hbx, h13, hbx1, show (i + 1 == s.size) = false from by simp; omega]
                by_cases e : x1.toNat = 10
                · rw [e]; rfl
                · rw [show (x1.toNat != 10) = true from by simpa using e, show ((x1.toNat : Int) == 10) = false from by simp; omega]; rfl
              clear hbx h10 h13 hbx1
              go_wp2_with fail
              go_meet
              exact ⟨by rw [hL.out]; rfl, rfl⟩
          · have hd2 : ((x.toNat : Int) == 13) = false := by simp; omega
            have hL : Hid (lv = false) := by
              show _ = _
              rw [HLV.out]
              unfold lineAt
              rw [hbx, show (x.toNat == 10) = false from by simpa using h10, show (x.toNat == 13) = false from by simpa using h13]
              rfl
            clear hbx h10 h13
            go_wp2_with fail
            go_meet
            exact ⟨by rw [hL.out], rfl⟩
      case rest =>
        obtain ⟨rfl, rfl⟩ := hcut
        obtain ⟨w1, hw1⟩ : ∃ w1, w1 = wc := ⟨wc, rfl⟩
        subst hw1
        cases lv with
        | true =>
          have ST : Hid (segA s (lineAt s) (i + 1) = (i + 1, told ++ [s.extract b (i + 1)])) := by show _ = _; rw [segA, hSt.out, ← HLV.out, if_pos rfl]
          clear HLV
          obtain ⟨y, hy⟩ : ∃ y, y = s.extract b (i + 1) := ⟨_, rfl⟩
          have HY : Hid (y = s.extract b (i + 1)) := hy
          have R1 : Hid ((w1.alloc (.cells #[.string y] 9)).ownsRow w.heap.size 9 1 (.slice ao told.length cap) told.length (strCells told)) := row_kp hW.out (Kp.below (below_alloc w1 _))
          have NW : Hid (∀ (j : Nat) (u : Value), [Value.string y][j]? = some u → (w1.alloc (.cells #[.string y] 9)).cell? ⟨w1.heap.size, j, none⟩ = some u) := fun j u hu => cell_of_block (heap_alloc_new w1 _) j u (by simpa using hu)
          have BA : Hid (Below w.heap.size w (w1.alloc (.cells #[.string y] 9))) := hB.out.alloc hB.out.size _
          have LA : w.heap.size ≤ (w1.alloc (.cells #[.string y] 9)).heap.size := BA.out.size
          clear hy
          go_wp2_with (at_builtin; rw [← HY.out]; refine wpList_push2 rfl (.tmp 36) (.tmp 42) 30 rfl w.heap.size 9 (.string ⟨#[]⟩) 1 16 Tryz.infoSg Tryz.undSg rfl (by decide) (.slice ao told.length cap) told.length (strCells told) rfl R1.out w1.heap.size 1 [.string y] rfl rfl NW.out (one_str y) (by omega) (by omega) LA ?_; intro v' W3 hown hgr hsn; obtain ⟨ao', cap', rfl⟩ := row_shape hown; have HR : Hid (W3.ownsRow w.heap.size 9 1 (.slice ao' (told.length + 1) cap') (told.length + 1) (strCells told ++ [.string y])) := hown; have B3 : Hid (Below w.heap.size w W3) := BA.out.grown hgr LA (fun k hk => (R1.out.lt k hk).1); clear hown hgr hsn)
          go_roundg (s.size - (i + 1))
          case measure => omega
          case rel =>
            refine ⟨i + 1, i + 1, told ++ [y], ao', cap', by omega, rfl, by rw [List.length_append]; rfl, by go_num, by go_num, by rw [HY.out]; exact ST, ?_, B3⟩
            rw [List.length_append, strCells_snoc]
            exact HR
        | false =>
          have ST : Hid (segA s (lineAt s) (i + 1) = (b, told)) := by show _ = _; rw [segA, hSt.out, ← HLV.out, if_neg (by simp)]
          clear HLV
          go_wp2_with fail
          go_roundg (s.size - (i + 1))
          case measure => omega
          case rel => exact ⟨i + 1, b, told, ao, cap, by omega, rfl, rfl, rfl, by go_num, ST, hW, hB⟩
    · obtain rfl : i = s.size := by omega
      have ST : Hid (segA s (lineAt s) s.size = (b, told)) := hSt
      by_cases hbs : b < s.size
      · have hP : Hid (linesP s = told ++ [s.extract b s.size]) := by show _ = _; unfold linesP; rw [ST.out, if_pos hbs]
        have hdb : decide ((b : Int) < (s.size : Int)) = true := by simp; omega
        obtain ⟨y, hy⟩ : ∃ y, y = s.extract b s.size := ⟨_, rfl⟩
        have HY : Hid (y = s.extract b s.size) := hy
        have R1 : Hid ((w1.alloc (.cells #[.string y] 9)).ownsRow w.heap.size 9 1 (.slice ao told.length cap) told.length (strCells told)) := row_kp hW.out (Kp.below (below_alloc w1 _))
        have NW : Hid (∀ (j : Nat) (u : Value), [Value.string y][j]? = some u → (w1.alloc (.cells #[.string y] 9)).cell? ⟨w1.heap.size, j, none⟩ = some u) := fun j u hu => cell_of_block (heap_alloc_new w1 _) j u (by simpa using hu)
        have BA : Hid (Below w.heap.size w (w1.alloc (.cells #[.string y] 9))) := hB.out.alloc hB.out.size _
        have LA : w.heap.size ≤ (w1.alloc (.cells #[.string y] 9)).heap.size := BA.out.size
        clear hy
        go_wp2_with (at_builtin; rw [← HY.out]; refine wpList_push2 rfl (.tmp 50) (.tmp 54) 30 rfl w.heap.size 9 (.string ⟨#[]⟩) 1 16 Tryz.infoSg Tryz.undSg rfl (by decide) (.slice ao told.length cap) told.length (strCells told) rfl R1.out w1.heap.size 1 [.string y] rfl rfl NW.out (one_str y) (by omega) (by omega) LA ?_; intro v' W3 hown hgr hsn; obtain ⟨ao', cap', rfl⟩ := row_shape hown; have HR : Hid (W3.ownsRow w.heap.size 9 1 (.slice ao' (told.length + 1) cap') (told.length + 1) (strCells told ++ [.string y])) := hown; have B3 : Hid (Below w.heap.size w W3) := BA.out.grown hgr LA (fun k hk => (R1.out.lt k hk).1); clear hown hgr hsn)
        go_ret
        refine ⟨⟨_, rfl, ?_⟩, B3.out⟩
        rw [hP.out, List.length_append, strCells_snoc, ← HY.out]
        exact HR.out
      · have hP : Hid (linesP s = told) := by show _ = _; unfold linesP; rw [ST.out, if_neg hbs]
        have hdb : decide ((b : Int) < (s.size : Int)) = false := by simp; omega
        go_wp2_with fail
        go_ret
        refine ⟨⟨_, rfl, ?_⟩, hB.out⟩
        rw [hP.out]
        exact hW.out
end Go.Proofs.YtodagkkjfipbgaaGreatDoor
/- The keep's runs. -/
namespace Go.Proofs.YtodagkkjfipbgaaGreatDoor
open Go.RowKit Go.Maps Go.Lib

def wasW (s : ByteArray) (i : Nat) : Bool := if i = 0 then false else isW (byte s (i - 1))
theorem runsTo_len (s : ByteArray) (i : Nat) : (runsTo s i).length ≤ i := by
  cases i with
  | zero => exact Nat.le_refl _
  | succ i => show ((segA s (partAt s) i).2 ++ [_]).length ≤ _; have := segA_len s (partAt s) i; simp; omega
theorem runs_new (s : ByteArray) (i : Nat) (h : (isW (byte s i) && wasW s i) = false) : runsTo s (i + 1) = runsTo s i ++ [s.extract i (i + 1)] := by
  cases i with
  | zero => rfl
  | succ i => exact runs_part s i (by unfold partAt; unfold wasW at h; rw [if_neg (by omega)] at h; simp only [Nat.add_sub_cancel] at h; rw [h]; rfl)
theorem runs_more (s : ByteArray) (i : Nat) (h : (isW (byte s i) && wasW s i) = true) : ∃ l a, runsTo s i = l ++ [a] ∧ runsTo s (i + 1) = l ++ [a ++ s.extract i (i + 1)] ∧ a.size ≤ i := by
  cases i with
  | zero => unfold wasW at h; simp at h
  | succ i =>
    refine ⟨_, _, rfl, runs_join s i (by unfold partAt; unfold wasW at h; rw [if_neg (by omega)] at h; simp only [Nat.add_sub_cancel] at h; rw [h]; rfl), ?_⟩
    rw [ByteArray.size_extract]
    omega
theorem strCells_set (l : List ByteArray) (a b : ByteArray) : (strCells (l ++ [a])).set l.length (.string b) = strCells (l ++ [b]) := by
  unfold strCells
  rw [List.map_append, List.map_append, ← List.length_map (f := Value.string)]
  simp
set_option maxRecDepth 100000 in
set_option maxHeartbeats 4000000 in
theorem runs_any (s : ByteArray) (w : World) (hs : s.size ≤ 1500000) :
    Calls Tryz.prog 30 #[.string s] w fun r w' => (∃ v, r = .returned v ∧ w'.ownsRow w.heap.size 9 1 v (runsTo s s.size).length (strCells (runsTo s s.size))) ∧ Below w.heap.size w w' := by
  go_enter Tryz.func30, Tryz.ntmps30
  go_wp2_with fail
  go_loopg [3, 4, 5] s.size (fun gh tv bv iv wx => ∃ (i : Nat) (b : Bool) (told : List ByteArray) (ao : Option Addr) (cap : Nat), i ≤ s.size ∧ gh = s.size - i ∧ tv = .slice ao told.length cap ∧ bv = .bool b ∧ iv = .int .i64 i ∧ Hid (told = runsTo s i) ∧ Hid (b = wasW s i) ∧ Hid (wx.ownsRow w.heap.size 9 1 (.slice ao told.length cap) told.length (strCells told)) ∧ Hid (Below w.heap.size w wx))
  case atStart => exact ⟨0, false, [], none, 0, Nat.zero_le _, rfl, rfl, rfl, rfl, rfl, rfl, World.ownsRow_nil _ _ _ _, Below.refl _ _⟩
  case round =>
    obtain ⟨i, b, told, ao, cap, hi, rfl, rfl, rfl, rfl, hSt, hBW, hW, hB⟩ := hrel
    obtain ⟨w1, hw1⟩ : ∃ w1, w1 = wr := ⟨wr, rfl⟩
    subst hw1
    have htl : told.length ≤ 1500000 := by have := runsTo_len s i; rw [← hSt.out] at this; exact Nat.le_trans this (by omega)
    by_cases hlt : i < s.size
    · obtain ⟨lv, hlv⟩ : ∃ lv, lv = isW (byte s i) := ⟨_, rfl⟩
      have HLV : Hid (lv = isW (byte s i)) := hlv
      have NWW : Hid (lv = wasW s (i + 1)) := by show _ = _; rw [hlv]; unfold wasW; rw [if_neg (by omega)]; simp
      clear hlv
      go_upto_region 6 with fail
      go_cut [6] from 13 to 34 (fun cv wx => cv = .bool lv ∧ wx = w1)
      case first =>
        obtain ⟨x, hx⟩ : ∃ x, s[i]'hlt = x := ⟨_, rfl⟩
        have hbx : byte s i = x.toNat := by rw [byte_get s i hlt, hx]
        have hL : Hid (lv = (decide (97 ≤ (x.toNat : Int)) && decide ((x.toNat : Int) ≤ 122) || decide (48 ≤ (x.toNat : Int)) && decide ((x.toNat : Int) ≤ 57))) := by
          show _ = _
          rw [HLV.out, hbx]
          unfold isW
          have e1 : decide (97 ≤ x.toNat) = decide (97 ≤ (x.toNat : Int)) := by by_cases h : 97 ≤ x.toNat <;> simp [h] <;> omega
          have e2 : decide (x.toNat ≤ 122) = decide ((x.toNat : Int) ≤ 122) := by by_cases h : x.toNat ≤ 122 <;> simp [h] <;> omega
          have e3 : decide (48 ≤ x.toNat) = decide (48 ≤ (x.toNat : Int)) := by by_cases h : 48 ≤ x.toNat <;> simp [h] <;> omega
          have e4 : decide (x.toNat ≤ 57) = decide ((x.toNat : Int) ≤ 57) := by by_cases h : x.toNat ≤ 57 <;> simp [h] <;> omega
          rw [e1, e2, e3, e4]
        clear hbx
        by_cases h1 : 97 ≤ (x.toNat : Int)
        · have d1 := decide_eq_true h1
          by_cases h2 : (x.toNat : Int) ≤ 122
          · have d2 := decide_eq_true h2
            have hf : Hid (lv = true) := by show _ = _; rw [hL.out, d1, d2]; rfl
            go_wp2_with fail
            go_meet
            exact ⟨by rw [hf.out], rfl⟩
          · have d2 := decide_eq_false h2
            have d3 : decide (48 ≤ (x.toNat : Int)) = true := by simp; omega
            have d4 : decide ((x.toNat : Int) ≤ 57) = false := by simp; omega
            have hf : Hid (lv = false) := by show _ = _; rw [hL.out, d2, d3, d4]; simp
            go_wp2_with fail
            go_meet
            exact ⟨by rw [hf.out], rfl⟩
        · have d1 := decide_eq_false h1
          by_cases h3 : 48 ≤ (x.toNat : Int)
          · have d3 := decide_eq_true h3
            have hf : Hid (lv = decide ((x.toNat : Int) ≤ 57)) := by show _ = _; rw [hL.out, d1, d3]; simp
            by_cases h4 : (x.toNat : Int) ≤ 57
            · have d4 := decide_eq_true h4
              go_wp2_with fail
              go_meet
              exact ⟨by rw [hf.out, d4], rfl⟩
            · have d4 := decide_eq_false h4
              go_wp2_with fail
              go_meet
              exact ⟨by rw [hf.out, d4], rfl⟩
          · have d3 := decide_eq_false h3
            have hf : Hid (lv = false) := by show _ = _; rw [hL.out, d1, d3]; rfl
            go_wp2_with fail
            go_meet
            exact ⟨by rw [hf.out], rfl⟩
      case rest =>
        obtain ⟨rfl, rfl⟩ := hcut
        obtain ⟨w1, hw1⟩ : ∃ w1, w1 = wc := ⟨wc, rfl⟩
        subst hw1
        have hz : (s.extract i (i + 1)).size = 1 := by rw [ByteArray.size_extract]; omega
        obtain ⟨y, hy⟩ : ∃ y, y = s.extract i (i + 1) := ⟨_, rfl⟩
        have HY : Hid (y = s.extract i (i + 1)) := hy
        rw [← hy] at hz
        by_cases hboth : (lv && b) = true
        · obtain ⟨rfl, rfl⟩ : lv = true ∧ b = true := by simpa using hboth
          obtain ⟨l, a, h1, h2, ha⟩ := runs_more s i (by rw [← HLV.out, ← hBW.out]; rfl)
          rw [← hSt.out] at h1
          rw [← hy] at h2
          subst h1
          have N2 : Hid (l ++ [a ++ y] = runsTo s (i + 1)) := h2.symm
          have hlen : (l ++ [a]).length = l.length + 1 := by simp
          obtain ⟨q, hq, hql, hc⟩ := row_at hW.out (strCells_at (l := l ++ [a]) (i := l.length) (s := a) (by simp)) (by omega)
          subst hq
          have hfr : w1.frozen? ⟨q, l.length, none⟩ = false := by
            obtain ⟨_, hv | ⟨g', cap', cur, hv, hg, hh, _⟩⟩ := hW.out
            · simp at hv
            · simp at hv
              rw [← hv.1] at hh
              exact free_of_block hh _
          have R2 : Hid ((w1.setCell ⟨q, l.length, none⟩ (.string (a ++ y))).ownsRow w.heap.size 9 1 (.slice (some ⟨q, 0, none⟩) (l.length + 1) cap) (l.length + 1) (strCells (l ++ [a ++ y]))) := by
            have h := row_set hW.out l.length (.string (a ++ y))
            rw [strCells_set, hlen] at h
            exact h
          have B2 : Hid (Below w.heap.size w (w1.setCell ⟨q, l.length, none⟩ (.string (a ++ y)))) := hB.out.setCell hql _
          rw [hlen]
          rw [hlen] at htl
          clear h2 hW hB hlen hy
          rw [HY.out] at hz
          have hsz : a.size + (s.extract i (i + 1)).size ≤ 4000000 := by omega
          go_wp2_with fail
          go_region
          all_goals go_wp2_with fail
          go_roundg (s.size - (i + 1))
          case measure => omega
          case rel =>
            have hlen2 : (l ++ [a ++ y]).length = l.length + 1 := by simp
            rw [← HY.out]
            refine ⟨i + 1, true, l ++ [a ++ y], some ⟨q, 0, none⟩, cap, by omega, rfl, by rw [hlen2], rfl, by go_num, N2, NWW, ?_, bdrew B2.out _⟩
            rw [hlen2]
            exact row_kp R2.out (Kp.below ((Below.refl _ _).drew))
        · have ST : Hid (told ++ [y] = runsTo s (i + 1)) := by
            show _ = _
            rw [runs_new s i (by rw [← HLV.out, ← hBW.out]; simpa using hboth), ← hSt.out, hy]
          have hb2 : lv = true → b = false := fun e => by subst e; simpa using hboth
          clear hboth hz
          have R1 : Hid ((w1.alloc (.cells #[.string y] 9)).ownsRow w.heap.size 9 1 (.slice ao told.length cap) told.length (strCells told)) := row_kp hW.out (Kp.below (below_alloc w1 _))
          have NW : Hid (∀ (j : Nat) (u : Value), [Value.string y][j]? = some u → (w1.alloc (.cells #[.string y] 9)).cell? ⟨w1.heap.size, j, none⟩ = some u) := fun j u hu => cell_of_block (heap_alloc_new w1 _) j u (by simpa using hu)
          have BA : Hid (Below w.heap.size w (w1.alloc (.cells #[.string y] 9))) := hB.out.alloc hB.out.size _
          have LA : w.heap.size ≤ (w1.alloc (.cells #[.string y] 9)).heap.size := BA.out.size
          clear hy
          cases lv with
          | false =>
            clear hb2
            go_wp2_with (at_builtin; rw [← HY.out]; refine wpList_push2 rfl (.tmp 56) (.tmp 62) 30 rfl w.heap.size 9 (.string ⟨#[]⟩) 1 16 Tryz.infoSg Tryz.undSg rfl (by decide) (.slice ao told.length cap) told.length (strCells told) rfl R1.out w1.heap.size 1 [.string y] rfl rfl NW.out (one_str y) (by omega) (by omega) LA ?_; intro v' W3 hown hgr hsn; obtain ⟨ao', cap', rfl⟩ := row_shape hown; have HR : Hid (W3.ownsRow w.heap.size 9 1 (.slice ao' (told.length + 1) cap') (told.length + 1) (strCells told ++ [.string y])) := hown; have B3 : Hid (Below w.heap.size w W3) := BA.out.grown hgr LA (fun k hk => (R1.out.lt k hk).1); clear hown hgr hsn)
            go_roundg (s.size - (i + 1))
            case measure => omega
            case rel =>
              refine ⟨i + 1, false, told ++ [y], ao', cap', by omega, rfl, by rw [List.length_append]; rfl, rfl, by go_num, ST, NWW, ?_, B3⟩
              rw [List.length_append, strCells_snoc]
              exact HR
          | true =>
            obtain rfl := hb2 rfl
            clear hb2
            go_wp2_with (at_builtin; rw [← HY.out]; refine wpList_push2 rfl (.tmp 56) (.tmp 62) 30 rfl w.heap.size 9 (.string ⟨#[]⟩) 1 16 Tryz.infoSg Tryz.undSg rfl (by decide) (.slice ao told.length cap) told.length (strCells told) rfl R1.out w1.heap.size 1 [.string y] rfl rfl NW.out (one_str y) (by omega) (by omega) LA ?_; intro v' W3 hown hgr hsn; obtain ⟨ao', cap', rfl⟩ := row_shape hown; have HR : Hid (W3.ownsRow w.heap.size 9 1 (.slice ao' (told.length + 1) cap') (told.length + 1) (strCells told ++ [.string y])) := hown; have B3 : Hid (Below w.heap.size w W3) := BA.out.grown hgr LA (fun k hk => (R1.out.lt k hk).1); clear hown hgr hsn)
            go_roundg (s.size - (i + 1))
            case measure => omega
            case rel =>
              refine ⟨i + 1, true, told ++ [y], ao', cap', by omega, rfl, by rw [List.length_append]; rfl, rfl, by go_num, ST, NWW, ?_, B3⟩
              rw [List.length_append, strCells_snoc]
              exact HR
    · obtain rfl : i = s.size := by omega
      go_wp2_with fail
      go_ret
      refine ⟨⟨_, rfl, ?_⟩, hB.out⟩
      rw [← hSt.out]
      exact hW.out
end Go.Proofs.YtodagkkjfipbgaaGreatDoor
/- Known. -/
namespace Go.Proofs.YtodagkkjfipbgaaGreatDoor
open Go.RowKit Go.Maps Go.Lib

theorem RulesIn.below {w w' : World} {g : Nat} {T : ByteArray} {vE vJ vP vH vV : Value} {L : List (Int × Int × Nat)} (h : RulesIn w g T vE vJ vP vH vV L) (hb : Below w.heap.size w w') : RulesIn w' g T vE vJ vP vH vV L :=
  ⟨(hb.block _ (heap_lt h.blk)).trans h.blk, h.perm, h.row, row_kp h.tab (Kp.below hb), h.judge.kp (Kp.below hb) (Kp.below hb), h.out.below hb, h.ok, h.few, h.spans⟩
theorem RulesAt.below {T : ByteArray} {w w' : World} {v : Value} (h : RulesAt T w v) (hb : Below w.heap.size w w') : RulesAt T w' v := by
  obtain ⟨g, vE, vJ, vP, vH, vV, L, e, h⟩ := h
  exact ⟨g, vE, vJ, vP, vH, vV, L, e, h.below hb⟩
theorem RulesAt.shape {T : ByteArray} {w : World} {v : Value} (h : RulesAt T w v) : ∃ g, v = .pointer (some ⟨g, 0, none⟩) := by
  obtain ⟨g, vE, vJ, vP, vH, vV, L, e, h⟩ := h
  exact ⟨g, e⟩
/-- A Cut of which one knows what it tells. -/
theorem cut_known (T t : ByteArray) (X : List ByteArray) (w : World) (g : Nat) (hR : RulesAt T w (.pointer (some ⟨g, 0, none⟩))) (hV : VarsOk w) (hlen : t.size ≤ 1500000) (hX : ∀ L told, L.Perm (read1 T).l → CutTold T t L told → told = X) :
    Calls Tryz.prog 19 #[.pointer (some ⟨g, 0, none⟩), .string t] w fun r w' => (∃ v, r = .returned v ∧ w'.ownsRow w.heap.size 9 1 v X.length (strCells X)) ∧ X.length ≤ 1500000 ∧ Below w.heap.size w w' := by
  obtain ⟨g', vE, vJ, vP, vH, vV, L, e, h⟩ := hR
  cases e
  refine (cut_any w g T t vE vJ vP vH vV L h hV.utf hV.low hlen).mono ?_
  rintro r w' ⟨⟨v, told, rfl, hc, hrow⟩, hb⟩
  have hl := (told_whole h.spans.2 hc).2.2
  obtain rfl := hX L told h.perm hc
  exact ⟨⟨v, rfl, hrow⟩, Nat.le_trans hl hlen, hb⟩
theorem asciiP_ascii (s : ByteArray) : Ascii (asciiP s) := by
  intro i hi
  unfold byte
  rw [get_data _ i hi]
  have hi' : i < s.data.size := Nat.lt_of_lt_of_eq hi (asciiP_size s)
  have e : (asciiP s).data[i]'hi = (s.data[i]'hi') &&& 127 := by simp [asciiP]
  rw [e, UInt8.toNat_and]
  have := Nat.and_two_pow_sub_one_eq_mod (s.data[i]'hi').toNat 7
  have h2 : (127 : UInt8).toNat = 2 ^ 7 - 1 := rfl
  rw [h2, this]
  exact Nat.mod_lt _ (by decide)
theorem same_yes (ba bb : Nat) (va vb : Value) (l : List ByteArray) (w : World) (ha : w.ownsRow ba 9 1 va l.length (strCells l)) (hb : w.ownsRow bb 9 1 vb l.length (strCells l)) (hl : l.length ≤ 1500000) :
    Calls Tryz.prog 28 #[va, vb] w fun r w' => r = .returned (.bool true) ∧ Below w.heap.size w w' := by
  have h := keepSame_any ba bb va vb l l w ha hb hl
  rw [show decide (l = l) = true from by simp] at h
  exact h

set_option maxRecDepth 100000 in
set_option maxHeartbeats 8000000 in
theorem known_pr (s : ByteArray) (sp : Bool) (w : World) (hV : VarsOk w) (hs : s.size ≤ 1500000) :
    Calls Tryz.prog 6 #[.string s, .bool sp] w fun r w' => r = .returned (.bool true) ∧ Below w.heap.size w w' := by
  have HV : Hid (VarsOk w) := hV
  have ha := ascii_any s w hs
  obtain ⟨t, ht⟩ : ∃ t, t = asciiP s := ⟨_, rfl⟩
  rw [← ht] at ha
  have HA : Hid (Ascii t) := by rw [ht]; exact asciiP_ascii s
  have hts : t.size ≤ 1500000 := by rw [ht, asciiP_size]; exact hs
  clear ht hV
  cases sp with
  | false =>
    go_enter Tryz.func6, Tryz.ntmps6
    go_wp2_with fail
    refine ha.mono ?_
    rintro r w1 ⟨rfl, b1⟩
    have B1 : Hid (Below w.heap.size w w1) := b1
    have V1 : Hid (VarsOk w1) := HV.out.below b1
    clear ha b1
    have ra := keepRules_ok kTa0 w1 V1.out.errs (by decide) kTa0_read
    go_wp2_with fail
    refine ra.mono ?_
    rintro r w2 ⟨⟨va, rfl, hRa⟩, b2⟩
    obtain ⟨ga, rfl⟩ := hRa.shape
    have Ra : Hid (RulesAt kTa0 w2 (.pointer (some ⟨ga, 0, none⟩))) := hRa
    have B2 : Hid (Below w.heap.size w w2) := B1.out.trans (b2.mono B1.out.size)
    have V2 : Hid (VarsOk w2) := V1.out.below b2
    clear ra hRa b2
    have rb := keepRules_ok kTb0 w2 V2.out.errs (by decide) kTb0_read
    go_wp2_with fail
    refine rb.mono ?_
    rintro r w3 ⟨⟨vb, rfl, hRb⟩, b3⟩
    obtain ⟨gb, rfl⟩ := hRb.shape
    have Rb : Hid (RulesAt kTb0 w3 (.pointer (some ⟨gb, 0, none⟩))) := hRb
    have B3 : Hid (Below w.heap.size w w3) := B2.out.trans (b3.mono B2.out.size)
    have V3 : Hid (VarsOk w3) := V2.out.below b3
    have Ra1 : Hid (RulesAt kTa0 w3 (.pointer (some ⟨ga, 0, none⟩))) := Ra.out.below b3
    clear rb hRb b3
    have rc := keepRules_ok kTc0 w3 V3.out.errs (by decide) kTc0_read
    go_wp2_with fail
    refine rc.mono ?_
    rintro r w4 ⟨⟨vc, rfl, hRc⟩, b4⟩
    obtain ⟨gc, rfl⟩ := hRc.shape
    have Rc : Hid (RulesAt kTc0 w4 (.pointer (some ⟨gc, 0, none⟩))) := hRc
    have B4 : Hid (Below w.heap.size w w4) := B3.out.trans (b4.mono B3.out.size)
    have V4 : Hid (VarsOk w4) := V3.out.below b4
    have Ra2 : Hid (RulesAt kTa0 w4 (.pointer (some ⟨ga, 0, none⟩))) := Ra1.out.below b4
    have Rb2 : Hid (RulesAt kTb0 w4 (.pointer (some ⟨gb, 0, none⟩))) := Rb.out.below b4
    clear rc hRc b4
    have rd := keepRules_ok kTd w4 V4.out.errs (by decide) kTd_read
    go_wp2_with fail
    refine rd.mono ?_
    rintro r w5 ⟨⟨vd, rfl, hRd⟩, b5⟩
    obtain ⟨gd, rfl⟩ := hRd.shape
    have Rd : Hid (RulesAt kTd w5 (.pointer (some ⟨gd, 0, none⟩))) := hRd
    have B5 : Hid (Below w.heap.size w w5) := B4.out.trans (b5.mono B4.out.size)
    have V5 : Hid (VarsOk w5) := V4.out.below b5
    have Ra3 : Hid (RulesAt kTa0 w5 (.pointer (some ⟨ga, 0, none⟩))) := Ra2.out.below b5
    have Rb3 : Hid (RulesAt kTb0 w5 (.pointer (some ⟨gb, 0, none⟩))) := Rb2.out.below b5
    have Rc3 : Hid (RulesAt kTc0 w5 (.pointer (some ⟨gc, 0, none⟩))) := Rc.out.below b5
    clear rd hRd b5
    have Qa := Ra3
    have Qb := Rb3
    have Qc := Rc3
    have Qd := Rd
    clear Ra Ra1 Ra2 Ra3 Rb Rb2 Rb3 Rc Rc3 Rd
    have ka := cut_known kTa0 t (linesP t) w5 ga Qa.out V5.out hts (fun L told hp hc => told_lines hp kTa0_kinds kTa0_rules HA.out hc)
    go_wp2_with fail
    refine ka.mono ?_
    rintro r w6 ⟨⟨v1, rfl, hrow1⟩, hl1, b1⟩
    have R1 : Hid (w6.ownsRow w5.heap.size 9 1 v1 (linesP t).length (strCells (linesP t))) := hrow1
    have HL1 : Hid ((linesP t).length ≤ 1500000) := hl1
    have B6 : Hid (Below w.heap.size w w6) := B5.out.trans (b1.mono B5.out.size)
    have S6 : Hid (Below w5.heap.size w5 w6) := b1
    have la := lines_any t w6 hts
    clear ka hrow1 b1 hl1
    go_wp2_with fail
    refine la.mono ?_
    rintro r w7 ⟨⟨v2, rfl, hrow2⟩, b2⟩
    have ma := same_yes w5.heap.size w6.heap.size v1 v2 (linesP t) w7 (row_kp R1.out (Kp.below b2)) hrow2 HL1.out
    have B7 : Hid (Below w.heap.size w w7) := B6.out.trans (b2.mono B6.out.size)
    have S7 : Hid (Below w5.heap.size w5 w7) := S6.out.trans (b2.mono S6.out.size)
    clear la hrow2 b2 R1 HL1
    go_wp2_with fail
    refine ma.mono ?_
    rintro r w8 ⟨rfl, b3⟩
    have B8 : Hid (Below w.heap.size w w8) := B7.out.trans (b3.mono B7.out.size)
    have S8 : Hid (Below w5.heap.size w5 w8) := S7.out.trans (b3.mono S7.out.size)
    have V8 : Hid (VarsOk w8) := V5.out.below S8.out
    replace Qb : Hid (RulesAt kTb0 w8 (.pointer (some ⟨gb, 0, none⟩))) := Qb.out.below S8.out
    replace Qc : Hid (RulesAt kTc0 w8 (.pointer (some ⟨gc, 0, none⟩))) := Qc.out.below S8.out
    replace Qd : Hid (RulesAt kTd w8 (.pointer (some ⟨gd, 0, none⟩))) := Qd.out.below S8.out
    clear ma b3
    have kb := cut_known kTb0 t (runsTo t t.size) w8 gb Qb.out V8.out hts (fun L told hp hc => told_runsB hp kTb0_kinds kTb0_rules HA.out hc)
    go_wp2_with fail
    refine kb.mono ?_
    rintro r w9 ⟨⟨v1, rfl, hrow1⟩, hl1, b1⟩
    have R1 : Hid (w9.ownsRow w8.heap.size 9 1 v1 (runsTo t t.size).length (strCells (runsTo t t.size))) := hrow1
    have HL1 : Hid ((runsTo t t.size).length ≤ 1500000) := hl1
    have B9 : Hid (Below w.heap.size w w9) := B8.out.trans (b1.mono B8.out.size)
    have S9 : Hid (Below w8.heap.size w8 w9) := b1
    have lb := runs_any t w9 hts
    clear kb hrow1 b1 hl1
    go_wp2_with fail
    refine lb.mono ?_
    rintro r w10 ⟨⟨v2, rfl, hrow2⟩, b2⟩
    have mb := same_yes w8.heap.size w9.heap.size v1 v2 (runsTo t t.size) w10 (row_kp R1.out (Kp.below b2)) hrow2 HL1.out
    have B10 : Hid (Below w.heap.size w w10) := B9.out.trans (b2.mono B9.out.size)
    have S10 : Hid (Below w8.heap.size w8 w10) := S9.out.trans (b2.mono S9.out.size)
    clear lb hrow2 b2 R1 HL1
    go_wp2_with fail
    refine mb.mono ?_
    rintro r w11 ⟨rfl, b3⟩
    have B11 : Hid (Below w.heap.size w w11) := B10.out.trans (b3.mono B10.out.size)
    have S11 : Hid (Below w8.heap.size w8 w11) := S10.out.trans (b3.mono S10.out.size)
    have V11 : Hid (VarsOk w11) := V8.out.below S11.out
    replace Qc : Hid (RulesAt kTc0 w11 (.pointer (some ⟨gc, 0, none⟩))) := Qc.out.below S11.out
    replace Qd : Hid (RulesAt kTd w11 (.pointer (some ⟨gd, 0, none⟩))) := Qd.out.below S11.out
    clear mb b3
    have kc := cut_known kTc0 t (runsTo t t.size) w11 gc Qc.out V11.out hts (fun L told hp hc => told_runsC hp kTc0_kinds kTc0_rules HA.out hc)
    go_wp2_with fail
    refine kc.mono ?_
    rintro r w12 ⟨⟨v1, rfl, hrow1⟩, hl1, b1⟩
    have R1 : Hid (w12.ownsRow w11.heap.size 9 1 v1 (runsTo t t.size).length (strCells (runsTo t t.size))) := hrow1
    have HL1 : Hid ((runsTo t t.size).length ≤ 1500000) := hl1
    have B12 : Hid (Below w.heap.size w w12) := B11.out.trans (b1.mono B11.out.size)
    have S12 : Hid (Below w11.heap.size w11 w12) := b1
    have lc := runs_any t w12 hts
    clear kc hrow1 b1 hl1
    go_wp2_with fail
    refine lc.mono ?_
    rintro r w13 ⟨⟨v2, rfl, hrow2⟩, b2⟩
    have mc := same_yes w11.heap.size w12.heap.size v1 v2 (runsTo t t.size) w13 (row_kp R1.out (Kp.below b2)) hrow2 HL1.out
    have B13 : Hid (Below w.heap.size w w13) := B12.out.trans (b2.mono B12.out.size)
    have S13 : Hid (Below w11.heap.size w11 w13) := S12.out.trans (b2.mono S12.out.size)
    clear lc hrow2 b2 R1 HL1
    go_wp2_with fail
    refine mc.mono ?_
    rintro r w14 ⟨rfl, b3⟩
    have B14 : Hid (Below w.heap.size w w14) := B13.out.trans (b3.mono B13.out.size)
    have S14 : Hid (Below w11.heap.size w11 w14) := S13.out.trans (b3.mono S13.out.size)
    have V14 : Hid (VarsOk w14) := V11.out.below S14.out
    replace Qd : Hid (RulesAt kTd w14 (.pointer (some ⟨gd, 0, none⟩))) := Qd.out.below S14.out
    clear mc b3
    have kd := cut_known kTd t (if t.size = 0 then [] else [t]) w14 gd Qd.out V14.out hts (fun L told hp hc => told_one hp HA.out hc)
    go_wp2_with fail
    refine kd.mono ?_
    rintro r w15 ⟨⟨v1, rfl, hrow1⟩, hl1, b1⟩
    have B15 : Hid (Below w.heap.size w w15) := B14.out.trans (b1.mono B14.out.size)
    clear kd b1 hl1
    by_cases h0 : t.size = 0
    · rw [if_pos h0] at hrow1
      obtain ⟨ao1, cap1, rfl⟩ := row_shape hrow1
      have hte : t.toList.isEmpty = true := by
        rw [ByteArray.toList_eq]
        obtain ⟨⟨l⟩⟩ := t
        cases l with
        | nil => rfl
        | cons a l => exact absurd h0 (by simp [ByteArray.size])
      clear hrow1
      go_wp2_with fail
      go_ret
      exact ⟨rfl, B15.out⟩
    · rw [if_neg h0] at hrow1
      obtain ⟨ao1, cap1, rfl⟩ := row_shape hrow1
      obtain ⟨q, hq, _, hc⟩ := row_at hrow1 (strCells_at (l := [t]) (i := 0) rfl) (by simp)
      subst hq
      clear hrow1
      go_wp2_with fail
      go_ret
      exact ⟨rfl, B15.out⟩
  | true =>
    go_enter Tryz.func6, Tryz.ntmps6
    go_wp2_with fail
    refine ha.mono ?_
    rintro r w1 ⟨rfl, b1⟩
    have B1 : Hid (Below w.heap.size w w1) := b1
    have V1 : Hid (VarsOk w1) := HV.out.below b1
    clear ha b1
    have ra := keepRules_ok kTa1 w1 V1.out.errs (by decide) kTa1_read
    go_wp2_with fail
    refine ra.mono ?_
    rintro r w2 ⟨⟨va, rfl, hRa⟩, b2⟩
    obtain ⟨ga, rfl⟩ := hRa.shape
    have Ra : Hid (RulesAt kTa1 w2 (.pointer (some ⟨ga, 0, none⟩))) := hRa
    have B2 : Hid (Below w.heap.size w w2) := B1.out.trans (b2.mono B1.out.size)
    have V2 : Hid (VarsOk w2) := V1.out.below b2
    clear ra hRa b2
    have rb := keepRules_ok kTb1 w2 V2.out.errs (by decide) kTb1_read
    go_wp2_with fail
    refine rb.mono ?_
    rintro r w3 ⟨⟨vb, rfl, hRb⟩, b3⟩
    obtain ⟨gb, rfl⟩ := hRb.shape
    have Rb : Hid (RulesAt kTb1 w3 (.pointer (some ⟨gb, 0, none⟩))) := hRb
    have B3 : Hid (Below w.heap.size w w3) := B2.out.trans (b3.mono B2.out.size)
    have V3 : Hid (VarsOk w3) := V2.out.below b3
    have Ra1 : Hid (RulesAt kTa1 w3 (.pointer (some ⟨ga, 0, none⟩))) := Ra.out.below b3
    clear rb hRb b3
    have rc := keepRules_ok kTc1 w3 V3.out.errs (by decide) kTc1_read
    go_wp2_with fail
    refine rc.mono ?_
    rintro r w4 ⟨⟨vc, rfl, hRc⟩, b4⟩
    obtain ⟨gc, rfl⟩ := hRc.shape
    have Rc : Hid (RulesAt kTc1 w4 (.pointer (some ⟨gc, 0, none⟩))) := hRc
    have B4 : Hid (Below w.heap.size w w4) := B3.out.trans (b4.mono B3.out.size)
    have V4 : Hid (VarsOk w4) := V3.out.below b4
    have Ra2 : Hid (RulesAt kTa1 w4 (.pointer (some ⟨ga, 0, none⟩))) := Ra1.out.below b4
    have Rb2 : Hid (RulesAt kTb1 w4 (.pointer (some ⟨gb, 0, none⟩))) := Rb.out.below b4
    clear rc hRc b4
    have rd := keepRules_ok kTd w4 V4.out.errs (by decide) kTd_read
    go_wp2_with fail
    refine rd.mono ?_
    rintro r w5 ⟨⟨vd, rfl, hRd⟩, b5⟩
    obtain ⟨gd, rfl⟩ := hRd.shape
    have Rd : Hid (RulesAt kTd w5 (.pointer (some ⟨gd, 0, none⟩))) := hRd
    have B5 : Hid (Below w.heap.size w w5) := B4.out.trans (b5.mono B4.out.size)
    have V5 : Hid (VarsOk w5) := V4.out.below b5
    have Ra3 : Hid (RulesAt kTa1 w5 (.pointer (some ⟨ga, 0, none⟩))) := Ra2.out.below b5
    have Rb3 : Hid (RulesAt kTb1 w5 (.pointer (some ⟨gb, 0, none⟩))) := Rb2.out.below b5
    have Rc3 : Hid (RulesAt kTc1 w5 (.pointer (some ⟨gc, 0, none⟩))) := Rc.out.below b5
    clear rd hRd b5
    have Qa := Ra3
    have Qb := Rb3
    have Qc := Rc3
    have Qd := Rd
    clear Ra Ra1 Ra2 Ra3 Rb Rb2 Rb3 Rc Rc3 Rd
    have ka := cut_known kTa1 t (linesP t) w5 ga Qa.out V5.out hts (fun L told hp hc => told_lines hp kTa1_kinds kTa1_rules HA.out hc)
    go_wp2_with fail
    refine ka.mono ?_
    rintro r w6 ⟨⟨v1, rfl, hrow1⟩, hl1, b1⟩
    have R1 : Hid (w6.ownsRow w5.heap.size 9 1 v1 (linesP t).length (strCells (linesP t))) := hrow1
    have HL1 : Hid ((linesP t).length ≤ 1500000) := hl1
    have B6 : Hid (Below w.heap.size w w6) := B5.out.trans (b1.mono B5.out.size)
    have S6 : Hid (Below w5.heap.size w5 w6) := b1
    have la := lines_any t w6 hts
    clear ka hrow1 b1 hl1
    go_wp2_with fail
    refine la.mono ?_
    rintro r w7 ⟨⟨v2, rfl, hrow2⟩, b2⟩
    have ma := same_yes w5.heap.size w6.heap.size v1 v2 (linesP t) w7 (row_kp R1.out (Kp.below b2)) hrow2 HL1.out
    have B7 : Hid (Below w.heap.size w w7) := B6.out.trans (b2.mono B6.out.size)
    have S7 : Hid (Below w5.heap.size w5 w7) := S6.out.trans (b2.mono S6.out.size)
    clear la hrow2 b2 R1 HL1
    go_wp2_with fail
    refine ma.mono ?_
    rintro r w8 ⟨rfl, b3⟩
    have B8 : Hid (Below w.heap.size w w8) := B7.out.trans (b3.mono B7.out.size)
    have S8 : Hid (Below w5.heap.size w5 w8) := S7.out.trans (b3.mono S7.out.size)
    have V8 : Hid (VarsOk w8) := V5.out.below S8.out
    replace Qb : Hid (RulesAt kTb1 w8 (.pointer (some ⟨gb, 0, none⟩))) := Qb.out.below S8.out
    replace Qc : Hid (RulesAt kTc1 w8 (.pointer (some ⟨gc, 0, none⟩))) := Qc.out.below S8.out
    replace Qd : Hid (RulesAt kTd w8 (.pointer (some ⟨gd, 0, none⟩))) := Qd.out.below S8.out
    clear ma b3
    have kb := cut_known kTb1 t (runsTo t t.size) w8 gb Qb.out V8.out hts (fun L told hp hc => told_runsB hp kTb1_kinds kTb1_rules HA.out hc)
    go_wp2_with fail
    refine kb.mono ?_
    rintro r w9 ⟨⟨v1, rfl, hrow1⟩, hl1, b1⟩
    have R1 : Hid (w9.ownsRow w8.heap.size 9 1 v1 (runsTo t t.size).length (strCells (runsTo t t.size))) := hrow1
    have HL1 : Hid ((runsTo t t.size).length ≤ 1500000) := hl1
    have B9 : Hid (Below w.heap.size w w9) := B8.out.trans (b1.mono B8.out.size)
    have S9 : Hid (Below w8.heap.size w8 w9) := b1
    have lb := runs_any t w9 hts
    clear kb hrow1 b1 hl1
    go_wp2_with fail
    refine lb.mono ?_
    rintro r w10 ⟨⟨v2, rfl, hrow2⟩, b2⟩
    have mb := same_yes w8.heap.size w9.heap.size v1 v2 (runsTo t t.size) w10 (row_kp R1.out (Kp.below b2)) hrow2 HL1.out
    have B10 : Hid (Below w.heap.size w w10) := B9.out.trans (b2.mono B9.out.size)
    have S10 : Hid (Below w8.heap.size w8 w10) := S9.out.trans (b2.mono S9.out.size)
    clear lb hrow2 b2 R1 HL1
    go_wp2_with fail
    refine mb.mono ?_
    rintro r w11 ⟨rfl, b3⟩
    have B11 : Hid (Below w.heap.size w w11) := B10.out.trans (b3.mono B10.out.size)
    have S11 : Hid (Below w8.heap.size w8 w11) := S10.out.trans (b3.mono S10.out.size)
    have V11 : Hid (VarsOk w11) := V8.out.below S11.out
    replace Qc : Hid (RulesAt kTc1 w11 (.pointer (some ⟨gc, 0, none⟩))) := Qc.out.below S11.out
    replace Qd : Hid (RulesAt kTd w11 (.pointer (some ⟨gd, 0, none⟩))) := Qd.out.below S11.out
    clear mb b3
    have kc := cut_known kTc1 t (runsTo t t.size) w11 gc Qc.out V11.out hts (fun L told hp hc => told_runsC hp kTc1_kinds kTc1_rules HA.out hc)
    go_wp2_with fail
    refine kc.mono ?_
    rintro r w12 ⟨⟨v1, rfl, hrow1⟩, hl1, b1⟩
    have R1 : Hid (w12.ownsRow w11.heap.size 9 1 v1 (runsTo t t.size).length (strCells (runsTo t t.size))) := hrow1
    have HL1 : Hid ((runsTo t t.size).length ≤ 1500000) := hl1
    have B12 : Hid (Below w.heap.size w w12) := B11.out.trans (b1.mono B11.out.size)
    have S12 : Hid (Below w11.heap.size w11 w12) := b1
    have lc := runs_any t w12 hts
    clear kc hrow1 b1 hl1
    go_wp2_with fail
    refine lc.mono ?_
    rintro r w13 ⟨⟨v2, rfl, hrow2⟩, b2⟩
    have mc := same_yes w11.heap.size w12.heap.size v1 v2 (runsTo t t.size) w13 (row_kp R1.out (Kp.below b2)) hrow2 HL1.out
    have B13 : Hid (Below w.heap.size w w13) := B12.out.trans (b2.mono B12.out.size)
    have S13 : Hid (Below w11.heap.size w11 w13) := S12.out.trans (b2.mono S12.out.size)
    clear lc hrow2 b2 R1 HL1
    go_wp2_with fail
    refine mc.mono ?_
    rintro r w14 ⟨rfl, b3⟩
    have B14 : Hid (Below w.heap.size w w14) := B13.out.trans (b3.mono B13.out.size)
    have S14 : Hid (Below w11.heap.size w11 w14) := S13.out.trans (b3.mono S13.out.size)
    have V14 : Hid (VarsOk w14) := V11.out.below S14.out
    replace Qd : Hid (RulesAt kTd w14 (.pointer (some ⟨gd, 0, none⟩))) := Qd.out.below S14.out
    clear mc b3
    have kd := cut_known kTd t (if t.size = 0 then [] else [t]) w14 gd Qd.out V14.out hts (fun L told hp hc => told_one hp HA.out hc)
    go_wp2_with fail
    refine kd.mono ?_
    rintro r w15 ⟨⟨v1, rfl, hrow1⟩, hl1, b1⟩
    have B15 : Hid (Below w.heap.size w w15) := B14.out.trans (b1.mono B14.out.size)
    clear kd b1 hl1
    by_cases h0 : t.size = 0
    · rw [if_pos h0] at hrow1
      obtain ⟨ao1, cap1, rfl⟩ := row_shape hrow1
      have hte : t.toList.isEmpty = true := by
        rw [ByteArray.toList_eq]
        obtain ⟨⟨l⟩⟩ := t
        cases l with
        | nil => rfl
        | cons a l => exact absurd h0 (by simp [ByteArray.size])
      clear hrow1
      go_wp2_with fail
      go_ret
      exact ⟨rfl, B15.out⟩
    · rw [if_neg h0] at hrow1
      obtain ⟨ao1, cap1, rfl⟩ := row_shape hrow1
      obtain ⟨q, hq, _, hc⟩ := row_at hrow1 (strCells_at (l := [t]) (i := 0) rfl) (by simp)
      subst hq
      clear hrow1
      go_wp2_with fail
      go_ret
      exact ⟨rfl, B15.out⟩
end Go.Proofs.YtodagkkjfipbgaaGreatDoor
