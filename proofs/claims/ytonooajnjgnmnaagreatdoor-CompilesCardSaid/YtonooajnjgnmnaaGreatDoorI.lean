/- strconv.Itoa at the few numbers that are asked for. -/
import Derived.Laws.IdiomStrings
import Derived.Test.YtonooajnjgnmnaaGreatDoorL
import Derived.Test.YtonooajnjgnmnaaGreatDoorX
namespace Go.Proofs.YtonooajnjgnmnaaGreatDoor
open Go.RowKit
set_option maxRecDepth 100000 in
set_option maxHeartbeats 2000000 in
theorem itoa_small (n : Nat) (hn : n ∈ [0, 1, 2, 3, 4, 7, 8, 15, 16, 31, 32, 63, 64]) (w : World) :
    Calls Tryz.prog 84 #[.int .i64 n] w fun e w' => e = .returned (.string (itoaB n)) ∧ w' = w := by
  simp only [List.mem_cons, List.not_mem_nil, or_false] at hn
  rcases hn with rfl | rfl | rfl | rfl | rfl | rfl | rfl | rfl | rfl | rfl | rfl | rfl | rfl
  all_goals
    go_enter Tryz.func84, Tryz.ntmps84
    go_wp2
    go_ret
    exact ⟨by rfl, rfl⟩
set_option maxRecDepth 100000 in
set_option maxHeartbeats 2000000 in
theorem len64_c (n : Nat) (hn : n ∈ [127, 128, 255]) (w : World) :
    Calls Tryz.prog 101 #[.int .u64 n] w fun e w' => e = .returned (.int .i64 (if n = 127 then 7 else 8)) ∧ w' = w := by
  simp only [List.mem_cons, List.not_mem_nil, or_false] at hn
  rcases hn with rfl | rfl | rfl
  all_goals
    go_enter Tryz.func101, Tryz.ntmps101
    go_wp2
    go_ret
    exact ⟨by simp [wrap64]; decide +kernel, rfl⟩
set_option maxRecDepth 100000 in
set_option maxHeartbeats 2000000 in
theorem numDigits_c (n : Nat) (hn : n ∈ [127, 128, 255]) (w : World) (ht : w.cell? ⟨2, 2, none⟩ = some (.int .u64 100)) :
    Calls Tryz.prog 97 #[.int .u64 n] w fun e w' => e = .returned (.int .i64 3) ∧ w' = w := by
  go_enter Tryz.func97, Tryz.ntmps97
  go_wp2_with fail
  refine (len64_c n hn _).mono ?_
  rintro e1 w1 ⟨rfl, rfl⟩
  simp only [List.mem_cons, List.not_mem_nil, or_false] at hn
  rcases hn with rfl | rfl | rfl
  all_goals
    simp only [if_true, if_false, Nat.reduceEqDiff]
    go_wp2
    go_ret
    exact ⟨by first | rfl | (simp; done), rfl⟩
def zero24 : Array Value := #[.int .u8 0, .int .u8 0, .int .u8 0, .int .u8 0, .int .u8 0, .int .u8 0, .int .u8 0, .int .u8 0, .int .u8 0, .int .u8 0, .int .u8 0, .int .u8 0, .int .u8 0, .int .u8 0, .int .u8 0, .int .u8 0, .int .u8 0, .int .u8 0, .int .u8 0, .int .u8 0, .int .u8 0, .int .u8 0, .int .u8 0, .int .u8 0]
def dig3 (n : Nat) : Array Value := ((zero24.setIfInBounds 1 (.int .u8 (48 + n / 100 : Nat))).setIfInBounds 2 (.int .u8 (48 + n / 10 % 10 : Nat))).setIfInBounds 3 (.int .u8 (48 + n % 10 : Nat))
set_option maxRecDepth 100000 in
set_option maxHeartbeats 2000000 in
theorem base10_c (n : Nat) (hn : n ∈ [127, 128, 255]) (B : Nat) (w : World) (h : w.heap[B]? = some (.cells zero24 144 (0, 0))) :
    Calls Tryz.prog 98 #[.slice (some ⟨B, 1, none⟩) 3 23, .int .u64 n] w fun e w' => e = .returned (.tuple #[]) ∧ w'.heap[B]? = some (.cells (dig3 n) 144 (0, 0)) ∧ Chg (fun k => k = B) w w' := by
  have c1 : w.cell? ⟨B, 1, none⟩ = some (.int .u8 0) := cell_of_block h 1 _ rfl
  have c2 : w.cell? ⟨B, 2, none⟩ = some (.int .u8 0) := cell_of_block h 2 _ rfl
  have c3 : w.cell? ⟨B, 3, none⟩ = some (.int .u8 0) := cell_of_block h 3 _ rfl
  have hf := free_of_block h
  simp only [List.mem_cons, List.not_mem_nil, or_false] at hn
  rcases hn with rfl | rfl | rfl
  all_goals
    go_enter Tryz.func98, Tryz.ntmps98
    go_wp2
    refine wp_loop_rounds 1 ?_
    rw [rounds_succ]
    go_wp2
    go_region
    all_goals (try go_wp2)
    go_end0
    exact ⟨rfl, (block_setCell (block_setCell (block_setCell h 3 _) 2 _) 1 _).trans (by rfl), ((((Chg.refl _ _).set1 _).set1 _).set1 _).drew⟩
set_option maxRecDepth 100000 in
set_option maxHeartbeats 2000000 in
theorem format_c (n : Nat) (hn : n ∈ [127, 128, 255]) (w : World) (ht : w.cell? ⟨2, 2, none⟩ = some (.int .u64 100)) (h2 : 2 < w.heap.size) :
    Calls Tryz.prog 93 #[.int .i64 n, .int .i64 10] w fun e w' => e = .returned (.string (itoaB n)) ∧ Below w.heap.size w w' := by
  have hb : 100 ≤ n ∧ n ≤ 255 := by simp at hn; omega
  obtain ⟨hb1, hb2⟩ := hb
  have HN : Hid (n ∈ [127, 128, 255]) := hn
  clear hn
  go_enter Tryz.func93, Tryz.ntmps93
  go_wp2_with fail
  refine (numDigits_c n HN.out _ ?_).mono ?_
  · exact (Below.cell (((Below.refl w.heap.size w).alloc (Nat.le_refl _) _)) (p := ⟨2, 2, none⟩) h2).trans ht
  rintro e1 w1 ⟨rfl, rfl⟩
  go_wp2_with fail
  refine (base10_c n HN.out w.heap.size _ (heap_alloc_new _ _)).mono ?_
  rintro e2 w2 ⟨rfl, hb2', hc2⟩
  have d1 : w2.cell? ⟨w.heap.size, 1, none⟩ = some (.int .u8 (48 + n / 100 : Nat)) := cell_of_block hb2' 1 _ rfl
  have d2 : w2.cell? ⟨w.heap.size, 2, none⟩ = some (.int .u8 (48 + n / 10 % 10 : Nat)) := cell_of_block hb2' 2 _ rfl
  have d3 : w2.cell? ⟨w.heap.size, 3, none⟩ = some (.int .u8 (48 + n % 10 : Nat)) := cell_of_block hb2' 3 _ rfl
  have hconv : (convert 122 9 (.slice (some ⟨w.heap.size, 1, none⟩) 3 23)).run Tryz.prog w2 = .ok (.string (itoaB n)) w2 := by
    have hb := run_convert_bytes_back (P := Tryz.prog) w2 122 9 5 ⟨w.heap.size, 1, none⟩ 23 [UInt8.ofNat (48 + n / 100), UInt8.ofNat (48 + n / 10 % 10), UInt8.ofNat (48 + n % 10)] (by kernel_rfl) (by kernel_rfl) (by kernel_rfl) (fun j hj => by
      have hadd : ∀ j, (⟨w.heap.size, 1, none⟩ : Addr).add j = ⟨w.heap.size, 1 + j, none⟩ := by intro j; unfold Addr.add; split <;> simp_all
      rw [hadd]
      match j, hj with
      | 0, _ => refine d1.trans ?_; simp; omega
      | 1, _ => refine d2.trans ?_; simp; omega
      | 2, _ => refine d3.trans ?_; simp; omega)
    have e : itoaB n = ⟨[UInt8.ofNat (48 + n / 100), UInt8.ofNat (48 + n / 10 % 10), UInt8.ofNat (48 + n % 10)].toArray⟩ := by
      unfold itoaB; rw [if_neg (by omega), if_neg (by omega)]; rfl
    rw [e]; exact hb
  go_wp2_with fail
  go_ret
  exact ⟨rfl, ((Below.refl _ _).alloc (Nat.le_refl _) _).trans (hc2.below (by simp) (fun k hk e => by omega))⟩
set_option maxHeartbeats 1000000 in
theorem itoa_in (n : Nat) (hn : n ∈ [127, 128, 255]) (w : World) (ht : w.cell? ⟨2, 2, none⟩ = some (.int .u64 100)) (h2 : 2 < w.heap.size) :
    Calls Tryz.prog 90 #[.int .i64 n] w fun e w' => e = .returned (.string (itoaB n)) ∧ Below w.heap.size w w' := by
  have HT : Hid (w.cell? ⟨2, 2, none⟩ = some (.int .u64 100)) := ht
  have HN : Hid (n ∈ [127, 128, 255]) := hn
  have hb : n ≤ 255 := by simp at hn; omega
  clear ht hn
  go_enter Tryz.func90, Tryz.ntmps90
  go_wp2_with fail
  refine (format_c n HN.out _ HT.out h2).mono ?_
  rintro e1 w1 ⟨rfl, hb1⟩
  go_wp2_with fail
  go_ret
  exact ⟨rfl, hb1⟩
set_option maxHeartbeats 1000000 in
theorem itoa_great (n : Nat) (hn : n ∈ [127, 128, 255]) (w : World) (ht : w.cell? ⟨2, 2, none⟩ = some (.int .u64 100)) (h2 : 2 < w.heap.size) :
    Calls Tryz.prog 84 #[.int .i64 n] w fun e w' => e = .returned (.string (itoaB n)) ∧ Below w.heap.size w w' := by
  have HT : Hid (w.cell? ⟨2, 2, none⟩ = some (.int .u64 100)) := ht
  have HN : Hid (n ∈ [127, 128, 255]) := hn
  clear ht hn
  go_enter Tryz.func84, Tryz.ntmps84
  go_wp2_with fail
  refine (itoa_in n HN.out _ HT.out h2).mono ?_
  rintro e1 w1 ⟨rfl, hb1⟩
  go_wp2_with fail
  go_ret
  exact ⟨rfl, hb1⟩
end Go.Proofs.YtonooajnjgnmnaaGreatDoor
