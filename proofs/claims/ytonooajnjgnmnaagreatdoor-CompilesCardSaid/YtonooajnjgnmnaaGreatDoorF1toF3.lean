/- cleave.Compile as at the first stage. -/
import Derived.Deep.QuietTactic
import Derived.BigQuiet
import Derived.Test.YtonooajnjgnmnaaGreatDoorE1toE2
import Derived.Test.YtonooajnjgnmnaaGreatDoorZ3toZ5
import Derived.Test.YtonooajnjgnmnaaGreatDoorW19toW20
namespace Go.Proofs.YtonooajnjgnmnaaGreatDoor
open Go.RowKit

set_option maxRecDepth 100000 in
set_option maxHeartbeats 2000000 in
theorem read_big (T : ByteArray) (w : World) (hT : 1000 < T.size) (hT2 : T.size ≤ 140737488351232) :
    Calls Tryz.prog 8 #[.string T] w fun r w' => Below w.heap.size w w' ∧ ∃ vE vL, r = .returned (.tuple #[.agg #[vE, vL], .int .i64 (RS.read T).err, .int .i64 (RS.read T).place]) ∧ (∃ a b c, vE = .slice a b c) ∧ ∃ a b c, vL = .slice a b c := by
  have hfin : Hid ((RS.read T).err = 1 ∧ (RS.read T).place = 0) := by
    show _ ∧ _
    have : RS.read T = RS.start.fail 1 0 := by unfold RS.read; rw [if_pos hT]
    rw [this]; exact ⟨rfl, rfl⟩
  rw [hfin.out.1, hfin.out.2]
  go_enter Tryz.func8, Tryz.ntmps8
  go_wp2_with fail
  refine bodyPost_ret (results_ctt rfl _ _ w.heap.size 42 #[.slice none 0 0, .slice none 0 0] (0, 0) _ rfl (heap_alloc_new _ _) Tryz.underlying42 rfl (by kernel_rfl)) rfl ?_
  exact ⟨(Below.refl _ _).alloc (Nat.le_refl _) _, .slice none 0 0, .slice none 0 0, rfl, ⟨_, _, _, rfl⟩, _, _, _, rfl⟩

theorem read_err0 (T : ByteArray) (h : (RS.read T).err = 0) : (RS.read T).place = 0 := by
  by_cases h1 : T.size ≤ 1000
  · exact (read_z T h1).2.1 h
  · have : RS.read T = RS.start.fail 1 0 := by unfold RS.read; rw [if_pos (by omega)]
    rw [this] at h; exact absurd h (by decide)

/-- What a Read answers, whatever the text. -/
theorem read_all (T : ByteArray) (w : World) (hE : ErrsOk w) (hT2 : T.size ≤ 140737488351232) :
    Calls Tryz.prog 8 #[.string T] w fun r w' => Below w.heap.size w w' ∧ ∃ vE vL, r = .returned (.tuple #[.agg #[vE, vL], .int .i64 (RS.read T).err, .int .i64 (RS.read T).place]) ∧ (∃ a b c, vE = .slice a b c) ∧ ∃ a b c, vL = .slice a b c := by
  by_cases h : T.size ≤ 1000
  · obtain ⟨e1, e2, e3⟩ := read_z T h
    refine (read_pr _ T w (addOk_e _) hE h).mono ?_
    rintro r w' ⟨hb, vE, vL, rfl, hx, hy⟩
    have e4 : (if (readP T).f = 0 then 0 else (readP T).pl) = (RS.read T).place := by
      by_cases h0 : (RS.read T).err = 0
      · rw [if_pos (e1.trans h0), e2 h0]
      · rw [if_neg (by rw [e1]; exact h0), e3 h0]
    rw [e4, e1]
    refine ⟨hb, vE, vL, rfl, ?_⟩
    by_cases h0 : (readP T).f = 0
    · obtain ⟨ao, cap, e⟩ := row_shape (hx h0).1
      obtain ⟨_, _, h2, _⟩ := (hx h0).2
      obtain ⟨ao', cap', e'⟩ := row_shape h2
      exact ⟨⟨_, _, _, e⟩, _, _, _, e'⟩
    · exact ⟨⟨_, _, _, (hy h0).1⟩, _, _, _, (hy h0).2⟩
  · exact read_big T w (by omega) hT2

theorem results_ttt {P : Program} {fn : Func} {p u v : Tmp} (h : fn.results = #[.tmp p, .tmp u, .tmp v]) (tmps : Array Value) (w : World) :
    (results fn tmps).run P w = .ok (.tuple #[tmps.getD p undef, tmps.getD u undef, tmps.getD v undef]) w := by
  simp [results, h]

/-- What a Compile answers, whatever the text. -/
def CompPost (T : ByteArray) (w : World) (r : Ending) (w' : World) : Prop :=
  Below w.heap.size w w' ∧ ∃ vR, r = .returned (.tuple #[vR, .int .i64 (RS.read T).err, .int .i64 (RS.read T).place]) ∧ ((RS.read T).err = 0 → ∃ g, vR = .pointer (some g)) ∧ ((RS.read T).err ≠ 0 → vR = .pointer none)

set_option maxRecDepth 100000 in
set_option maxHeartbeats 2000000 in
theorem compile_all (T : ByteArray) (w : World) (hE : ErrsOk w) (hT2 : T.size ≤ 140737488351232) :
    Calls Tryz.prog 5 #[.string T] w (CompPost T w) := by
  have HZ : Hid ((RS.read T).err = 0 → (RS.read T).place = 0) := read_err0 T
  have HRA := read_all T w hE hT2
  unfold CompPost
  generalize (RS.read T).err = ee at *
  generalize (RS.read T).place = pp at *
  go_enter Tryz.func5, Tryz.ntmps5
  go_wp2_with fail
  refine HRA.mono ?_
  rintro r w1 ⟨hb, _, _, rfl, ⟨aE, nE, cE, rfl⟩, aL, nL, cL, rfl⟩
  have HB : Hid (Below w.heap.size w w1) := hb
  clear hb hE HRA
  by_cases h0 : ee = 0
  · have k0 : (ee == 0) = true := by rw [beq_iff_eq]; exact h0
    have K0 : Hid (ee = 0) := h0
    clear h0
    go_wp2_with fail
    refine bodyPost_ret (results_ttt rfl _ _) rfl ?_
    obtain rfl := K0.out
    obtain rfl := HZ.out rfl
    exact ⟨((HB.out.alloc HB.out.size _).alloc (by simp; have := HB.out.size; omega) _), _, rfl, fun _ => ⟨_, rfl⟩, fun h => absurd rfl h⟩
  · have k0 : (ee == 0) = false := by rw [beq_eq_false_iff_ne]; exact h0
    have K0 : Hid (ee ≠ 0) := h0
    clear h0
    go_wp2_with fail
    refine bodyPost_ret (results_ttt rfl _ _) rfl ?_
    exact ⟨HB.out.alloc HB.out.size _, _, rfl, fun h => absurd h K0.out, fun _ => rfl⟩
end Go.Proofs.YtonooajnjgnmnaaGreatDoor
/- The law Compiles as at the first stage. -/
namespace Go.Proofs.YtonooajnjgnmnaaGreatDoor
open Go.RowKit

theorem empty_read : (RS.read ⟨#[]⟩).err = 0 ∧ (RS.read ⟨#[]⟩).place = 0 := ⟨by kernel_rfl, by kernel_rfl⟩
theorem cut_read : (RS.read ⟨#[99, 117, 116]⟩).err = 2 ∧ (RS.read ⟨#[99, 117, 116]⟩).place = 3 := ⟨by kernel_rfl, by kernel_rfl⟩

set_option maxRecDepth 100000 in
set_option maxHeartbeats 2000000 in
theorem takes_pr (w : World) (hE : ErrsOk w) :
    Calls Tryz.prog 4 #[] w fun r w' => r = .returned (.bool true) ∧ Below w.heap.size w w' := by
  have HE : Hid (ErrsOk w) := hE
  clear hE
  go_enter Tryz.func4, Tryz.ntmps4
  go_wp2_with fail
  refine (compile_all _ w HE.out (by decide)).mono ?_
  rintro r w1 ⟨b1, v1, rfl, h1, -⟩
  obtain ⟨g, rfl⟩ := h1 empty_read.1
  rw [empty_read.1, empty_read.2]
  clear h1
  go_wp2_with fail
  refine (compile_all _ w1 (HE.out.below b1) (by decide)).mono ?_
  rintro r w2 ⟨b2, v2, rfl, -, h2⟩
  obtain rfl := h2 (by rw [cut_read.1]; decide)
  rw [cut_read.1, cut_read.2]
  clear h2
  go_wp2_with fail
  go_ret
  exact ⟨rfl, b1.trans (b2.mono b1.size)⟩
theorem num_pr (n : Int) (w : World) : Calls Tryz.prog 7 #[.int .i64 n] w fun r w' => r = .returned (.int .i64 n) ∧ w' = w := by
  go_enter Tryz.func7, Tryz.ntmps7
  go_wp2_with fail
  go_ret
  exact ⟨rfl, rfl⟩
end Go.Proofs.YtonooajnjgnmnaaGreatDoor
/- The law Compiles as at the first stage: its walk. -/
namespace Go.Proofs.YtonooajnjgnmnaaGreatDoor
open Go.RowKit

theorem TabOK.below {w w' : World} (h : TabOK w) (hb : Below w.heap.size w w') : TabOK w' := (hb.cell (p := ⟨2, 2, none⟩) (cell_lt h)).trans h

set_option maxRecDepth 100000 in
set_option maxHeartbeats 2000000 in
theorem compiles_pr (T : ByteArray) (w : World) (hE : ErrsOk w) (hTab : TabOK w) (hT2 : T.size ≤ 140737488351232) :
    Calls Tryz.prog 3 #[.string T] w fun r w' => r = .returned (.bool true) ∧ Below w.heap.size w w' := by
  have HE : Hid (ErrsOk w) := hE
  have HTab : Hid (TabOK w) := hTab
  clear hE hTab
  go_enter Tryz.func3, Tryz.ntmps3
  go_wp2_with fail
  refine (takes_pr w HE.out).mono ?_
  rintro r w1 ⟨rfl, b1⟩
  go_wp2_with fail
  refine (compile_all T w1 (HE.out.below b1) hT2).mono ?_
  rintro r w2 ⟨b2, vR, rfl, h1, h2⟩
  have b12 : Hid (Below w.heap.size w w2) := b1.trans (b2.mono b1.size)
  have hlt : 2 < w2.heap.size := Nat.lt_of_lt_of_le (cell_lt HTab.out) b12.out.size
  have hra := read_any T w2 _ rfl (HTab.out.below b12.out) hlt hT2
  revert h1 h2 hra
  generalize (RS.read T).err = ee
  generalize (RS.read T).place = pp
  intro h1 h2 hra
  go_wp2_with fail
  refine hra.mono ?_
  rintro r w3 ⟨rfl, c2, c3, b3, -⟩
  have B3 : Hid (Below w2.heap.size w2 w3) := b3
  clear hra b1 b2 b3
  by_cases h0 : ee = 0
  · obtain ⟨g, rfl⟩ := h1 h0
    subst h0
    clear h1 h2
    go_wp2_with fail
    go_quiet ((go_at_call 7; exact Calls.quiet_of_same (num_pr _ _)))
    go_wp2_with fail
    go_ret
    exact ⟨rfl, b12.out.trans ((bdrew B3.out _).mono b12.out.size)⟩
  · obtain rfl := h2 h0
    have k0 : (ee == 0) = false := by rw [beq_eq_false_iff_ne]; exact h0
    clear h1 h2 h0
    go_wp2_with fail
    go_quiet ((go_at_call 7; exact Calls.quiet_of_same (num_pr _ _)))
    go_wp2_with fail
    go_ret
    exact ⟨rfl, b12.out.trans ((bdrew B3.out _).mono b12.out.size)⟩
end Go.Proofs.YtonooajnjgnmnaaGreatDoor
