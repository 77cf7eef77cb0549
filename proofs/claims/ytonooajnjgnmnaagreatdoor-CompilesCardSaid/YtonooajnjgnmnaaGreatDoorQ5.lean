/- Star, Plus; every part; a machine made. -/
import Derived.Shelf.Abstract
import Derived.Test.YtonooajnjgnmnaaGreatDoorQ4
namespace Go.Proofs.YtonooajnjgnmnaaGreatDoor
open Go.RowKit

set_option maxRecDepth 100000 in
set_option maxHeartbeats 2000000 in
theorem loop_any (d : Nat) (y : Px) (base : Nat) (w : World) (f q : Nat) (hen : Enters f) (hmk : Makes d y base w f q) (W : World) (m : Nat) (S : List St) (first : Int) (b : Nat) (hW : Below base w W) (hM : MIn W base m S first) (h1 : S.length + (2 + wtx d y) ≤ 9000) (h2 : tot S + (2 + wtx d y) ≤ 9000) :
    Calls Tryz.prog 88 #[.pointer (some ⟨m, 0, none⟩), fnv f q, .int .i64 b] W fun e w' => e = .returned (.tuple #[.int .i64 S.length, .int .i64 (mk d y (S ++ [(0, [b])]) S.length).2]) ∧
      MIn w' base m (leadS (mk d y (S ++ [(0, [b])]) S.length).1 S.length (mk d y (S ++ [(0, [b])]) S.length).2) first ∧ Below base W w' := by
  have HM : Hid (MIn W base m S first) := hM
  have hSl : S.length ≤ 9000 := by omega
  have hz : (S ++ [((0 : Nat), [b])]).length = S.length + 1 ∧ tot (S ++ [(0, [b])]) = tot S + 1 := by constructor <;> simp [tot]
  obtain ⟨Z, hZ⟩ : ∃ Z, Z = S ++ [((0 : Nat), [b])] := ⟨_, rfl⟩
  rw [← hZ] at hz ⊢
  have HE : Hid (Z = S ++ [((0 : Nat), [b])]) := hZ
  have hadd := mk_adds d y Z S.length
  have hcall := fun W1 (hb : Below base W W1) (hm : MIn W1 base m Z first) => hmk W1 m Z first S.length (hW.trans hb) hm (by omega) (by omega)
  obtain ⟨R, hR⟩ : ∃ R, R = mk d y Z S.length := ⟨_, rfl⟩
  rw [← hR] at hadd ⊢
  have HB : Hid (S.length < R.1.length ∧ R.1.length ≤ 9000 ∧ tot R.1 ≤ 9000) := by
    obtain ⟨a1, a2, a3⟩ := hadd
    exact ⟨by omega, by omega, by omega⟩
  have HK : Hid (∀ W1, Below base W W1 → MIn W1 base m Z first → Calls Tryz.prog f #[.pointer (some ⟨m, 0, none⟩), .int .i64 S.length, .pointer (some ⟨q, 0, none⟩)] W1 fun e w' => e = .returned (.int .i64 R.2) ∧ MIn w' base m R.1 first ∧ Below base W1 w') := by
    intro W1 hb hm
    have := hcall W1 hb hm
    rw [← hR] at this
    exact this
  clear hM h1 h2 hz hZ hcall hadd hR hmk
  unfold Enters at hen
  unfold fnv
  go_enter Tryz.func88, Tryz.ntmps88
  go_wp2_with fail
  refine (add_new base m S first 0 b W HM.out hSl).mono ?_
  rintro e1 w1 ⟨rfl, h3, h4⟩
  rw [← HE.out] at h3
  have H3 : Hid (MIn w1 base m Z first) := h3
  clear h3
  go_wp2_with fail
  refine (HK.out w1 h4 H3.out).mono ?_
  rintro e2 w2 ⟨rfl, h5, h6⟩
  have H5 : Hid (MIn w2 base m R.1 first) := h5
  clear h5
  go_wp2_with fail
  refine (lead_new base m R.1 first S.length R.2 w2 H5.out HB.out.1 HB.out.2.1 HB.out.2.2).mono ?_
  rintro e3 w3 ⟨rfl, h7, h8⟩
  have H7 : Hid (MIn w3 base m (leadS R.1 S.length R.2) first) := h7
  clear h7
  go_wp2_with fail
  go_ret2
  exact ⟨rfl, H7.out, (h4.trans h6).trans h8⟩

set_option maxHeartbeats 1000000 in
theorem star_call (d : Nat) (hd : PartOk d) (x y : Px) (base : Nat) (w : World) (q : Nat) (u : Value) (hx : x.what = 3) (hl : x.l = [y]) (hq : q < base) (hbw : base ≤ w.heap.size) (h : w.heap[q]? = some (.cells #[u] 70 (0, 0)))
    (hp : PIn d (fun k => k < base) w u y) : Makes (d + 1) x base w 87 q := by
  intro W m S first b hW hM h1 h2
  obtain ⟨f, q', rfl, hen, hmk⟩ := hd _ _ _ _ hp hbw
  have e : mk (d + 1) x S b = (leadS (mk d y (S ++ [(0, [b])]) S.length).1 S.length (mk d y (S ++ [(0, [b])]) S.length).2, S.length) := by
    rw [mk, if_neg (by omega), if_neg (by omega), if_neg (by omega), hl]; simp [hx]
  have e2 : wtx (d + 1) x = 2 + wtx d y := by rw [wtx, if_neg (by omega), if_neg (by omega), if_neg (by omega), hl]; simp
  rw [e2] at h1 h2
  rw [e]
  have hcall := loop_any d y base w f q' hen hmk W m S first b hW hM h1 h2
  obtain ⟨R, hR⟩ : ∃ R, R = mk d y (S ++ [(0, [b])]) S.length := ⟨_, rfl⟩
  rw [← hR] at hcall ⊢
  have HK : Hid (Calls Tryz.prog 88 #[.pointer (some ⟨m, 0, none⟩), fnv f q', .int .i64 b] W fun e w' => e = .returned (.tuple #[.int .i64 S.length, .int .i64 R.2]) ∧ MIn w' base m (leadS R.1 S.length R.2) first ∧ Below base W w') := hcall
  have c0 := cell_of_block (box_on hq hW h) 0 _ rfl
  clear hcall hmk hM h1 h2 e e2 hp h hR hx hl
  obtain ⟨v, hv⟩ : ∃ v, v = fnv f q' := ⟨_, rfl⟩
  rw [← hv] at HK c0
  clear hv
  go_enter Tryz.func87, Tryz.ntmps87
  go_wp2_with fail
  refine HK.out.mono ?_
  rintro e1 w1 ⟨rfl, h3, h4⟩
  have H3 : Hid (MIn w1 base m (leadS R.1 S.length R.2) first) := h3
  clear h3
  go_wp2_with fail
  go_ret
  exact ⟨rfl, H3.out, h4⟩

set_option maxHeartbeats 1000000 in
theorem plus_call (d : Nat) (hd : PartOk d) (x y : Px) (base : Nat) (w : World) (q : Nat) (u : Value) (hx : x.what = 4) (hl : x.l = [y]) (hq : q < base) (hbw : base ≤ w.heap.size) (h : w.heap[q]? = some (.cells #[u] 70 (0, 0)))
    (hp : PIn d (fun k => k < base) w u y) : Makes (d + 1) x base w 89 q := by
  intro W m S first b hW hM h1 h2
  obtain ⟨f, q', rfl, hen, hmk⟩ := hd _ _ _ _ hp hbw
  have e : mk (d + 1) x S b = (leadS (mk d y (S ++ [(0, [b])]) S.length).1 S.length (mk d y (S ++ [(0, [b])]) S.length).2, (mk d y (S ++ [(0, [b])]) S.length).2) := by
    rw [mk, if_neg (by omega), if_neg (by omega), if_neg (by omega), hl]; simp [hx]
  have e2 : wtx (d + 1) x = 2 + wtx d y := by rw [wtx, if_neg (by omega), if_neg (by omega), if_neg (by omega), hl]; simp
  rw [e2] at h1 h2
  rw [e]
  have hcall := loop_any d y base w f q' hen hmk W m S first b hW hM h1 h2
  obtain ⟨R, hR⟩ : ∃ R, R = mk d y (S ++ [(0, [b])]) S.length := ⟨_, rfl⟩
  rw [← hR] at hcall ⊢
  have HK : Hid (Calls Tryz.prog 88 #[.pointer (some ⟨m, 0, none⟩), fnv f q', .int .i64 b] W fun e w' => e = .returned (.tuple #[.int .i64 S.length, .int .i64 R.2]) ∧ MIn w' base m (leadS R.1 S.length R.2) first ∧ Below base W w') := hcall
  have c0 := cell_of_block (box_on hq hW h) 0 _ rfl
  clear hcall hmk hM h1 h2 e e2 hp h hR hx hl
  obtain ⟨v, hv⟩ : ∃ v, v = fnv f q' := ⟨_, rfl⟩
  rw [← hv] at HK c0
  clear hv
  go_enter Tryz.func89, Tryz.ntmps89
  go_wp2_with fail
  refine HK.out.mono ?_
  rintro e1 w1 ⟨rfl, h3, h4⟩
  have H3 : Hid (MIn w1 base m (leadS R.1 S.length R.2) first) := h3
  clear h3
  go_wp2_with fail
  go_ret
  exact ⟨rfl, H3.out, h4⟩

/-- Every part makes its states. -/
theorem part_ok : ∀ d, PartOk d := by
  intro d
  induction d with
  | zero => intro x v base w h; exact h.elim
  | succ d ih =>
    intro x v base w h hb
    obtain ⟨q, hq, h⟩ := h
    rcases h with ⟨h1, h2, h3, _⟩ | ⟨h1, h2, vR, h3, h4⟩ | ⟨h1, h2, vR, h3, h4⟩ | ⟨h1, h2, u, y, h3, h4, h5⟩ | ⟨h1, h2, u, y, h3, h4, h5⟩
    · exact ⟨_, q, h2, enters_of Tryz.func95 (by kernel_rfl) rfl, one_call d x base w q h1 hq h3⟩
    · exact ⟨_, q, h2, enters_of Tryz.func52 (by kernel_rfl) rfl, row_call d ih x base w q vR h1 hq hb h3 h4⟩
    · exact ⟨_, q, h2, enters_of Tryz.func65 (by kernel_rfl) rfl, either_call d ih x base w q vR h1 hq hb h3 h4⟩
    · exact ⟨_, q, h2, enters_of Tryz.func87 (by kernel_rfl) rfl, star_call d ih x y base w q u h1 h3 hq hb h4 h5⟩
    · exact ⟨_, q, h2, enters_of Tryz.func89 (by kernel_rfl) rfl, plus_call d ih x y base w q u h1 h3 hq hb h4 h5⟩
end Go.Proofs.YtonooajnjgnmnaaGreatDoor
