/- Parts, called: each makes its states. -/
import Derived.Test.YtonooajnjgnmnaaGreatDoorQ3
namespace Go.Proofs.YtonooajnjgnmnaaGreatDoor
open Go.RowKit

/-- What a call of a part does. -/
def Makes (d : Nat) (x : Px) (base : Nat) (w : World) (f q : Nat) : Prop :=
  ∀ (W : World) (m : Nat) (S : List St) (first : Int) (b : Nat), Below base w W → MIn W base m S first → S.length + wtx d x ≤ 9000 → tot S + wtx d x ≤ 9000 →
    Calls Tryz.prog f #[.pointer (some ⟨m, 0, none⟩), .int .i64 b, .pointer (some ⟨q, 0, none⟩)] W fun e w' => e = .returned (.int .i64 (mk d x S b).2) ∧ MIn w' base m (mk d x S b).1 first ∧ Below base W w'
def Enters (f : Nat) : Prop := ∀ (args : Array Value) (w : World), (callFunc f args).run Tryz.prog w = .ok (.enter f args) w
def PartOk (d : Nat) : Prop := ∀ (x : Px) (v : Value) (base : Nat) (w : World), PIn d (fun k => k < base) w v x → base ≤ w.heap.size → ∃ f q, v = fnv f q ∧ Enters f ∧ Makes d x base w f q

theorem box_on {base q : Nat} {w W : World} {cs : Array Value} {t : TypeId} (hq : q < base) (hb : Below base w W) (h : w.heap[q]? = some (.cells cs t (0, 0))) : W.heap[q]? = some (.cells cs t (0, 0)) := by rw [hb.block q hq]; exact h

set_option maxHeartbeats 1000000 in
theorem one_call (d : Nat) (x : Px) (base : Nat) (w : World) (q : Nat) (hx : x.what = 0) (hq : q < base) (h : w.heap[q]? = some (.cells #[.int .u8 x.k] 97 (0, 0))) : Makes (d + 1) x base w 95 q := by
  intro W m S first b hW hM h1 h2
  have e : mk (d + 1) x S b = (S ++ [(x.k, [b])], S.length) := by rw [mk, if_pos hx]
  have e2 : wtx (d + 1) x = 1 := by rw [wtx, if_pos hx]
  rw [e2] at h1
  rw [e]
  have c0 := cell_of_block (box_on hq hW h) 0 _ rfl
  have HM : Hid (MIn W base m S first) := hM
  clear hM e e2 h h2
  go_enter Tryz.func95, Tryz.ntmps95
  go_wp2_with fail
  refine (add_new base m S first x.k b W HM.out (by omega)).mono ?_
  rintro e1 w1 ⟨rfl, h3, h4⟩
  have H3 : Hid (MIn w1 base m (S ++ [(x.k, [b])]) first) := h3
  clear h3
  go_wp2_with fail
  go_ret
  exact ⟨rfl, H3.out, h4⟩

/-- The states of a row's parts from the k-th on. -/
def rowF (d : Nat) (l : List Px) (k : Nat) (S : List St) (b : Nat) : List St × Nat := (l.drop k).foldr (fun y r => mk d y r.1 r.2) (S, b)
theorem rowF_step (d : Nat) (l : List Px) (k : Nat) (h : k < l.length) (S : List St) (b : Nat) : rowF d l k S b = mk d l[k] (rowF d l (k + 1) S b).1 (rowF d l (k + 1) S b).2 := by
  unfold rowF; rw [List.drop_eq_getElem_cons h]; rfl
theorem rowF_adds (d : Nat) (l : List Px) (S : List St) (b : Nat) : ∀ k, Adds ((l.drop k).map (wtx d)).sum S (rowF d l k S b).1 := by
  intro k
  unfold rowF
  induction l.drop k with
  | nil => simp [Adds]
  | cons y l ih => rw [List.foldr_cons, List.map_cons, List.sum_cons]; exact ih.trans (mk_adds d y _ _) (by omega)
theorem sum_drop {f : Px → Nat} (l : List Px) (k : Nat) (h : k < l.length) : ((l.drop k).map f).sum = f l[k] + ((l.drop (k + 1)).map f).sum := by
  rw [List.drop_eq_getElem_cons h, List.map_cons, List.sum_cons]
theorem sum_drop_le {f : Px → Nat} (l : List Px) : ∀ k, ((l.drop k).map f).sum ≤ (l.map f).sum := by
  induction l with
  | nil => simp
  | cons a l ih => intro k; cases k with
    | zero => simp
    | succ k => have := ih k; rw [List.drop_succ_cons, List.map_cons, List.sum_cons]; omega
/-- The parts of a row, for a walk. -/
theorem PtRow.form {R : Value → Px → Prop} {A : Nat → Prop} {w : World} {v : Value} {l : List Px} (h : PtRow R A w v l) :
    ∃ ao cap, v = .slice ao l.length cap ∧ ∀ i (hi : i < l.length), ∃ g u, ao = some ⟨g, 0, none⟩ ∧ A g ∧ w.cell? ⟨g, i, none⟩ = some u ∧ R u l[i] := by
  obtain ⟨us, h1, _, ⟨h2, h3⟩, h4, h5⟩ := h
  rcases h3 with ⟨hv, hn⟩ | ⟨g, cap, cur, hv, hg, hh, hcap, hmx, hsz, hcur⟩
  · exact ⟨none, 0, by rw [hv, hn], fun i hi => by omega⟩
  · refine ⟨some ⟨g, 0, none⟩, cap, hv, fun i hi => ?_⟩
    obtain ⟨u, hu⟩ : ∃ u, us[i]? = some u := ⟨us[i]'(by omega), List.getElem?_eq_getElem (by omega)⟩
    refine ⟨g, u, rfl, h4 g (by rw [hv]; rfl), ?_, h5 i _ _ hu (List.getElem?_eq_getElem hi)⟩
    refine cell_of_block hh i _ ?_
    have e1 : (cur.toList.take (l.length * 1))[i]? = some u := by rw [hcur]; exact hu
    rw [List.getElem?_take, if_pos (by omega)] at e1
    simpa using e1

set_option maxRecDepth 100000 in
set_option maxHeartbeats 4000000 in
theorem row_call (d : Nat) (hd : PartOk d) (x : Px) (base : Nat) (w : World) (q : Nat) (vR : Value) (hx : x.what = 1) (hq : q < base) (hbw : base ≤ w.heap.size) (h : w.heap[q]? = some (.cells #[vR] 111 (0, 0)))
    (hr : PtRow (PIn d (fun k => k < base) w) (fun k => k < base) w vR x.l) : Makes (d + 1) x base w 52 q := by
  intro W m S first b hW hM h1 h2
  have e : mk (d + 1) x S b = rowF d x.l 0 S b := by rw [mk, if_neg (by omega), if_pos hx]; rfl
  have e2 : wtx (d + 1) x = (x.l.map (wtx d)).sum := by rw [wtx, if_neg (by omega), if_pos hx]
  rw [e2] at h1 h2
  rw [e]
  obtain ⟨l, hl⟩ : ∃ l, l = x.l := ⟨_, rfl⟩
  rw [← hl] at hr h1 h2 ⊢
  have hlen := hr.len
  obtain ⟨ao, cap, rfl, hcs⟩ := hr.form
  have c0 := cell_of_block (box_on hq hW h) 0 _ rfl
  have HM : Hid (MIn W base m S first) := hM
  have HC : Hid (∀ i (hi : i < l.length), ∃ g u, ao = some ⟨g, 0, none⟩ ∧ g < base ∧ w.cell? ⟨g, i, none⟩ = some u ∧ PIn d (fun k => k < base) w u l[i]) := hcs
  have HS : Hid (S.length + (l.map (wtx d)).sum ≤ 9000 ∧ tot S + (l.map (wtx d)).sum ≤ 9000) := ⟨h1, h2⟩
  clear hM hr hcs hl e e2 hx h h1 h2
  go_enter Tryz.func52, Tryz.ntmps52
  go_wp2_with fail
  go_loopg [1, 6] l.length (fun g bv iv wx => ∃ k : Nat, k ≤ l.length ∧ g = k ∧ iv = .int .i64 ((k : Int) - 1) ∧ bv = .int .i64 (rowF d l k S b).2 ∧ Hid (MIn wx base m (rowF d l k S b).1 first) ∧ Below base W wx)
  case atStart => exact ⟨l.length, Nat.le_refl _, rfl, rfl, by unfold rowF; simp, by unfold rowF; simpa using HM, Below.refl _ _⟩
  case round =>
    obtain ⟨k, hk, hgk, rfl, rfl, hM1, hb1⟩ := hrel
    have hgk' : k = gk := hgk.symm
    subst hgk'
    clear hgk
    obtain ⟨w1, hw1⟩ : ∃ w1, w1 = wr := ⟨wr, rfl⟩
    subst hw1
    have c1 := (hb1.cell (p := ⟨q, 0, none⟩) hq).trans c0
    cases k with
    | zero =>
      go_wp2_with fail
      go_ret
      exact ⟨rfl, hM1.out, hb1⟩
    | succ k =>
      obtain ⟨g, u, rfl, hg, hu, hp⟩ := HC.out k (by omega)
      obtain ⟨f, q', rfl, hen, hmk⟩ := hd _ _ _ _ hp hbw
      have hu1 : w1.cell? ⟨g, k, none⟩ = some (fnv f q') := (hb1.cell (p := ⟨g, k, none⟩) hg).trans ((hW.cell (p := ⟨g, k, none⟩) hg).trans hu)
      have hst := rowF_step d l k (by omega) S b
      have had := rowF_adds d l S b (k + 1)
      have hsd := sum_drop (f := wtx d) l k (by omega)
      have hsl := sum_drop_le (f := wtx d) l k
      have hcall := hmk w1 m (rowF d l (k + 1) S b).1 first (rowF d l (k + 1) S b).2 (hW.trans hb1) hM1.out (by have := HS.out; have := had.2.1; omega) (by have := HS.out; have := had.2.2; omega)
      rw [← hst] at hcall
      have HK : Hid (Calls Tryz.prog f #[.pointer (some ⟨m, 0, none⟩), .int .i64 (rowF d l (k + 1) S b).2, .pointer (some ⟨q', 0, none⟩)] w1 fun e w' => e = .returned (.int .i64 (rowF d l k S b).2) ∧ MIn w' base m (rowF d l k S b).1 first ∧ Below base w1 w') := hcall
      clear hcall hmk hst had hsd hsl hp hu
      unfold Enters at hen
      unfold fnv at hu1
      go_wp2_with fail
      refine HK.out.mono ?_
      rintro e1 w2 ⟨rfl, h3, h4⟩
      have H3 : Hid (MIn w2 base m (rowF d l k S b).1 first) := h3
      clear h3
      go_wp2_with fail
      go_roundg k
      case measure => omega
      case rel => exact ⟨k, by omega, rfl, by go_num, rfl, H3, hb1.trans h4⟩

/-- The states of 'either' behind its first k ways. -/
def eithF (d : Nat) (l : List Px) (k : Nat) (Z : List St) (f b : Nat) : List St := (l.take k).foldl (fun Z y => leadS (mk d y Z b).1 f (mk d y Z b).2) Z
theorem eithF_step (d : Nat) (l : List Px) (k : Nat) (h : k < l.length) (Z : List St) (f b : Nat) : eithF d l (k + 1) Z f b = leadS (mk d l[k] (eithF d l k Z f b) b).1 f (mk d l[k] (eithF d l k Z f b) b).2 := by
  unfold eithF; rw [List.take_succ_eq_append_getElem h, List.foldl_append]; rfl
theorem eithF_adds (d : Nat) (l : List Px) (f b : Nat) : ∀ (k : Nat) (Z : List St), Adds ((l.take k).map fun y => 1 + wtx d y).sum Z (eithF d l k Z f b) := by
  intro k
  unfold eithF
  induction l.take k with
  | nil => intro Z; simp [Adds]
  | cons y l ih =>
    intro Z
    rw [List.foldl_cons, List.map_cons, List.sum_cons]
    have h2 : Adds 1 (mk d y Z b).1 (leadS (mk d y Z b).1 f (mk d y Z b).2) := ⟨by rw [leadS_len]; omega, by rw [leadS_len]; omega, leadS_tot _ _ _⟩
    exact ((mk_adds d y Z b).trans h2 (Nat.le_refl _)).trans (ih _) (by omega)
theorem sum_take {f : Px → Nat} (l : List Px) (k : Nat) (h : k < l.length) : ((l.take (k + 1)).map f).sum = ((l.take k).map f).sum + f l[k] := by
  rw [List.take_succ_eq_append_getElem h, List.map_append, List.sum_append]; simp
theorem sum_take_le {f : Px → Nat} (l : List Px) : ∀ k, ((l.take k).map f).sum ≤ (l.map f).sum := by
  induction l with
  | nil => simp
  | cons a l ih => intro k; cases k with
    | zero => simp
    | succ k => have := ih k; rw [List.take_succ_cons, List.map_cons, List.sum_cons, List.map_cons, List.sum_cons]; omega

set_option maxRecDepth 100000 in
set_option maxHeartbeats 4000000 in
theorem either_call (d : Nat) (hd : PartOk d) (x : Px) (base : Nat) (w : World) (q : Nat) (vR : Value) (hx : x.what = 2) (hq : q < base) (hbw : base ≤ w.heap.size) (h : w.heap[q]? = some (.cells #[vR] 111 (0, 0)))
    (hr : PtRow (PIn d (fun k => k < base) w) (fun k => k < base) w vR x.l) : Makes (d + 1) x base w 65 q := by
  intro W m S first b hW hM h1 h2
  have e : mk (d + 1) x S b = (eithF d x.l x.l.length (S ++ [(0, [])]) S.length b, S.length) := by rw [mk, if_neg (by omega), if_neg (by omega), if_pos hx]; unfold eithF; rw [List.take_length]
  have e2 : wtx (d + 1) x = 1 + (x.l.map fun y => 1 + wtx d y).sum := by rw [wtx, if_neg (by omega), if_neg (by omega), if_pos hx]
  rw [e2] at h1 h2
  rw [e]
  obtain ⟨l, hl⟩ : ∃ l, l = x.l := ⟨_, rfl⟩
  rw [← hl] at hr h1 h2 ⊢
  obtain ⟨ao, cap, rfl, hcs⟩ := hr.form
  have hlen : l.length ≤ 9000 := by
    have : ∀ l : List Px, l.length ≤ (l.map fun y => 1 + wtx d y).sum := by
      intro l; induction l with
      | nil => simp
      | cons a l ih => rw [List.map_cons, List.sum_cons, List.length_cons]; omega
    have := this l; omega
  have c0 := cell_of_block (box_on hq hW h) 0 _ rfl
  have HM : Hid (MIn W base m S first) := hM
  have HC : Hid (∀ i (hi : i < l.length), ∃ g u, ao = some ⟨g, 0, none⟩ ∧ g < base ∧ w.cell? ⟨g, i, none⟩ = some u ∧ PIn d (fun k => k < base) w u l[i]) := hcs
  have HS : Hid (S.length + (1 + (l.map fun y => 1 + wtx d y).sum) ≤ 9000 ∧ tot S + (1 + (l.map fun y => 1 + wtx d y).sum) ≤ 9000) := ⟨h1, h2⟩
  have hSl : S.length ≤ 9000 := by omega
  have hz : (S ++ [((0 : Nat), ([] : List Nat))]).length = S.length + 1 ∧ tot (S ++ [(0, [])]) = tot S := by constructor <;> simp [tot]
  obtain ⟨Z, hZ⟩ : ∃ Z, Z = S ++ [((0 : Nat), ([] : List Nat))] := ⟨_, rfl⟩
  rw [← hZ] at hz ⊢
  have HZ : Hid (Z.length = S.length + 1 ∧ tot Z = tot S) := hz
  have HE : Hid (Z = S ++ [((0 : Nat), ([] : List Nat))]) := hZ
  clear hM hr hcs hl e e2 hx h h1 h2 hz hZ
  go_enter Tryz.func65, Tryz.ntmps65
  go_wp2_with fail
  refine (add_nil base m S first 0 W HM.out hSl).mono ?_
  rintro e1 w0 ⟨rfl, h3, h4⟩
  rw [← HE.out] at h3
  have H3 : Hid (MIn w0 base m Z first) := h3
  clear h3
  have c1 := (h4.cell (p := ⟨q, 0, none⟩) hq).trans c0
  go_wp2_with fail
  go_loopg [13] l.length (fun g iv wx => ∃ k : Nat, k ≤ l.length ∧ g = l.length - k ∧ iv = .int .i64 k ∧ Hid (MIn wx base m (eithF d l k Z S.length b) first) ∧ Below base W wx)
  case atStart => exact ⟨0, Nat.zero_le _, rfl, rfl, by unfold eithF; simpa using H3, h4⟩
  case round =>
    obtain ⟨k, hk, rfl, rfl, hM1, hb1⟩ := hrel
    obtain ⟨w1, hw1⟩ : ∃ w1, w1 = wr := ⟨wr, rfl⟩
    subst hw1
    by_cases hlt : k < l.length
    · obtain ⟨g, u, rfl, hg, hu, hp⟩ := HC.out k hlt
      obtain ⟨f, q', rfl, hen, hmk⟩ := hd _ _ _ _ hp hbw
      have hu1 : w1.cell? ⟨g, k, none⟩ = some (fnv f q') := (hb1.cell (p := ⟨g, k, none⟩) hg).trans ((hW.cell (p := ⟨g, k, none⟩) hg).trans hu)
      have hst := eithF_step d l k hlt Z S.length b
      have had := eithF_adds d l S.length b k Z
      have hsd := sum_take (f := fun y => 1 + wtx d y) l k hlt
      have hsl := sum_take_le (f := fun y => 1 + wtx d y) l (k + 1)
      have hmk1 := mk_adds d l[k] (eithF d l k Z S.length b) b
      have hcall := hmk w1 m (eithF d l k Z S.length b) first b (hW.trans hb1) hM1.out (by have := HS.out; have := HZ.out; have := had.2.1; omega) (by have := HS.out; have := HZ.out; have := had.2.2; omega)
      have HB : Hid (S.length < (mk d l[k] (eithF d l k Z S.length b) b).1.length ∧ (mk d l[k] (eithF d l k Z S.length b) b).1.length ≤ 9000 ∧ tot (mk d l[k] (eithF d l k Z S.length b) b).1 ≤ 9000) := by
        have := HS.out; have := HZ.out; have := had.1; have := had.2.1; have := had.2.2; have := hmk1.1; have := hmk1.2.1; have := hmk1.2.2
        refine ⟨by omega, by omega, by omega⟩
      have HST : Hid (eithF d l (k + 1) Z S.length b = leadS (mk d l[k] (eithF d l k Z S.length b) b).1 S.length (mk d l[k] (eithF d l k Z S.length b) b).2) := hst
      obtain ⟨R, hR⟩ : ∃ R, R = mk d l[k] (eithF d l k Z S.length b) b := ⟨_, rfl⟩
      rw [← hR] at hcall HB HST
      have HK : Hid (Calls Tryz.prog f #[.pointer (some ⟨m, 0, none⟩), .int .i64 b, .pointer (some ⟨q', 0, none⟩)] w1 fun e w' => e = .returned (.int .i64 R.2) ∧ MIn w' base m R.1 first ∧ Below base w1 w') := hcall
      clear hcall hmk hst had hsd hsl hp hu hmk1 hR
      unfold Enters at hen
      unfold fnv at hu1
      go_wp2_with fail
      refine HK.out.mono ?_
      rintro e1 w2 ⟨rfl, h5, h6⟩
      have H5 : Hid (MIn w2 base m R.1 first) := h5
      clear h5
      go_wp2_with fail
      refine (lead_new base m R.1 first S.length R.2 w2 H5.out HB.out.1 HB.out.2.1 HB.out.2.2).mono ?_
      rintro e2 w3 ⟨rfl, h7, h8⟩
      rw [← HST.out] at h7
      have H7 : Hid (MIn w3 base m (eithF d l (k + 1) Z S.length b) first) := h7
      clear h7
      go_wp2_with fail
      go_roundg (l.length - (k + 1))
      case measure => omega
      case rel => exact ⟨k + 1, by omega, rfl, by go_num, H7, (hb1.trans h6).trans h8⟩
    · have hkk : Hid (k = l.length) := by show k = l.length; omega
      go_wp2_with fail
      go_ret
      exact ⟨rfl, by rw [← hkk.out]; exact hM1.out, hb1⟩
end Go.Proofs.YtonooajnjgnmnaaGreatDoor
