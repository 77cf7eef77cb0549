import Derived.Test.YtodagkkjfipbgaaGreatDoorC4toW6
import Derived.Test.YtodagkkjfipbgaaGreatDoorBtoR
namespace Go.Proofs.YtodagkkjfipbgaaGreatDoor
open Go.RowKit

theorem sizes2 (a b : Rx) : sizesX [a, b] = a.form.size + 1 + (b.form.size + 1) := by simp [sizesX]

set_option maxHeartbeats 2000000 in
theorem row_any (n : Nat) : ∀ (w : World) (d : Nat) (a b : Value) (x y : Rx), x.form.size < n → IsRe d w a x → IsRe d w b y → x.form.size + y.form.size ≤ 1000000000 - 2 →
    Calls Tryz.prog 157 #[a, b] w fun e w' => ∃ v d', e = .returned v ∧ IsRe d' w' v (rowX n x y) ∧ (rowX n x y).form.size ≤ x.form.size + y.form.size + 2 ∧ Below w.heap.size w w' := by
  induction n with
  | zero => intro w d a b x y h; omega
  | succ n ih =>
    intro w d a b x y hn ha hb hs
    have ha0 := ha
    have hb0 := hb
    obtain ⟨p, vL, e, rfl, rfl, c0, c1, c2, c3, hp, hr, hw, h1, h2⟩ := ha.open
    obtain ⟨p', vL', e', he', rfl, c0', c1', c2', c3', hp', hr', hw', h1', h2'⟩ := hb.open
    have HA : Hid (IsRe (e + 1) w (.pointer (some ⟨p, 0, none⟩)) x) := ha0
    have HB : Hid (IsRe (e + 1) w (.pointer (some ⟨p', 0, none⟩)) y) := hb0
    clear ha0 ha hb0 hb
    by_cases hz : x.what = 122 ∨ y.what = 122
    · have hm : rowX (n + 1) x y = neverX := by unfold rowX; rw [if_pos hz]
      rw [hm]
      have hq : ((x.what : Int) == 122) = true ∨ (((x.what : Int) == 122) = false ∧ ((y.what : Int) == 122) = true) := by simp; omega
      rcases hq with k1 | ⟨k1, k2⟩
      all_goals
        go_enter Tryz.func157, Tryz.ntmps157
        go_wp2_with (go_at_call 159; refine (never_any _).mono ?_; rintro e w1 ⟨v1, rfl, hv1, hb1⟩)
        go_ret
        exact ⟨_, 1, rfl, hv1, by show 1 ≤ _; omega, hb1⟩
    · have k1 : ((x.what : Int) == 122) = false := by simp; omega
      have k2 : ((y.what : Int) == 122) = false := by simp; omega
      by_cases hx : x.what = 101
      · have hm : rowX (n + 1) x y = y := by unfold rowX; rw [if_neg hz, if_pos hx]
        rw [hm]
        have k3 : ((x.what : Int) == 101) = true := by simp; omega
        clear hz hx hm
        go_enter Tryz.func157, Tryz.ntmps157
        go_wp2_with fail
        go_ret
        exact ⟨_, _, rfl, HB.out, by omega, Below.refl _ _⟩
      · have k3 : ((x.what : Int) == 101) = false := by simp; omega
        by_cases hy : y.what = 101
        · have hm : rowX (n + 1) x y = x := by unfold rowX; rw [if_neg hz, if_neg hx, if_pos hy]
          rw [hm]
          have k4 : ((y.what : Int) == 101) = true := by simp; omega
          clear hz hx hm hy
          go_enter Tryz.func157, Tryz.ntmps157
          go_wp2_with fail
          go_ret
          exact ⟨_, _, rfl, HA.out, by omega, Below.refl _ _⟩
        · have k4 : ((y.what : Int) == 101) = false := by simp; omega
          by_cases hs' : x.what = 115
          · have hm : rowX (n + 1) x y = rowX n (x.l.getD 0 neverX) (rowX n (x.l.getD 1 neverX) y) := by rw [rowX, if_neg hz, if_neg hx, if_neg hy, if_pos hs']
            rw [hm]
            have k5 : ((x.what : Int) == 115) = true := by simp; omega
            have hlen := h1 hs'
            have hsz := h2 (Or.inl hs')
            obtain ⟨x0, x1, hl⟩ : ∃ x0 x1, x.l = [x0, x1] := by
              match hxl : x.l, hlen with
              | [x0, x1], _ => exact ⟨x0, x1, rfl⟩
            rw [hl] at hr hsz ⊢
            rw [sizes2] at hsz
            obtain ⟨ao, cap, hvl, hrow⟩ := hr.form
            obtain ⟨g, u0, rfl, g0, r0⟩ := hrow 0 (by simp)
            obtain ⟨g', u1, hg', g1, r1⟩ := hrow 1 (by simp)
            simp at hg'
            subst hg'
            subst hvl
            simp only [List.length_cons, List.length_nil, Nat.zero_add, Nat.reduceAdd, List.getElem_cons_zero, List.getElem_cons_succ] at r0 r1 c2
            have R0 : Hid (IsRe e w u0 x0) := r0
            have R1 : Hid (IsRe e w u1 x1) := r1
            have IH := ih
            have IH' : Hid (∀ (w : World) (d : Nat) (a b : Value) (x y : Rx), x.form.size < n → IsRe d w a x → IsRe d w b y → x.form.size + y.form.size ≤ 1000000000 - 2 →
    Calls Tryz.prog 157 #[a, b] w fun e w' => ∃ v d', e = .returned v ∧ IsRe d' w' v (rowX n x y) ∧ (rowX n x y).form.size ≤ x.form.size + y.form.size + 2 ∧ Below w.heap.size w w') := ih
            clear hz hx hm hy r0 r1 hrow hr ih IH hs' h1 h2 hlen hl
            go_enter Tryz.func157, Tryz.ntmps157
            go_wp2_with fail
            refine (IH'.out _ (e + 1) _ _ x1 y (by omega) (R1.out.mono (by omega)) HB.out (by omega)).mono ?_
            rintro e1 w1 ⟨v1, d1, rfl, hv1, hs1, hb1⟩
            have hg : g < w.heap.size := World.block_lt_of_cell? w ⟨g, 0, none⟩ g0
            have d2 : w1.cell? ⟨p, 2, none⟩ = some (.slice (some ⟨g, 0, none⟩) 2 cap) := (hb1.cell (p := ⟨p, 2, none⟩) hp).trans c2
            have dg0 : w1.cell? ⟨g, 0, none⟩ = some u0 := (hb1.cell (p := ⟨g, 0, none⟩) hg).trans g0
            have d0 : w1.cell? ⟨p, 0, none⟩ = some (.int .u8 x.what) := (hb1.cell (p := ⟨p, 0, none⟩) hp).trans c0
            have R0' : Hid (IsRe e w1 u0 x0) := R0.out.keep (KeepRe.of_below hb1)
            have HV1 : Hid (IsRe d1 w1 v1 (rowX n x1 y)) := hv1
            clear hv1
            go_wp2_with fail
            refine (IH'.out _ (e + d1) _ _ x0 (rowX n x1 y) (by omega) (R0'.out.mono (by omega)) (HV1.out.mono (by omega)) (by omega)).mono ?_
            rintro e2 w2 ⟨v2, d2', rfl, hv2, hs2, hb2⟩
            go_wp2_with fail
            go_ret
            exact ⟨_, _, rfl, hv2, by show (rowX n x0 (rowX n x1 y)).form.size ≤ _; omega, hb1.trans (hb2.mono hb1.size)⟩
          · have hm : rowX (n + 1) x y = seqX x y := by rw [rowX, if_neg hz, if_neg hx, if_neg hy, if_neg hs']
            rw [hm]
            have k5 : ((x.what : Int) == 115) = false := by simp; omega
            have hadd1 := run_add Tryz.prog ⟨#[40]⟩ x.form (by rw [size1]; omega)
            have hadd2 := run_add Tryz.prog (⟨#[40]⟩ ++ x.form) y.form (by rw [sizeApp, size1]; omega)
            have hadd3 := run_add Tryz.prog (⟨#[40]⟩ ++ x.form ++ y.form) ⟨#[41]⟩ (by rw [sizeApp, sizeApp, size1, size1]; omega)
            clear hz hx hm hy hs' h1 h2 ih hr
            go_enter Tryz.func157, Tryz.ntmps157
            go_wp2_with fail
            go_region
            all_goals (try go_wp2)
            go_ret
            have hr2 := row2 HA.out HB.out
            have hre := mkRe' (d := e + 1) (q := w.heap.size + 1) (W := w.alloc (.cells #[.pointer (some ⟨p, 0, none⟩), .pointer (some ⟨p', 0, none⟩)] 178)) (vL := .slice (some ⟨w.heap.size, 0, none⟩) 2 2) (wI := 115) (kI := 0) (f := ⟨#[40]⟩ ++ x.form ++ y.form ++ ⟨#[41]⟩) (seqX x y) (by simp) (by rfl) rfl rfl hr2 (by show (115 : Nat) < 256; decide) (fun _ => rfl)
              (fun _ => by show sizesX [x, y] ≤ (⟨#[40]⟩ ++ x.form ++ y.form ++ ⟨#[41]⟩ : ByteArray).size; rw [sizes2, sizeApp, sizeApp, sizeApp, size1, size1]; omega)
            refine ⟨.pointer (some ⟨w.heap.size + 1, 0, none⟩), e + 2, rfl, hre.keep (KeepRe.drew _), ?_, ?_⟩
            · show (⟨#[40]⟩ ++ x.form ++ y.form ++ ⟨#[41]⟩ : ByteArray).size ≤ _
              rw [sizeApp, sizeApp, sizeApp, size1, size1]; omega
            · exact (((Below.refl _ _).alloc (Nat.le_refl _) _).alloc (by simp) _).drew
end Go.Proofs.YtodagkkjfipbgaaGreatDoor
namespace Go.Proofs.YtodagkkjfipbgaaGreatDoor
open Go.RowKit

theorem below_drewN {B : Nat} {a w : World} (h : Below B a w) (n : Nat) : Below B a (w.drewN n) := ⟨h.os, h.tape, h.output, h.size, h.block⟩
/-- One element more at the end of a row of the call's own. -/
theorem ReRow.push {R : Value → Rx → Prop} {B : Nat} {w' : World} {v' u : Value} {x : Rx} {O : List Rx} {us : List Value}
    (hlen : us.length = O.length) (hR : ∀ (i : Nat) (u : Value) (x : Rx), us[i]? = some u → O[i]? = some x → R u x) (hu : R u x)
    (hown : w'.ownsRow B 178 1 v' (O.length + 1) (us ++ [u])) : ReRow R B w' v' (O ++ [x]) := by
  refine ⟨us ++ [u], by simp [hlen], by simpa using hown, ?_⟩
  intro i u' x' h1 h2
  by_cases hi : i < O.length
  · rw [List.getElem?_append_left (by omega)] at h1
    rw [List.getElem?_append_left hi] at h2
    exact hR i _ _ h1 h2
  · have hi' : i = O.length := by
      have := (List.getElem?_eq_some_iff.1 h2).1
      simp at this; omega
    subst hi'
    rw [List.getElem?_append_right (by omega)] at h1
    rw [List.getElem?_append_right (by omega)] at h2
    simp [hlen] at h1 h2
    subst h1; subst h2
    exact hu
theorem push2 {R : Value → Rx → Prop} {B : Nat} {w' : World} {v' u u2 : Value} {x x2 : Rx} {O : List Rx} {us : List Value}
    (hlen : us.length = O.length) (hR : ∀ (i : Nat) (u : Value) (x : Rx), us[i]? = some u → O[i]? = some x → R u x) (hu : R u x) (hu2 : R u2 x2)
    (hown : w'.ownsRow B 178 1 v' (O.length + 1 + 1) (us ++ [u] ++ [u2])) : ReRow R B w' v' (O ++ [x] ++ [x2]) := by
  refine ReRow.push (us := us ++ [u]) (by simp [hlen]) ?_ hu2 (by simpa using hown)
  intro i u' x' h1 h2
  by_cases hi : i < O.length
  · rw [List.getElem?_append_left (by omega)] at h1
    rw [List.getElem?_append_left hi] at h2
    exact hR i _ _ h1 h2
  · have hi' : i = O.length := by
      have := (List.getElem?_eq_some_iff.1 h2).1
      simp at this; omega
    subst hi'
    rw [List.getElem?_append_right (by omega)] at h1
    rw [List.getElem?_append_right (by omega)] at h2
    simp [hlen] at h1 h2
    subst h1; subst h2
    exact hu
theorem below_push {B : Nat} {w W w' : World} {v : Value} {e : TypeId} {size n : Nat} {us : List Value} (hg : W.grownBy w' v.ownBlock) (hb : Below B w W) (hB : B ≤ W.heap.size) (hown : W.ownsRow B e size v n us) : Below B w w' :=
  hb.grown hg hB (fun k hk => (hown.lt k hk).1)
theorem one_ptr (q : Option Addr) : ∀ u ∈ [Value.pointer q], u.oneCell' = true := by
  intro u hu; simp at hu; subst hu; rfl

/-- What has been gathered when k elements are done. -/
def amongAt (L : List Rx) (x : Rx) (k : Nat) (inn : Bool) (O : List Rx) : Prop := O ++ (if inn = true then L.drop k else amongX (L.drop k) x) = amongX L x
theorem amongAt_in {L : List Rx} {x : Rx} {k : Nat} {O : List Rx} (hk : k < L.length) (h : amongAt L x k true O) : amongAt L x (k + 1) true (O ++ [L[k]]) := by
  unfold amongAt at *
  rw [if_pos rfl, List.drop_eq_getElem_cons hk] at h
  rw [if_pos rfl, List.append_assoc]; exact h
theorem amongAt_gt {L : List Rx} {x : Rx} {k : Nat} {O : List Rx} (hk : k < L.length) (h : amongAt L x k false O) (hle : leF x.form L[k].form = false) : amongAt L x (k + 1) false (O ++ [L[k]]) := by
  unfold amongAt at *
  rw [if_neg (by simp), List.drop_eq_getElem_cons hk, amongX, if_neg (by simp [hle])] at h
  rw [if_neg (by simp), List.append_assoc]; exact h
theorem amongAt_eq {L : List Rx} {x : Rx} {k : Nat} {O : List Rx} (hk : k < L.length) (h : amongAt L x k false O) (hle : leF x.form L[k].form = true) (he : (x.form.toList == L[k].form.toList) = true) : amongAt L x (k + 1) true (O ++ [L[k]]) := by
  unfold amongAt at *
  rw [if_neg (by simp), List.drop_eq_getElem_cons hk, amongX, if_pos hle, if_pos he] at h
  rw [if_pos rfl, List.append_assoc]; exact h
theorem amongAt_lt {L : List Rx} {x : Rx} {k : Nat} {O : List Rx} (hk : k < L.length) (h : amongAt L x k false O) (hle : leF x.form L[k].form = true) (he : (x.form.toList == L[k].form.toList) = false) : amongAt L x (k + 1) true (O ++ [x] ++ [L[k]]) := by
  unfold amongAt at *
  rw [if_neg (by simp), List.drop_eq_getElem_cons hk, amongX, if_pos hle, if_neg (by simp [he])] at h
  rw [if_pos rfl, List.append_assoc, List.append_assoc]; exact h
theorem amongAt_len {L : List Rx} {x : Rx} {k : Nat} {inn : Bool} {O : List Rx} (h : amongAt L x k inn O) : O.length ≤ L.length + 1 := by
  have hl : ∀ L : List Rx, (amongX L x).length ≤ L.length + 1 := by
    intro L; induction L with
    | nil => simp [amongX]
    | cons a r ih => rw [amongX]; split
                     · split <;> simp
                     · simp; omega
  have := congrArg List.length h
  have := hl L
  simp at *; omega

set_option maxHeartbeats 4000000 in
theorem among_any (w : World) (d : Nat) (vl a : Value) (L : List Rx) (x : Rx) (hl : ReRow (IsRe d w) 0 w vl L) (ha : IsRe d w a x) (hLl : L.length ≤ 8000000000) :
    Calls Tryz.prog 110 #[vl, a] w fun e w' => ∃ v, e = .returned v ∧ ReRow (IsRe d w) w.heap.size w' v (amongX L x) ∧ Below w.heap.size w w' := by
  have ha0 := ha
  obtain ⟨ao, cap, rfl, hrow⟩ := hl.form
  obtain ⟨p, vL, e, rfl, rfl, c0, c1, c2, c3, hp, hr, hw, h1, h2⟩ := ha.open
  have HA : Hid (IsRe (e + 1) w (.pointer (some ⟨p, 0, none⟩)) x) := ha0
  have HR : Hid (∀ i (hi : i < L.length), ∃ g u, ao = some ⟨g, 0, none⟩ ∧ w.cell? ⟨g, i, none⟩ = some u ∧ IsRe (e + 1) w u L[i]) := hrow
  clear ha0 ha hrow hl hr h1 h2 c0 c1 c2
  go_enter Tryz.func110, Tryz.ntmps110
  go_wp2
  go_loopg [5, 6, 7] L.length (fun g5 out inn i wr => ∃ (k : Nat) (ib : Bool) (O : List Rx), k ≤ L.length ∧ g5 = L.length - k ∧ i = .int .i64 k ∧ inn = .bool ib ∧ Hid (amongAt L x k ib O) ∧ ReRow (IsRe (e + 1) w) w.heap.size wr out O ∧ Below w.heap.size w wr)
  case atStart => exact ⟨0, false, [], Nat.zero_le _, rfl, rfl, rfl, rfl, ⟨[], rfl, World.ownsRow_nil _ _ _ _, by simp⟩, Below.refl _ _⟩
  case round =>
    obtain ⟨k, ib, O, hk, rfl, rfl, rfl, hat, ⟨us, hul, hown, huR⟩, hbel⟩ := hrel
    have hOl := amongAt_len hat.out
    have hsz := hbel.size
    have HU : Hid (∀ (i : Nat) (u : Value) (x : Rx), us[i]? = some u → O[i]? = some x → IsRe (e + 1) w u x) := huR
    clear huR
    have HUL : Hid (us.length = O.length) := hul
    clear hul
    have d3 : wr.cell? ⟨p, 3, none⟩ = some (.string x.form) := (hbel.cell (p := ⟨p, 3, none⟩) hp).trans c3
    by_cases hlt : k < L.length
    · obtain ⟨g, u, rfl, hcell, hIs⟩ := HR.out k hlt
      obtain ⟨p', vL', e', he', rfl, q0, q1, q2, q3, hp', _, _, _, _⟩ := hIs.open
      have hg : g < w.heap.size := World.block_lt_of_cell? w ⟨g, k, none⟩ hcell
      have dg : wr.cell? ⟨g, k, none⟩ = some (.pointer (some ⟨p', 0, none⟩)) := (hbel.cell (p := ⟨g, k, none⟩) hg).trans hcell
      have dq : wr.cell? ⟨p', 3, none⟩ = some (.string L[k].form) := (hbel.cell (p := ⟨p', 3, none⟩) hp').trans q3
      have HI : Hid (IsRe (e + 1) w (.pointer (some ⟨p', 0, none⟩)) L[k]) := hIs
      clear hIs q0 q1 q2 q3 he'
      cases ib
      · cases hle : leF x.form L[k].form
        · have hle1 : Op.bytesLess x.form.toList L[k].form.toList = false := by unfold leF at hle; simp at hle; exact hle.1
          have hle2 : (x.form.toList == L[k].form.toList) = false := by unfold leF at hle; simp at hle; simp [hle.2]
          have HLE : Hid (leF x.form L[k].form = false) := hle
          clear hle
          go_wp2
          go_quiet (fail)
          go_wp2_with (at_builtin; refine wpList_push rfl (.tmp 46) (.tmp 51) 201 rfl w.heap.size 178 (.pointer none) 1 8 Tryz.infoRe Tryz.undRe rfl (by decide) u5 O.length us rfl (by exact hown.alloc _) wr.heap.size 1 [.pointer (some ⟨p', 0, none⟩)] rfl rfl (heap_alloc_new _ _) (one_ptr _) (by omega) (by omega) (by simp; omega) ?_; intro v2 w2 hown2 hg2)
          have hb2 := below_push hg2 (by exact (below_drewN hbel _).alloc (by exact hsz) _) (by simp; omega) (by exact hown.alloc _)
          go_roundg (L.length - (k + 1))
          case measure => omega
          case rel => exact ⟨k + 1, false, O ++ [L[k]], by omega, rfl, by go_num, rfl, amongAt_gt hlt hat.out HLE.out, ReRow.push HUL.out HU.out HI.out hown2, hb2⟩
        · cases he : (x.form.toList == L[k].form.toList)
          · have hle1 : Op.bytesLess x.form.toList L[k].form.toList = true := by unfold leF at hle; rw [he] at hle; simpa using hle
            have HLE : Hid (leF x.form L[k].form = true) := hle
            clear hle
            go_wp2
            go_quiet (fail)
            go_wp2
            go_quiet (fail)
            go_wp2_with (first | (at_builtin; refine wpList_push rfl (.tmp 42) (.tmp 44) 201 rfl w.heap.size 178 (.pointer none) 1 8 Tryz.infoRe Tryz.undRe rfl (by decide) u5 O.length us rfl (by exact hown.alloc _) wr.heap.size 1 [.pointer (some ⟨p, 0, none⟩)] rfl rfl (heap_alloc_new _ _) (one_ptr _) (by omega) (by omega) (by simp; omega) ?_; intro v2 w2 hown2 hg2; have hb2 := below_push hg2 (by exact (below_drewN hbel _).alloc (by exact hsz) _) (by simp; omega) (by exact hown.alloc _); have dg2 : w2.cell? ⟨g, k, none⟩ = some (.pointer (some ⟨p', 0, none⟩)) := (hb2.cell (p := ⟨g, k, none⟩) hg).trans hcell; have hsz2 := hb2.size) | (at_builtin; refine wpList_push rfl (.tmp 46) (.tmp 51) 201 rfl w.heap.size 178 (.pointer none) 1 8 Tryz.infoRe Tryz.undRe rfl (by decide) v2 (O.length + 1) (us ++ [.pointer (some ⟨p, 0, none⟩)]) rfl (by exact hown2.alloc _) w2.heap.size 1 [.pointer (some ⟨p', 0, none⟩)] rfl rfl (heap_alloc_new _ _) (one_ptr _) (by omega) (by omega) (by simp; omega) ?_; intro v3 w3 hown3 hg3))
            have hb3 := below_push hg3 (by exact hb2.alloc (by exact hsz2) _) (by simp; omega) (by exact hown2.alloc _)
            go_roundg (L.length - (k + 1))
            case measure => omega
            case rel => exact ⟨k + 1, true, O ++ [x] ++ [L[k]], by omega, rfl, by go_num, rfl, amongAt_lt hlt hat.out HLE.out he, push2 HUL.out HU.out HA.out HI.out hown3, hb3⟩
          · have HLE : Hid (leF x.form L[k].form = true) := hle
            clear hle
            go_wp2
            go_quiet (fail)
            go_wp2
            go_quiet (fail)
            go_wp2_with (at_builtin; refine wpList_push rfl (.tmp 46) (.tmp 51) 201 rfl w.heap.size 178 (.pointer none) 1 8 Tryz.infoRe Tryz.undRe rfl (by decide) u5 O.length us rfl (by exact hown.alloc _) wr.heap.size 1 [.pointer (some ⟨p', 0, none⟩)] rfl rfl (heap_alloc_new _ _) (one_ptr _) (by omega) (by omega) (by simp; omega) ?_; intro v2 w2 hown2 hg2)
            have hb2 := below_push hg2 (by exact (below_drewN hbel _).alloc (by exact hsz) _) (by simp; omega) (by exact hown.alloc _)
            go_roundg (L.length - (k + 1))
            case measure => omega
            case rel => exact ⟨k + 1, true, O ++ [L[k]], by omega, rfl, by go_num, rfl, amongAt_eq hlt hat.out HLE.out he, ReRow.push HUL.out HU.out HI.out hown2, hb2⟩
      · go_wp2
        go_quiet (fail)
        go_wp2_with (at_builtin; refine wpList_push rfl (.tmp 46) (.tmp 51) 201 rfl w.heap.size 178 (.pointer none) 1 8 Tryz.infoRe Tryz.undRe rfl (by decide) u5 O.length us rfl (by exact hown.alloc _) wr.heap.size 1 [.pointer (some ⟨p', 0, none⟩)] rfl rfl (heap_alloc_new _ _) (one_ptr _) (by omega) (by omega) (by simp; omega) ?_; intro v2 w2 hown2 hg2)
        have hb2 := below_push hg2 (by exact (below_drewN hbel _).alloc (by exact hsz) _) (by simp; omega) (by exact hown.alloc _)
        go_roundg (L.length - (k + 1))
        case measure => omega
        case rel => exact ⟨k + 1, true, O ++ [L[k]], by omega, rfl, by go_num, rfl, amongAt_in hlt hat.out, ReRow.push HUL.out HU.out HI.out hown2, hb2⟩
    · have hkl : k = L.length := by omega
      cases ib
      · have hfin : O ++ [x] = amongX L x := by
          have := hat.out; unfold amongAt at this
          rw [if_neg (by simp), hkl, List.drop_length] at this; exact this
        have HF : Hid (O ++ [x] = amongX L x) := hfin
        clear hfin hkl
        go_wp2_with (at_builtin; refine wpList_push rfl (.tmp 55) (.tmp 57) 201 rfl w.heap.size 178 (.pointer none) 1 8 Tryz.infoRe Tryz.undRe rfl (by decide) u5 O.length us rfl (by exact hown.alloc _) wr.heap.size 1 [.pointer (some ⟨p, 0, none⟩)] rfl rfl (heap_alloc_new _ _) (one_ptr _) (by omega) (by omega) (by simp; omega) ?_; intro v2 w2 hown2 hg2)
        have hb2 := below_push hg2 (by exact hbel.alloc (by exact hsz) _) (by simp; omega) (by exact hown.alloc _)
        go_ret
        exact ⟨_, rfl, by rw [← HF.out]; exact ReRow.push HUL.out HU.out HA.out hown2, hb2⟩
      · have hfin : O = amongX L x := by
          have := hat.out; unfold amongAt at this
          rw [if_pos rfl, hkl, List.drop_length, List.append_nil] at this; exact this
        have HF : Hid (O = amongX L x) := hfin
        clear hfin hkl
        go_wp2
        go_ret
        exact ⟨_, rfl, by rw [← HF.out]; exact ⟨us, HUL.out, hown, HU.out⟩, hbel⟩
end Go.Proofs.YtodagkkjfipbgaaGreatDoor
namespace Go.Proofs.YtodagkkjfipbgaaGreatDoor
open Go.RowKit

theorem sizesX_cons (a : Rx) (l : List Rx) : sizesX (a :: l) = a.form.size + 1 + sizesX l := by simp [sizesX]
theorem sizesX_snoc (a : Rx) (l : List Rx) : sizesX (l ++ [a]) = sizesX l + (a.form.size + 1) := by simp [sizesX]
theorem amongX_sizes (l : List Rx) (a : Rx) : sizesX (amongX l a) ≤ sizesX l + (a.form.size + 1) := by
  induction l with
  | nil => simp [amongX, sizesX]
  | cons x r ih => rw [amongX]; split
                   · split
                     · omega
                     · rw [sizesX_cons]; omega
                   · rw [sizesX_cons, sizesX_cons]; omega
theorem foldl_sizes (cs : List Rx) : ∀ l, sizesX (cs.foldl amongX l) ≤ sizesX l + sizesX cs := by
  induction cs with
  | nil => intro l; simp [sizesX]
  | cons c r ih => intro l; rw [List.foldl_cons, sizesX_cons]; have := ih (amongX l c); have := amongX_sizes l c; omega
theorem length_sizes (l : List Rx) : l.length ≤ sizesX l := by
  induction l with
  | nil => simp
  | cons c r ih => rw [sizesX_cons]; simp; omega
theorem gatherX_sizes (l : List Rx) (x : Rx) (h : x.what = 115 ∨ x.what = 97 → sizesX x.l ≤ x.form.size) : sizesX (gatherX l x) ≤ sizesX l + (x.form.size + 1) := by
  unfold gatherX
  split
  · have := foldl_sizes x.l l; have := h (Or.inr ‹_›); omega
  · split
    · omega
    · exact amongX_sizes l x
theorem formsX_snoc (l : List Rx) (x : Rx) : formsX (l ++ [x]) = formsX l ++ ⟨#[47]⟩ ++ x.form := by unfold formsX; rw [List.foldl_append]; rfl
theorem formsX_size (l : List Rx) : (formsX l).size = sizesX l := by
  have key : ∀ (n : Nat) (l : List Rx), l.length = n → (formsX l).size = sizesX l := by
    intro n; induction n with
    | zero => intro l h; rw [List.eq_nil_of_length_eq_zero h]; rfl
    | succ n ih =>
      intro l h
      have hl : l ≠ [] := by intro e; subst e; simp at h
      obtain ⟨m, c, rfl⟩ : ∃ m c, l = m ++ [c] := ⟨l.dropLast, l.getLast hl, (List.dropLast_concat_getLast hl).symm⟩
      rw [formsX_snoc, sizesX_snoc, sizeApp, sizeApp, size1, ih m (by simpa using h)]; omega
  exact key _ l rfl
theorem sizesX_take (l : List Rx) (k : Nat) : sizesX (l.take k) ≤ sizesX l := by
  induction l generalizing k with
  | nil => simp
  | cons a r ih => cases k with
    | zero => simp [sizesX]
    | succ k => rw [List.take_succ_cons, sizesX_cons, sizesX_cons]; have := ih k; omega
theorem foldl_take_sizes (cs : List Rx) (l : List Rx) (k : Nat) : sizesX ((cs.take k).foldl amongX l) ≤ sizesX l + sizesX cs := by
  have := foldl_sizes (cs.take k) l; have := sizesX_take cs k; omega
theorem foldl_take_succ (cs : List Rx) (l : List Rx) (k : Nat) (h : k < cs.length) : (cs.take (k + 1)).foldl amongX l = amongX ((cs.take k).foldl amongX l) cs[k] := by
  rw [List.take_succ_eq_append_getElem h, List.foldl_append]; rfl
theorem gatherX_a {l : List Rx} {x : Rx} (h : x.what = 97) : gatherX l x = x.l.foldl amongX l := by unfold gatherX; rw [if_pos h]
theorem gatherX_z {l : List Rx} {x : Rx} (h : x.what = 122) : gatherX l x = l := by unfold gatherX; rw [if_neg (by omega), if_pos h]
theorem gatherX_o {l : List Rx} {x : Rx} (h : x.what ≠ 97) (h' : x.what ≠ 122) : gatherX l x = amongX l x := by unfold gatherX; rw [if_neg h, if_neg h']

/-- What stands behind either's first loop. -/
def gAt (x y : Rx) (k : Nat) : List Rx := if k = 0 then [] else if k = 1 then gatherX [] x else gatherX (gatherX [] x) y
def pk (x y : Rx) (k : Nat) : Rx := if k = 0 then x else y
theorem gAt_succ (x y : Rx) (k : Nat) (h : k < 2) : gAt x y (k + 1) = gatherX (gAt x y k) (pk x y k) := by
  match k, h with
  | 0, _ => rfl
  | 1, _ => rfl

set_option maxHeartbeats 4000000 in
theorem either_any (w : World) (d : Nat) (a b : Value) (x y : Rx) (ha : IsRe d w a x) (hb : IsRe d w b y) (hs : x.form.size + y.form.size ≤ 1000000000) :
    Calls Tryz.prog 158 #[a, b] w fun e w' => ∃ v d', e = .returned v ∧ IsRe d' w' v (eitherX x y) ∧ (eitherX x y).form.size ≤ x.form.size + y.form.size + 4 ∧ Below w.heap.size w w' := by
  have hax := ha.open
  have hby := hb.open
  have HS : Hid (∀ k, k < 2 → ((pk x y k).what = 115 ∨ (pk x y k).what = 97 → sizesX (pk x y k).l ≤ (pk x y k).form.size)) := by
    obtain ⟨_, _, _, _, _, _, _, _, _, _, _, _, _, h2⟩ := hax
    obtain ⟨_, _, _, _, _, _, _, _, _, _, _, _, _, h2'⟩ := hby
    intro k hk
    match k, hk with
    | 0, _ => exact h2
    | 1, _ => exact h2'
  obtain ⟨pa, rfl⟩ : ∃ pa, a = .pointer (some ⟨pa, 0, none⟩) := by obtain ⟨p, _, _, _, h, _⟩ := hax; exact ⟨p, h⟩
  obtain ⟨pb, rfl⟩ : ∃ pb, b = .pointer (some ⟨pb, 0, none⟩) := by obtain ⟨p, _, _, _, h, _⟩ := hby; exact ⟨p, h⟩
  clear hax hby
  have HA : Hid (IsRe d w (.pointer (some ⟨pa, 0, none⟩)) x) := ha
  have HB : Hid (IsRe d w (.pointer (some ⟨pb, 0, none⟩)) y) := hb
  clear ha hb
  have HG : Hid (∀ k, k ≤ 2 → sizesX (gAt x y k) ≤ x.form.size + y.form.size + 2) := by
    have s1 := gatherX_sizes [] x (HS.out 0 (by omega))
    have s2 := gatherX_sizes (gatherX [] x) y (HS.out 1 (by omega))
    have s0 : sizesX [] = 0 := rfl
    intro k hk
    match k, hk with
    | 0, _ => show sizesX [] ≤ _; omega
    | 1, _ => show sizesX (gatherX [] x) ≤ _; omega
    | 2, _ => show sizesX (gatherX (gatherX [] x) y) ≤ _; omega
  go_enter Tryz.func158, Tryz.ntmps158
  go_wp2
  go_loopg [5, 7] 2 (fun g l i wr => ∃ k : Nat, k ≤ 2 ∧ g = 2 - k ∧ i = .int .i64 k ∧ ReRow (IsRe d wr) 0 wr l (gAt x y k) ∧ Below w.heap.size w wr ∧ wr.heap[w.heap.size]? = some (.cells #[.pointer (some ⟨pa, 0, none⟩), .pointer (some ⟨pb, 0, none⟩)] 178 (0, 0)))
  case atStart => exact ⟨0, by omega, rfl, rfl, ⟨[], rfl, World.ownsRow_nil _ _ _ _, by simp⟩, (Below.refl _ _).alloc (Nat.le_refl _) _, heap_alloc_new _ _⟩
  case round =>
    obtain ⟨w1, hw1⟩ : ∃ w1, w1 = wr := ⟨wr, rfl⟩
    subst hw1
    obtain ⟨k, hk, rfl, rfl, hrow, hbel, hblk⟩ := hrel
    have hsz := hbel.size
    by_cases hlt : k < 2
    · obtain ⟨u, hu, hIs⟩ : ∃ u, w1.cell? ⟨w.heap.size, k, none⟩ = some u ∧ IsRe d w1 u (pk x y k) := by
        match k, hlt with
        | 0, _ => exact ⟨_, cell_of_block hblk 0 _ rfl, HA.out.keep (KeepRe.of_below hbel)⟩
        | 1, _ => exact ⟨_, cell_of_block hblk 1 _ rfl, HB.out.keep (KeepRe.of_below hbel)⟩
      have hgk := HG.out k (by omega)
      have hgl := length_sizes (gAt x y k)
      have hgs := gAt_succ x y k hlt
      have HGS : Hid (gAt x y (k + 1) = gatherX (gAt x y k) (pk x y k)) := hgs
      clear hgs
      have hsk := HS.out k hlt
      have hpk : (pk x y k).form.size ≤ x.form.size + y.form.size := by unfold pk; split <;> omega
      generalize pk x y k = z at *
      generalize gAt x y k = G at *
      have hIs0 := hIs
      obtain ⟨p, vL, e, rfl, rfl, c0, c1, c2, c3, hp, hr, hw, _, _⟩ := hIs.open
      have HI : Hid (IsRe (e + 1) w1 (.pointer (some ⟨p, 0, none⟩)) z) := hIs0
      clear hIs hIs0
      by_cases h97 : z.what = 97
      · have k1 : ((z.what : Int) == 97) = true := by simp; omega
        have hzs := hsk (Or.inr h97)
        have hzl := length_sizes z.l
        obtain ⟨ao, cap, rfl, hcs⟩ := hr.form
        have HC : Hid (∀ i (hi : i < z.l.length), ∃ g u, ao = some ⟨g, 0, none⟩ ∧ w1.cell? ⟨g, i, none⟩ = some u ∧ IsRe e w1 u z.l[i]) := hcs
        clear hcs hr hsk
        have HW : Hid (z.what = 97) := h97
        clear h97
        have hkd : decide ((k : Int) < 2) = true := by simp; omega
        go_wp2
        go_loopg [5, 9] z.l.length (fun g2 l i2 wi => ∃ j : Nat, j ≤ z.l.length ∧ g2 = z.l.length - j ∧ i2 = .int .i64 j ∧ ReRow (IsRe (e + 1) wi) 0 wi l ((z.l.take j).foldl amongX G) ∧ Below w1.heap.size w1 wi)
        case atStart => exact ⟨0, by omega, rfl, rfl, hrow, Below.refl _ _⟩
        case round =>
          obtain ⟨w3, hw3⟩ : ∃ w3, w3 = wr := ⟨wr, rfl⟩
          subst hw3
          obtain ⟨j, hj, rfl, rfl, hrow3, hbel3⟩ := hrel
          have hsz3 := hbel3.size
          have d2 : w3.cell? ⟨p, 2, none⟩ = some (.slice ao z.l.length cap) := (hbel3.cell (p := ⟨p, 2, none⟩) hp).trans c2
          have hfs := foldl_take_sizes z.l G j
          have hfl := length_sizes ((z.l.take j).foldl amongX G)
          by_cases hjl : j < z.l.length
          · obtain ⟨g, u, rfl, hcell, hIsu⟩ := HC.out j hjl
            have hg : g < w1.heap.size := World.block_lt_of_cell? w1 ⟨g, j, none⟩ hcell
            have dg : w3.cell? ⟨g, j, none⟩ = some u := (hbel3.cell (p := ⟨g, j, none⟩) hg).trans hcell
            have HIu : Hid (IsRe (e + 1) w3 u z.l[j]) := (hIsu.mono (by omega)).keep (KeepRe.of_below hbel3)
            have HT := foldl_take_succ z.l G j hjl
            have HT' : Hid ((z.l.take (j + 1)).foldl amongX G = amongX ((z.l.take j).foldl amongX G) z.l[j]) := HT
            clear hIsu HT
            generalize (z.l.take j).foldl amongX G = G3 at *
            go_wp2_with (go_at_call 110; refine (among_any _ (e + 1) _ _ G3 z.l[j] hrow3 HIu.out (by omega)).mono ?_; rintro e2 w2 ⟨v2, rfl, hr2, hb2⟩)
            go_roundg (z.l.length - (j + 1))
            case measure => omega
            case rel => exact ⟨j + 1, by omega, rfl, by go_num, by rw [HT'.out]; exact (hr2.mono (Nat.zero_le _) (fun u y hu => hu.keep (KeepRe.of_below hb2))), hbel3.trans (hb2.mono hsz3)⟩
          · have hjl' : j = z.l.length := by omega
            have hfin : (z.l.take j).foldl amongX G = gatherX G z := by rw [gatherX_a HW.out, hjl', List.take_length]
            rw [hfin] at hrow3
            clear hfin hfs hfl
            go_wp2
            go_roundg (2 - (k + 1))
            case measure => omega
            case rel => exact ⟨k + 1, by omega, rfl, by go_num, by rw [HGS.out]; exact hrow3, hbel.trans (hbel3.mono hsz), by rw [hbel3.block _ (Array.getElem?_eq_some_iff.1 hblk).1]; exact hblk⟩
      · have k1 : ((z.what : Int) == 97) = false := by simp; omega
        by_cases h122 : z.what = 122
        · have k2 : ((z.what : Int) == 122) = true := by simp; omega
          go_wp2
          go_roundg (2 - (k + 1))
          case measure => omega
          case rel => exact ⟨k + 1, by omega, rfl, by go_num, by rw [HGS.out, gatherX_z h122]; exact hrow, hbel, hblk⟩
        · have k2 : ((z.what : Int) == 122) = false := by simp; omega
          go_wp2_with (go_at_call 110; refine (among_any _ (e + 1) _ _ _ z hrow HI.out (by omega)).mono ?_; rintro e2 w2 ⟨v2, rfl, hr2, hb2⟩)
          go_roundg (2 - (k + 1))
          case measure => omega
          case rel => exact ⟨k + 1, by omega, rfl, by go_num, by rw [HGS.out, gatherX_o h97 h122]; exact (hr2.mono (Nat.zero_le _) (fun u y hu => hu.keep (KeepRe.of_below hb2))), hbel.trans (hb2.mono hsz), by rw [hb2.block _ (Array.getElem?_eq_some_iff.1 hblk).1]; exact hblk⟩
    · have hk2 : k = 2 := by omega
      subst hk2
      have hgk := HG.out 2 (by omega)
      have hgl := length_sizes (gAt x y 2)
      have hE : Hid (eitherX x y = match gAt x y 2 with | [] => neverX | [z] => z | l => ⟨97, 0, l, ⟨#[123]⟩ ++ formsX l ++ ⟨#[125]⟩⟩) := rfl
      generalize gAt x y 2 = G at *
      obtain ⟨ao, cap, rfl, hcs⟩ := hrow.form
      have HR : Hid (ReRow (IsRe d w1) 0 w1 (.slice ao G.length cap) G) := hrow
      clear hrow
      match G, hE, hcs, HR, hgk, hgl with
      | [], hE, _, HR, _, _ =>
        have hE' : Hid (eitherX x y = neverX) := hE
        clear hE HR
        go_wp2_with (go_at_call 159; refine (never_any _).mono ?_; rintro e2 w2 ⟨v2, rfl, hv2, hb2⟩)
        go_ret
        exact ⟨_, 1, rfl, by rw [hE'.out]; exact hv2, by rw [hE'.out]; show 1 ≤ _; omega, hbel.trans (hb2.mono hsz)⟩
      | [z], hE, hcs, HR, hgk, _ =>
        have hE' : Hid (eitherX x y = z) := hE
        obtain ⟨g, u, rfl, hcell, hIsu⟩ := hcs 0 (by simp)
        have HIu : Hid (IsRe d w1 u z) := hIsu
        have hzs : z.form.size + 1 ≤ x.form.size + y.form.size + 2 := by simpa [sizesX] using hgk
        clear hE HR hcs hIsu hgk
        go_wp2
        go_ret
        exact ⟨_, d, rfl, by rw [hE'.out]; exact HIu.out, by rw [hE'.out]; omega, hbel⟩
      | z0 :: z1 :: r, hE, hcs, HR, hgk, hgl =>
        have hE' : Hid (eitherX x y = ⟨97, 0, z0 :: z1 :: r, ⟨#[123]⟩ ++ formsX (z0 :: z1 :: r) ++ ⟨#[125]⟩⟩) := hE
        have hn2 : 2 ≤ (z0 :: z1 :: r).length := by simp
        generalize z0 :: z1 :: r = G at *
        have n0 : ((G.length : Int) == 0) = false := by rw [beq_eq_false_iff_ne]; omega
        have n1 : ((G.length : Int) == 1) = false := by rw [beq_eq_false_iff_ne]; omega
        have HC : Hid (∀ i (hi : i < G.length), ∃ g u, ao = some ⟨g, 0, none⟩ ∧ w1.cell? ⟨g, i, none⟩ = some u ∧ IsRe d w1 u G[i]) := hcs
        clear hcs hE
        have hgs := formsX_size G
        have HGZ : Hid ((formsX G).size = sizesX G) := hgs
        clear hgs
        go_wp2
        go_loop [10, 11] (fun sv i => ∃ j : Nat, j ≤ G.length ∧ i = .int .i64 j ∧ sv = .string (formsX (G.take j))) (fun _ i => G.length - (intOf i).toNat)
        case atStart => exact ⟨0, by omega, rfl, rfl⟩
        case round =>
          obtain ⟨j, hj, rfl, rfl⟩ := hrel
          have hts := sizesX_take G j
          have hfz : (formsX (G.take j)).size ≤ x.form.size + y.form.size + 2 := by rw [formsX_size]; omega
          by_cases hjl : j < G.length
          · obtain ⟨g, u, rfl, hcell, hIsu⟩ := HC.out j hjl
            obtain ⟨p, vL, e, _, rfl, q0, q1, q2, q3, _, _, _, _, _⟩ := hIsu.open
            have hcz : sizesX (G.take (j + 1)) ≤ sizesX G := sizesX_take G (j + 1)
            have hsn : G.take (j + 1) = G.take j ++ [G[j]] := List.take_succ_eq_append_getElem hjl
            rw [hsn, sizesX_snoc] at hcz
            have HSN : Hid (formsX (G.take (j + 1)) = formsX (G.take j) ++ ⟨#[47]⟩ ++ G[j].form) := by rw [hsn]; exact formsX_snoc _ _
            have hadd1 := run_add Tryz.prog (formsX (G.take j)) ⟨#[47]⟩ (by rw [size1]; omega)
            have hadd2 := run_add Tryz.prog (formsX (G.take j) ++ ⟨#[47]⟩) G[j].form (by rw [sizeApp, size1]; omega)
            clear hsn hIsu q0 q1 q2
            go_wp2
            go_round
            case rel => exact ⟨j + 1, by omega, by go_num, by rw [HSN.out]⟩
            case measure => simp [intOf]; omega
          · have hjl' : j = G.length := by omega
            have hall : G.take j = G := by rw [hjl', List.take_length]
            rw [hall] at hfz ⊢
            have hadd1 := run_add Tryz.prog ⟨#[123]⟩ (formsX G) (by rw [size1]; omega)
            have hadd2 := run_add Tryz.prog (⟨#[123]⟩ ++ formsX G) ⟨#[125]⟩ (by rw [sizeApp, size1, size1]; omega)
            clear hall hts
            go_wp2
            go_ret
            have hre := mkRe' (d := d) (q := w1.heap.size) (W := w1) (vL := .slice ao G.length cap) (wI := 97) (kI := 0) (f := ⟨#[123]⟩ ++ formsX G ++ ⟨#[125]⟩) ⟨97, 0, G, ⟨#[123]⟩ ++ formsX G ++ ⟨#[125]⟩⟩ rfl (by rfl) rfl rfl HR.out (by show (97 : Nat) < 256; decide) (fun h => by simp at h)
              (fun _ => by show sizesX G ≤ (⟨#[123]⟩ ++ formsX G ++ ⟨#[125]⟩ : ByteArray).size; rw [sizeApp, sizeApp, size1, size1, HGZ.out]; omega)
            refine ⟨.pointer (some ⟨w1.heap.size, 0, none⟩), rfl, ⟨d + 1, by rw [hE'.out]; exact hre⟩, ?_, hbel.alloc (by omega) _⟩
            rw [hE'.out]
            show (⟨#[123]⟩ ++ formsX G ++ ⟨#[125]⟩ : ByteArray).size ≤ _
            rw [sizeApp, sizeApp, size1, size1]; omega
end Go.Proofs.YtodagkkjfipbgaaGreatDoor
