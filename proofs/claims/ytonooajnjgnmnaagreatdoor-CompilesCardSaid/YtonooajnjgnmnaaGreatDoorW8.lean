import Derived.Test.YtonooajnjgnmnaaGreatDoorW6toW7
import Derived.Test.YtonooajnjgnmnaaGreatDoorL
namespace Go.Proofs.YtonooajnjgnmnaaGreatDoor
open Go.RowKit

theorem below_drewN {B : Nat} {a w : World} (h : Below B a w) (n : Nat) : Below B a (w.drewN n) := ⟨h.os, h.tape, h.output, h.size, h.block⟩
/-- One element more at the end of a row of the call's own. -/
theorem ReRow.push {R : Value → Rx → Prop} {B : Nat} {w' : World} {v' u : Value} {x : Rx} {O : List Rx} {us : List Value}
    (hlen : us.length = O.length) (hR : ∀ (i : Nat) (u : Value) (x : Rx), us[i]? = some u → O[i]? = some x → R u x) (hu : R u x)
    (hown : w'.ownsRow B 57 1 v' (O.length + 1) (us ++ [u])) : ReRow R B w' v' (O ++ [x]) := by
  refine ⟨us ++ [u], by simp [hlen], by simpa using hown, ?_⟩
  intro i u' x' h1 h2
  by_cases hi : i < O.length
  · rw [List.getElem?_append_left (by omega)] at h1
    rw [List.getElem?_append_left hi] at h2
    exact hR i _ _ h1 h2
  · have hi' : i = O.length := by
      have := (List.getElem?_eq_some_iff.1 h2).1
      simp at this; omega
    subst hi'
    rw [List.getElem?_append_right (by omega)] at h1
    rw [List.getElem?_append_right (by omega)] at h2
    simp [hlen] at h1 h2
    subst h1; subst h2
    exact hu
theorem push2 {R : Value → Rx → Prop} {B : Nat} {w' : World} {v' u u2 : Value} {x x2 : Rx} {O : List Rx} {us : List Value}
    (hlen : us.length = O.length) (hR : ∀ (i : Nat) (u : Value) (x : Rx), us[i]? = some u → O[i]? = some x → R u x) (hu : R u x) (hu2 : R u2 x2)
    (hown : w'.ownsRow B 57 1 v' (O.length + 1 + 1) (us ++ [u] ++ [u2])) : ReRow R B w' v' (O ++ [x] ++ [x2]) := by
  refine ReRow.push (us := us ++ [u]) (by simp [hlen]) ?_ hu2 (by simpa using hown)
  intro i u' x' h1 h2
  by_cases hi : i < O.length
  · rw [List.getElem?_append_left (by omega)] at h1
    rw [List.getElem?_append_left hi] at h2
    exact hR i _ _ h1 h2
  · have hi' : i = O.length := by
      have := (List.getElem?_eq_some_iff.1 h2).1
      simp at this; omega
    subst hi'
    rw [List.getElem?_append_right (by omega)] at h1
    rw [List.getElem?_append_right (by omega)] at h2
    simp [hlen] at h1 h2
    subst h1; subst h2
    exact hu
theorem below_push {B : Nat} {w W w' : World} {v : Value} {e : TypeId} {size n : Nat} {us : List Value} (hg : W.grownBy w' v.ownBlock) (hb : Below B w W) (hB : B ≤ W.heap.size) (hown : W.ownsRow B e size v n us) : Below B w w' :=
  hb.grown hg hB (fun k hk => (hown.lt k hk).1)
theorem one_ptr (q : Option Addr) : ∀ u ∈ [Value.pointer q], u.oneCell' = true := by
  intro u hu; simp at hu; subst hu; rfl

/-- What has been gathered when k elements are done. -/
def amongAt (L : List Rx) (x : Rx) (k : Nat) (inn : Bool) (O : List Rx) : Prop := O ++ (if inn = true then L.drop k else amongX (L.drop k) x) = amongX L x
theorem amongAt_in {L : List Rx} {x : Rx} {k : Nat} {O : List Rx} (hk : k < L.length) (h : amongAt L x k true O) : amongAt L x (k + 1) true (O ++ [L[k]]) := by
  unfold amongAt at *
  rw [if_pos rfl, List.drop_eq_getElem_cons hk] at h
  rw [if_pos rfl, List.append_assoc]; exact h
theorem amongAt_gt {L : List Rx} {x : Rx} {k : Nat} {O : List Rx} (hk : k < L.length) (h : amongAt L x k false O) (hle : leF x.form L[k].form = false) : amongAt L x (k + 1) false (O ++ [L[k]]) := by
  unfold amongAt at *
  rw [if_neg (by simp), List.drop_eq_getElem_cons hk, amongX, if_neg (by simp [hle])] at h
  rw [if_neg (by simp), List.append_assoc]; exact h
theorem amongAt_eq {L : List Rx} {x : Rx} {k : Nat} {O : List Rx} (hk : k < L.length) (h : amongAt L x k false O) (hle : leF x.form L[k].form = true) (he : (x.form.toList == L[k].form.toList) = true) : amongAt L x (k + 1) true (O ++ [L[k]]) := by
  unfold amongAt at *
  rw [if_neg (by simp), List.drop_eq_getElem_cons hk, amongX, if_pos hle, if_pos he] at h
  rw [if_pos rfl, List.append_assoc]; exact h
theorem amongAt_lt {L : List Rx} {x : Rx} {k : Nat} {O : List Rx} (hk : k < L.length) (h : amongAt L x k false O) (hle : leF x.form L[k].form = true) (he : (x.form.toList == L[k].form.toList) = false) : amongAt L x (k + 1) true (O ++ [x] ++ [L[k]]) := by
  unfold amongAt at *
  rw [if_neg (by simp), List.drop_eq_getElem_cons hk, amongX, if_pos hle, if_neg (by simp [he])] at h
  rw [if_pos rfl, List.append_assoc, List.append_assoc]; exact h
theorem amongAt_len {L : List Rx} {x : Rx} {k : Nat} {inn : Bool} {O : List Rx} (h : amongAt L x k inn O) : O.length ≤ L.length + 1 := by
  have hl : ∀ L : List Rx, (amongX L x).length ≤ L.length + 1 := by
    intro L; induction L with
    | nil => simp [amongX]
    | cons a r ih => rw [amongX]; split
                     · split <;> simp
                     · simp; omega
  have := congrArg List.length h
  have := hl L
  simp at *; omega

set_option maxHeartbeats 4000000 in
theorem among_any (w : World) (d : Nat) (vl a : Value) (L : List Rx) (x : Rx) (hl : ReRow (IsRe d w) 0 w vl L) (ha : IsRe d w a x) (hLl : L.length ≤ 8000000000) :
    Calls Tryz.prog 57 #[vl, a] w fun e w' => ∃ v, e = .returned v ∧ ReRow (IsRe d w) w.heap.size w' v (amongX L x) ∧ Below w.heap.size w w' := by
  have ha0 := ha
  obtain ⟨ao, cap, rfl, hrow⟩ := hl.form
  obtain ⟨p, vL, e, rfl, rfl, c0, c1, c2, c3, hp, hr, hw, h1, h2⟩ := ha.open
  have HA : Hid (IsRe (e + 1) w (.pointer (some ⟨p, 0, none⟩)) x) := ha0
  have HR : Hid (∀ i (hi : i < L.length), ∃ g u, ao = some ⟨g, 0, none⟩ ∧ w.cell? ⟨g, i, none⟩ = some u ∧ IsRe (e + 1) w u L[i]) := hrow
  clear ha0 ha hrow hl hr h1 h2 c0 c1 c2
  go_enter Tryz.func57, Tryz.ntmps57
  go_wp2
  go_loopg [5, 6, 7] L.length (fun g5 out inn i wr => ∃ (k : Nat) (ib : Bool) (O : List Rx), k ≤ L.length ∧ g5 = L.length - k ∧ i = .int .i64 k ∧ inn = .bool ib ∧ Hid (amongAt L x k ib O) ∧ ReRow (IsRe (e + 1) w) w.heap.size wr out O ∧ Below w.heap.size w wr)
  case atStart => exact ⟨0, false, [], Nat.zero_le _, rfl, rfl, rfl, rfl, ⟨[], rfl, World.ownsRow_nil _ _ _ _, by simp⟩, Below.refl _ _⟩
  case round =>
    obtain ⟨k, ib, O, hk, rfl, rfl, rfl, hat, ⟨us, hul, hown, huR⟩, hbel⟩ := hrel
    have hOl := amongAt_len hat.out
    have hsz := hbel.size
    have HU : Hid (∀ (i : Nat) (u : Value) (x : Rx), us[i]? = some u → O[i]? = some x → IsRe (e + 1) w u x) := huR
    clear huR
    have HUL : Hid (us.length = O.length) := hul
    clear hul
    have d3 : wr.cell? ⟨p, 3, none⟩ = some (.string x.form) := (hbel.cell (p := ⟨p, 3, none⟩) hp).trans c3
    by_cases hlt : k < L.length
    · obtain ⟨g, u, rfl, hcell, hIs⟩ := HR.out k hlt
      obtain ⟨p', vL', e', he', rfl, q0, q1, q2, q3, hp', _, _, _, _⟩ := hIs.open
      have hg : g < w.heap.size := World.block_lt_of_cell? w ⟨g, k, none⟩ hcell
      have dg : wr.cell? ⟨g, k, none⟩ = some (.pointer (some ⟨p', 0, none⟩)) := (hbel.cell (p := ⟨g, k, none⟩) hg).trans hcell
      have dq : wr.cell? ⟨p', 3, none⟩ = some (.string L[k].form) := (hbel.cell (p := ⟨p', 3, none⟩) hp').trans q3
      have HI : Hid (IsRe (e + 1) w (.pointer (some ⟨p', 0, none⟩)) L[k]) := hIs
      clear hIs q0 q1 q2 q3 he'
      cases ib
      · cases hle : leF x.form L[k].form
        · have hle1 : Op.bytesLess x.form.toList L[k].form.toList = false := by unfold leF at hle; simp at hle; exact hle.1
          have hle2 : (x.form.toList == L[k].form.toList) = false := by unfold leF at hle; simp at hle; simp [hle.2]
          have HLE : Hid (leF x.form L[k].form = false) := hle
          clear hle
          go_wp2
          go_quiet (fail)
          go_wp2_with (at_builtin; refine wpList_push rfl (.tmp 46) (.tmp 51) 82 rfl w.heap.size 57 (.pointer none) 1 8 Tryz.infoRe Tryz.undRe rfl (by decide) u5 O.length us rfl (by exact hown.alloc _) wr.heap.size 1 [.pointer (some ⟨p', 0, none⟩)] rfl rfl (heap_alloc_new _ _) (one_ptr _) (by omega) (by omega) (by simp; omega) ?_; intro v2 w2 hown2 hg2)
          have hb2 := below_push hg2 (by exact (below_drewN hbel _).alloc (by exact hsz) _) (by simp; omega) (by exact hown.alloc _)
          go_roundg (L.length - (k + 1))
          case measure => omega
          case rel => exact ⟨k + 1, false, O ++ [L[k]], by omega, rfl, by go_num, rfl, amongAt_gt hlt hat.out HLE.out, ReRow.push HUL.out HU.out HI.out hown2, hb2⟩
        · cases he : (x.form.toList == L[k].form.toList)
          · have hle1 : Op.bytesLess x.form.toList L[k].form.toList = true := by unfold leF at hle; rw [he] at hle; simpa using hle
            have HLE : Hid (leF x.form L[k].form = true) := hle
            clear hle
            go_wp2
            go_quiet (fail)
            go_wp2
            go_quiet (fail)
            go_wp2_with (first | (at_builtin; refine wpList_push rfl (.tmp 42) (.tmp 44) 82 rfl w.heap.size 57 (.pointer none) 1 8 Tryz.infoRe Tryz.undRe rfl (by decide) u5 O.length us rfl (by exact hown.alloc _) wr.heap.size 1 [.pointer (some ⟨p, 0, none⟩)] rfl rfl (heap_alloc_new _ _) (one_ptr _) (by omega) (by omega) (by simp; omega) ?_; intro v2 w2 hown2 hg2; have hb2 := below_push hg2 (by exact (below_drewN hbel _).alloc (by exact hsz) _) (by simp; omega) (by exact hown.alloc _); have dg2 : w2.cell? ⟨g, k, none⟩ = some (.pointer (some ⟨p', 0, none⟩)) := (hb2.cell (p := ⟨g, k, none⟩) hg).trans hcell; have hsz2 := hb2.size) | (at_builtin; refine wpList_push rfl (.tmp 46) (.tmp 51) 82 rfl w.heap.size 57 (.pointer none) 1 8 Tryz.infoRe Tryz.undRe rfl (by decide) v2 (O.length + 1) (us ++ [.pointer (some ⟨p, 0, none⟩)]) rfl (by exact hown2.alloc _) w2.heap.size 1 [.pointer (some ⟨p', 0, none⟩)] rfl rfl (heap_alloc_new _ _) (one_ptr _) (by omega) (by omega) (by simp; omega) ?_; intro v3 w3 hown3 hg3))
            have hb3 := below_push hg3 (by exact hb2.alloc (by exact hsz2) _) (by simp; omega) (by exact hown2.alloc _)
            go_roundg (L.length - (k + 1))
            case measure => omega
            case rel => exact ⟨k + 1, true, O ++ [x] ++ [L[k]], by omega, rfl, by go_num, rfl, amongAt_lt hlt hat.out HLE.out he, push2 HUL.out HU.out HA.out HI.out hown3, hb3⟩
          · have HLE : Hid (leF x.form L[k].form = true) := hle
            clear hle
            go_wp2
            go_quiet (fail)
            go_wp2
            go_quiet (fail)
            go_wp2_with (at_builtin; refine wpList_push rfl (.tmp 46) (.tmp 51) 82 rfl w.heap.size 57 (.pointer none) 1 8 Tryz.infoRe Tryz.undRe rfl (by decide) u5 O.length us rfl (by exact hown.alloc _) wr.heap.size 1 [.pointer (some ⟨p', 0, none⟩)] rfl rfl (heap_alloc_new _ _) (one_ptr _) (by omega) (by omega) (by simp; omega) ?_; intro v2 w2 hown2 hg2)
            have hb2 := below_push hg2 (by exact (below_drewN hbel _).alloc (by exact hsz) _) (by simp; omega) (by exact hown.alloc _)
            go_roundg (L.length - (k + 1))
            case measure => omega
            case rel => exact ⟨k + 1, true, O ++ [L[k]], by omega, rfl, by go_num, rfl, amongAt_eq hlt hat.out HLE.out he, ReRow.push HUL.out HU.out HI.out hown2, hb2⟩
      · go_wp2
        go_quiet (fail)
        go_wp2_with (at_builtin; refine wpList_push rfl (.tmp 46) (.tmp 51) 82 rfl w.heap.size 57 (.pointer none) 1 8 Tryz.infoRe Tryz.undRe rfl (by decide) u5 O.length us rfl (by exact hown.alloc _) wr.heap.size 1 [.pointer (some ⟨p', 0, none⟩)] rfl rfl (heap_alloc_new _ _) (one_ptr _) (by omega) (by omega) (by simp; omega) ?_; intro v2 w2 hown2 hg2)
        have hb2 := below_push hg2 (by exact (below_drewN hbel _).alloc (by exact hsz) _) (by simp; omega) (by exact hown.alloc _)
        go_roundg (L.length - (k + 1))
        case measure => omega
        case rel => exact ⟨k + 1, true, O ++ [L[k]], by omega, rfl, by go_num, rfl, amongAt_in hlt hat.out, ReRow.push HUL.out HU.out HI.out hown2, hb2⟩
    · have hkl : k = L.length := by omega
      cases ib
      · have hfin : O ++ [x] = amongX L x := by
          have := hat.out; unfold amongAt at this
          rw [if_neg (by simp), hkl, List.drop_length] at this; exact this
        have HF : Hid (O ++ [x] = amongX L x) := hfin
        clear hfin hkl
        go_wp2_with (at_builtin; refine wpList_push rfl (.tmp 55) (.tmp 57) 82 rfl w.heap.size 57 (.pointer none) 1 8 Tryz.infoRe Tryz.undRe rfl (by decide) u5 O.length us rfl (by exact hown.alloc _) wr.heap.size 1 [.pointer (some ⟨p, 0, none⟩)] rfl rfl (heap_alloc_new _ _) (one_ptr _) (by omega) (by omega) (by simp; omega) ?_; intro v2 w2 hown2 hg2)
        have hb2 := below_push hg2 (by exact hbel.alloc (by exact hsz) _) (by simp; omega) (by exact hown.alloc _)
        go_ret
        exact ⟨_, rfl, by rw [← HF.out]; exact ReRow.push HUL.out HU.out HA.out hown2, hb2⟩
      · have hfin : O = amongX L x := by
          have := hat.out; unfold amongAt at this
          rw [if_pos rfl, hkl, List.drop_length, List.append_nil] at this; exact this
        have HF : Hid (O = amongX L x) := hfin
        clear hfin hkl
        go_wp2
        go_ret
        exact ⟨_, rfl, by rw [← HF.out]; exact ⟨us, HUL.out, hown, HU.out⟩, hbel⟩
end Go.Proofs.YtonooajnjgnmnaaGreatDoor
