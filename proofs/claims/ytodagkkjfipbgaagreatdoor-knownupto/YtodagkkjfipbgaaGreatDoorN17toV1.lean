/- mayEnd. -/
import Derived.Test.YtodagkkjfipbgaaGreatDoorN15toN16
import Derived.Test.YtodagkkjfipbgaaGreatDoorN13toN14
import Derived.Test.YtodagkkjfipbgaaGreatDoorN12lone
import Derived.Test.YtodagkkjfipbgaaGreatDoorN10toN11
import Derived.Test.YtodagkkjfipbgaaGreatDoorN9lone
import Derived.Test.YtodagkkjfipbgaaGreatDoorN1toN5
import Derived.Test.YtodagkkjfipbgaaGreatDoorJ10toJ11
import Derived.Test.YtodagkkjfipbgaaGreatDoorK9toJ9
import Derived.Test.YtodagkkjfipbgaaGreatDoorJ8toQ4
import Derived.Test.YtodagkkjfipbgaaGreatDoorJ6toK3
import Derived.Test.YtodagkkjfipbgaaGreatDoorK7toL3
import Derived.Test.YtodagkkjfipbgaaGreatDoorP2toQ1
import Derived.Test.YtodagkkjfipbgaaGreatDoorBtoP1
import Derived.Test.YtodagkkjfipbgaaGreatDoorK4toK6
import Derived.Test.YtodagkkjfipbgaaGreatDoorQ5toK2
import Derived.Test.YtodagkkjfipbgaaGreatDoorQ2toQ3
import Derived.Test.YtodagkkjfipbgaaGreatDoorJ3toJ5
import Derived.Test.YtodagkkjfipbgaaGreatDoorJ2toJ7
import Derived.Test.YtodagkkjfipbgaaGreatDoorN8lone
import Derived.Test.YtodagkkjfipbgaaGreatDoorN6toN0
namespace Go.Proofs.YtodagkkjfipbgaaGreatDoor
open Go.RowKit Go.Maps

theorem SRw.form {w : World} {base : Nat} {v : Value} {g : List (List Nat)} {rv : List Value} (h : SRw w base v g rv) : ∃ ao cap, v = .slice ao g.length cap ∧ ∀ i (hi : i < g.length), ∃ gB ao2 c2, ao = some ⟨gB, 0, none⟩ ∧ gB < w.heap.size ∧ w.cell? ⟨gB, i, none⟩ = some (.slice ao2 g[i].length c2) ∧ ∀ t (ht : t < g[i].length), ∃ q, ao2 = some ⟨q, 0, none⟩ ∧ q < w.heap.size ∧ w.cell? ⟨q, t, none⟩ = some (.int .i64 (g[i][t] : Nat)) := by
  obtain ⟨ao, cap, e, hf⟩ := row1_form h.row
  refine ⟨ao, cap, e, fun i hi => ?_⟩
  obtain ⟨u, hu⟩ : ∃ u, rv[i]? = some u := ⟨rv[i]'(by have := h.len; omega), List.getElem?_eq_getElem _⟩
  obtain ⟨gB, h1, h2, h3⟩ := hf i u hu hi
  obtain ⟨ao2, c2, e2, hf2⟩ := row1_form (h.to_ i u _ hu (List.getElem?_eq_getElem hi))
  subst e2
  exact ⟨gB, ao2, c2, h1, h2, h3, fun t ht => hf2 t _ (intCells_at _ t ht) ht⟩
theorem Marks0.pop {ks : List Nat} {V : List (Bool × List Nat)} {c : Bool} {M : List Bool} {W : List Nat} {a : Nat} (h : Marks0 ks V c (fun _ => False) M (W ++ [a])) : Marks0 ks V c (fun y => y = a) M W := by
  refine ⟨h.len, h.sound, fun i hi => h.work i (List.mem_append_left _ hi), fun y hy => ?_⟩
  rcases h.done y hy with h1 | h1 | h1
  · rw [List.mem_append] at h1
    rcases h1 with h1 | h1
    · exact Or.inl h1
    · simp at h1; exact Or.inr (Or.inl h1)
  · exact h1.elim
  · exact Or.inr (Or.inr h1)
theorem Marks0.fin {ks : List Nat} {V : List (Bool × List Nat)} {c : Bool} {M : List Bool} {W : List Nat} {a : Nat} (h : Marks0 ks V c (fun y => y = a) M W) (ha : ∀ x, leadsV ks V x a → M[x]? = some true) : Marks0 ks V c (fun _ => False) M W := by
  refine ⟨h.len, h.sound, h.work, fun y hy => ?_⟩
  rcases h.done y hy with h1 | h1 | h1
  · exact Or.inl h1
  · subst h1; exact Or.inr (Or.inr ha)
  · exact Or.inr (Or.inr h1)
theorem Marks0.begin (ks : List Nat) (V : List (Bool × List Nat)) (c : Bool) : Marks0 ks V c (fun _ => False) (List.replicate V.length false) [] := by
  have hn : ∀ i, (List.replicate V.length false)[i]? ≠ some true := fun i h => by
    rw [List.getElem?_replicate] at h
    split at h <;> cases h
  exact ⟨by simp, fun i h => (hn i h).elim, fun i h => by simp at h, fun y h => (hn y h).elim⟩
theorem nil_or_snoc (l : List Nat) : l = [] ∨ ∃ l' a, l = l' ++ [a] := by
  rcases List.eq_nil_or_concat l with h | ⟨l', a, h⟩
  · exact Or.inl h
  · exact Or.inr ⟨l', a, by rw [h, List.concat_eq_append]⟩
theorem toDo_begin (n : Nat) : toDo (List.replicate n false) [] = 2 * n := by unfold toDo; simp
theorem make_may (W : World) (n : Nat) (hn : n ≤ 320000) : (Instr.makeSlice 108 (.int .i64 n) (.int .i64 n)).run Tryz.prog W = .ok (.slice (some ⟨W.heap.size, 0, none⟩) n n) (W.alloc (.cells (madeCells #[.bool false] n) 4)) := by
  obtain ⟨i, hi, hz0, hz1, hz2⟩ := info_parts Tryz.infoB
  have h := run_make (P := Tryz.prog) W 108 4 i (.bool false) Tryz.undRowB hi hz0 .i64 .i64 n n (by omega) (by omega) (by rw [hz2]; omega) (by omega)
  rw [hz1] at h
  simpa [Value.cells] using h
theorem made_bool (n : Nat) : madeCells #[.bool false] n = boolCells (List.replicate n false) := by
  apply Array.toList_inj.1
  rw [made_one]
  unfold boolCells
  simp
theorem row_pop {w : World} {base n cap : Nat} {ao : Option Addr} {l : List Nat} {a : Nat} (h : w.ownsRow base 3 1 (.slice ao (l ++ [a]).length cap) (l ++ [a]).length (intCells (l ++ [a]))) (hn : n = l.length) : ∃ q, ao = some ⟨q, 0, none⟩ ∧ base ≤ q ∧ w.cell? ⟨q, n, none⟩ = some (.int .i64 (a : Nat)) ∧ (l ++ [a]).length ≤ cap ∧ w.ownsRow base 3 1 (.slice (some ⟨q, 0, none⟩) n cap) n (intCells l) := by
  subst hn
  have hc : (intCells (l ++ [a]))[l.length]? = some (.int .i64 (a : Nat)) := by rw [intCells_snoc, List.getElem?_append_right (by simp [intCells])]; simp [intCells]
  obtain ⟨q, hq, hb, hcell⟩ := row_at h hc (by simp)
  subst hq
  obtain ⟨h1, h2⟩ := h
  rcases h2 with ⟨hv, hn⟩ | ⟨g, cp, cur, hv, hg, hh, hcap, hmx, hsz, hcur⟩
  · simp at hn
  · injection hv with hv1 hv2 hv3
    simp at hv1
    subst hv1
    subst hv3
    refine ⟨q, rfl, hb, hcell, hcap, ⟨by simp [intCells], Or.inr ⟨q, cap, cur, rfl, hg, hh, by simp at hcap; omega, hmx, hsz, ?_⟩⟩⟩
    have e : (cur.toList.take ((l ++ [a]).length * 1)).take (l.length * 1) = (intCells (l ++ [a])).take (l.length * 1) := by rw [hcur]
    rw [List.take_take] at e
    rw [show min (l.length * 1) ((l ++ [a]).length * 1) = l.length * 1 from by simp] at e
    rw [e, intCells_snoc, List.take_append_of_le_length (by simp [intCells])]
    exact List.take_of_length_le (by simp [intCells])

set_option maxRecDepth 100000 in
set_option maxHeartbeats 4000000 in
theorem mayEnd_any (base sb o : Nat) (ks : List Nat) (vP vH vS : Value) (V : List Vw) (aoV : Option Addr) (capV : Nat) (src : List (List Nat)) (rv : List Value) (c : Bool) (w : World) (hW : w.ownsRow base 254 10 (.slice aoV V.length capV) V.length (viewCells V)) (hV : VGood ks V) (hVl : V.length ≤ 320000)
    (hO : w.heap[o]? = some (.cells #[vP, vH, .slice aoV V.length capV] 95 (0, 0))) (hS : SRw w sb vS src rv) (hSO : SrcOk ks (plainV V) src) (hSl : ∀ l ∈ src, l.length ≤ 2560000) :
    Calls Tryz.prog 146 #[.pointer (some ⟨o, 0, none⟩), .bool c, vS] w fun r w' => ∃ M : List Bool, r = .returned (.slice (some ⟨w.heap.size, 0, none⟩) M.length M.length) ∧ w'.heap[w.heap.size]? = some (.cells (boolCells M) 4 (0, 0)) ∧ M.length = V.length ∧ (∀ i, M[i]? = some true ↔ mayV ks (plainV V) c i) ∧ Below w.heap.size w w' := by
  obtain ⟨aoS, capS, rfl, hSf⟩ := hS.form
  have HSF : Hid (∀ i (hi : i < src.length), ∃ gB ao2 c2, aoS = some ⟨gB, 0, none⟩ ∧ gB < w.heap.size ∧ w.cell? ⟨gB, i, none⟩ = some (.slice ao2 src[i].length c2) ∧ ∀ t (ht : t < src[i].length), ∃ q, ao2 = some ⟨q, 0, none⟩ ∧ q < w.heap.size ∧ w.cell? ⟨q, t, none⟩ = some (.int .i64 (src[i][t] : Nat))) := hSf
  have HWV : Hid (w.ownsRow base 254 10 (.slice aoV V.length capV) V.length (viewCells V)) := hW
  have HV : Hid (VGood ks V) := hV
  have HSO : Hid (SrcOk ks (plainV V) src) := hSO
  have HSL : Hid (∀ l ∈ src, l.length ≤ 2560000) := hSl
  have hpl : (plainV V).length = V.length := by unfold plainV; simp
  have HPL : Hid ((plainV V).length = V.length) := hpl
  have HSLN : Hid (src.length = V.length) := hSO.1.trans hpl
  have hol := heap_lt hO
  have c2 : w.cell? ⟨o, 2, none⟩ = some (.slice aoV V.length capV) := cell_of_block hO 2 _ rfl
  have hmk := fun W => make_may W V.length hVl
  have hen : ∀ (args : Array Value) (w : World), (callFunc 186 args).run Tryz.prog w = .ok (.enter 186 args) w := enters_of Tryz.func186 (by kernel_rfl) rfl
  obtain ⟨W0, hW0⟩ : ∃ W0, W0 = ((w.alloc (.cells (madeCells #[.bool false] V.length) 4)).alloc (.cells #[.slice (some ⟨w.heap.size, 0, none⟩) V.length V.length] 108)).alloc (.cells #[.slice none 0 0] 33) := ⟨_, rfl⟩
  have HW0 : Hid (W0 = ((w.alloc (.cells (madeCells #[.bool false] V.length) 4)).alloc (.cells #[.slice (some ⟨w.heap.size, 0, none⟩) V.length V.length] 108)).alloc (.cells #[.slice none 0 0] 33)) := hW0
  have b0 : Below w.heap.size w W0 := by rw [hW0]; exact ((below_alloc w _).alloc (by simp) _).alloc (by simp; omega) _
  have M0 : Hid (MSt w.heap.size W0 (List.replicate V.length false) [] none 0) := by
    refine ⟨?_, ?_, ?_, World.ownsRow_nil _ _ _ _⟩
    · rw [hW0, ← made_bool]
      exact (Below.heap_alloc _ _ _ (by simp; omega)).trans ((Below.heap_alloc _ _ _ (by simp)).trans (heap_alloc_new w _))
    · rw [hW0, List.length_replicate]
      exact (Below.heap_alloc _ _ _ (by simp)).trans ((show (w.alloc (.cells (madeCells #[.bool false] V.length) 4)).heap.size = w.heap.size + 1 by simp) ▸ heap_alloc_new (w.alloc _) _)
    · rw [hW0]
      exact (show ((w.alloc (.cells (madeCells #[.bool false] V.length) 4)).alloc (.cells #[.slice (some ⟨w.heap.size, 0, none⟩) V.length V.length] 108)).heap.size = w.heap.size + 2 by simp) ▸ heap_alloc_new ((w.alloc _).alloc _) _
  have B0 : Hid (Below w.heap.size w W0) := b0
  have K0 : Hid (Marks0 ks (plainV V) c (fun _ => False) (List.replicate V.length false) []) := by have := Marks0.begin ks (plainV V) c; rw [hpl] at this; exact this
  have c2' := (b0.cell (p := ⟨o, 2, none⟩) hol).trans c2
  rw [hW0] at c2'
  clear hW hV hO hS hSO hSf hSl hpl hW0 b0
  go_enter Tryz.func146, Tryz.ntmps146
  go_wp2_with fail
  rw [← HW0.out]
  go_loopg [27] V.length (fun gh iv wx => ∃ (i : Nat) (M : List Bool) (W : List Nat) (aoW : Option Addr) (capW : Nat), i ≤ V.length ∧ gh = V.length - i ∧ iv = .int .i64 i ∧ Hid (MSt w.heap.size wx M W aoW capW) ∧ Hid (Marks0 ks (plainV V) c (fun _ => False) M W) ∧ Hid (∀ t : Nat, t < i → ((plainV V)[t]?).map Prod.fst = some c → M[t]? = some true) ∧ Hid (toDo M W ≤ 2 * V.length) ∧ Hid (Below w.heap.size w wx))
  case atStart => exact ⟨0, _, [], none, 0, Nat.zero_le _, rfl, rfl, M0, K0, (fun t ht => absurd ht (Nat.not_lt_zero _)), (by show _ ≤ _; rw [toDo_begin]; exact Nat.le_refl _), B0⟩
  case round =>
    obtain ⟨i, M, W, aoW, capW, hi, rfl, rfl, hM, hK, hC, hD, hB⟩ := hrel
    obtain ⟨w1, hw1⟩ : ∃ w1, w1 = wr := ⟨wr, rfl⟩
    subst hw1
    clear M0 K0 B0 c2'
    have hs1 := hB.out.size
    have hMl : M.length = V.length := hK.out.len.trans HPL.out
    have hWl : W.length ≤ 640000 := by have := hD.out; unfold toDo at this; omega
    by_cases hlt : i < V.length
    · obtain ⟨v, hv⟩ : ∃ v, V[i]? = some v := ⟨V[i], List.getElem?_eq_getElem hlt⟩
      have hvm := HV.out v (List.mem_of_getElem? hv)
      obtain ⟨gV, hgV, hgl, hvc⟩ := view_cells HWV.out (fun v h => (HV.out v h).1) hv
      subst hgV
      have HPV : Hid ((plainV V)[i]? = some (v.1, v.2.2)) := by show _ = _; unfold plainV; rw [List.getElem?_map, hv]; rfl
      obtain ⟨vc, vt, vl⟩ := v
      obtain ⟨n0, n1, n2, n3, n4, n5, n6, n7, en⟩ := eight hvm.1
      simp only at en
      subst en
      have d0 := (hB.out.cell (p := ⟨gV, i * 10, none⟩) hgl).trans (hvc 0 _ rfl)
      have d1 := (hB.out.cell (p := ⟨gV, i * 10 + 1, none⟩) hgl).trans (hvc 1 _ rfl)
      have d2 := (hB.out.cell (p := ⟨gV, i * 10 + 2, none⟩) hgl).trans (hvc 2 _ rfl)
      have d3 := (hB.out.cell (p := ⟨gV, i * 10 + 3, none⟩) hgl).trans (hvc 3 _ rfl)
      have d4 := (hB.out.cell (p := ⟨gV, i * 10 + 4, none⟩) hgl).trans (hvc 4 _ rfl)
      have d5 := (hB.out.cell (p := ⟨gV, i * 10 + 5, none⟩) hgl).trans (hvc 5 _ rfl)
      have d6 := (hB.out.cell (p := ⟨gV, i * 10 + 6, none⟩) hgl).trans (hvc 6 _ rfl)
      have d7 := (hB.out.cell (p := ⟨gV, i * 10 + 7, none⟩) hgl).trans (hvc 7 _ rfl)
      have d8 := (hB.out.cell (p := ⟨gV, i * 10 + 8, none⟩) hgl).trans (hvc 8 _ rfl)
      have d9 := (hB.out.cell (p := ⟨gV, i * 10 + 9, none⟩) hgl).trans (hvc 9 _ rfl)
      obtain ⟨W1, hW1⟩ : ∃ W1, W1 = w1.alloc (.cells #[.bool vc, .bool vt, .int .i64 (n0 : Nat), .int .i64 (n1 : Nat), .int .i64 (n2 : Nat), .int .i64 (n3 : Nat), .int .i64 (n4 : Nat), .int .i64 (n5 : Nat), .int .i64 (n6 : Nat), .int .i64 (n7 : Nat)] 254) := ⟨_, rfl⟩
      have HW1 : Hid (W1 = w1.alloc (.cells #[.bool vc, .bool vt, .int .i64 (n0 : Nat), .int .i64 (n1 : Nat), .int .i64 (n2 : Nat), .int .i64 (n3 : Nat), .int .i64 (n4 : Nat), .int .i64 (n5 : Nat), .int .i64 (n6 : Nat), .int .i64 (n7 : Nat)] 254)) := hW1
      have b1 : Below w1.heap.size w1 W1 := by rw [hW1]; exact below_alloc w1 _
      have M1 : Hid (MSt w.heap.size W1 M W aoW capW) := hM.out.below b1
      have B1 : Hid (Below w.heap.size w W1) := hB.out.trans (b1.mono hs1)
      have hs2 := b1.size
      clear hvc hvm hv hW1 b1
      by_cases hcc : vc = c
      · subst hcc
        go_wp2_with fail
        rw [← HW1.out]
        refine (mark_any w.heap.size W1 M W aoW capW i M1.out (by omega) (by omega)).mono ?_
        rintro r w2 ⟨rfl, ⟨ao2, cap2, hM2⟩, hb2⟩
        have M2 : Hid (MSt w.heap.size w2 (markM M W i).1 (markM M W i).2 ao2 cap2) := hM2
        have B2 : Hid (Below w.heap.size w w2) := B1.out.trans hb2
        have K2 : Hid (Marks0 ks (plainV V) vc (fun _ => False) (markM M W i).1 (markM M W i).2) := hK.out.mark (by rw [HPL.out]; exact hlt) (may_here (by rw [HPV.out]; rfl))
        have C2 : Hid (∀ t : Nat, t < i + 1 → ((plainV V)[t]?).map Prod.fst = some vc → (markM M W i).1[t]? = some true) := fun t ht hc => by
          rcases Nat.lt_or_ge t i with h | h
          · exact markM_keep (hC.out t h hc)
          · have e : t = i := by omega
            subst e; exact markM_here (by omega)
        have D2 : Hid (toDo (markM M W i).1 (markM M W i).2 ≤ 2 * V.length) := Nat.le_trans (markM_toDo M W i) hD.out
        clear hM2 hb2
        go_wp2_with fail
        go_roundg (V.length - (i + 1))
        case measure => omega
        case rel => exact ⟨i + 1, _, _, ao2, cap2, by omega, rfl, by go_num, M2, K2, C2, D2, B2⟩
      · have hce : (vc == c) = false := by simpa using hcc
        have C2 : Hid (∀ t : Nat, t < i + 1 → ((plainV V)[t]?).map Prod.fst = some c → M[t]? = some true) := fun t ht hc => by
          rcases Nat.lt_or_ge t i with h | h
          · exact hC.out t h hc
          · have e : t = i := by omega
            subst e; rw [HPV.out] at hc; simp at hc; exact absurd hc hcc
        go_wp2_with fail
        go_roundg (V.length - (i + 1))
        case measure => omega
        case rel => exact ⟨i + 1, M, W, aoW, capW, by omega, rfl, by go_num, by rw [← HW1.out]; exact M1, hK, C2, hD, by rw [← HW1.out]; exact B1⟩
    · have HCA : Hid (∀ t : Nat, ((plainV V)[t]?).map Prod.fst = some c → M[t]? = some true) := fun t hc => by
        refine hC.out t ?_ hc
        rcases Nat.lt_or_ge t (plainV V).length with h | h
        · have := HPL.out; omega
        · rw [List.getElem?_eq_none h] at hc; cases hc
      go_wp2_with fail
      go_loopg [] (toDo M W) (fun gh wx => ∃ (M : List Bool) (W : List Nat) (aoW : Option Addr) (capW : Nat), gh = toDo M W ∧ Hid (MSt w.heap.size wx M W aoW capW) ∧ Hid (Marks0 ks (plainV V) c (fun _ => False) M W) ∧ Hid (∀ t : Nat, ((plainV V)[t]?).map Prod.fst = some c → M[t]? = some true) ∧ Hid (toDo M W ≤ 2 * V.length) ∧ Hid (Below w.heap.size w wx))
      case atStart => exact ⟨M, W, aoW, capW, rfl, hM, hK, HCA, hD, hB⟩
      case round =>
        obtain ⟨M2, W2, aoW2, capW2, rfl, hM2, hK2, hC2, hD2, hB2⟩ := hrel
        obtain ⟨w2, hw2⟩ : ∃ w2, w2 = wr := ⟨wr, rfl⟩
        subst hw2
        have hs2 := hB2.out.size
        have hMl2 : M2.length = V.length := hK2.out.len.trans HPL.out
        have hWl2 : W2.length ≤ 640000 := by have := hD2.out; unfold toDo at this; omega
        have wc : w2.cell? ⟨w.heap.size + 2, 0, none⟩ = some (.slice aoW2 W2.length capW2) := cell_of_block hM2.out.wv 0 _ rfl
        rcases nil_or_snoc W2 with hW2 | ⟨W3, a, hW2⟩
        · subst hW2
          have mc : w2.cell? ⟨w.heap.size + 1, 0, none⟩ = some (.slice (some ⟨w.heap.size, 0, none⟩) M2.length M2.length) := cell_of_block hM2.out.mv 0 _ rfl
          go_wp2_with fail
          go_ret
          exact ⟨M2, by rw [hMl2]; rfl, hM2.out.mr, hMl2, hK2.out.all hC2.out, hB2.out⟩
        · subst hW2
          have hlw : (W3 ++ [a]).length = W3.length + 1 := by simp
          obtain ⟨qw, hqw, hqb, wa, wcap, hrow3⟩ := row_pop hM2.out.wr rfl
          subst hqw
          rw [hlw] at wc wcap hWl2
          have ham := hK2.out.work a (by simp)
          have hal : a < V.length := by have := (List.getElem?_eq_some_iff.1 ham).1; omega
          have hal' : (a : Int) < (src.length : Int) := by have := HSLN.out; omega
          have HAM : Hid (M2[a]? = some true) := ham
          have HLW : Hid ((W3 ++ [a]).length = W3.length + 1) := hlw
          have HR3 : Hid (w2.ownsRow (w.heap.size + 3) 3 1 (.slice (some ⟨qw, 0, none⟩) W3.length capW2) W3.length (intCells W3)) := hrow3
          have wf := free_of_block hM2.out.wv
          have hix : IntKind.i64.wrap (((W3.length + 1 : Nat) : Int) - 1) = (W3.length : Int) := by rw [IntWalk.i64_in _ ⟨by omega, by omega⟩]; omega
          obtain ⟨gB, ao2, c2', hgB, hgl, hsc, hst⟩ := HSF.out a (by have := HSLN.out; omega)
          subst hgB
          have hSel : Hid (src[a]? = some (src[a]'(by have := HSLN.out; omega))) := List.getElem?_eq_getElem _
          have hll := HSL.out _ (List.getElem_mem (by have := HSLN.out; omega : a < src.length))
          generalize src[a]'(by have := HSLN.out; omega) = l at hsc hst hSel hll
          have HST : Hid (∀ t (ht : t < l.length), ∃ q, ao2 = some ⟨q, 0, none⟩ ∧ q < w.heap.size ∧ w.cell? ⟨q, t, none⟩ = some (.int .i64 (l[t] : Nat))) := hst
          have HLM : Hid (∀ x, x ∈ l ↔ leadsV ks (plainV V) x a) := HSO.out.2 a l hSel.out
          obtain ⟨X3, hX3⟩ : ∃ X3, X3 = w2.setCell ⟨w.heap.size + 2, 0, none⟩ (.slice (some ⟨qw, 0, none⟩) W3.length capW2) := ⟨_, rfl⟩
          have HX3 : Hid (X3 = w2.setCell ⟨w.heap.size + 2, 0, none⟩ (.slice (some ⟨qw, 0, none⟩) W3.length capW2)) := hX3
          have M3 : Hid (MSt w.heap.size X3 M2 W3 (some ⟨qw, 0, none⟩) capW2) := by
            rw [hX3]
            exact ⟨(setCell_type (by omega)).trans hM2.out.mr, (setCell_type (by omega)).trans hM2.out.mv, (block_setCell hM2.out.wv 0 _).trans rfl, row_kp HR3.out ((Kp.refl _ _).setCell hM2.out.wv (by decide) _)⟩
          have B3 : Hid (Below w.heap.size w X3) := by rw [hX3]; exact hB2.out.setCell (by show w.heap.size ≤ w.heap.size + 2; omega) _
          have K3 : Hid (Marks0 ks (plainV V) c (fun y => y = a) M2 W3) := hK2.out.pop
          have hsc3 := (B3.out.cell (p := ⟨gB, a, none⟩) hgl).trans hsc
          have hsc3' := hsc3
          rw [hX3] at hsc3'
          have hto : toDo M2 (W3 ++ [a]) = toDo M2 W3 + 1 := by unfold toDo; rw [hlw]; omega
          have HTO : Hid (toDo M2 (W3 ++ [a]) = toDo M2 W3 + 1) := hto
          clear hlw hrow3 hst hX3 ham hto
          go_wp2_with fail
          rw [← HX3.out]
          go_loopg [59] l.length (fun gh tv wx => ∃ (t : Nat) (M : List Bool) (W : List Nat) (aoW : Option Addr) (capW : Nat), t ≤ l.length ∧ gh = l.length - t ∧ tv = .int .i64 t ∧ Hid (MSt w.heap.size wx M W aoW capW) ∧ Hid (Marks0 ks (plainV V) c (fun y => y = a) M W) ∧ Hid (∀ i : Nat, ((plainV V)[i]?).map Prod.fst = some c → M[i]? = some true) ∧ Hid (toDo M W ≤ toDo M2 W3) ∧ Hid (∀ t' x, t' < t → l[t']? = some x → M[x]? = some true) ∧ Hid (M[a]? = some true) ∧ Hid (Below w.heap.size w wx))
          case atStart => exact ⟨0, M2, W3, _, _, Nat.zero_le _, rfl, rfl, M3, K3, hC2, Nat.le_refl _, (fun t' x ht => absurd ht (Nat.not_lt_zero _)), HAM, B3⟩
          case round =>
            obtain ⟨t, M4, W4, aoW4, capW4, ht, rfl, rfl, hM4, hK4, hC4, hD4, hT4, hA4, hB4⟩ := hrel
            obtain ⟨w4, hw4⟩ : ∃ w4, w4 = wr := ⟨wr, rfl⟩
            subst hw4
            have hMl4 : M4.length = V.length := hK4.out.len.trans HPL.out
            have hWl4 : W4.length ≤ 640000 := by
              have h1 := hD4.out; have h2 := hD2.out; have h3 := HTO.out
              unfold toDo at *; omega
            by_cases htl : t < l.length
            · obtain ⟨q, hq, hql, hqc⟩ := HST.out t htl
              subst hq
              have qc := (hB4.out.cell (p := ⟨q, t, none⟩) hql).trans hqc
              have HLT : Hid (l[t]? = some (l[t]'htl)) := List.getElem?_eq_getElem htl
              have hxm := (HLM.out (l[t]'htl)).1 (List.getElem_mem htl)
              generalize l[t]'htl = x at qc HLT hxm
              have hxl : x < V.length := by
                obtain ⟨k, _, h4⟩ := hxm
                rcases Nat.lt_or_ge x (plainV V).length with h | h
                · rw [HPL.out] at h; exact h
                · rw [List.getElem?_eq_none h] at h4; cases h4
              have HXM : Hid (mayV ks (plainV V) c x) := may_back hxm (hK4.out.sound a hA4.out)
              clear hqc hxm
              go_wp2_with fail
              refine (mark_any w.heap.size w4 M4 W4 aoW4 capW4 x hM4.out (by omega) (by omega)).mono ?_
              rintro r w5 ⟨rfl, ⟨ao5, cap5, hM5⟩, hb5⟩
              have M5 : Hid (MSt w.heap.size w5 (markM M4 W4 x).1 (markM M4 W4 x).2 ao5 cap5) := hM5
              have B5 : Hid (Below w.heap.size w w5) := hB4.out.trans hb5
              have K5 : Hid (Marks0 ks (plainV V) c (fun y => y = a) (markM M4 W4 x).1 (markM M4 W4 x).2) := hK4.out.mark (by rw [HPL.out]; exact hxl) HXM.out
              have T5 : Hid (∀ t' y, t' < t + 1 → l[t']? = some y → (markM M4 W4 x).1[y]? = some true) := fun t' y ht' hy => by
                rcases Nat.lt_or_ge t' t with h | h
                · exact markM_keep (hT4.out t' y h hy)
                · have e : t' = t := by omega
                  subst e; rw [HLT.out] at hy; cases hy; exact markM_here (by omega)
              have D5 : Hid (toDo (markM M4 W4 x).1 (markM M4 W4 x).2 ≤ toDo M2 W3) := Nat.le_trans (markM_toDo M4 W4 x) hD4.out
              clear hM5 hb5
              go_wp2_with fail
              go_roundg (l.length - (t + 1))
              case measure => omega
              case rel => exact ⟨t + 1, _, _, ao5, cap5, by omega, rfl, by go_num, M5, K5, (fun i hc => markM_keep (hC4.out i hc)), D5, T5, markM_keep hA4.out, B5⟩
            · have HF : Hid (Marks0 ks (plainV V) c (fun _ => False) M4 W4) := hK4.out.fin fun x hx => by
                obtain ⟨t', ht'⟩ := List.mem_iff_getElem?.1 ((HLM.out x).2 hx)
                exact hT4.out t' x (by have := (List.getElem?_eq_some_iff.1 ht').1; omega) ht'
              go_wp2_with fail
              go_roundg (toDo M4 W4)
              case measure => have h1 := hD4.out; have h3 := HTO.out; omega
              case rel => exact ⟨M4, W4, aoW4, capW4, rfl, hM4, HF, hC4, (by have h1 := hD4.out; have h2 := hD2.out; have h3 := HTO.out; show _ ≤ _; omega), hB4⟩
end Go.Proofs.YtodagkkjfipbgaaGreatDoor
/- Left.Matches. -/
namespace Go.Proofs.YtodagkkjfipbgaaGreatDoor
open Go.RowKit Go.Maps

theorem make_bools (W : World) (n : Nat) (hn : n ≤ 2000000) : (Instr.makeSlice 108 (.int .i64 n) (.int .i64 n)).run Tryz.prog W = .ok (.slice (some ⟨W.heap.size, 0, none⟩) n n) (W.alloc (.cells (boolCells (List.replicate n false)) 4)) := by
  obtain ⟨i, hi, hz0, hz1, hz2⟩ := info_parts Tryz.infoB
  have h := run_make (P := Tryz.prog) W 108 4 i (.bool false) Tryz.undRowB hi hz0 .i64 .i64 n n (by omega) (by omega) (by rw [hz2]; omega) (by omega)
  rw [hz1] at h
  rw [← made_bool]
  simpa [Value.cells] using h
/-- The spot at which one stands when the first i are read. -/
def leftAt (t : Tab) (row : List Nat) (i : Nat) : Nat := (row.take i).foldl (fun a k => tnext t a k) 0
theorem leftAt_succ {t : Tab} {row : List Nat} {i k : Nat} (h : row[i]? = some k) : leftAt t row (i + 1) = tnext t (leftAt t row i) k := by
  unfold leftAt
  rw [List.take_add_one, h, List.foldl_append]
  rfl
theorem leftAt_lt {t : Tab} (ht : TabGood t) (row : List Nat) : ∀ i, leftAt t row i < t.length := by
  intro i
  induction i with
  | zero => exact ht.pos
  | succ i ih =>
    cases h : row[i]? with
    | none =>
      have e : leftAt t row (i + 1) = leftAt t row i := by unfold leftAt; rw [List.take_add_one, h]; simp
      rw [e]; exact ih
    | some k => rw [leftAt_succ h]; exact tnext_lt ht ih
/-- At which places it matches, as far as n of them are told. -/
def toldTo (f : Nat → Bool) (n m : Nat) : List Bool := (List.range m).map fun j => if j < n then f j else false
theorem toldTo_len (f : Nat → Bool) (n m : Nat) : (toldTo f n m).length = m := by unfold toldTo; simp
theorem toldTo_zero (f : Nat → Bool) (m : Nat) : toldTo f 0 m = List.replicate m false := by
  apply List.ext_getElem?
  intro i
  unfold toldTo
  rw [List.getElem?_map, List.getElem?_replicate]
  by_cases h : i < m
  · rw [List.getElem?_range h, if_pos h]; simp
  · rw [List.getElem?_eq_none (by simp; omega), if_neg h]; rfl
theorem toldTo_succ (f : Nat → Bool) {n m : Nat} (h : n < m) : toldTo f (n + 1) m = (toldTo f n m).set n (f n) := by
  apply List.ext_getElem?
  intro i
  rw [List.getElem?_set, toldTo_len]
  unfold toldTo
  rw [List.getElem?_map, List.getElem?_map]
  by_cases e : n = i
  · subst e; rw [if_pos rfl, if_pos h, List.getElem?_range h]; simp
  · rw [if_neg e]
    by_cases hi : i < m
    · rw [List.getElem?_range hi]
      simp only [Option.map_some, Option.some.injEq]
      by_cases h1 : i < n
      · rw [if_pos (by omega), if_pos h1]
      · rw [if_neg (by omega), if_neg h1]
    · rw [List.getElem?_eq_none (by simp; omega)]; rfl
theorem toldTo_all (f : Nat → Bool) (m : Nat) : toldTo f m m = (List.range m).map f := by
  unfold toldTo
  apply List.map_congr_left
  intro j hj
  rw [if_pos (List.mem_range.1 hj)]
/-- The kinds of characters, in memory. -/
structure KRow (w : World) (v : Value) (row : List Nat) : Prop where
  own : w.ownsRow 0 169 1 v row.length (kCells row)
  lt : ∀ k ∈ row, k < 8
  few : row.length ≤ 1500000
theorem KRow.below {w w' : World} {v : Value} {row : List Nat} (h : KRow w v row) (hb : Below w.heap.size w w') : KRow w' v row := ⟨row_kp h.own (Kp.below hb), h.lt, h.few⟩

set_option maxRecDepth 100000 in
set_option maxHeartbeats 2000000 in
theorem lmatches_any (w : World) (vT vR : Value) (t : Tab) (row : List Nat) (hT : TabIn 0 w vT t) (ht : TabGood t) (hR : KRow w vR row) :
    Calls Tryz.prog 155 #[.agg #[vT], vR] w fun r w' => ∃ g, r = .returned (.slice (some ⟨g, 0, none⟩) (row.length + 1) (row.length + 1)) ∧ w.heap.size ≤ g ∧ w'.heap[g]? = some (.cells (boolCells ((List.range (row.length + 1)).map fun i => tmatch t (leftAt t row i))) 4 (0, 0)) ∧ Below w.heap.size w w' := by
  obtain ⟨aoT, capT, rfl⟩ := row_shape hT
  obtain ⟨aoR, capR, rfl⟩ := row_shape hR.own
  have HT : Hid (TabIn 0 w (.slice aoT t.length capT) t) := hT
  have HR : Hid (KRow w (.slice aoR row.length capR) row) := hR
  have HG : Hid (TabGood t) := ht
  have hfew := hR.few
  have htl := ht.few
  have hmk : ∀ W : World, (Instr.makeSlice 108 (.int .i64 ((row.length : Int) + 1)) (.int .i64 ((row.length : Int) + 1))).run Tryz.prog W = .ok (.slice (some ⟨W.heap.size, 0, none⟩) (row.length + 1) (row.length + 1)) (W.alloc (.cells (boolCells (List.replicate (row.length + 1) false)) 4)) := fun W => make_bools W (row.length + 1) (by omega)
  obtain ⟨f, hf⟩ : ∃ f : Nat → Bool, f = fun i => tmatch t (leftAt t row i) := ⟨_, rfl⟩
  have HF : Hid (f = fun i => tmatch t (leftAt t row i)) := hf
  rw [← hf]
  have W0e : ∃ W0, W0 = (w.alloc (.cells #[.slice aoT t.length capT] 152)).alloc (.cells (boolCells (List.replicate (row.length + 1) false)) 4) := ⟨_, rfl⟩
  obtain ⟨W0, hW0⟩ := W0e
  have HW0 : Hid (W0 = (w.alloc (.cells #[.slice aoT t.length capT] 152)).alloc (.cells (boolCells (List.replicate (row.length + 1) false)) 4)) := hW0
  have b0 : Below w.heap.size w W0 := by rw [hW0]; exact (below_alloc w _).alloc (by simp) _
  have hz : W0.heap.size = w.heap.size + 2 := by rw [hW0]; simp
  have P0 : Hid (W0.heap[w.heap.size]? = some (.cells #[.slice aoT t.length capT] 152 (0, 0))) := by rw [hW0, Below.heap_alloc _ _ _ (by simp)]; exact heap_alloc_new w _
  have Q0 : Hid (W0.heap[w.heap.size + 1]? = some (.cells (boolCells (toldTo f 0 (row.length + 1))) 4 (0, 0))) := by rw [hW0, toldTo_zero]; exact (show ((w.alloc (.cells #[.slice aoT t.length capT] 152)).heap.size) = w.heap.size + 1 by simp) ▸ heap_alloc_new (w.alloc _) _
  have B0 : Hid (Below w.heap.size w W0) := b0
  have p0 := cell_of_block P0.out 0 _ rfl
  have p0' := p0
  rw [hW0] at p0'
  clear hT hR ht hf hW0 b0
  go_enter Tryz.func155, Tryz.ntmps155
  go_wp2_with (simp only [hmk])
  rw [← HW0.out]
  have q0 : W0.cell? ⟨w.heap.size + 1, 0, none⟩ = some (.bool false) := cell_of_block Q0.out 0 _ (boolCells_at (by rw [toldTo_zero, List.getElem?_replicate, if_pos (by omega)]))
  have q0f := free_of_block Q0.out
  have HFa : ∀ i, f i = tmatch t (leftAt t row i) := fun i => by rw [HF.out]
  refine (match_any W0 _ t 0 (row_kp HT.out (Kp.below B0.out)) HG.out HG.out.pos).mono ?_
  rintro r w1 ⟨rfl, rfl⟩
  obtain ⟨f0, hf0⟩ : ∃ f0, f0 = tmatch t 0 := ⟨_, rfl⟩
  rw [← hf0]
  obtain ⟨W1, hW1⟩ : ∃ W1, W1 = w1.setCell ⟨w.heap.size + 1, 0, none⟩ (.bool f0) := ⟨_, rfl⟩
  have HW1 : Hid (W1 = w1.setCell ⟨w.heap.size + 1, 0, none⟩ (.bool f0)) := hW1
  have P1 : Hid (W1.heap[w.heap.size]? = some (.cells #[.slice aoT t.length capT] 152 (0, 0))) := by rw [hW1]; exact (setCell_type (by omega)).trans P0.out
  have Q1 : Hid (W1.heap[w.heap.size + 1]? = some (.cells (boolCells (toldTo f 1 (row.length + 1))) 4 (0, 0))) := by
    rw [hW1, toldTo_succ f (by omega), ← boolCells_set, show f 0 = f0 from by rw [hf0]; exact HFa 0]
    exact block_setCell Q0.out 0 _
  have B1 : Hid (Below w.heap.size w W1) := by rw [hW1]; exact B0.out.setCell (by show w.heap.size ≤ w.heap.size + 1; omega) _
  clear P0 Q0 B0 hW1 p0' hz p0 HW0 hmk
  have HF0 : Hid (f0 = tmatch t 0) := hf0
  clear hf0
  go_wp2_with fail
  rw [← HW1.out]
  clear q0 q0f HW1
  go_loopg [6, 21] row.length (fun gh av iv wx => ∃ i : Nat, i ≤ row.length ∧ gh = row.length - i ∧ av = .int .i64 (leftAt t row i : Nat) ∧ iv = .int .i64 i ∧ Hid (wx.heap[w.heap.size]? = some (.cells #[.slice aoT t.length capT] 152 (0, 0))) ∧ Hid (wx.heap[w.heap.size + 1]? = some (.cells (boolCells (toldTo f (i + 1) (row.length + 1))) 4 (0, 0))) ∧ Hid (Below w.heap.size w wx))
  case atStart => exact ⟨0, Nat.zero_le _, rfl, rfl, rfl, P1, Q1, B1⟩
  case round =>
    obtain ⟨i, hi, rfl, rfl, rfl, hP, hQ, hB⟩ := hrel
    obtain ⟨w2, hw2⟩ : ∃ w2, w2 = wr := ⟨wr, rfl⟩
    subst hw2
    clear P1 Q1 B1
    have hs1 := hB.out.size
    have hp := cell_of_block hP.out 0 _ rfl
    by_cases hlt : i < row.length
    · obtain ⟨k, hk⟩ : ∃ k, row[i]? = some k := ⟨row[i], List.getElem?_eq_getElem hlt⟩
      have hk8 := HR.out.lt k (List.mem_of_getElem? hk)
      obtain ⟨qR, hqR, hqb, hrc⟩ := row_at (HR.out.below hB.out).own (kCells_at hk) (by omega)
      subst hqR
      obtain ⟨a, ha⟩ : ∃ a, a = leftAt t row i := ⟨_, rfl⟩
      obtain ⟨a', ha'⟩ : ∃ a', a' = tnext t a k := ⟨_, rfl⟩
      have HA : Hid (a' = leftAt t row (i + 1)) := by show _ = _; rw [leftAt_succ hk, ha', ha]
      have hal : a < t.length := by rw [ha]; exact leftAt_lt HG.out row i
      have hal' : a' < t.length := by rw [HA.out]; exact leftAt_lt HG.out row (i + 1)
      rw [← ha]
      clear ha
      have hq : w2.cell? ⟨w.heap.size + 1, i + 1, none⟩ = some (.bool false) := cell_of_block hQ.out (i + 1) _ (boolCells_at (by unfold toldTo; rw [List.getElem?_map, List.getElem?_range (by omega)]; simp))
      have hqf := free_of_block hQ.out
      go_wp2_with fail
      refine (tnext_any _ _ t a k (row_kp HT.out (Kp.below hB.out)) HG.out hal hk8).mono ?_
      rintro r w3 ⟨rfl, rfl⟩
      rw [← ha']
      clear ha'
      go_wp2_with fail
      refine (match_any _ _ t a' (row_kp HT.out (Kp.below hB.out)) HG.out hal').mono ?_
      rintro r w3 ⟨rfl, rfl⟩
      obtain ⟨f1, hf1⟩ : ∃ f1, f1 = tmatch t a' := ⟨_, rfl⟩
      rw [← hf1]
      have HF1 : Hid (f1 = tmatch t a') := hf1
      clear hf1
      go_wp2_with fail
      go_roundg (row.length - (i + 1))
      case rel =>
        refine ⟨i + 1, by omega, rfl, ?_, by go_num, ?_, ?_, hB.out.setCell (by show w.heap.size ≤ w.heap.size + 1; omega) _⟩
        · rw [HA.out]
        · exact (setCell_type (by omega)).trans hP.out
        · show _ = _
          rw [toldTo_succ f (by omega), ← boolCells_set, show f (i + 1) = f1 from by rw [HF1.out, HA.out]; exact HFa (i + 1)]
          exact block_setCell hQ.out (i + 1) _
      case measure => omega
    · obtain rfl : i = row.length := by omega
      go_wp2_with fail
      go_ret
      refine ⟨w.heap.size + 1, rfl, by omega, ?_, hB.out⟩
      rw [← toldTo_all]
      exact hQ.out
end Go.Proofs.YtodagkkjfipbgaaGreatDoor
