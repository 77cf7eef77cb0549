import Derived.Deep.RegionLaw
import Derived.RegionTactic
import Derived.Test.YtonooajnjgnmnaaGreatDoorQ2
namespace Go.Proofs.YtonooajnjgnmnaaGreatDoor
open Go.RowKit

theorem one_int (n : Int) : ∀ u ∈ [Value.int .i64 n], u.oneCell' = true := by intro u hu; simp at hu; subst hu; rfl
/-- The cells of a machine's row. -/
theorem MRow.cells {w : World} {base : Nat} {vS : Value} {S : List St} {tv : List Value} (h : MRow w base vS S tv) (f : Nat) (hf : f < S.length) :
    ∃ g cap cur, vS = .slice (some ⟨g, 0, none⟩) S.length cap ∧ w.heap[g]? = some (.cells cur 99 (0, 0)) ∧ base ≤ g ∧ ∃ u, tv[f]? = some u ∧ w.cell? ⟨g, f * 2, none⟩ = some (.int .u8 (S[f]'hf).1) ∧ w.cell? ⟨g, f * 2 + 1, none⟩ = some u := by
  obtain ⟨h1, h2⟩ := h.row
  have hl := h.len
  rcases h2 with ⟨hv, hn⟩ | ⟨g, cap, cur, hv, hg, hh, hcap, hmx, hsz, hcur⟩
  · omega
  · obtain ⟨u, hu⟩ : ∃ u, tv[f]? = some u := ⟨tv[f]'(by omega), List.getElem?_eq_getElem (by omega)⟩
    have hc := stCells_at S tv f _ u (List.getElem?_eq_getElem hf) hu
    rw [← hcur, List.getElem?_take, List.getElem?_take, if_pos (by omega), if_pos (by omega)] at hc
    exact ⟨g, cap, cur, hv, hh, hg, u, hu, cell_of_block hh _ _ (by simpa using hc.1), cell_of_block hh _ _ (by simpa using hc.2)⟩

theorem lead_end {w w' : World} {base m : Nat} {S : List St} {first : Int} {f t g cap l capu cap' n : Nat} {aou ao' : Option Addr} {s : St} {tv : List Value} {cur : Array Value} (hbm : base ≤ m) (hb : base ≤ w.heap.size) (hbg : base ≤ g) (hf : f < n)
    (HS : S[f]? = some s) (HU : tv[f]? = some (.slice aou l capu)) (HT : w.ownsRow base 3 1 (.slice aou l capu) l (intCells s.2)) (HL : l = s.2.length)
    (HR : MRow w base (.slice (some ⟨g, 0, none⟩) n cap) S tv) (HN : n = S.length) (hg : w.drew.grownBy w' (Value.ownBlock (.slice aou l capu)))
    (hown : w'.ownsRow base 3 1 (.slice ao' (l + 1) cap') (l + 1) (intCells s.2 ++ [.int .i64 t])) (hsn : SameOrNew w.drew (.slice aou l capu) (.slice ao' (l + 1) cap'))
    (hm' : w'.heap[m]? = some (.cells #[.slice (some ⟨g, 0, none⟩) n cap, .int .i64 first] 74 (0, 0))) (hg' : w'.heap[g]? = some (.cells cur 99 (0, 0))) :
    MIn (w'.setCell ⟨g, f * 2 + 1, none⟩ (.slice ao' (l + 1) cap')) base m (leadS S f t) first ∧ Below base w (w'.setCell ⟨g, f * 2 + 1, none⟩ (.slice ao' (l + 1) cap')) := by
  subst HN
  subst HL
  have hT : w.drew.ownsRow base 3 1 (.slice aou s.2.length capu) s.2.length (intCells s.2) := HT
  constructor
  · refine ⟨hbm, .slice (some ⟨g, 0, none⟩) S.length cap, tv.set f (.slice ao' (s.2.length + 1) cap'), ?_, ?_⟩
    · rw [Below.heap_setCell _ _ _ _ (type_ne hm' hg' (by decide))]; exact hm'
    · refine HR.lead hf HU ?_ ?_ ?_ ?_
      · have hk : Kp 99 w w' := (Kp.refl _ w).grown (w := w.drew) hT hg (by decide)
        exact row_set (row_kp HR.row hk) _ _
      · rintro k hk ⟨cs, hcs⟩
        have h1 : w'.heap[k]? = w.heap[k]? := hg.block k (heap_lt hcs) hk
        rw [Below.heap_setCell _ _ _ _ (type_ne (h1.trans hcs) hg' (by decide))]; exact h1
      · intro s1 hs1
        rw [HS] at hs1
        simp at hs1
        subst hs1
        exact row_kp hown ((Kp.refl _ _).setCell hg' (by decide) _)
      · rcases hsn with h | h
        · exact Or.inl h
        · exact Or.inr ⟨_, h, Nat.le_refl _⟩
  · refine Below.setCell (Below.grown (w := w.drew) ((Below.refl _ _).drew) hg hb fun k hk => ?_) hbg _
    exact (hT.lt k hk).1

set_option maxRecDepth 100000 in
set_option maxHeartbeats 4000000 in
/-- One more way on. -/
theorem lead_any (base m : Nat) (S : List St) (first : Int) (f t gt : Nat) (w : World) (h : MIn w base m S first) (hb : base ≤ w.heap.size) (hf : f < S.length) (_hS : S.length ≤ 9000) (hl : ∀ s ∈ S, s.2.length ≤ 9000)
    (ht : w.cell? ⟨gt, 0, none⟩ = some (.int .i64 t)) :
    Calls Tryz.prog 67 #[.pointer (some ⟨m, 0, none⟩), .int .i64 f, .slice (some ⟨gt, 0, none⟩) 1 1] w fun e w' => e = .returned (.tuple #[]) ∧ MIn w' base m (leadS S f t) first ∧ Below base w w' := by
  obtain ⟨hbm, vS, tv, hm, hr⟩ := h
  obtain ⟨g, cap, cur, rfl, hg, hbg, u, hu, hc1, hc2⟩ := hr.cells f hf
  have hto := hr.to_ f u _ hu (List.getElem?_eq_getElem hf)
  have hlen := hl _ (List.getElem_mem hf)
  obtain ⟨aou, capu, rfl⟩ := row_shape hto
  have c0 := cell_of_block hm 0 _ rfl
  have hfr := free_of_block hm
  have hfg := free_of_block hg
  have HM : Hid (w.heap[m]? = some (.cells #[.slice (some ⟨g, 0, none⟩) S.length cap, .int .i64 first] 74 (0, 0))) := hm
  have HG : Hid (w.heap[g]? = some (.cells cur 99 (0, 0))) := hg
  have HT : Hid (w.ownsRow base 3 1 (.slice aou (S[f]'hf).2.length capu) (S[f]'hf).2.length (intCells (S[f]'hf).2)) := hto
  have HU : Hid (tv[f]? = some (.slice aou (S[f]'hf).2.length capu)) := hu
  have HR : Hid (MRow w base (.slice (some ⟨g, 0, none⟩) S.length cap) S tv) := hr
  obtain ⟨s, hs⟩ : ∃ s, s = S[f]'hf := ⟨_, rfl⟩
  have HS : Hid (S[f]? = some s) := by rw [hs]; exact List.getElem?_eq_getElem hf
  rw [← hs] at HT HU hc2 hc1 hlen
  clear hm hg hto hu hr hs hl
  obtain ⟨l, hl⟩ : ∃ l, l = s.2.length := ⟨_, rfl⟩
  have HL : Hid (l = s.2.length) := hl
  rw [← hl] at HT HU hc2 hlen
  obtain ⟨n, hn⟩ : ∃ n, n = S.length := ⟨_, rfl⟩
  have HNN : Hid (n = S.length) := hn
  rw [← hn] at HM HR c0 hf _hS
  clear hl hn
  go_enter Tryz.func67, Tryz.ntmps67
  go_wp2_with fail
  go_region_law (refine step_push2 rfl (.tmp 18) (.tmp 19) 33 rfl base 3 (.int .i64 0) 1 8 Tryz.infoInt Tryz.undInt rfl (by decide) (.slice aou l capu) l (intCells s.2) rfl (by exact HT.out) gt 1 [.int .i64 t] rfl rfl (fun j u hu => by cases j with | zero => simp at hu; subst hu; exact ht | succ j => simp at hu) (one_int _) (by omega) (by omega) hb ?_; intro v' w' hown hg hsn; obtain ⟨ao', cap', rfl⟩ := row_shape hown; have hm' := kept_grown HM.out (by exact Kp.refl _ w) (by exact HT.out) hg (by decide); have e0 := cell_of_block hm' 0 _ rfl; have ef := free_of_block hm'; have hg' := kept_grown HG.out (by exact Kp.refl _ w) (by exact HT.out) hg (by decide); have eg := free_of_block hg'; have ec := (World.cell?_of_block (a := ⟨g, f * 2 + 1, none⟩) (w := w) (hg'.trans HG.out.symm)).trans hc2)
  all_goals go_wp2_with fail
  all_goals go_end0
  all_goals
    exact ⟨rfl, lead_end hbm hb hbg hf HS.out HU.out HT.out HL.out HR.out HNN.out hg hown hsn hm' hg'⟩

theorem MRow.later {w w' : World} {base : Nat} {vS : Value} {S : List St} {tv : List Value} (h : MRow w base vS S tv) (hb : Below w.heap.size w w') : MRow w' base vS S tv := by
  have hk : ∀ t, Kp t w w' := fun t => Kp.below hb
  exact ⟨h.len, row_kp h.row (hk _), fun i v s hv hs => row_kp (h.to_ i v s hv hs) (hk _), h.apart⟩
theorem MIn.later {w w' : World} {base m : Nat} {S : List St} {first : Int} (h : MIn w base m S first) (hb : Below w.heap.size w w') : MIn w' base m S first := by
  obtain ⟨h1, vS, tv, h2, h3⟩ := h
  exact ⟨h1, vS, tv, by rw [hb.block m (heap_lt h2)]; exact h2, h3.later hb⟩
theorem MIn.size {w : World} {base m : Nat} {S : List St} {first : Int} (h : MIn w base m S first) : base ≤ w.heap.size := by
  obtain ⟨h1, vS, tv, h2, h3⟩ := h
  have := heap_lt h2; omega
theorem tov_lt {w : World} {base : Nat} {vS : Value} {S : List St} {tv : List Value} (h : MRow w base vS S tv) {i j : Nat} {u : Value} (hu : tv[i]? = some u) (hj : u.ownBlock = some j) : j < w.heap.size := by
  have hi : i < S.length := by rw [← h.len]; exact (List.getElem?_eq_some_iff.1 hu).1
  exact ((h.to_ i u _ hu (List.getElem?_eq_getElem hi)).lt j hj).2

theorem add_nil (base m : Nat) (S : List St) (first : Int) (k : Nat) (w : World) (h : MIn w base m S first) (hS : S.length ≤ 9000) :
    Calls Tryz.prog 66 #[.pointer (some ⟨m, 0, none⟩), .int .u8 k, .slice none 0 0] w fun e w' => e = .returned (.int .i64 S.length) ∧ MIn w' base m (S ++ [(k, [])]) first ∧ Below base w w' := by
  have hs := h.size
  obtain ⟨h1, vS, tv, h2, h3⟩ := h
  exact add_at base m S first k [] _ vS tv w h1 h2 h3 hs hS (World.ownsRow_nil _ _ _ _) (fun i u j _ _ => by simp [Value.ownBlock])
theorem below_alloc (w : World) (o : Obj) : Below w.heap.size w (w.alloc o) := (Below.refl _ _).alloc (Nat.le_refl _) o
theorem add_new (base m : Nat) (S : List St) (first : Int) (k b : Nat) (w : World) (h : MIn w base m S first) (hS : S.length ≤ 9000) :
    Calls Tryz.prog 66 #[.pointer (some ⟨m, 0, none⟩), .int .u8 k, .slice (some ⟨w.heap.size, 0, none⟩) 1 1] (w.alloc (.cells #[.int .i64 b] 3)) fun e w' => e = .returned (.int .i64 S.length) ∧ MIn w' base m (S ++ [(k, [b])]) first ∧ Below base w w' := by
  have hs := h.size
  obtain ⟨h1, vS, tv, h2, h3⟩ := h
  have hb := below_alloc w (.cells #[.int .i64 b] 3)
  refine (add_at base m S first k [b] _ vS tv _ h1 (by rw [hb.block m (heap_lt h2)]; exact h2) (h3.later hb) (by simp; omega) hS ?_ ?_).mono ?_
  · exact ⟨rfl, Or.inr ⟨w.heap.size, 1, #[.int .i64 b], rfl, hs, heap_alloc_new _ _, Nat.le_refl _, by decide, rfl, rfl⟩⟩
  · intro i u j hu hj e
    have := tov_lt h3 hu hj
    simp [Value.ownBlock] at e
    omega
  · rintro e w' ⟨h1, h2, h3⟩
    exact ⟨h1, h2, (hb.mono hs).trans h3⟩
theorem lead_new (base m : Nat) (S : List St) (first : Int) (f t : Nat) (w : World) (h : MIn w base m S first) (hf : f < S.length) (hS : S.length ≤ 9000) (hT : tot S ≤ 9000) :
    Calls Tryz.prog 67 #[.pointer (some ⟨m, 0, none⟩), .int .i64 f, .slice (some ⟨w.heap.size, 0, none⟩) 1 1] (w.alloc (.cells #[.int .i64 t] 3)) fun e w' => e = .returned (.tuple #[]) ∧ MIn w' base m (leadS S f t) first ∧ Below base w w' := by
  have hs := h.size
  have hb := below_alloc w (.cells #[.int .i64 t] 3)
  refine (lead_any base m S first f t w.heap.size _ (h.later hb) (by simp; omega) hf hS (fun s hs => Nat.le_trans (tot_mem hs) hT) ?_).mono ?_
  · exact cell_of_block (heap_alloc_new _ _) 0 _ rfl
  · rintro e w' ⟨h1, h2, h3⟩
    exact ⟨h1, h2, (hb.mono hs).trans h3⟩
end Go.Proofs.YtonooajnjgnmnaaGreatDoor
