/- A machine: a state more; one more way on. -/
import Derived.OwnWalk
import Derived.Test.YtonooajnjgnmnaaGreatDoorQ1
namespace Go.Proofs.YtonooajnjgnmnaaGreatDoor
open Go.RowKit

theorem Tryz.infoState : (Tryz.prog.info? 99).map (fun i => (i.zero, i.size, i.bytes)) = some (some (.agg #[.int .u8 0, .slice none 0 0]), 2, 32) := by kernel_rfl
theorem Tryz.undState : Tryz.prog.underlying 72 = some (.slice 99) := by kernel_rfl
theorem Tryz.infoInt : (Tryz.prog.info? 3).map (fun i => (i.zero, i.size, i.bytes)) = some (some (.int .i64 0), 1, 8) := by kernel_rfl
theorem Tryz.undInt : Tryz.prog.underlying 33 = some (.slice 3) := by kernel_rfl

theorem row_shape {w : World} {base : Nat} {e : TypeId} {size : Nat} {v : Value} {n : Nat} {us : List Value} (h : w.ownsRow base e size v n us) : ∃ ao cap, v = .slice ao n cap := by
  rcases h.2 with ⟨hv, hn⟩ | ⟨g, cap, cur, hv, _⟩
  · exact ⟨none, 0, by rw [hv, hn]⟩
  · exact ⟨_, cap, hv⟩
/-- A row is as it was where its block is. -/
theorem row_on {w w' : World} {base : Nat} {e : TypeId} {size : Nat} {v : Value} {n : Nat} {us : List Value} (h : w.ownsRow base e size v n us) (hk : ∀ k, v.ownBlock = some k → w'.heap[k]? = w.heap[k]?) : w'.ownsRow base e size v n us := by
  refine ⟨h.1, ?_⟩
  rcases h.2 with h2 | ⟨g, cap, cur, hv, hg, hh, r⟩
  · exact Or.inl h2
  · exact Or.inr ⟨g, cap, cur, hv, hg, (hk g (by rw [hv]; rfl)).trans hh, r⟩
/-- The type of a row's block. -/
theorem row_type {w : World} {base : Nat} {e : TypeId} {size : Nat} {v : Value} {n : Nat} {us : List Value} (h : w.ownsRow base e size v n us) (k : Nat) (hk : v.ownBlock = some k) : ∃ cs, w.heap[k]? = some (.cells cs e (0, 0)) := by
  rcases h.2 with ⟨hv, _⟩ | ⟨g, cap, cur, hv, hg, hh, r⟩
  · rw [hv] at hk; simp [Value.ownBlock] at hk
  · rw [hv] at hk; simp [Value.ownBlock] at hk; subst hk; exact ⟨cur, hh⟩
theorem type_ne {w : World} {k l : Nat} {c d : Array Value} {t u : TypeId} {m n : Nat × Nat} (h : w.heap[k]? = some (.cells c t m)) (h' : w.heap[l]? = some (.cells d u n)) (ht : t ≠ u) : k ≠ l := by
  intro e; subst e; rw [h] at h'; simp at h'; exact ht h'.2.1

/-- The blocks of a type are as they were. -/
def Kp (t : TypeId) (w w' : World) : Prop := ∀ (k : Nat) (cs : Array Value) (m : Nat × Nat), w.heap[k]? = some (.cells cs t m) → w'.heap[k]? = some (.cells cs t m)
theorem Kp.refl (t : TypeId) (w : World) : Kp t w w := fun _ _ _ h => h
theorem Kp.trans {t : TypeId} {a b c : World} (h : Kp t a b) (k : Kp t b c) : Kp t a c := fun i cs m hh => k i cs m (h i cs m hh)
theorem Kp.below {t : TypeId} {w w' : World} (h : Below w.heap.size w w') : Kp t w w' := fun k cs m hh => by rw [h.block k (heap_lt hh)]; exact hh
theorem Kp.alloc {t : TypeId} {a w : World} (h : Kp t a w) (o : Obj) : Kp t a (w.alloc o) := fun k cs m hh => by rw [Below.heap_alloc _ _ _ (heap_lt (h k cs m hh))]; exact h k cs m hh
theorem Kp.drewN {t : TypeId} {a w : World} (h : Kp t a w) (n : Nat) : Kp t a (w.drewN n) := h
theorem Kp.grown {t e : TypeId} {base size n : Nat} {a w w' : World} {v : Value} {us : List Value} (h : Kp t a w) (hown : w.ownsRow base e size v n us) (hg : w.grownBy w' v.ownBlock) (ht : t ≠ e) : Kp t a w' := fun k cs m hh => by
  have h1 := h k cs m hh
  rw [hg.block k (heap_lt h1) (fun e1 => by obtain ⟨c2, h2⟩ := row_type hown k e1.symm; exact type_ne h1 h2 ht rfl)]; exact h1
theorem Kp.setCell {t t0 : TypeId} {a w : World} {b o : Nat} {cs0 : Array Value} {m0 : Nat × Nat} (h : Kp t a w) (hb : w.heap[b]? = some (.cells cs0 t0 m0)) (ht : t ≠ t0) (u : Value) : Kp t a (w.setCell ⟨b, o, none⟩ u) := fun k cs m hh => by
  have h1 := h k cs m hh
  rw [Below.heap_setCell _ _ _ _ (type_ne h1 hb ht)]; exact h1
theorem row_kp {w w' : World} {base : Nat} {e : TypeId} {size : Nat} {v : Value} {n : Nat} {us : List Value} (h : w.ownsRow base e size v n us) (hk : Kp e w w') : w'.ownsRow base e size v n us :=
  row_on h fun k e1 => by obtain ⟨cs, hh⟩ := row_type h k e1; rw [hh]; exact hk k cs _ hh
/-- A row's own block is not another row's of another type. -/
theorem kept_grown {w W w' : World} {m base size n : Nat} {t e : TypeId} {cs : Array Value} {v : Value} {us : List Value} (hm : w.heap[m]? = some (.cells cs t (0, 0))) (h1 : Kp t w W) (hown : W.ownsRow base e size v n us) (hg : W.grownBy w' v.ownBlock) (ht : t ≠ e) : w'.heap[m]? = some (.cells cs t (0, 0)) :=
  (h1.grown hown hg ht) m cs _ hm

theorem two_cells (a b : Value) (ha : a.oneCell' = true) (hb : b.oneCell' = true) : ∀ u ∈ [a, b], u.oneCell' = true := by
  intro u hu; simp at hu; rcases hu with rfl | rfl <;> assumption
theorem snoc_at {α : Type} {l : List α} {a x : α} {i : Nat} (h : (l ++ [a])[i]? = some x) : (l[i]? = some x ∧ i < l.length) ∨ (i = l.length ∧ x = a) := by
  rcases Nat.lt_trichotomy i l.length with h1 | h1 | h1
  · left; rw [List.getElem?_append_left h1] at h; exact ⟨h, h1⟩
  · right; subst h1; simp at h; exact ⟨rfl, h.symm⟩
  · rw [List.getElem?_append_right (by omega)] at h
    rw [show i - l.length = (i - l.length - 1) + 1 from by omega] at h
    simp at h
theorem setCell0 {w : World} {m : Nat} {a b v : Value} {t : TypeId} (h : w.heap[m]? = some (.cells #[a, b] t (0, 0))) : (w.setCell ⟨m, 0, none⟩ v).heap[m]? = some (.cells #[v, b] t (0, 0)) := (block_setCell h 0 _).trans rfl

/-- The rows of a machine behind one state more. -/
theorem MRow.push {w w2 : World} {base : Nat} {vS vS' v : Value} {S : List St} {tv : List Value} {k : Nat} {to_ : List Nat} (h : MRow w base vS S tv) (hrow : w2.ownsRow base 99 2 vS' (S.length + 1) (stCells S tv ++ [.int .u8 k, v]))
    (hk : Kp 3 w w2) (hv : w.ownsRow base 3 1 v to_.length (intCells to_)) (hn : ∀ (i : Nat) (u : Value) (j : Nat), tv[i]? = some u → u.ownBlock = some j → v.ownBlock ≠ some j) : MRow w2 base vS' (S ++ [(k, to_)]) (tv ++ [v]) := by
  have hl := h.len
  refine ⟨by simp [hl], ?_, ?_, ?_⟩
  · rw [stCells_snoc _ _ _ _ hl, List.length_append]; exact hrow
  · intro i u s hu hs
    rcases snoc_at hu with ⟨h1, h2⟩ | ⟨h1, rfl⟩
    · rcases snoc_at hs with ⟨h3, h4⟩ | ⟨h3, rfl⟩
      · exact row_kp (h.to_ i u s h1 h3) hk
      · omega
    · rcases snoc_at hs with ⟨h3, h4⟩ | ⟨h3, rfl⟩
      · omega
      · exact row_kp hv hk
  · intro i j u x k hij hu hx hk'
    rcases snoc_at hu with ⟨h1, h2⟩ | ⟨h1, rfl⟩
    · rcases snoc_at hx with ⟨h3, h4⟩ | ⟨h3, rfl⟩
      · exact h.apart i j u x k hij h1 h3 hk'
      · exact hn i u k h1 hk'
    · rcases snoc_at hx with ⟨h3, h4⟩ | ⟨h3, rfl⟩
      · intro e; exact hn j x k h3 e hk'
      · omega

set_option maxRecDepth 100000 in
set_option maxHeartbeats 2000000 in
/-- A state more. -/
theorem add_at (base m : Nat) (S : List St) (first : Int) (k : Nat) (to_ : List Nat) (v vS : Value) (tv : List Value) (w : World) (hbm : base ≤ m) (hm : w.heap[m]? = some (.cells #[vS, .int .i64 first] 74 (0, 0))) (hr : MRow w base vS S tv)
    (hb : base ≤ w.heap.size) (hS : S.length ≤ 9000) (hv : w.ownsRow base 3 1 v to_.length (intCells to_)) (hnew : ∀ (i : Nat) (u : Value) (j : Nat), tv[i]? = some u → u.ownBlock = some j → v.ownBlock ≠ some j) :
    Calls Tryz.prog 66 #[.pointer (some ⟨m, 0, none⟩), .int .u8 k, v] w fun e w' => e = .returned (.int .i64 S.length) ∧ MIn w' base m (S ++ [(k, to_)]) first ∧ Below base w w' := by
  obtain ⟨ao, cap, rfl⟩ := row_shape hr.row
  obtain ⟨aov, capv, rfl⟩ := row_shape hv
  have c0 := cell_of_block hm 0 _ rfl
  have hf := free_of_block hm
  have HR : Hid (w.ownsRow base 99 2 (.slice ao S.length cap) S.length (stCells S tv)) := hr.row
  have HM : Hid (w.heap[m]? = some (.cells #[.slice ao S.length cap, .int .i64 first] 74 (0, 0))) := hm
  have HV : Hid (w.ownsRow base 3 1 (.slice aov to_.length capv) to_.length (intCells to_)) := hv
  have HN : Hid (∀ (i : Nat) (u : Value) (j : Nat), tv[i]? = some u → u.ownBlock = some j → Value.ownBlock (.slice aov to_.length capv) ≠ some j) := hnew
  have HRR : Hid (MRow w base (.slice ao S.length cap) S tv) := hr
  clear hr hm hv hnew
  go_enter Tryz.func66, Tryz.ntmps66
  go_wp2_with (at_builtin; refine wpList_push2 rfl (.tmp 11) (.tmp 15) 72 rfl base 99 (.agg #[.int .u8 0, .slice none 0 0]) 2 32 Tryz.infoState Tryz.undState rfl (by decide) (.slice ao S.length cap) S.length (stCells S tv) rfl (by exact HR.out.alloc _) w.heap.size 1 [.int .u8 k, .slice aov to_.length capv] rfl rfl (fun j u hu => by rw [cell_of_block (heap_alloc_new w _) j u (by simpa using hu)]) (two_cells _ _ rfl rfl) (by omega) (by omega) (by simp; omega) ?_; intro v' w' hown hg hsn; obtain ⟨ao', cap', rfl⟩ := row_shape hown; have hm' := kept_grown HM.out ((Kp.refl _ w).alloc _) (HR.out.alloc _) hg (by decide); have e0 := cell_of_block hm' 0 _ rfl; have ef := free_of_block hm')
  go_ret
  refine ⟨rfl, ⟨hbm, _, tv ++ [.slice aov to_.length capv], setCell0 hm', ?_⟩, ?_⟩
  · refine HRR.out.push ?_ ?_ HV.out HN.out
    · exact row_kp hown ((Kp.refl _ _).setCell hm' (by decide) _)
    · exact ((((Kp.refl _ w).alloc _).grown (HR.out.alloc _) hg (by decide))).setCell hm' (by decide) _
  · refine Below.setCell (Below.grown ((Below.refl _ _).alloc hb _) hg (by simp; omega) fun k hk => ?_) hbm _
    exact (HR.out.lt k hk).1

/-- The rows of a machine behind one more way on. -/
theorem leadS_at {S : List St} {f t i : Nat} {s : St} (h : (leadS S f t)[i]? = some s) : (i ≠ f ∧ S[i]? = some s) ∨ (i = f ∧ ∃ s0, S[i]? = some s0 ∧ s = (s0.1, s0.2 ++ [t])) := by
  unfold leadS at h
  rw [List.getElem?_modify] at h
  by_cases e : f = i
  · right
    subst e
    simp at h
    obtain ⟨a, b, h1, rfl⟩ := h
    exact ⟨rfl, _, h1, rfl⟩
  · left
    refine ⟨fun e' => e e'.symm, ?_⟩
    cases hS : S[i]? with
    | none => rw [hS] at h; simp at h
    | some x => rw [hS] at h; simp [e] at h; rw [h]
theorem stCells_set : ∀ (S : List St) (tv : List Value) (f t : Nat) (v : Value), tv.length = S.length → f < S.length → stCells (leadS S f t) (tv.set f v) = (stCells S tv).set (f * 2 + 1) v := by
  intro S
  induction S with
  | nil => intro tv f t v _ h; simp at h
  | cons a S ih =>
    intro tv f t v hl hf
    cases tv with
    | nil => simp at hl
    | cons u tv =>
      cases f with
      | zero => simp [stCells, leadS]
      | succ f =>
        have := ih tv f t v (by simpa using hl) (by simpa using hf)
        rw [show (f + 1) * 2 + 1 = (f * 2 + 1) + 2 from by omega]
        have e1 : stCells (leadS (a :: S) (f + 1) t) ((u :: tv).set (f + 1) v) = .int .u8 a.1 :: u :: stCells (leadS S f t) (tv.set f v) := by simp [stCells, leadS]
        have e2 : stCells (a :: S) (u :: tv) = .int .u8 a.1 :: u :: stCells S tv := by simp [stCells]
        rw [e1, e2, this]; rfl
theorem row_set {w : World} {base g n cap : Nat} {e : TypeId} {size : Nat} {us : List Value} (h : w.ownsRow base e size (.slice (some ⟨g, 0, none⟩) n cap) n us) (o : Nat) (u : Value) :
    (w.setCell ⟨g, o, none⟩ u).ownsRow base e size (.slice (some ⟨g, 0, none⟩) n cap) n (us.set o u) := by
  obtain ⟨h1, h2⟩ := h
  refine ⟨by rw [List.length_set]; exact h1, ?_⟩
  rcases h2 with ⟨hv, _⟩ | ⟨g', cap', cur, hv, hg, hh, hc1, hc2, hc3, hc4⟩
  · simp at hv
  · simp at hv
    obtain ⟨rfl, rfl⟩ := hv
    refine Or.inr ⟨g, cap, cur.setIfInBounds o u, rfl, hg, block_setCell hh o u, hc1, hc2, by simpa using hc3, ?_⟩
    rw [Array.toList_setIfInBounds, List.take_set, hc4]
theorem MRow.lead {w w2 : World} {base gS capS f t : Nat} {u v : Value} {S : List St} {tv : List Value} (h : MRow w base (.slice (some ⟨gS, 0, none⟩) S.length capS) S tv) (hf : f < S.length) (hu : tv[f]? = some u)
    (hrow : w2.ownsRow base 99 2 (.slice (some ⟨gS, 0, none⟩) S.length capS) S.length ((stCells S tv).set (f * 2 + 1) v))
    (hk : ∀ (k : Nat), some k ≠ u.ownBlock → (∃ cs, w.heap[k]? = some (.cells cs 3 (0, 0))) → w2.heap[k]? = w.heap[k]?)
    (hv : ∀ (s : St), S[f]? = some s → w2.ownsRow base 3 1 v (s.2.length + 1) (intCells s.2 ++ [.int .i64 t])) (hn : v.ownBlock = u.ownBlock ∨ ∃ k, v.ownBlock = some k ∧ w.heap.size ≤ k) :
    MRow w2 base (.slice (some ⟨gS, 0, none⟩) S.length capS) (leadS S f t) (tv.set f v) := by
  have hl := h.len
  have oth : ∀ (i : Nat) (x : Value) (s : St), i ≠ f → tv[i]? = some x → S[i]? = some s → w2.ownsRow base 3 1 x s.2.length (intCells s.2) := by
    intro i x s hi hx hs
    have h0 := h.to_ i x s hx hs
    refine row_on h0 fun k hk' => ?_
    refine hk k (fun e => ?_) (row_type h0 k hk')
    exact h.apart i f x u k hi hx hu hk' e.symm
  have at_ : ∀ (i : Nat) (x : Value), (tv.set f v)[i]? = some x → (i ≠ f ∧ tv[i]? = some x) ∨ (i = f ∧ x = v) := by
    intro i x hx
    by_cases e : i = f
    · right; subst e; rw [List.getElem?_set_self (by omega)] at hx; simp at hx; exact ⟨rfl, hx.symm⟩
    · left; rw [List.getElem?_set_ne (fun e' => e e'.symm)] at hx; exact ⟨e, hx⟩
  have apv : ∀ (j : Nat) (x : Value) (k : Nat), j ≠ f → tv[j]? = some x → x.ownBlock = some k → v.ownBlock ≠ some k := by
    intro j x k hj hx hk' e
    rcases hn with hn | ⟨k', hn, hge⟩
    · exact h.apart j f x u k hj hx hu hk' (by rw [← hn]; exact e)
    · have hjl : j < S.length := by rw [← hl]; exact (List.getElem?_eq_some_iff.1 hx).1
      have := ((h.to_ j x _ hx (List.getElem?_eq_getElem hjl)).lt k hk').2
      rw [hn] at e; simp at e; omega
  refine ⟨by rw [List.length_set, leadS_len]; exact hl, ?_, ?_, ?_⟩
  · rw [stCells_set S tv f t v hl hf, leadS_len]; exact hrow
  · intro i x s hx hs
    rcases leadS_at hs with ⟨h1, h2⟩ | ⟨h1, s0, h2, rfl⟩
    · rcases at_ i x hx with ⟨h3, h4⟩ | ⟨h3, h4⟩
      · exact oth i x s h1 h4 h2
      · exact absurd h3 h1
    · subst h1
      rcases at_ i x hx with ⟨h3, h4⟩ | ⟨h3, rfl⟩
      · exact absurd rfl h3
      · have := hv s0 h2
        simpa [intCells] using this
  · intro i j x y k hij hx hy hk'
    rcases at_ i x hx with ⟨h3, h4⟩ | ⟨h3, rfl⟩
    · rcases at_ j y hy with ⟨h5, h6⟩ | ⟨h5, rfl⟩
      · exact h.apart i j x y k hij h4 h6 hk'
      · exact apv i x k h3 h4 hk'
    · rcases at_ j y hy with ⟨h5, h6⟩ | ⟨h5, rfl⟩
      · intro e; exact apv j y k h5 h6 e hk'
      · exact absurd (h3.trans h5.symm) hij
end Go.Proofs.YtonooajnjgnmnaaGreatDoor
