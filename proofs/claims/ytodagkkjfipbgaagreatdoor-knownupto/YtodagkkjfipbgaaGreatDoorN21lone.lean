/- The spans of a text that is read without a fault: few, of few kinds. -/
import Derived.Deep.CutBlock
import Derived.Test.YtodagkkjfipbgaaGreatDoorProg
import Derived.Test.YtodagkkjfipbgaaGreatDoorZ5toM2
import Derived.Test.YtodagkkjfipbgaaGreatDoorN20toD7
import Derived.Test.YtodagkkjfipbgaaGreatDoorZ3toW17
import Derived.Test.YtodagkkjfipbgaaGreatDoorZ1toZ2
import Derived.Test.YtodagkkjfipbgaaGreatDoorV10toN19
import Derived.Test.YtodagkkjfipbgaaGreatDoorSh4lone
import Derived.Test.YtodagkkjfipbgaaGreatDoorD6toV9
import Derived.Test.YtodagkkjfipbgaaGreatDoorV7toW5
import Derived.Test.YtodagkkjfipbgaaGreatDoorD1toD5
import Derived.Test.YtodagkkjfipbgaaGreatDoorH1toC2
import Derived.Test.YtodagkkjfipbgaaGreatDoorK4toK6
import Derived.Test.YtodagkkjfipbgaaGreatDoorJ6toK3
import Derived.Test.YtodagkkjfipbgaaGreatDoorQ5toK2
import Derived.Test.YtodagkkjfipbgaaGreatDoorP2toQ1
import Derived.Test.YtodagkkjfipbgaaGreatDoorJ8toQ4
import Derived.Test.YtodagkkjfipbgaaGreatDoorQ2toQ3
import Derived.Test.YtodagkkjfipbgaaGreatDoorBtoP1
import Derived.Test.YtodagkkjfipbgaaGreatDoorUlone
import Derived.Test.YtodagkkjfipbgaaGreatDoorShlone
import Derived.Test.YtodagkkjfipbgaaGreatDoorSh2lone
import Derived.Test.YtodagkkjfipbgaaGreatDoorN17toV1
import Derived.Test.YtodagkkjfipbgaaGreatDoorN15toN16
import Derived.Test.YtodagkkjfipbgaaGreatDoorN13toN14
import Derived.Test.YtodagkkjfipbgaaGreatDoorN12lone
import Derived.Test.YtodagkkjfipbgaaGreatDoorN10toN11
import Derived.Test.YtodagkkjfipbgaaGreatDoorN9lone
import Derived.Test.YtodagkkjfipbgaaGreatDoorN1toN5
import Derived.Test.YtodagkkjfipbgaaGreatDoorJ10toJ11
import Derived.Test.YtodagkkjfipbgaaGreatDoorK9toJ9
import Derived.Test.YtodagkkjfipbgaaGreatDoorK7toL3
import Derived.Test.YtodagkkjfipbgaaGreatDoorJ3toJ5
import Derived.Test.YtodagkkjfipbgaaGreatDoorJ2toJ7
import Derived.Test.YtodagkkjfipbgaaGreatDoorN8lone
import Derived.Test.YtodagkkjfipbgaaGreatDoorN6toN0
import Derived.Test.YtodagkkjfipbgaaGreatDoorC5toS
import Derived.Test.YtodagkkjfipbgaaGreatDoorC3toC4
namespace Go.Proofs.YtodagkkjfipbgaaGreatDoor
open Go.RowKit

theorem spansL_few (T : ByteArray) (k : Nat) : ∀ (g : Nat) (s : PS) (l : List (Int × Int × Nat)), (PS.spansL T k g s l).2.length ≤ l.length + g ∧ ∀ o ∈ (PS.spansL T k g s l).2, o ∈ l ∨ o.2.2 = k := by
  intro g
  induction g with
  | zero => intro s l; exact ⟨Nat.le_refl _, fun o ho => Or.inl ho⟩
  | succ g ih =>
    intro s l
    rw [PS.spansL]
    split
    · have h := ih ((s.step T).span T l) (l ++ [((s.step T).spanX T, (s.step T).spanY T, k)])
      refine ⟨by have := h.1; simp at this; omega, fun o ho => ?_⟩
      rcases h.2 o ho with h1 | h1
      · rw [List.mem_append] at h1
        rcases h1 with h1 | h1
        · exact Or.inl h1
        · simp at h1; right; rw [h1]
      · exact Or.inr h1
    · exact ⟨by show l.length ≤ _; omega, fun o ho => Or.inl ho⟩
theorem readC_spans (T : ByteArray) : ∀ (g : Nat) (r : RD), r.s.p ≤ T.size → Fz T r.s → (readC T g r).s.f = 0 → r.names.length ≤ 6 → r.l.length ≤ r.names.length * (T.size + 2) → (∀ o ∈ r.l, o.2.2 < 8) → (readC T g r).l.length ≤ (readC T g r).names.length * (T.size + 2) ∧ ∀ o ∈ (readC T g r).l, o.2.2 < 8 := by
  intro g
  induction g with
  | zero => intro r _ _ _ _ h1 h2; exact ⟨h1, h2⟩
  | succ g ih =>
    intro r hp hz hf hn h1 h2
    rw [readC] at hf ⊢
    split at hf
    · rename_i hm
      rw [if_pos hm]
      have hp' := (class_p T r.names r.l r.s hz hp).1
      have hz' := klass_fz T r.names r.l r.s hz hp
      have hc := readC_few T g ⟨r.s.klass T r.names r.l, r.names ++ [nameTok T r.names r.s], (r.s.classB T r.names r.l).2⟩ hp' hz'
      have h6 := class_six T r.names r.l r.s (hc.2.2.1.back hf)
      have hs := spansL_few T r.names.length (T.size + 1) ((r.s.classA T r.names).span T r.l) (r.l ++ [((r.s.classA T r.names).spanX T, (r.s.classA T r.names).spanY T, r.names.length)])
      refine ih _ hp' hz' hf (by simp; omega) ?_ fun o ho => ?_
      · have := hs.1
        show ((r.s.classB T r.names r.l).2).length ≤ (r.names ++ [nameTok T r.names r.s]).length * (T.size + 2)
        unfold PS.classB
        rw [List.length_append, List.length_singleton] at this
        rw [List.length_append, List.length_singleton, Nat.add_mul]
        omega
      · rcases hs.2 o ho with h | h
        · rw [List.mem_append] at h
          rcases h with h | h
          · exact h2 o h
          · simp at h; rw [h]; show r.names.length < 8; omega
        · omega
    · rename_i hm; rw [if_neg hm]; exact ⟨h1, h2⟩
theorem read_spans (T : ByteArray) (h0 : (RS.read T).err = 0) : (read1 T).l.length ≤ 100000 ∧ ∀ o ∈ (read1 T).l, o.2.2 < 8 := by
  have hT : T.size ≤ 1000 := by
    rcases Nat.lt_or_ge 1000 T.size with h | h
    · have : RS.read T = RS.start.fail 1 0 := by unfold RS.read; rw [if_pos h]
      rw [this] at h0; exact absurd h0 (by decide)
    · exact h
  have hf : (readP T).f = 0 := (read_z T hT).1.trans h0
  have h2 : (read2 T).1.f = 0 := readEnd_f hf
  have hp : (read0 T).s.p ≤ T.size := (skip_le T 0).2 (Nat.zero_le _)
  have hz : Fz T (read0 T).s := fun e => absurd rfl e
  have h1 := readC_few T (T.size + 1) (read0 T) hp hz
  have hs := readR_stk T (read1 T).names (T.size + 1) (read1 T).s [] h1.2.1 h1.1
  have hf1 := hs.back h2
  have hn : (read1 T).names.length ≤ 6 := h1.2.2.2 hf1 (by show (0 : Nat) ≤ 6; omega)
  have h3 := readC_spans T (T.size + 1) (read0 T) hp hz hf1 (by show (0 : Nat) ≤ 6; omega) (by show (0 : Nat) ≤ _; omega) (fun o ho => by have : o ∈ ([] : List (Int × Int × Nat)) := ho; simp at this)
  refine ⟨Nat.le_trans h3.1 ?_, h3.2⟩
  have : (read1 T).names.length * (T.size + 2) ≤ 6 * 1002 := Nat.mul_le_mul hn (by omega)
  exact Nat.le_trans this (by omega)
end Go.Proofs.YtodagkkjfipbgaaGreatDoor
