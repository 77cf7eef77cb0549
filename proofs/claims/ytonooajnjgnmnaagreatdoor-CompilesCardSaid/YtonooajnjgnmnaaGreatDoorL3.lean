/- A call of a Go function as one step of a region that draws. -/
import Derived.Shelf.Abstract
import Derived.Test.YtonooajnjgnmnaaGreatDoorL2
namespace Go.Proofs.YtonooajnjgnmnaaGreatDoor
open Go.RowKit

theorem step_fn1 {P : Program} {w : World} {ops : Array Oper} {o : Oper} {a : Act} {K : Act → World → Prop} {Q : Exit → Act → World → Prop} {E : Prop} (hgd : o.guard = none) (f : Nat) (x : Operand) (ts : Array TypeId)
    (ho : o.op = .call { callee := .value (.func f), args := #[x], argTypes := ts }) (he : Go.Proofs.Enters P f) (v0 : Value) (hx : a.eval x = v0) (R : Ending → World → Prop) (hc : Calls P f #[v0] w R)
    (hK : ∀ e w', R e w' → ∃ v, e = .returned v ∧ K (a.put o.dst v) w') :
    if Region.wanted o (yielded ops a.tmps) = true then Oper.wp P o a w K Q else E := by
  have hw : Region.wanted o (yielded ops a.tmps) = true := by simp [Region.wanted, hgd]
  rw [if_pos hw]
  unfold Go.Proofs.Enters at he
  unfold Oper.wp execOp
  have hfe : a.eval (.func f) = .func (.func f) #[] #[] := rfl
  simp [ho, resolve, invoke, hx, hfe, Deferred.ofValue, he, Oper.upon_enter]
  refine hc.mono ?_
  intro e w' hr
  obtain ⟨v, rfl, hk⟩ := hK e w' hr
  exact hk
end Go.Proofs.YtonooajnjgnmnaaGreatDoor
