import Derived.Test.YtodagkkjfipbgaaGreatDoorA43lone
set_option maxRecDepth 100000
set_option maxHeartbeats 8000000
namespace Go.Proofs.YtodagkkjfipbgaaGreatDoor
open Go.ChangeShapes Go.WideShapes Go.ChangeAt Go.RowKit Go.Proofs.Tryz
open Go.ChangeMaps (open_string shut_string)
theorem Sq:joinedFacts Tryz.checked.prog 4 Tryz.f4 (Rows.OpenSpec.upto Rows.cutsSpec).bare Rows.cutsUptoRow=true:=by
 unfold joinedFacts;simp only[gA]
 and_intros
 all_goals as_aux_lemma=>kernel_rfl
end Go.Proofs.YtodagkkjfipbgaaGreatDoor
