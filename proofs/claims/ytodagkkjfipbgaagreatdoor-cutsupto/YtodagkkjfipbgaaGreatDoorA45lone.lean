/- cleavelaw.Cuts answers true whatever the text of rules and the texts, where they hold together no more than 1048576 values and letters: each Cut tells the segments that the document tells, and they are the caller's own. Its conditions: the row's own (the listed package-level variables start as the program's text lays them; the card ties them), and that bound. -/
import Derived.Test.YtodagkkjfipbgaaGreatDoorA44lone
set_option maxRecDepth 100000
set_option maxHeartbeats 8000000
namespace Go.Proofs.YtodagkkjfipbgaaGreatDoor
open Go.ChangeShapes Go.WideShapes Go.ChangeAt Go.RowKit Go.Proofs.Tryz
open Go.ChangeMaps (open_string shut_string)
theorem Aw:Rows.CutsUptoSaid :=
 OpenClaim.holds_of_cond 4 Tryz.f4 rfl rfl rfl rfl rfl rfl rfl ⟨rfl,rfl,rfl,rfl,rfl⟩ rfl rfl rfl rfl rfl (by kernel_rfl) func4 Sq
  (of_decide_eq_true (by kernel_rfl)) (by unfold Func.isWrapper;rw[ae (of_decide_eq_false (by kernel_rfl))];exact⟨rfl,rfl⟩)
  (fun os b H a _ F=>by rw[OpenClaim.pre_eq_preRow];exact r7 os b H a F)
theorem cutsUpto_holds:Rows.CutsUptoCardSaid :=
 Claim7.holds_tied_plain_at .later [] [.data, .data, .data, .data, .wider, .sentinel, .sentinel, .pinned] true (true, "0eca4d943396bbeb993c75ead332384aea73429a5a59be311f17d89518fa93fc") true
  Aw (fun _ h=>by cases h) (by kernel_rfl) (fun _ h=>by cases h) cutsUpto_row_tie rfl ⟨rfl,rfl⟩ (by kernel_rfl) rfl
  (fun f fn c d=>by
   obtain rfl:f=4:=g8 ((show prog.funcNamed Rows.cutsUptoRow.func=some 4 by kernel_rfl).symm.trans c) |>.symm;obtain rfl:fn=Tryz.f4:=(g8 (func4.symm.trans d)).symm;exact⟨by kernel_rfl,fun j t a=>by
    rw[Tryz.params4]at a;have b:t=9\/t=30:=by
     rcases j with _|_|j
     ·exact ah (by simpa using a.symm)
     ·exact ac (by simpa using a.symm)
     ·simp at a
    rcases b with rfl|rfl
    ·exact(show prog.wantsStandIn 9=false by kernel_rfl)
    ·exact(show prog.wantsStandIn 30=false by kernel_rfl)⟩)
  (by kernel_rfl)
end Go.Proofs.YtodagkkjfipbgaaGreatDoor
