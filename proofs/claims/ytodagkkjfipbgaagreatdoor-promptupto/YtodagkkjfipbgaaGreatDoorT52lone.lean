/- cleavekeep.Prompt answers true whatever the rules' text, the text and what comes behind, where they hold together no more than 1048576 values and letters: a place with as many characters behind it as Delay says is settled: all segments that end no later are told, and they are those of the text whatever comes behind. Its conditions: the row's own (the listed package-level variables start as the program's text lays them; the card ties them), and that bound. -/
import Derived.Test.YtodagkkjfipbgaaGreatDoorTie
import Derived.Test.YtodagkkjfipbgaaGreatDoorCards
import Derived.SevenTiedAt
import Derived.SliceStrings
import Derived.Carry
import Derived.Deep.DeepHandedRow
import Derived.Test.YtodagkkjfipbgaaGreatDoorT50toT51
import Derived.Test.YtodagkkjfipbgaaGreatDoorSutoVa
namespace Go.Proofs.YtodagkkjfipbgaaGreatDoor
open Go.ChangeShapes Go.WideShapes Go.ChangeAt Go.RowKit
open Go.ChangeMaps (open_string shut_string)
set_option maxRecDepth 100000 in
theorem prompt_contract (H:Type) (enc:TypeId × Value->H) (W:World) (base:Nat) (args:Array Value) (ds gs:List (DataW H)) (before:List MemPlace)
  (hval:∀ (j:Nat) t v,Tryz.f11.params[j]?=some t->args[j]?=some v->Value.okWide Tryz.prog W .any base t v)
  (hW:DataW.Whole enc Tryz.prog Tryz.f11.params.toList Rows.promptSpec.vars false W args.toList ds gs before)
  (hsz:(DataW.weightsEach Tryz.prog (Tryz.f11.params.toList++Rows.promptSpec.plain.varTypes Tryz.prog) (ds++gs)).all (·<=reachBytes)=true)
  (hk:Rows.uptoSmall H (ds++gs)=true) (hL0:laidMetH Tryz.prog Rows.promptUptoRow.laid W) :
  Calls Tryz.prog 11 args W fun e W'=>∃ v,e=.returned v/\Rows.promptSpec.post enc Tryz.prog Tryz.f11 false true false false W args v W':=by
 have hL:laidMet Tryz.prog Rows.promptUptoRow.laid W:=by rw [MakeChecks.laidMetH_plain _ _ _ (by kernel_rfl)] at hL0;exact hL0
 have hW':=hW
 obtain ⟨p,q,hA0,hV,rfl,_,_⟩:=hW
 have hA:DataW.TrodAll enc Tryz.prog W 0 (fun _=>true) true Tryz.f11.params.toList args.toList ds p:=hA0
 rw [Tryz.params11] at hA hval hsz
 obtain ⟨v0,v1,v2,d0,d1,d2,p0,p1,p2,rfl,rfl,rfl,h0,h1,h2⟩:=trodAll_three hA
 obtain ⟨rfl,rfl⟩:=trodVars_none hV
 obtain ⟨T,rfl,rfl,rfl,hT⟩:=open_string Tryz.underlying9 (hval 0 9 v0 rfl rfl) h0
 obtain ⟨s,rfl,rfl,rfl,hs⟩:=open_string Tryz.underlying9 (hval 1 9 v1 rfl rfl) h1
 obtain ⟨more,rfl,rfl,rfl,hmo⟩:=open_string Tryz.underlying9 (hval 2 9 v2 rfl rfl) h2
 clear hA0
 simp only [List.append_nil] at hW'
 have hb:=of_decide_eq_true hk
 simp only [List.append_nil,Rows.uptoBulkAll,Rows.uptoBulk] at hb
 have e1:T.data.toList.length=T.size:=Array.length_toList
 have e2:s.data.toList.length=s.size:=Array.length_toList
 have e3:more.data.toList.length=more.size:=Array.length_toList
 have hvars:VarsOk W:=vars_laid hL
 refine (prompt_pr T s more W hvars (by omega) (by omega) (by omega)).mono fun e W' ⟨he,hnx⟩=>?_
 subst he
 refine ⟨_,rfl,_,_,_,[],[],[],hW',?_,?_,rfl,hnx.frame _,fun h=>by cases h⟩
 ·exact trodAll_mk1 (shut_bool Tryz.underlying4 true)
 ·exact trodAll_mk3 (shut_string Tryz.underlying9 hT) (shut_string Tryz.underlying9 hs) (shut_string Tryz.underlying9 hmo)
set_option maxRecDepth 100000 in
theorem promptUpto_lifted (os:Os) (started:os.Started) (H:Type) (enc:TypeId × Value->H) (F:Stop.Interp) :
  ReturnsInHanded {} Tryz.checked os 11 .any ((Rows.OpenSpec.upto Rows.promptSpec).preRow enc Tryz.prog Tryz.f11 Rows.promptUptoRow.domain false Rows.promptUptoRow.laid) (((Rows.OpenSpec.upto Rows.promptSpec).at F).post enc Tryz.prog Tryz.f11 false true false false):=by
 have hwit:∃ (w:World) (tape:Tape) (i:Input),w.os=os/\(w.forCall tape i).Shaped Tryz.prog/\i.vars=[]/\Input.okWide Tryz.prog (w.forCall tape i) .any w.heap.size 11 i /\
   (Rows.OpenSpec.upto Rows.promptSpec).preRow enc Tryz.prog Tryz.f11 Rows.promptUptoRow.domain false Rows.promptUptoRow.laid (w.forCall tape i).memory i.args/\({}:Assume).holds Tryz.prog (lone (Frame.enter Tryz.prog 11 i.args .normal) [] (w.forCall tape i)):=by
  have hok:Input.okWideB Tryz.prog ((World.laidAll Tryz.prog os Rows.promptUptoRow.laid).forCall (fun _ _=>0) ⟨#[],#[.string ⟨#[]⟩,.string ⟨#[]⟩,.string ⟨#[]⟩],[]⟩) 11 ⟨#[],#[.string ⟨#[]⟩,.string ⟨#[]⟩,.string ⟨#[]⟩],[]⟩=true:=by kernel_rfl
  refine ⟨World.laidAll Tryz.prog os Rows.promptUptoRow.laid,fun _ _=>0,⟨#[],#[.string ⟨#[]⟩,.string ⟨#[]⟩,.string ⟨#[]⟩],[]⟩,World.laidAll_os _ _ _,World.shaped_of_ZipB (by kernel_rfl) (by kernel_rfl),(Input.okWide_of_okWideB (base:=0) hok).1,(Input.okWide_of_okWideB hok).2,?_,?_⟩
  ·have hx:DataW.whole enc Tryz.prog ((World.laidAll Tryz.prog os Rows.promptUptoRow.laid).forCall (fun _ _=>0) ⟨#[],#[.string ⟨#[]⟩,.string ⟨#[]⟩,.string ⟨#[]⟩],[]⟩).memory Tryz.f11.params.toList Rows.promptSpec.vars false #[Value.string ⟨#[]⟩,.string ⟨#[]⟩,.string ⟨#[]⟩].toList 8=some ([.lit (.string []),.lit (.string []),.lit (.string [])],[],[]):=by kernel_rfl
   exact OpenSpec.preRow_of_cond 8 hx (by kernel_rfl) (fun k hk=>by cases hk;kernel_rfl) (by kernel_rfl) (by rw [MakeChecks.laidMetH_plain _ _ _ (by kernel_rfl)];exact laidMet_laidAll _ (by kernel_rfl) (by kernel_rfl))
  ·simp only [Assume.holds]
   exact ⟨by simp,by simp,fun _=>Modest.zero,by simp,by simp⟩
 refine returnsInHanded_of_row (C:=Tryz.checked) (s:=Rows.OpenSpec.upto Rows.promptSpec) ownW started (by kernel_rfl) Tryz.func11 hwit ?_
 intro W base args ds gs before hval hW _ hcond hsz hL _ _
 exact prompt_contract H enc W base args ds gs before hval hW hsz (hcond _ rfl) hL
theorem promptUpto_row:Rows.PromptUptoSaid :=
 OpenClaim.holds_of_cond 11 Tryz.f11 rfl rfl rfl rfl rfl rfl rfl ⟨rfl,rfl,rfl,rfl,rfl⟩ rfl rfl rfl rfl rfl (by kernel_rfl) Tryz.func11 (by kernel_rfl)
  (of_decide_eq_true (by kernel_rfl)) (by unfold Func.isWrapper;rw [if_neg (of_decide_eq_false (by kernel_rfl))];exact ⟨rfl,rfl⟩)
  (fun os started H enc _ F=>by rw [OpenClaim.pre_eq_preRow];exact promptUpto_lifted os started H enc F)
theorem promptUpto_holds:Rows.PromptUptoCardSaid :=
 Claim7.holds_tied_plain_at .later [] [.data, .data, .data, .data, .wider, .sentinel, .sentinel, .pinned] true (true, "0eca4d943396bbeb993c75ead332384aea73429a5a59be311f17d89518fa93fc") true
  promptUpto_row (fun _ h=>by cases h) (by kernel_rfl) (fun _ h=>by cases h) promptUpto_row_tie rfl ⟨rfl,rfl⟩ (by kernel_rfl) rfl
  (fun f fn hf hfn=>by
   obtain rfl:f=11:=Option.some.inj ((show Tryz.prog.funcNamed Rows.promptUptoRow.func=some 11 by kernel_rfl).symm.trans hf) |>.symm
   obtain rfl:fn=Tryz.f11:=(Option.some.inj (Tryz.func11.symm.trans hfn)).symm
   exact ⟨by kernel_rfl,fun j t ht=>by
    rw [Tryz.params11] at ht
    have h3:t=9:=by
     rcases j with _ | _ | _ | j
     ·simpa using ht.symm
     ·simpa using ht.symm
     ·simpa using ht.symm
     ·simp at ht
    subst h3
    exact (show Tryz.prog.wantsStandIn 9=false by kernel_rfl)⟩)
  (by kernel_rfl)
end Go.Proofs.YtodagkkjfipbgaaGreatDoor
