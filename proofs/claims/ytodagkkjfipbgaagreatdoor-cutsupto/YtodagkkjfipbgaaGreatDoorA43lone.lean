/- cleavelaw.Cuts answers true whatever the text of rules and the texts, where they hold together no more than 1048576 values and letters: each Cut tells the segments that the document tells, and they are the caller's own. Its conditions: the row's own (the listed package-level variables start as the program's text lays them; the card ties them), and that bound. -/
import Derived.Test.YtodagkkjfipbgaaGreatDoorTie
import Derived.Test.YtodagkkjfipbgaaGreatDoorCards
import Derived.SevenTiedAt
import Derived.Carry
import Derived.Deep.DeepHandedRow
import Derived.Test.YtodagkkjfipbgaaGreatDoorY0toTb
namespace Go.Proofs.YtodagkkjfipbgaaGreatDoor
open Go.ChangeShapes Go.WideShapes Go.ChangeAt Go.RowKit
open Go.ChangeMaps (open_string shut_string)
theorem tPWC:(Tryz.prog.globals[1]?).map (·.type)=some 323:=by kernel_rfl
set_option maxRecDepth 100000 in
theorem laid_powC {n:String} {r:List (String × DataW Unit)} {W:World} (h:laidMet Tryz.prog ((n,Rows.laid_internal_strconv_uint64pow10) :: r) W) (gPW:Tryz.prog.globalNamed n=some 1):TabOK W:=by
 obtain ⟨ps,⟨g0,t0,cs0,f0,p0,q0,hg0,ht0,hv0,hd0,_,e0⟩,_,_⟩:=h
 obtain rfl:=Option.some.inj (gPW.symm.trans hg0)
 obtain rfl:=Option.some.inj (tPWC.symm.trans ht0)
 have c1:Tryz.prog.cellsOf 273=1:=by kernel_rfl
 obtain ⟨xs,m,_,ex,hlen,hl,hel⟩:=DataW.trod_array Tryz.underlying323 hd0
 have k:=hel 2 (by omega)
 have e3:some (DataW.lit (.int .u64 100))=(xs.map (·.1))[2]?:=congrArg (fun l=>l[2]?) (DataW.agg.inj (Prod.mk.inj ex).1)
 rw [List.getElem?_map] at e3
 have k:DataW.trod (fun _=>()) Tryz.prog W 0 (fun _=>true) false m 273 ((cs0.toList.drop (2 * 1)).take 1)=xs[2]?:=c1 ▸ k
 cases hx:xs[2]? with
 | none=>rw [hx] at e3;simp at e3
 | some x =>
  rw [hx] at e3 k
  obtain ⟨n,a0,b0,_⟩:=DataW.trod_int Tryz.underlying273 k
  have e4:x.1=.lit (.int .u64 100):=by simpa using e3.symm
  rw [b0] at e4
  have e5:n=100:=by simpa using e4
  subst e5
  show W.cell? ⟨1,2,none⟩=_
  rw [World.var?_cell gPW hv0 2]
  obtain ⟨l⟩:=cs0
  have e6:=congrArg (fun l=>l[0]?) a0
  simpa using e6
theorem size_le_join {s:ByteArray} {l:List ByteArray} (h:s ∈ l):s.size≤(joinB l).size:=by
 rw [joinB_size]
 induction l with
 | nil=>simp at h
 | cons a l ih =>
  rw [List.map_cons,List.sum_cons]
  rcases List.mem_cons.1 h with rfl | h
  ·omega
  ·have:=ih h;omega
set_option maxRecDepth 100000 in
theorem cuts_contract (H:Type) (enc:TypeId × Value→H) (W:World) (base:Nat) (args:Array Value) (ds gs:List (DataW H)) (before:List MemPlace)
  (hval:∀ (j:Nat) t v,Tryz.f4.params[j]?=some t→args[j]?=some v→Value.okWide Tryz.prog W .any base t v)
  (hW:DataW.Whole enc Tryz.prog Tryz.f4.params.toList Rows.cutsSpec.vars false W args.toList ds gs before)
  (hsz:(DataW.weightsEach Tryz.prog (Tryz.f4.params.toList++Rows.cutsSpec.plain.varTypes Tryz.prog) (ds++gs)).all (·≤reachBytes)=true)
  (hk:Rows.uptoSmall H (ds++gs)=true) (hL0:laidMetH Tryz.prog Rows.cutsUptoRow.laid W) :
  Calls Tryz.prog 4 args W fun e W'=>∃ v,e=.returned v∧Rows.cutsSpec.post enc Tryz.prog Tryz.f4 false true false false W args v W':=by
 have hL:laidMet Tryz.prog Rows.cutsUptoRow.laid W:=by rw [MakeChecks.laidMetH_plain _ _ _ (by kernel_rfl)] at hL0;exact hL0
 have hW':=hW
 obtain ⟨p,q,hA0,hV,rfl,_,_⟩:=hW
 have hA:DataW.TrodAll enc Tryz.prog W 0 (fun _=>true) true Tryz.f4.params.toList args.toList ds p:=hA0
 rw [Tryz.params4] at hA hval hsz
 obtain ⟨v0,v1,d0,d1,p0,p1,rfl,rfl,rfl,h0,h1⟩:=trodAll_two hA
 obtain ⟨rfl,rfl⟩:=trodVars_none hV
 obtain ⟨T,rfl,rfl,rfl,hT⟩:=open_string Tryz.underlying9 (hval 0 9 v0 rfl rfl) h0
 obtain ⟨a0,len,cap,rfl⟩:=okWide_slice Tryz.underlying30 (hval 1 30 v1 rfl rfl)
 have h1k:=h1
 obtain ⟨fuel,hf⟩:=h1
 clear hA0
 simp only [List.append_nil,List.nil_append] at hW'
 have hlt:∀ x ∈ p1,x.block<W.heap.size:=fun x hx=>by simpa using hW'.lt x hx
 have hb:=of_decide_eq_true hk
 simp only [List.append_nil,Rows.uptoBulkAll,Rows.uptoBulk] at hb
 have e1:T.data.toList.length=T.size:=Array.length_toList
 have fin:∀ W',Below W.heap.size W W'→Rows.cutsSpec.post enc Tryz.prog Tryz.f4 false true false false W #[.string T,.slice a0 len cap] (.bool true) W':=fun W' hnx=>by
  refine ⟨_,_,_,[],p1,[],hW',?_,?_,rfl,hnx.frame _,fun h=>by cases h⟩
  ·exact trodAll_mk1 (shut_bool Tryz.underlying4 true)
  ·exact trodAll_mk2 (shut_string Tryz.underlying9 hT) (Below.trod Tryz.laidOutB (by kernel_rfl) (of_decide_eq_true (by kernel_rfl)) h1k hnx hlt)
 have hvars:VarsOk W:=vars_laid hL
 have htab:TabOK W:=laid_powC hL.tail.tail (by kernel_rfl)
 rcases open_strings Tryz.underlying30 Tryz.underlying9 Tryz.cellsStr hf with ⟨hcs,hx⟩ | ⟨a,len',cap',ss,hcs,_,hl,hm,hz,hx,hcell,hws⟩
 ·simp [Value.cells] at hcs
  obtain ⟨rfl,rfl,rfl⟩:=hcs
  refine (cuts_pr T (.slice none 0 0) [] W hvars htab (Or.inl ⟨rfl,rfl⟩) (by omega) (by decide) (fun s h=>by simp at h)).mono fun e W' ⟨he,hnx⟩=>?_
  subst he
  exact ⟨_,rfl,fin W' hnx⟩
 ·simp [Value.cells] at hcs
  obtain ⟨rfl,rfl,rfl⟩:=hcs
  simp only [Prod.mk.injEq] at hx
  obtain ⟨rfl,_⟩:=hx
  simp only [if_true] at hz
  simp only [Rows.uptoBulk,bulk_strs] at hb
  have hPl:(ss.take len).length=len:=by rw [List.length_take];omega
  have hA:ArgC W (.slice (some a) len cap) (ss.take len):=Or.inr ⟨a,cap,by rw [hPl],fun i s hs=>by
   have hi:i<len:=by rw [← hPl];exact (List.getElem?_eq_some_iff.1 hs).1
   rw [hcell i (by omega)]
   rw [List.getElem?_take,if_pos hi] at hs
   rw [List.getD_eq_getElem?_getD,hs]
   rfl⟩
  refine (cuts_pr T _ (ss.take len) W hvars htab hA (by omega) (by omega) (fun s h=>by have:=size_le_join h;omega)).mono fun e W' ⟨he,hnx⟩=>?_
  subst he
  exact ⟨_,rfl,fin W' hnx⟩
set_option maxRecDepth 100000 in
theorem cutsUpto_lifted (os:Os) (started:os.Started) (H:Type) (enc:TypeId × Value→H) (F:Stop.Interp) :
  ReturnsInHanded {} Tryz.checked os 4 .any ((Rows.OpenSpec.upto Rows.cutsSpec).preRow enc Tryz.prog Tryz.f4 Rows.cutsUptoRow.domain false Rows.cutsUptoRow.laid) (((Rows.OpenSpec.upto Rows.cutsSpec).at F).post enc Tryz.prog Tryz.f4 false true false false):=by
 have hwit:∃ (w:World) (tape:Tape) (i:Input),w.os=os∧(w.forCall tape i).Shaped Tryz.prog∧i.vars=[]∧Input.okWide Tryz.prog (w.forCall tape i) .any w.heap.size 4 i ∧
   (Rows.OpenSpec.upto Rows.cutsSpec).preRow enc Tryz.prog Tryz.f4 Rows.cutsUptoRow.domain false Rows.cutsUptoRow.laid (w.forCall tape i).memory i.args∧({}:Assume).holds Tryz.prog (lone (Frame.enter Tryz.prog 4 i.args .normal) [] (w.forCall tape i)):=by
  have hok:Input.okWideB Tryz.prog ((World.laidAll Tryz.prog os Rows.cutsUptoRow.laid).forCall (fun _ _=>0) ⟨#[],#[.string ⟨#[]⟩,.slice none 0 0],[]⟩) 4 ⟨#[],#[.string ⟨#[]⟩,.slice none 0 0],[]⟩=true:=by kernel_rfl
  refine ⟨World.laidAll Tryz.prog os Rows.cutsUptoRow.laid,fun _ _=>0,⟨#[],#[.string ⟨#[]⟩,.slice none 0 0],[]⟩,World.laidAll_os _ _ _,World.shaped_of_ZipB (by kernel_rfl) (by kernel_rfl),(Input.okWide_of_okWideB (base:=0) hok).1,(Input.okWide_of_okWideB hok).2,?_,?_⟩
  ·have hx:DataW.whole enc Tryz.prog ((World.laidAll Tryz.prog os Rows.cutsUptoRow.laid).forCall (fun _ _=>0) ⟨#[],#[.string ⟨#[]⟩,.slice none 0 0],[]⟩).memory Tryz.f4.params.toList Rows.cutsSpec.vars false #[Value.string ⟨#[]⟩,.slice none 0 0].toList 8=some ([.lit (.string []),.nil],[],[]):=by kernel_rfl
   exact OpenSpec.preRow_of_cond 8 hx (by kernel_rfl) (fun k hk=>by cases hk;kernel_rfl) (by kernel_rfl) (by rw [MakeChecks.laidMetH_plain _ _ _ (by kernel_rfl)];exact laidMet_laidAll _ (by kernel_rfl) (by kernel_rfl))
  ·simp only [Assume.holds]
   exact ⟨by simp,by simp,fun _=>Modest.zero,by simp,by simp⟩
 refine returnsInHanded_of_row (C:=Tryz.checked) (s:=Rows.OpenSpec.upto Rows.cutsSpec) ownW started (by kernel_rfl) Tryz.func4 hwit ?_
 intro W base args ds gs before hval hW _ hcond hsz hL _ _
 exact cuts_contract H enc W base args ds gs before hval hW hsz (hcond _ rfl) hL
theorem cutsUpto_row:Rows.CutsUptoSaid :=
 OpenClaim.holds_of_cond 4 Tryz.f4 rfl rfl rfl rfl rfl rfl rfl ⟨rfl,rfl,rfl,rfl,rfl⟩ rfl rfl rfl rfl rfl (by kernel_rfl) Tryz.func4 (by kernel_rfl)
  (of_decide_eq_true (by kernel_rfl)) (by unfold Func.isWrapper;rw [if_neg (of_decide_eq_false (by kernel_rfl))];exact ⟨rfl,rfl⟩)
  (fun os started H enc _ F=>by rw [OpenClaim.pre_eq_preRow];exact cutsUpto_lifted os started H enc F)
theorem cutsUpto_holds:Rows.CutsUptoCardSaid :=
 Claim7.holds_tied_plain_at .later [] [.data, .data, .data, .data, .wider, .sentinel, .sentinel, .pinned] true (true, "0eca4d943396bbeb993c75ead332384aea73429a5a59be311f17d89518fa93fc") true
  cutsUpto_row (fun _ h=>by cases h) (by kernel_rfl) (fun _ h=>by cases h) cutsUpto_row_tie rfl ⟨rfl,rfl⟩ (by kernel_rfl) rfl
  (fun f fn hf hfn=>by
   obtain rfl:f=4:=Option.some.inj ((show Tryz.prog.funcNamed Rows.cutsUptoRow.func=some 4 by kernel_rfl).symm.trans hf) |>.symm
   obtain rfl:fn=Tryz.f4:=(Option.some.inj (Tryz.func4.symm.trans hfn)).symm
   exact ⟨by kernel_rfl,fun j t ht=>by
    rw [Tryz.params4] at ht
    have h3:t=9∨t=30:=by
     rcases j with _ | _ | j
     ·exact Or.inl (by simpa using ht.symm)
     ·exact Or.inr (by simpa using ht.symm)
     ·simp at ht
    rcases h3 with rfl | rfl
    ·exact (show Tryz.prog.wantsStandIn 9=false by kernel_rfl)
    ·exact (show Tryz.prog.wantsStandIn 30=false by kernel_rfl)⟩)
  (by kernel_rfl)
end Go.Proofs.YtodagkkjfipbgaaGreatDoor
