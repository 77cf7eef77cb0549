/- cleavelaw.Compiles answers true whatever the text: the program's Compile tells the error and the place that the reading of the document tells, and hands rules back just where there is no error. Its conditions: the row's own (the six listed package-level variables start as the program's text lays them; the card ties them). -/
import Derived.Test.YtodagkkjfipbgaaGreatDoorRows
import Derived.Test.YtodagkkjfipbgaaGreatDoorTie
import Derived.Test.YtodagkkjfipbgaaGreatDoorCards
import Derived.ProofKit
import Derived.LaidLaws
import Derived.Lay
import Derived.LaidOnce
import Derived.OpenShut
import Derived.SevenTiedAt
import Derived.SizedLaws
import Derived.Stop.LaidErr
import Derived.Test.YtodagkkjfipbgaaGreatDoorW20toSu
namespace Go.Proofs.YtodagkkjfipbgaaGreatDoor
open Go.ChangeShapes Go.WideShapes Go.ChangeAt Go.RowKit
open Go.ChangeMaps (open_string shut_string)

theorem own0 : ownKnob Tryz.prog.godebug = none := by kernel_rfl
theorem gES : Tryz.prog.globalNamed "strconv.ErrSyntax" = some 6 := by kernel_rfl
theorem gER : Tryz.prog.globalNamed "strconv.ErrRange" = some 7 := by kernel_rfl
theorem tES : (Tryz.prog.globals[6]?).map (·.type) = some 332 := by kernel_rfl
theorem tER : (Tryz.prog.globals[7]?).map (·.type) = some 332 := by kernel_rfl
theorem tPW : (Tryz.prog.globals[1]?).map (·.type) = some 323 := by kernel_rfl

theorem laid_iface {n nm : String} {d : DataW Unit} {r : List (String × DataW Unit)} {W : World} {g : Nat} {ti : TypeId} {ms : Array (String × TypeId)}
    (h : laidMet Tryz.prog ((n, .iface nm d) :: r) W) (hg : Tryz.prog.globalNamed n = some g) (ht : (Tryz.prog.globals[g]?).map (·.type) = some ti) (hi : Tryz.prog.underlying ti = some (.interface ms)) :
    ∃ u v, W.cell? ⟨g, 0, none⟩ = some (.iface u v) := by
  obtain ⟨ps, ⟨g0, t0, cs0, f0, p0, q0, hg0, ht0, hv0, hd0, _, e0⟩, _, _⟩ := h
  obtain rfl := Option.some.inj (hg.symm.trans hg0)
  obtain rfl := Option.some.inj (ht.symm.trans ht0)
  obtain ⟨_, u, v, hcs, _, _⟩ := iface_of_trod hi hd0
  refine ⟨u, v, ?_⟩
  rw [World.var?_cell hg hv0 0]
  obtain ⟨l⟩ := cs0
  simp at hcs
  subst hcs
  rfl
set_option maxRecDepth 100000 in
theorem laid_pow {n : String} {r : List (String × DataW Unit)} {W : World} (h : laidMet Tryz.prog ((n, Rows.laid_internal_strconv_uint64pow10) :: r) W) (gPW : Tryz.prog.globalNamed n = some 1) : TabOK W := by
  obtain ⟨ps, ⟨g0, t0, cs0, f0, p0, q0, hg0, ht0, hv0, hd0, _, e0⟩, _, _⟩ := h
  obtain rfl := Option.some.inj (gPW.symm.trans hg0)
  obtain rfl := Option.some.inj (tPW.symm.trans ht0)
  have c1 : Tryz.prog.cellsOf 273 = 1 := by kernel_rfl
  obtain ⟨xs, m, _, ex, hlen, hl, hel⟩ := DataW.trod_array Tryz.underlying323 hd0
  have k := hel 2 (by omega)
  have e3 : some (DataW.lit (.int .u64 100)) = (xs.map (·.1))[2]? := congrArg (fun l => l[2]?) (DataW.agg.inj (Prod.mk.inj ex).1)
  rw [List.getElem?_map] at e3
  have k : DataW.trod (fun _ => ()) Tryz.prog W 0 (fun _ => true) false m 273 ((cs0.toList.drop (2 * 1)).take 1) = xs[2]? := c1 ▸ k
  cases hx : xs[2]? with
  | none => rw [hx] at e3; simp at e3
  | some x =>
    rw [hx] at e3 k
    obtain ⟨n, a0, b0, _⟩ := DataW.trod_int Tryz.underlying273 k
    have e4 : x.1 = .lit (.int .u64 100) := by simpa using e3.symm
    rw [b0] at e4
    have e5 : n = 100 := by simpa using e4
    subst e5
    show W.cell? ⟨1, 2, none⟩ = _
    rw [World.var?_cell gPW hv0 2]
    obtain ⟨l⟩ := cs0
    have e6 := congrArg (fun l => l[0]?) a0
    simpa using e6

set_option maxRecDepth 100000 in
theorem compiles_lifted (os : Os) (started : os.Started) (H : Type) (enc : TypeId × Value → H) :
    ReturnsInHanded {} Tryz.checked os 3 .any (fun w args => (Rows.compilesSpec.pre enc Tryz.prog Tryz.f3 Rows.compilesRow.domain false w args ∧ laidMetH Tryz.prog Rows.compilesRow.laid w) ∧ sizedMet enc Tryz.prog Tryz.f3 (OpenSpec.ofChange Rows.compilesSpec) false w args)
      (Rows.compilesSpec.post enc Tryz.prog Tryz.f3 false true false false) := by
  refine returnsInHanded_of_change_and (C := Tryz.checked) (X := fun w _ => laidMetH Tryz.prog Rows.compilesRow.laid w) (fun _ _ _ hh h => h.of_heap hh) own0 started (by kernel_rfl) Tryz.func3
    (ChangeSpec.witness_shaped (enc := enc) (C := Tryz.checked) (os := os) (X := fun w _ => laidMetH Tryz.prog Rows.compilesRow.laid w) false (World.laidAll Tryz.prog os Rows.compilesRow.laid) #[.string ⟨#[]⟩] 8 (World.laidAll_os _ _ _) (World.shaped_of_ZipB (by kernel_rfl) (by kernel_rfl)) (by kernel_rfl) (by kernel_rfl) (by kernel_rfl)
      (by rw [MakeChecks.laidMetH_plain _ _ _ (by kernel_rfl)]; exact laidMet_laidAll _ (by kernel_rfl) (by kernel_rfl))) ?_
  intro W base args ds gs before hval0 hW _ hsz0 hL0 _
  have hsz : (DataW.weightsEach Tryz.prog (Tryz.f3.params.toList ++ Rows.compilesSpec.plain.varTypes Tryz.prog) (ds ++ gs)).all (· ≤ reachBytes) = true := hsz0
  clear hsz0
  have hL : laidMet Tryz.prog Rows.compilesRow.laid W := by rw [MakeChecks.laidMetH_plain _ _ _ (by kernel_rfl)] at hL0; exact hL0
  have hval : ∀ (j : Nat) t v, Tryz.f3.params[j]? = some t → args[j]? = some v → Value.okWide Tryz.prog W .any base t v := hval0
  have hW' := hW
  obtain ⟨p, q, hA0, hV, rfl, _, _⟩ := hW
  have hA : DataW.TrodAll enc Tryz.prog W 0 (fun _ => true) true Tryz.f3.params.toList args.toList ds p := hA0
  rw [Tryz.params3] at hA hval hsz
  obtain ⟨v0, d0, rfl, rfl, h0⟩ := trodAll_one hA
  obtain ⟨rfl, rfl⟩ := trodVars_none hV
  obtain ⟨s, rfl, rfl, rfl, hs⟩ := open_string Tryz.underlying9 (hval 0 9 v0 rfl rfl) h0
  clear hA0 hval0
  simp only [List.append_nil] at hW'
  have hlim : s.size ≤ 140737488351232 := by
    have h1 := sized_string hsz (j := 0) (t := 9) rfl rfl
    have e1 : s.size = s.data.size := rfl
    have e2 : s.data.toList.length = s.data.size := Array.length_toList
    have e3 : reachBytes = 140737488351232 := rfl
    omega
  have hT : TabOK W := laid_pow hL.tail.tail (by kernel_rfl)
  have hE : ErrsOk W := ⟨laid_iface hL.tail.tail.tail.tail.tail gES tES Tryz.underlying332, laid_iface hL.tail.tail.tail.tail gER tER Tryz.underlying332, laid_sur hL.tail.tail.tail (by kernel_rfl)⟩
  refine (compiles_pr s W hE hT hlim).mono fun e W' ⟨he, hnx⟩ => ?_
  subst he
  refine ⟨_, rfl, _, _, _, [], [], [], hW', ?_, ?_, rfl, hnx.frame _, fun h => by cases h⟩
  · exact trodAll_mk1 (shut_bool Tryz.underlying4 true)
  · exact trodAll_mk1 (shut_string Tryz.underlying9 hs)

theorem compiles_row : Rows.CompilesSaid :=
  OpenClaim.holds_of_wide 3 Tryz.f3 rfl rfl rfl rfl rfl rfl rfl ⟨rfl, rfl, rfl, rfl, rfl⟩ rfl rfl rfl rfl rfl (by kernel_rfl) Tryz.func3 (by kernel_rfl)
    (of_decide_eq_true (by kernel_rfl)) (by unfold Func.isWrapper; rw [if_neg (of_decide_eq_false (by kernel_rfl))]; exact ⟨rfl, rfl⟩)
    (fun os started H enc _ => compiles_lifted os started H enc)

theorem compiles_holds : Rows.CompilesCardSaid :=
  Claim7.holds_tied_plain_at .later [] [.data, .data, .data, .wider, .sentinel, .sentinel] true (true, "0eca4d943396bbeb993c75ead332384aea73429a5a59be311f17d89518fa93fc") true
    compiles_row (fun _ h => by cases h) (by kernel_rfl) (fun _ h => by cases h) compiles_row_tie rfl ⟨rfl, rfl⟩ (by kernel_rfl) rfl
    (fun f fn hf hfn => by
      obtain rfl : f = 3 := Option.some.inj ((show Tryz.prog.funcNamed Rows.compilesRow.func = some 3 by kernel_rfl).symm.trans hf) |>.symm
      obtain rfl : fn = Tryz.f3 := (Option.some.inj (Tryz.func3.symm.trans hfn)).symm
      exact ⟨by kernel_rfl, fun j t ht => by
        rw [Tryz.params3] at ht
        have h3 : t = 9 := by
          rcases j with _ | j
          · simpa using ht.symm
          · simp at ht
        subst h3
        exact (show Tryz.prog.wantsStandIn 9 = false by kernel_rfl)⟩)
    (by kernel_rfl)
end Go.Proofs.YtodagkkjfipbgaaGreatDoor
