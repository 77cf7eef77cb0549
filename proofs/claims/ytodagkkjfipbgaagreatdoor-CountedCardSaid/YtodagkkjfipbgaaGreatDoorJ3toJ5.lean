import Derived.Test.YtodagkkjfipbgaaGreatDoorQ5toK2
namespace Go.Proofs.YtodagkkjfipbgaaGreatDoor
open Go.RowKit Go.Maps
theorem bits_all : ((List.range 256).all fun t => (List.range 8).all fun k => (bits BinOp.and IntKind.u8 (t : Nat) (2 ^ k) != 0) == t.testBit k) = true := by kernel_rfl
theorem bits_has (t k : Nat) (ht : t < 256) (hk : k < 8) : (bits BinOp.and IntKind.u8 (t : Nat) (2 ^ k) != 0) = t.testBit k := by
 have h := List.all_eq_true.1 (List.all_eq_true.1 bits_all t (List.mem_range.2 ht)) k (List.mem_range.2 hk)
 simpa using h
set_option maxRecDepth 100000 in
set_option maxHeartbeats 1000000 in
theorem hasK_any (w : World) (t k : Nat) (ht : t < 256) (hk : k < 8) :
  Calls Tryz.prog 89 #[.int .u8 t, .int .u8 k] w fun r w' => r = .returned (.bool (t.testBit k)) ∧ Below w.heap.size w w' := by
 go_enter Tryz.func89, Tryz.ntmps89
 go_wp2_with fail
 refine (only_any w.heap.size k _ (by omega) (cell_of_block (heap_alloc_new w _) 0 _ rfl)).mono ?_
 rintro r w1 ⟨rfl, rfl⟩
 go_wp2_with fail
 go_ret
 exact ⟨ret_bool (bits_has t k ht hk), below_alloc w _⟩
theorem stand_any (g : List (List (Nat × Nat))) (hg : GOk g) (v : Value) (w : World) (b : Nat) (S : Nat → Prop) (a : Nat) (hG : GIn w v g) (hS : SetAt w b g.length S) (ha : a < g.length) (hc : closedS g S) :
  Calls Tryz.prog 178 #[v, .map (some b), .int .i64 a] w fun r w' => r = .returned (.tuple #[]) ∧ SetAt w' b g.length (fun x => S x ∨ reach g a x) ∧ Chg (fun k => k = b) w w' := by
 obtain ⟨D, hD⟩ := hS
 refine (stand_fuel g hg v g.length w b D S a hG hD (by omega) ha).mono ?_
 rintro r w' ⟨rfl, ⟨R, hR, hSt⟩, hC⟩
 exact ⟨rfl, hR.congr (hSt.eq hc), hC⟩
set_option maxRecDepth 100000 in
set_option maxHeartbeats 1000000 in
theorem from_any (g : List (List (Nat × Nat))) (hg : GOk g) (v : Value) (w : World) (a : Nat) (hG : GIn w v g) (ha : a < g.length) :
  Calls Tryz.prog 180 #[v, .int .i64 a] w fun r w' => ∃ b, r = .returned (.map (some b)) ∧ w.heap.size ≤ b ∧ SetAt w' b g.length (reach g a) ∧ Below w.heap.size w w' := by
 have HG : Hid (GIn w v g) := hG
 obtain ⟨ao, cap, rfl, _⟩ := hG.form
 clear hG
 have hmm := @run_makeMap Tryz.prog
 go_enter Tryz.func180, Tryz.ntmps180
 go_wp2_with fail
 refine (stand_any g hg _ _ w.heap.size (fun _ => False) a (HG.out.below (below_alloc _ _)) ⟨_, set_made w g.length⟩ ha (closed_none g)).mono ?_
 rintro r w1 ⟨rfl, hS, hC⟩
 have H1 : Hid (SetAt w1 w.heap.size g.length (reach g a)) := hS.congr fun x => by simp
 have B1 : Hid (Below w.heap.size w w1) := (below_alloc w _).trans (hC.below (by simp) (fun k hk e => by omega))
 clear hS hC
 go_wp2_with fail
 go_ret
 exact ⟨_, rfl, Nat.le_refl _, H1.out, B1.out⟩
def stepOut (g : List (List (Nat × Nat))) (F : Nat → Prop) (k : Nat) (left : Lit → Bool) (x : Nat) : Prop := ∃ (a : Nat) (t y : Nat), F a ∧ left (.int .i64 (a : Int)) = false ∧ (t, y) ∈ grow g a ∧ t.testBit k = true ∧ reach g y x
def stepIn (g : List (List (Nat × Nat))) (F : Nat → Prop) (k : Nat) (left : Lit → Bool) (a0 i : Nat) (x : Nat) : Prop := stepOut g F k left x ∨ ∃ (j t y : Nat), j < i ∧ (grow g a0)[j]? = some (t, y) ∧ t.testBit k = true ∧ reach g y x
theorem stepOut_closed (g : List (List (Nat × Nat))) (F : Nat → Prop) (k : Nat) (left : Lit → Bool) : closedS g (stepOut g F k left) := fun _ ⟨a, t, z, h1, h0, h2, h3, h4⟩ y hy => ⟨a, t, z, h1, h0, h2, h3, reach_closed g z _ h4 y hy⟩
theorem stepIn_closed (g : List (List (Nat × Nat))) (F : Nat → Prop) (k : Nat) (left : Lit → Bool) (a0 i : Nat) : closedS g (stepIn g F k left a0 i) := by
 rintro x (h | ⟨j, t, z, h1, h2, h3, h4⟩) y hy
 ·exact Or.inl (stepOut_closed g F k left x h y hy)
 ·exact Or.inr ⟨j, t, z, h1, h2, h3, reach_closed g z _ h4 y hy⟩
theorem stepOut_end {g : List (List (Nat × Nat))} {F : Nat → Prop} {k : Nat} {left : Lit → Bool} (h : ∀ kl, left kl = false) (x : Nat) : stepOut g F k left x ↔ stepS g F k x :=
 ⟨fun ⟨a, t, y, h1, _, h2⟩ => ⟨a, t, y, h1, h2⟩, fun ⟨a, t, y, h1, h2⟩ => ⟨a, t, y, h1, h _, h2⟩⟩
theorem stepIn_zero {g : List (List (Nat × Nat))} {F : Nat → Prop} {k : Nat} {left : Lit → Bool} {a0 : Nat} (x : Nat) : stepOut g F k left x ↔ stepIn g F k left a0 0 x :=
 ⟨Or.inl, fun h => h.elim id fun ⟨_, _, _, h, _⟩ => absurd h (Nat.not_lt_zero _)⟩
theorem stepIn_skip {g : List (List (Nat × Nat))} {F : Nat → Prop} {k : Nat} {left : Lit → Bool} {a0 i t y : Nat} (he : (grow g a0)[i]? = some (t, y)) (ht : t.testBit k = false) (x : Nat) : stepIn g F k left a0 i x ↔ stepIn g F k left a0 (i + 1) x := by
 constructor
 ·rintro (h | ⟨j, t', z, h1, h2⟩)
  ·exact Or.inl h
  ·exact Or.inr ⟨j, t', z, by omega, h2⟩
 ·rintro (h | ⟨j, t', z, h1, h2, h3, h4⟩)
  ·exact Or.inl h
  ·by_cases e : j = i
   ·subst e; rw [he] at h2; simp at h2; obtain ⟨rfl, rfl⟩ := h2; rw [ht] at h3; cases h3
   ·exact Or.inr ⟨j, t', z, by omega, h2, h3, h4⟩
theorem stepIn_next {g : List (List (Nat × Nat))} {F : Nat → Prop} {k : Nat} {left : Lit → Bool} {a0 i t y : Nat} (he : (grow g a0)[i]? = some (t, y)) (ht : t.testBit k = true) (x : Nat) : (stepIn g F k left a0 i x ∨ reach g y x) ↔ stepIn g F k left a0 (i + 1) x := by
 constructor
 ·rintro ((h | ⟨j, t', z, h1, h2⟩) | h)
  ·exact Or.inl h
  ·exact Or.inr ⟨j, t', z, by omega, h2⟩
  ·exact Or.inr ⟨i, t, y, by omega, he, ht, h⟩
 ·rintro (h | ⟨j, t', z, h1, h2, h3, h4⟩)
  ·exact Or.inl (Or.inl h)
  ·by_cases e : j = i
   ·subst e; rw [he] at h2; simp at h2; obtain ⟨rfl, rfl⟩ := h2; exact Or.inr h4
   ·exact Or.inl (Or.inr ⟨j, t', z, by omega, h2, h3, h4⟩)
theorem stepIn_end {g : List (List (Nat × Nat))} {F : Nat → Prop} {k : Nat} {left : Lit → Bool} {a0 i : Nat} (hF : F a0) (hi : (grow g a0).length ≤ i) (x : Nat) : stepIn g F k left a0 i x ↔ stepOut g F k (fun z => left z && !z.sameKey (.int .i64 (a0 : Int))) x := by
 constructor
 ·rintro (⟨a, t, y, h1, h2, h3⟩ | ⟨j, t, y, h1, h2, h3, h4⟩)
  ·exact ⟨a, t, y, h1, by simp [h2], h3⟩
  ·exact ⟨a0, t, y, hF, by simp [WideAt.sameKey_self (show WideAt.IsKeyLit (.int .i64 (a0 : Int)) from trivial)], List.mem_of_getElem? h2, h3, h4⟩
 ·rintro ⟨a, t, y, h1, h2, h3, h4, h5⟩
  by_cases e : a = a0
  ·subst e
   obtain ⟨j, hj⟩ := List.mem_iff_getElem?.1 h3
   exact Or.inr ⟨j, t, y, Nat.lt_of_lt_of_le (List.getElem?_eq_some_iff.1 hj).1 hi, hj, h4, h5⟩
  ·refine Or.inl ⟨a, t, y, h1, ?_, h3, h4, h5⟩
   have hne : (Lit.int .i64 (a : Int)).sameKey (.int .i64 (a0 : Int)) = false := sameKey_ne (fun e' => e (by injection e' with _ e'; exact_mod_cast e'))
   have h2' : (left (.int .i64 (a : Int)) && !(Lit.int .i64 (a : Int)).sameKey (.int .i64 (a0 : Int))) = false := h2
   rw [hne] at h2'
   simpa using h2'
theorem chg_grown {w w' : World} {b : Nat} (h : Chg (fun k => k = b) w w') : w.grownBy w' (some b) := ⟨h.os, h.tape, h.output, h.size, fun k hk hne => h.block k hk fun e => hne (by rw [e])⟩
set_option maxRecDepth 100000 in
set_option maxHeartbeats 4000000 in
theorem gstep_any (g : List (List (Nat × Nat))) (hg : GOk g) (v : Value) (w : World) (b k : Nat) (F : Nat → Prop) (hG : GIn w v g) (hF : SetAt w b g.length F) (hk : k < 8) :
  Calls Tryz.prog 177 #[v, .map (some b), .int .u8 k] w fun r w' => ∃ b', r = .returned (.map (some b')) ∧ w.heap.size ≤ b' ∧ SetAt w' b' g.length (stepS g F k) ∧ Below w.heap.size w w' := by
 have HG : Hid (GIn w v g) := hG
 obtain ⟨ao, cap, rfl, _⟩ := hG.form
 obtain ⟨D, hD⟩ := hF
 have HD : Hid (SetD w b g.length D F) := hD
 have hbl := hD.blk
 have hglen := hg.len
 clear hG hD
 have hmm := @run_makeMap Tryz.prog
 have O0 : Hid ((w.alloc (.map #[] 0)).ownsMap Tryz.prog 3 unitElem b (Maps.size D) D) := HD.out.own.alloc _
 go_enter Tryz.func177, Tryz.ntmps177
 go_wp2_with (at_range; refine wpList_range_own _ rfl _ 296 rfl 3 338 intKey Tryz.undSet unitElem b (Maps.size D) D rfl O0.out ?_; intro w0 hrg0 hg0 hs0)
 go_frame
 have e1 : (w.alloc (.map #[] 0)).heap.size = w.heap.size + 1 := by simp
 rw [e1] at hrg0 ⊢
 have B0 : Hid (Below w.heap.size w w0) := (below_alloc w _).grown hg0 (by simp) (fun k e => by cases e)
 have R0 : Hid (w0.ranges Tryz.prog 3 unitElem b (w.heap.size + 1) (Maps.size D) D (Maps.has D) (Maps.size D)) := hrg0
 have S0 : Hid (SetAt w0 w.heap.size g.length (stepOut g F k (Maps.has D))) := by
  refine SetAt.congr (S := fun _ => False) ⟨_, (set_made w g.length).kept (hg0.block _ (by simp) (by simp))⟩ fun x => ⟨False.elim, ?_⟩
  rintro ⟨a, t, y, h1, h2, _⟩
  rw [(HD.out.mem a).2 h1] at h2; cases h2
 clear hrg0 hg0 hs0 e1 O0
 go_loopg [14] (Maps.size D) (fun gh _ wx => ∃ left, Hid (wx.ranges Tryz.prog 3 unitElem b (w.heap.size + 1) (Maps.size D) D left gh) ∧ Hid (SetAt wx w.heap.size g.length (stepOut g F k left)) ∧ Hid (Below w.heap.size w wx))
 case atStart => exact ⟨_, R0, S0, B0⟩
 case round =>
  obtain ⟨left, hR, hS, hB⟩ := hrel
  obtain ⟨w1, hw1⟩ : ∃ w1, w1 = wr := ⟨wr, rfl⟩
  subst hw1
  go_wp2_with (at_next; refine wpList_next_ranges _ rfl _ rfl 3 intKey unitElem (fun x : Int => Value.int .i64 x) (fun _ : Unit => Value.agg #[]) (fun key kl h => by obtain ⟨x, e, _⟩ := Maps.keyOf_int_inv Tryz.undI h; exact ⟨x, e⟩) (fun v y h => ⟨(), (unitElem_inv h).1⟩) b (w.heap.size + 1) (Maps.size D) D left gk rfl hR.out ?_ ?_)
  ·intro _ hl0
   go_wp2_with fail
   go_ret
   exact ⟨w.heap.size, rfl, Nat.le_refl _, hS.out.congr (stepOut_end hl0), hB.out⟩
  ·intro x c kl y w2 cnt2 hkey hlx hv hat hrg2 hlt hg2 hs2 hen
   obtain ⟨x', ex, hkl, hwx⟩ := Maps.keyOf_int_inv Tryz.undI hkey
   subst hkl
   have hhas := Maps.has_true_of_atKey hat
   obtain ⟨a, ha, ea⟩ := HD.out.key _ hhas
   injection ea with _ ea
   subst ea
   injection ex with _ ex
   subst ex
   have hFa : F a := (HD.out.mem a).1 hhas
   have hbig : w.heap.size < w1.heap.size := hS.out.blk
   have B2 : Hid (Below w.heap.size w w2) := hB.out.grown hg2 (Nat.le_of_lt hbig) (fun k e => by cases e; omega)
   have R2 : Hid (w2.ranges Tryz.prog 3 unitElem b (w.heap.size + 1) (Maps.size D) D (fun z => left z && !z.sameKey (.int .i64 (a : Int))) cnt2) := hrg2
   have S2 : Hid (SetAt w2 w.heap.size g.length (stepIn g F k left a 0)) := (hS.out.kept (hg2.block _ hbig (fun e => by have := Option.some.inj e; omega))).congr stepIn_zero
   obtain ⟨q, ao2, cap2, hq, hcq⟩ := gin_row (a := a) HG.out ha
   subst hq
   have HQ : Hid (w.cell? ⟨q, a, none⟩ = some (.slice ao2 g[a].length cap2)) := hcq
   have hcq2 := (KpA.below B2.out).cell hcq
   have hrl := hg.row g[a] (List.getElem_mem ha)
   clear hcq hat hkey hlx hv hrg2 hg2 hs2 hhas hwx hR hS hB hbig
   go_wp2_with fail
   go_loopg [23] g[a].length (fun gh iv wx => ∃ i : Nat, i ≤ g[a].length ∧ gh = g[a].length - i ∧ iv = .int .i64 i ∧ Hid (wx.ranges Tryz.prog 3 unitElem b (w.heap.size + 1) (Maps.size D) D (fun z => left z && !z.sameKey (.int .i64 (a : Int))) cnt2) ∧ Hid (SetAt wx w.heap.size g.length (stepIn g F k left a i)) ∧ Hid (Below w.heap.size w wx))
   case atStart => exact ⟨0, Nat.zero_le _, rfl, rfl, R2, S2, B2⟩
   case round =>
    obtain ⟨i, hi, rfl, rfl, hR3, hS3, hB3⟩ := hrel
    obtain ⟨w3, hw3⟩ : ∃ w3, w3 = wr := ⟨wr, rfl⟩
    subst hw3
    have G3 : Hid (GIn w3 (.slice (some ⟨q, 0, none⟩) g.length cap) g) := HG.out.kpa (KpA.below hB3.out)
    have hq3 := (KpA.below hB3.out).cell HQ.out
    by_cases hlt2 : i < g[a].length
    ·obtain ⟨q2, hq2, c0, c1⟩ := gin_edge G3.out ha hq3 hlt2
     subst hq2
     have hto := hg.to_ g[a] (List.getElem_mem ha) g[a][i] (List.getElem_mem hlt2)
     have hed : Hid ((grow g a)[i]? = some g[a][i]) := by show _ = _; rw [grow_at ha]; exact List.getElem?_eq_getElem hlt2
     generalize g[a][i] = ed at c0 c1 hto hed
     obtain ⟨t, y⟩ := ed
     simp only at c0 c1 hto
     clear hq3 hcq2
     go_wp2_with fail
     refine (hasK_any _ t k hto.2 hk).mono ?_
     rintro r w4 ⟨rfl, hb4⟩
     have hb34 : Below w3.heap.size w3 w4 := (below_alloc w3 _).trans (hb4.mono (by simp))
     have hg34 : w3.grownBy w4 none := ⟨hb34.os, hb34.tape, hb34.output, hb34.size, fun k hk _ => hb34.block k hk⟩
     have R4 : Hid (w4.ranges Tryz.prog 3 unitElem b (w.heap.size + 1) (Maps.size D) D (fun z => left z && !z.sameKey (.int .i64 (a : Int))) cnt2) := hR3.out.kept hg34 (by simp) (by simp)
     have S4 : Hid (SetAt w4 w.heap.size g.length (stepIn g F k left a i)) := hS3.out.below hb34
     have B4 : Hid (Below w.heap.size w w4) := hB3.out.trans (hb34.mono hB3.out.size)
     have d1 : w4.cell? ⟨w3.heap.size, 1, none⟩ = some (.int .i64 y) := (hb4.cell (p := ⟨w3.heap.size, 1, none⟩) (by simp)).trans (cell_of_block (heap_alloc_new w3 _) 1 _ rfl)
     have G4 : Hid (GIn w4 (.slice (some ⟨q, 0, none⟩) g.length cap) g) := G3.out.below hb34
     clear hb4 hg34 hb34 hR3 hS3 hB3 G3 c0 c1
     cases hbit : t.testBit k
     ·go_wp2_with fail
      go_roundg (g[a].length - (i + 1))
      case measure => omega
      case rel => exact ⟨i + 1, by omega, rfl, by go_num, R4, S4.out.congr (stepIn_skip hed.out hbit), B4⟩
     ·go_wp2_with fail
      refine (stand_any g hg _ w4 w.heap.size _ y G4.out S4.out hto.1 (stepIn_closed g F k left a i)).mono ?_
      rintro r w5 ⟨rfl, hS5, hC5⟩
      have S5 : Hid (SetAt w5 w.heap.size g.length (stepIn g F k left a (i + 1))) := hS5.congr (stepIn_next hed.out hbit)
      have R5 : Hid (w5.ranges Tryz.prog 3 unitElem b (w.heap.size + 1) (Maps.size D) D (fun z => left z && !z.sameKey (.int .i64 (a : Int))) cnt2) := R4.out.kept (chg_grown hC5) (fun e => by have := Option.some.inj e; omega) (fun e => by have := Option.some.inj e; omega)
      have B5 : Hid (Below w.heap.size w w5) := B4.out.trans (hC5.below B4.out.size (fun k hk e => by omega))
      clear hS5 hC5
      go_wp2_with fail
      go_roundg (g[a].length - (i + 1))
      case measure => omega
      case rel => exact ⟨i + 1, by omega, rfl, by go_num, R5, S5, B5⟩
    ·clear hq3 hcq2
     go_wp2_with fail
     go_roundg cnt2
     case measure => exact hlt
     case rel => exact ⟨_, hR3, hS3.out.congr (stepIn_end hFa (by rw [grow_at ha]; omega)), hB3⟩
theorem neqU (w : World) : (binOp .neq 338 (.agg #[]) (.agg #[])).run Tryz.prog w = .ok (.bool false) w := by
 have e : (Tryz.prog.fieldsOf 338).toList = [] := by kernel_rfl
 rw [run_neq_struct, run_equalIn_agg w 9999 338 #[] #[] (by kernel_rfl) (by kernel_rfl), e]
 rfl
theorem guardU (w : World) (a b : Operand) : (eqGuard .neq 338 a b (.agg #[]) (.agg #[])).run Tryz.prog w = .ok () w := run_eqGuard_agg w .neq 338 a b #[] #[] (by kernel_rfl)
def EqPost (S1 S2 : Nat → Prop) (w : World) (r : Ending) (w' : World) : Prop := ∃ c, r = .returned (.bool c) ∧ (c = true ↔ ∀ x, S1 x ↔ S2 x) ∧ Below w.heap.size w w'
set_option maxRecDepth 100000 in
set_option maxHeartbeats 4000000 in
theorem equal_any (w : World) (b1 b2 N : Nat) (S1 S2 : Nat → Prop) (h1 : SetAt w b1 N S1) (h2 : SetAt w b2 N S2) (hN : N ≤ 9000) :
  Calls Tryz.prog 230 #[.map (some b1), .map (some b2)] w (EqPost S1 S2 w) := by
 obtain ⟨D1, hD1⟩ := h1
 obtain ⟨D2, hD2⟩ := h2
 have H1 : Hid (SetD w b1 N D1 S1) := hD1
 have H2 : Hid (SetD w b2 N D2 S2) := hD2
 have l1 := fun ty => hD1.own.len (t := 296) Tryz.undSet ty
 have l2 := fun ty => hD2.own.len (t := 296) Tryz.undSet ty
 clear hD1 hD2
 by_cases hsz : Maps.size D1 = Maps.size D2
 ·rw [← hsz] at l2
  have HSZ : Hid (Maps.size D1 = Maps.size D2) := hsz
  clear hsz
  go_enter Tryz.func230, Tryz.ntmps230
  go_wp2_with (at_range; refine wpList_range_own _ rfl _ 296 rfl 3 338 intKey Tryz.undSet unitElem b1 (Maps.size D1) D1 rfl H1.out.own ?_; intro w0 hrg0 hg0 hs0)
  go_frame
  have R0 : Hid (w0.ranges Tryz.prog 3 unitElem b1 w.heap.size (Maps.size D1) D1 (Maps.has D1) (Maps.size D1)) := hrg0
  have B0 : Hid (Below w.heap.size w w0) := (Below.refl _ _).grown hg0 (Nat.le_refl _) (fun k e => by cases e)
  clear hrg0 hg0 hs0 l1 l2
  have hnq := neqU
  have hgq := guardU
  go_loopg [16] (Maps.size D1) (fun gh _ wx => ∃ left, Hid (wx.ranges Tryz.prog 3 unitElem b1 w.heap.size (Maps.size D1) D1 left gh) ∧ Hid (∀ x : Nat, S1 x → left (.int .i64 (x : Int)) = false → S2 x) ∧ Hid (Below w.heap.size w wx))
  case atStart => exact ⟨_, R0, (fun x h1 h2 => by rw [(H1.out.mem x).2 h1] at h2; cases h2), B0⟩
  case round =>
   obtain ⟨left, hR, hL, hB⟩ := hrel
   obtain ⟨w1, hw1⟩ : ∃ w1, w1 = wr := ⟨wr, rfl⟩
   subst hw1
   go_wp2_with (at_next; refine wpList_next_ranges _ rfl _ rfl 3 intKey unitElem (fun x : Int => Value.int .i64 x) (fun _ : Unit => Value.agg #[]) (fun key kl h => by obtain ⟨x, e, _⟩ := Maps.keyOf_int_inv Tryz.undI h; exact ⟨x, e⟩) (fun v y h => ⟨(), (unitElem_inv h).1⟩) b1 w.heap.size (Maps.size D1) D1 left gk rfl hR.out ?_ ?_)
   ·intro _ hl0
    go_wp2_with fail
    go_ret
    exact ⟨true, rfl, ⟨fun _ => H1.out.same H2.out HSZ.out fun x hx => hL.out x hx (hl0 _), fun _ => rfl⟩, hB.out⟩
   ·intro x c kl y w2 cnt2 hkey hlx hv hat hrg2 hlt hg2 hs2 hen
    obtain ⟨x', ex, hkl, hwx⟩ := Maps.keyOf_int_inv Tryz.undI hkey
    subst hkl
    have hhas := Maps.has_true_of_atKey hat
    obtain ⟨a, ha, ea⟩ := H1.out.key _ hhas
    injection ea with _ ea
    subst ea
    injection ex with _ ex
    subst ex
    have hSa : S1 a := (H1.out.mem a).1 hhas
    have B2 : Hid (Below w.heap.size w w2) := hB.out.grown hg2 hB.out.size (fun k e => by cases e; exact Nat.le_refl _)
    have R2 : Hid (w2.ranges Tryz.prog 3 unitElem b1 w.heap.size (Maps.size D1) D1 (fun z => left z && !z.sameKey (.int .i64 (a : Int))) cnt2) := hrg2
    have O2 : Hid ((w2.alloc (.cells #[] 338)).ownsMap Tryz.prog 3 unitElem b2 (Maps.size D2) D2) := (H2.out.kept (B2.out.block b2 H2.out.blk)).own.alloc _
    clear hat hkey hlx hv hrg2 hg2 hs2 hhas hwx hR hB
    cases hh : Maps.has D2 (.int .i64 (a : Int))
    ·go_wp2_with (at_lookup; refine wpList_lookup_own_unit _ rfl _ _ 296 rfl 3 338 intKey Tryz.undSet (zeroU _) b2 (Maps.size D2) D2 rfl O2.out _ _ rfl (keyOf_nat a (by omega)) ?_; rw [hh])
     go_ret
     refine ⟨false, rfl, ⟨(by intro e; cases e), fun e => ?_⟩, ((B2.out.alloc B2.out.size _).alloc (by have := B2.out.size; simp; omega) _)⟩
     have := (H2.out.mem a).2 ((e a).1 hSa)
     rw [hh] at this; cases this
    ·have hL2 : Hid (∀ x : Nat, S1 x → (left (.int .i64 (x : Int)) && !(Lit.int .i64 (x : Int)).sameKey (.int .i64 (a : Int))) = false → S2 x) := by
      intro x hx he
      by_cases e : x = a
      ·subst e; exact (H2.out.mem x).1 hh
      ·rw [sameKey_ne (fun e' => e (by injection e' with _ e'; exact_mod_cast e'))] at he
       exact hL.out x hx (by simpa using he)
     go_wp2_with (at_lookup; refine wpList_lookup_own_unit _ rfl _ _ 296 rfl 3 338 intKey Tryz.undSet (zeroU _) b2 (Maps.size D2) D2 rfl O2.out _ _ rfl (keyOf_nat a (by omega)) ?_; rw [hh])
     go_roundg cnt2
     case measure => exact hlt
     case rel => exact ⟨_, (R2.out.alloc _).alloc _, hL2, ((B2.out.alloc B2.out.size _).alloc (by have := B2.out.size; simp; omega) _)⟩
 ·have hne : ¬ ((Maps.size D1 : Int) = (Maps.size D2 : Int)) := fun e => hsz (by exact_mod_cast e)
  go_enter Tryz.func230, Tryz.ntmps230
  go_wp2_with fail
  go_ret
  refine ⟨false, rfl, ⟨(by intro e; cases e), fun e => absurd ?_ hsz⟩, Below.refl _ _⟩
  exact Nat.le_antisymm (H1.out.size_mono H2.out fun x => (e x).1) (H2.out.size_mono H1.out fun x => (e x).2)
theorem Tryz.infoSet : (Tryz.prog.info? 296).map (fun i => (i.zero, i.size, i.bytes)) = some (some (.map none), 1, 8) := by kernel_rfl
theorem Tryz.undSets : Tryz.prog.underlying 339 = some (.slice 296) := by kernel_rfl
set_option maxRecDepth 100000 in
set_option maxHeartbeats 1000000 in
theorem same_any (w : World) (b bw q N : Nat) (S Sw : Nat → Prop) (h1 : SetAt w b N S) (h2 : SetAt w bw N Sw) (hN : N ≤ 9000) (hq : w.cell? ⟨q, 0, none⟩ = some (.map (some bw))) :
  Calls Tryz.prog 229 #[.map (some b), .pointer (some ⟨q, 0, none⟩)] w (EqPost S Sw w) := by
 have H1 : Hid (SetAt w b N S) := h1
 have H2 : Hid (SetAt w bw N Sw) := h2
 clear h1 h2
 go_enter Tryz.func229, Tryz.ntmps229
 go_wp2_with fail
 refine (equal_any w b bw N S Sw H1.out H2.out hN).mono ?_
 rintro r w1 ⟨c, rfl, hc, hb⟩
 have HC : Hid (c = true ↔ ∀ x, S x ↔ Sw x) := hc
 clear hc
 go_wp2_with fail
 go_ret
 exact ⟨c, rfl, HC.out, hb⟩
def SRow (w : World) (base : Nat) (v : Value) (N : Nat) (Ss : List (Nat → Prop)) (bs : List Nat) : Prop :=
 bs.length = Ss.length ∧ w.ownsRow base 296 1 v Ss.length (bs.map fun b => Value.map (some b)) ∧ ∀ (i : Nat) (b : Nat) (S : Nat → Prop), bs[i]? = some b → Ss[i]? = some S → SetAt w b N S
theorem SRow.form {w : World} {base N : Nat} {v : Value} {Ss : List (Nat → Prop)} {bs : List Nat} (h : SRow w base v N Ss bs) :
  ∃ ao cap, v = .slice ao Ss.length cap ∧ ∀ i (hi : i < Ss.length), ∃ g b, ao = some ⟨g, 0, none⟩ ∧ bs[i]? = some b ∧ w.cell? ⟨g, i, none⟩ = some (.map (some b)) ∧ SetAt w b N Ss[i] := by
 obtain ⟨hl, ⟨h2, h3⟩, h4⟩ := h
 rcases h3 with ⟨hv, hn⟩ | ⟨g, cap, cur, hv, hg, hh, hcap, hmx, hsz, hcur⟩
 ·exact ⟨none, 0, by rw [hv, hn], fun i hi => by omega⟩
 ·refine ⟨some ⟨g, 0, none⟩, cap, hv, fun i hi => ?_⟩
  obtain ⟨b, hb⟩ : ∃ b, bs[i]? = some b := ⟨bs[i]'(by omega), List.getElem?_eq_getElem (by omega)⟩
  refine ⟨g, b, rfl, hb, ?_, h4 i _ _ hb (List.getElem?_eq_getElem hi)⟩
  refine cell_of_block hh i _ ?_
  have e1 : (cur.toList.take (Ss.length * 1))[i]? = some (.map (some b)) := by rw [hcur, List.getElem?_map, hb]; rfl
  rw [List.getElem?_take, if_pos (by omega)] at e1
  simpa using e1
theorem SRow.below {w w' : World} {base N : Nat} {v : Value} {Ss : List (Nat → Prop)} {bs : List Nat} (h : SRow w base v N Ss bs) (hb : Below w.heap.size w w') : SRow w' base v N Ss bs :=
 ⟨h.1, row_kp h.2.1 (Kp.below hb), fun i b S h1 h2 => (h.2.2 i b S h1 h2).below hb⟩
def IdxPost (Ss : List (Nat → Prop)) (Sw : Nat → Prop) (w : World) (r : Ending) (w' : World) : Prop :=
 ∃ i : Int, r = .returned (.int .i64 i) ∧ ((i = -1 ∧ Sw ∉ Ss) ∨ ∃ n : Nat, i = n ∧ Ss[n]? = some Sw) ∧ Below w.heap.size w w'
theorem set_ext {S T : Nat → Prop} (h : ∀ x, S x ↔ T x) : S = T := funext fun x => propext (h x)
set_option maxRecDepth 100000 in
set_option maxHeartbeats 2000000 in
theorem sindex_any (w : World) (base bw q N : Nat) (v : Value) (Ss : List (Nat → Prop)) (bs : List Nat) (Sw : Nat → Prop) (h1 : SRow w base v N Ss bs) (h2 : SetAt w bw N Sw) (hN : N ≤ 9000) (hl : Ss.length ≤ 9000) (hq : w.heap[q]? = some (.cells #[.map (some bw)] 296 (0, 0))) :
  Calls Tryz.prog 228 #[v, .func (.func 229) #[] #[.pointer (some ⟨q, 0, none⟩)]] w (IdxPost Ss Sw w) := by
 obtain ⟨ao, cap, rfl, hf⟩ := h1.form
 have HF : Hid (∀ i (hi : i < Ss.length), ∃ g b, ao = some ⟨g, 0, none⟩ ∧ bs[i]? = some b ∧ w.cell? ⟨g, i, none⟩ = some (.map (some b)) ∧ SetAt w b N Ss[i]) := hf
 have H2 : Hid (SetAt w bw N Sw) := h2
 have HQ : Hid (w.heap[q]? = some (.cells #[.map (some bw)] 296 (0, 0))) := hq
 have hen : ∀ (args : Array Value) (w : World), (callFunc 229 args).run Tryz.prog w = .ok (.enter 229 args) w := enters_of Tryz.func229 (by kernel_rfl) rfl
 clear h1 h2 hf hq
 go_enter Tryz.func228, Tryz.ntmps228
 go_wp2_with fail
 go_loopg [8] Ss.length (fun gh iv wx => ∃ i : Nat, i ≤ Ss.length ∧ gh = Ss.length - i ∧ iv = .int .i64 i ∧ Hid (∀ j, j < i → Ss[j]? ≠ some Sw) ∧ Hid (Below w.heap.size w wx))
 case atStart => exact ⟨0, Nat.zero_le _, rfl, rfl, (fun j hj => absurd hj (Nat.not_lt_zero _)), Below.refl _ _⟩
 case round =>
  obtain ⟨i, hi, rfl, rfl, hno, hB⟩ := hrel
  obtain ⟨w1, hw1⟩ : ∃ w1, w1 = wr := ⟨wr, rfl⟩
  subst hw1
  by_cases hlt : i < Ss.length
  ·obtain ⟨g, b, rfl, _, hc, hS⟩ := HF.out i hlt
   have hc1 := (KpA.below hB.out).cell hc
   have HS : Hid (SetAt w1 b N Ss[i]) := hS.below hB.out
   have hq1 := (KpA.below hB.out).cell (cell_of_block HQ.out 0 _ rfl)
   have HI : Hid (Ss[i]? = some Ss[i]) := List.getElem?_eq_getElem hlt
   generalize Ss[i] = S at HS HI
   clear hS hc
   go_wp2_with fail
   refine (same_any w1 b bw q N S Sw HS.out (H2.out.below hB.out) hN hq1).mono ?_
   rintro r w2 ⟨c, rfl, hc, hb2⟩
   have B2 : Hid (Below w.heap.size w w2) := hB.out.trans (hb2.mono hB.out.size)
   cases c
   ·have hno2 : Hid (∀ j, j < i + 1 → Ss[j]? ≠ some Sw) := fun j hj e => by
     by_cases e1 : j = i
     ·subst e1
      rw [HI.out] at e
      cases e
      have := hc.2 (fun x => Iff.rfl)
      cases this
     ·exact hno.out j (by omega) e
    clear hc
    go_wp2_with fail
    go_roundg (Ss.length - (i + 1))
    case measure => omega
    case rel => exact ⟨i + 1, by omega, rfl, by go_num, hno2, B2⟩
   ·have he : Hid (S = Sw) := set_ext (hc.1 rfl)
    clear hc
    go_wp2_with fail
    go_ret
    exact ⟨i, rfl, Or.inr ⟨i, rfl, by rw [HI.out, he.out]⟩, B2.out⟩
  ·go_wp2_with fail
   go_ret
   refine ⟨-1, rfl, Or.inl ⟨rfl, fun hm => ?_⟩, hB.out⟩
   obtain ⟨j, hj⟩ := List.mem_iff_getElem?.1 hm
   exact hno.out j (by have := (List.getElem?_eq_some_iff.1 hj).1; omega) hj
theorem results_two {P : Program} {fn : Func} {p u : Tmp} (h : fn.results = #[.tmp p, .tmp u]) (tmps : Array Value) (w : World) :
  (results fn tmps).run P w = .ok (.tuple #[tmps.getD p undef, tmps.getD u undef]) w := by
 simp [results, h]
theorem one_map (b : Nat) : ∀ u ∈ [Value.map (some b)], u.oneCell' = true := by
 intro u hu; simp at hu; subst hu; rfl
theorem SRow.grown {w w' : World} {base N : Nat} {v v' : Value} {Ss : List (Nat → Prop)} {bs : List Nat} {b : Nat} {S : Nat → Prop} (h : SRow w base v N Ss bs) (hs : SetAt w b N S) (hg : w.grownBy w' v.ownBlock) (ho : w'.ownsRow base 296 1 v' (Ss.length + 1) ((bs.map fun b => Value.map (some b)) ++ [.map (some b)])) : SRow w' base v' N (Ss ++ [S]) (bs ++ [b]) := by
 have keep : ∀ {c T}, SetAt w c N T → SetAt w' c N T := fun {c T} hc => hc.kept (hg.block c hc.blk (fun e => by
  obtain ⟨cs, hh⟩ := row_type h.2.1 c e.symm
  obtain ⟨D, hD⟩ := hc
  obtain ⟨es, cl, h1, _⟩ := hD.own
  rw [h1] at hh; cases hh))
 refine ⟨by simp [h.1], by simpa using ho, ?_⟩
 intro i c T hc hT
 rcases snoc_at hc with ⟨h3, h4⟩ | ⟨h3, rfl⟩
 ·rcases snoc_at hT with ⟨h5, h6⟩ | ⟨h5, rfl⟩
  ·exact keep (h.2.2 i c T h3 h5)
  ·have := h.1; omega
 ·rcases snoc_at hT with ⟨h5, h6⟩ | ⟨h5, rfl⟩
  ·have := h.1; omega
  ·exact keep hs
def SameOrNewer (w : World) (v v' : Value) : Prop := v'.ownBlock = v.ownBlock ∨ ∃ k, v'.ownBlock = some k ∧ w.heap.size ≤ k
def Found (Ss : List (Nat → Prop)) (Sw : Nat → Prop) (Ss' : List (Nat → Prop)) (n : Nat) : Prop := (Ss' = Ss ∧ Ss[n]? = some Sw) ∨ (Ss' = Ss ++ [Sw] ∧ n = Ss.length ∧ Sw ∉ Ss)
def FindPost (base N : Nat) (v : Value) (Ss : List (Nat → Prop)) (bs : List Nat) (Sw : Nat → Prop) (w : World) (r : Ending) (w' : World) : Prop :=
 ∃ v' n Ss' bs', r = .returned (.tuple #[v', .int .i64 (n : Nat)]) ∧ SRow w' base v' N Ss' bs' ∧ Found Ss Sw Ss' n ∧ bs <+: bs' ∧ Chg (fun k => v.ownBlock = some k) w w' ∧ SameOrNewer w v v'
set_option maxRecDepth 100000 in
set_option maxHeartbeats 2000000 in
theorem find_any (w : World) (base bw N : Nat) (v : Value) (Ss : List (Nat → Prop)) (bs : List Nat) (Sw : Nat → Prop) (h1 : SRow w base v N Ss bs) (h2 : SetAt w bw N Sw) (hN : N ≤ 9000) (hl : Ss.length ≤ 9000) (hbase : base ≤ w.heap.size) :
  Calls Tryz.prog 210 #[v, .map (some bw)] w (FindPost base N v Ss bs Sw w) := by
 have H1 : Hid (SRow w base v N Ss bs) := h1
 have H2 : Hid (SetAt w bw N Sw) := h2
 obtain ⟨ao, cap, rfl, _⟩ := h1.form
 clear h1 h2
 go_enter Tryz.func210, Tryz.ntmps210
 go_wp2_with fail
 refine (sindex_any _ base bw w.heap.size N _ Ss bs Sw (H1.out.below (below_alloc w _)) (H2.out.below (below_alloc w _)) hN hl (heap_alloc_new w _)).mono ?_
 rintro r w1 ⟨i, rfl, hi, hb⟩
 have B1 : Hid (Below w.heap.size w w1) := (below_alloc w _).trans (hb.mono (by simp))
 have c1 : w1.cell? ⟨w.heap.size, 0, none⟩ = some (.map (some bw)) := (hb.cell (p := ⟨w.heap.size, 0, none⟩) (by simp)).trans (cell_of_block (heap_alloc_new w _) 0 _ rfl)
 clear hb
 rcases hi with ⟨rfl, hno⟩ | ⟨n, rfl, hn⟩
 ·have HNO : Hid (Sw ∉ Ss) := hno
  clear hno
  have BA : Hid (Below w.heap.size w (w1.alloc (.cells #[.map (some bw)] 296))) := B1.out.alloc B1.out.size _
  have RA : Hid (SRow (w1.alloc (.cells #[.map (some bw)] 296)) base (.slice ao Ss.length cap) N Ss bs) := H1.out.below BA.out
  have SA : Hid (SetAt (w1.alloc (.cells #[.map (some bw)] 296)) bw N Sw) := H2.out.below BA.out
  have LA : base ≤ (w1.alloc (.cells #[.map (some bw)] 296)).heap.size := Nat.le_trans hbase BA.out.size
  have NA : w.heap.size ≤ (w1.alloc (.cells #[.map (some bw)] 296)).heap.size := BA.out.size
  go_wp2_with (at_builtin; refine wpList_push2 rfl (.tmp 14) (.tmp 16) 339 rfl base 296 (.map none) 1 8 Tryz.infoSet Tryz.undSets rfl (by decide) (.slice ao Ss.length cap) Ss.length _ rfl RA.out.2.1 w1.heap.size 1 [.map (some bw)] rfl rfl (fun j u hu => cell_of_block (heap_alloc_new w1 _) j u (by simpa using hu)) (one_map bw) (by omega) (by omega) LA ?_; intro v' w2 hown hg hsn; have RN : Hid (SRow w2 base v' N (Ss ++ [Sw]) (bs ++ [bw])) := RA.out.grown SA.out hg hown; have CN : Hid (Chg (fun k => Value.ownBlock (.slice ao Ss.length cap) = some k) w w2) := (Chg.of_below BA.out).grown hg (fun k e => Or.inr e); have NN : Hid (SameOrNewer w (.slice ao Ss.length cap) v') := hsn.imp id (fun e => ⟨_, e, NA⟩); clear hown hg hsn)
  refine bodyPost_ret (results_two rfl _ _) rfl ?_
  exact ⟨_, Ss.length, _, _, rfl, RN.out, Or.inr ⟨rfl, rfl, HNO.out⟩, List.prefix_append _ _, CN.out, NN.out⟩
 ·have HN : Hid (Ss[n]? = some Sw) := hn
  clear hn
  go_wp2_with fail
  refine bodyPost_ret (results_two rfl _ _) rfl ?_
  exact ⟨_, n, Ss, bs, rfl, H1.out.below B1.out, Or.inl ⟨rfl, HN.out⟩, List.prefix_refl _, Chg.of_below B1.out, Or.inl rfl⟩
end Go.Proofs.YtodagkkjfipbgaaGreatDoor
