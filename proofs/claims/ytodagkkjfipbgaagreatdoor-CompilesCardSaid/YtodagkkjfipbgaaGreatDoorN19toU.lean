/- ahead.Make. -/
import Derived.Laws.IdiomStrings
import Derived.Test.YtodagkkjfipbgaaGreatDoorN17toN18
import Derived.Test.YtodagkkjfipbgaaGreatDoorW3toP4
namespace Go.Proofs.YtodagkkjfipbgaaGreatDoor
open Go.RowKit Go.Maps

/-- What an outlook holds. -/
structure OutS (Ls : List RuleM) (ks : List Nat) (J : AJ) (X K : List Spt) (H : List Hd) (V : List Vw) (MC MJ : List Bool) : Prop where
  rules : JOk Ls J
  good : ∀ r ∈ J, ARuleOk r
  heads : HeadsOk J ks X K H
  hlen : H.length = X.length
  first : X[0]? = some (false, [0, 0, 0, 0])
  pasts : ∀ x ∈ X, PastOk J x
  knowns : ∀ x ∈ K, KnownOk J x
  views : ViewsOk J ks K V
  vlen : V.length = K.length
  mc : MC.length = V.length ∧ ∀ i, MC[i]? = some true ↔ mayV ks (plainV V) true i
  mj : MJ.length = V.length ∧ ∀ i, MJ[i]? = some true ↔ mayV ks (plainV V) false i
/-- The outlook, in memory. -/
def OutIn (w : World) (vP vH vV : Value) (Ls : List RuleM) (ks : List Nat) : Prop :=
  ∃ J X K H V MC MJ, OutS Ls ks J X K H V MC MJ ∧ w.ownsRow 0 169 1 vP ks.length (kCells ks) ∧ w.ownsRow 0 246 9 vH H.length (headCells H) ∧ w.ownsRow 0 254 10 vV V.length (viewCells (setTo V.length (setF MC MJ) V))
theorem ViewsOk.good {J : AJ} {ks : List Nat} {K : List Spt} {V : List Vw} (h : ViewsOk J ks K V) (hl : V.length = K.length) : VGood ks V := fun v hv => by
  obtain ⟨i, hi⟩ := List.mem_iff_getElem?.1 hv
  obtain ⟨x, _, h1, _, h2⟩ := h i v hi
  refine ⟨h1, fun k hk => ?_⟩
  obtain ⟨n, h3, h4⟩ := h2 k hk
  exact ⟨n, h3, by rw [hl]; exact (List.getElem?_eq_some_iff.1 h4).1⟩
theorem set3 {w : World} {q : Nat} {a b c d e f : Value} {t : TypeId} (h : w.heap[q]? = some (.cells #[a, b, c] t (0, 0))) :
    (((w.setCell ⟨q, 0, none⟩ d).setCell ⟨q, 1, none⟩ e).setCell ⟨q, 2, none⟩ f).heap[q]? = some (.cells #[d, e, f] t (0, 0)) :=
  (block_setCell ((block_setCell ((block_setCell h 0 _).trans rfl) 1 _).trans rfl) 2 _).trans rfl

set_option maxRecDepth 100000 in
set_option maxHeartbeats 4000000 in
theorem amake_any (lb : Nat) (vL vP : Value) (Ls : List RuleM) (ks : List Nat) (w : World) (hL : LIn lb w vL Ls) (hok : ∀ L ∈ Ls, RuleOk L) (hlen : Ls.length ≤ 4) (hks : ∀ k ∈ ks, k < 8) (hkl : ks.length ≤ 8) (hP : w.ownsRow 0 169 1 vP ks.length (kCells ks)) :
    Calls Tryz.prog 44 #[vL, vP] w fun r w' => ∃ vH vV, r = .returned (.agg #[vP, vH, vV]) ∧ (∃ a b c, vH = .slice a b c) ∧ (∃ a b c, vV = .slice a b c) ∧ OutIn w' vP vH vV Ls ks ∧ Below w.heap.size w w' := by
  obtain ⟨aoL, capL, rfl, _⟩ := hL.form
  obtain ⟨aoP, capP, rfl⟩ := row_shape hP
  have HL : Hid (LIn lb w (.slice aoL Ls.length capL) Ls) := hL
  have HP : Hid (w.ownsRow 0 169 1 (.slice aoP ks.length capP) ks.length (kCells ks)) := hP
  have HKS : Hid (∀ k ∈ ks, k < 8) := hks
  have HOK : Hid (∀ L ∈ Ls, RuleOk L) := hok
  clear hL hP hks hok
  have b0 := below_alloc w (.cells #[.slice none 0 0, .slice none 0 0, .slice none 0 0] 95)
  have R0 : Hid ((w.alloc (.cells #[.slice none 0 0, .slice none 0 0, .slice none 0 0] 95)).heap[w.heap.size]? = some (.cells #[.slice none 0 0, .slice none 0 0, .slice none 0 0] 95 (0, 0))) := heap_alloc_new w _
  have B0 : Hid (Below w.heap.size w (w.alloc (.cells #[.slice none 0 0, .slice none 0 0, .slice none 0 0] 95))) := b0
  clear b0
  go_enter Tryz.func44, Tryz.ntmps44
  go_wp2_with fail
  refine (makeJudge_any lb _ Ls _ (HL.out.below B0.out) HOK.out (by omega)).mono ?_
  rintro r w1 ⟨vJ, J, vs, rfl, hA, hJO, hb1⟩
  obtain ⟨aoJ, capJ, rfl, _⟩ := hA.form
  have A1 : Hid (AIn 0 w1 (.slice aoJ J.length capJ) J vs) := ⟨hA.len, row_base hA.row (Nat.zero_le _), hA.tab, hA.ok⟩
  have JO : Hid (JOk Ls J) := hJO
  have hJl : J.length ≤ 4 := by rw [hJO.1]; exact hlen
  have B1 : Hid (Below w.heap.size w w1) := B0.out.trans (hb1.mono (by simp))
  have R1 : Hid (w1.heap[w.heap.size]? = some (.cells #[.slice none 0 0, .slice none 0 0, .slice none 0 0] 95 (0, 0))) := (hb1.block _ (by simp)).trans R0.out
  have hs1 := B1.out.size
  have hr1 := heap_lt R1.out
  clear hA hJO hb1
  obtain ⟨W1, hW1⟩ : ∃ W1, W1 = (w1.alloc (.cells #[.slice aoP ks.length capP, .slice none 0 0, .slice none 0 0] 95)).alloc (.cells #[.slice none 0 0, .map none] 164) := ⟨_, rfl⟩
  have HW1 : Hid (W1 = (w1.alloc (.cells #[.slice aoP ks.length capP, .slice none 0 0, .slice none 0 0] 95)).alloc (.cells #[.slice none 0 0, .map none] 164)) := hW1
  have b2 : Below w1.heap.size w1 W1 := by rw [hW1]; exact (below_alloc w1 _).alloc (by simp) _
  have hz1 : W1.heap.size = w1.heap.size + 2 := by rw [hW1]; simp
  have O1 : Hid (W1.heap[w1.heap.size]? = some (.cells #[.slice aoP ks.length capP, .slice none 0 0, .slice none 0 0] 95 (0, 0))) := by rw [hW1, Below.heap_alloc _ _ _ (by simp)]; exact heap_alloc_new w1 _
  have K1 : Hid (FInK w.heap.size W1 (w1.heap.size + 1) [] none 0 none) := by
    refine ⟨?_, World.ownsRow_nil _ _ _ _, Or.inl ⟨rfl, rfl⟩, List.nodup_nil, fun x hx => by simp at hx⟩
    rw [hW1]
    exact (show (w1.alloc (.cells #[.slice aoP ks.length capP, .slice none 0 0, .slice none 0 0] 95)).heap.size = w1.heap.size + 1 by simp) ▸ heap_alloc_new (w1.alloc _) _
  have A2 : Hid (AIn 0 W1 (.slice aoJ J.length capJ) J vs) := A1.out.below b2
  have B2 : Hid (Below w.heap.size w W1) := B1.out.trans (b2.mono hs1)
  have P2 : Hid (W1.ownsRow 0 169 1 (.slice aoP ks.length capP) ks.length (kCells ks)) := row_kp HP.out (Kp.below B2.out)
  have R2 : Hid (W1.heap[w.heap.size]? = some (.cells #[.slice none 0 0, .slice none 0 0, .slice none 0 0] 95 (0, 0))) := (b2.block _ hr1).trans R1.out
  clear hW1 b2 A1 R0 R1
  go_wp2_with fail
  rw [← HW1.out]
  refine (lookBack_any (w.heap.size + 1) (w1.heap.size + 1) w1.heap.size J vs _ ks _ W1 hJl HKS.out hkl A2.out P2.out ⟨K1.out.blk, World.ownsRow_nil _ _ _ _, Or.inl ⟨rfl, rfl⟩, List.nodup_nil, fun x hx => by simp at hx⟩ O1.out (by omega) (by omega) (by omega)).mono ?_
  rintro r w3 ⟨rfl, p, X, aoX, capX, moX, K, aoK, capK, moK, H, aoH, capH, hLB, hHO, hHl, hKO, hXO, hX0, hb3⟩
  have L3 : Hid (LOn (w.heap.size + 1) w3 (w1.heap.size + 1) w1.heap.size J vs (.slice aoJ J.length capJ) ks (.slice aoP ks.length capP) K aoK capK moK H (.slice aoH H.length capH) [] none 0) := ⟨hLB.fk, hLB.aj, hLB.ps, hLB.hd, World.ownsRow_nil _ _ _ _, hLB.ob⟩
  have HO3 : Hid (HeadsOk J ks X K H ∧ H.length = X.length ∧ (∀ x ∈ K, KnownOk J x) ∧ (∀ x ∈ X, PastOk J x) ∧ X[0]? = some (false, [0, 0, 0, 0])) := ⟨hHO, hHl, hKO, hXO, hX0⟩
  have B3 : Hid (Below (w.heap.size + 1) W1 w3) := hb3
  have hs3 := hb3.size
  clear hLB hHO hHl hKO hXO hX0 hb3
  go_wp2_with fail
  refine (lookOn_any (w.heap.size + 1) (w1.heap.size + 1) w1.heap.size J vs _ ks _ K aoK capK moK H _ w3 hJl HKS.out hkl L3.out HO3.out.2.2.1 (by omega) (by omega) (by omega)).mono ?_
  rintro r w4 ⟨rfl, K4, aoK4, capK4, moK4, V, aoV, capV, hLO, hVO, hVl, hKp, hKO4, hVF, hb4⟩
  have L4 : Hid (LOn (w.heap.size + 1) w4 (w1.heap.size + 1) w1.heap.size J vs (.slice aoJ J.length capJ) ks (.slice aoP ks.length capP) K4 aoK4 capK4 moK4 H (.slice aoH H.length capH) V aoV capV) := hLO
  have HO4 : Hid (ViewsOk J ks K4 V ∧ V.length = K4.length ∧ K <+: K4 ∧ ∀ x ∈ K4, KnownOk J x) := ⟨hVO, hVl, hKp, hKO4⟩
  have B4 : Hid (Below (w.heap.size + 1) W1 w4) := B3.out.trans hb4
  have hs4 := hb4.size
  have hVl2 : V.length ≤ 320000 := by rw [hVl]; exact few4' hLO.fk.nodup hLO.fk.ok
  clear hLO hVO hVl hKp hKO4 hVF hb4 B3
  go_wp2_with fail
  refine (settle_any (w.heap.size + 1) w1.heap.size ks _ _ V aoV capV w4 HKS.out hkl L4.out.ps L4.out.vw (HO4.out.1.good HO4.out.2.1) hVl2 L4.out.ob).mono ?_
  rintro r w5 ⟨rfl, ⟨MC, MJ, hV5, hMCl, hMJl, hMC, hMJ⟩, hC5⟩
  have V5 : Hid (w5.ownsRow (w.heap.size + 1) 254 10 (.slice aoV V.length capV) V.length (viewCells (setTo V.length (setF MC MJ) V))) := hV5
  have HM5 : Hid ((MC.length = V.length ∧ ∀ i, MC[i]? = some true ↔ mayV ks (plainV V) true i) ∧ (MJ.length = V.length ∧ ∀ i, MJ[i]? = some true ↔ mayV ks (plainV V) false i)) := ⟨⟨hMCl, hMC⟩, hMJl, hMJ⟩
  have kp5 : ∀ t : TypeId, t ≠ 254 → Kp t w4 w5 := fun t ht k cs m hh => by
    rw [hC5.block k (heap_lt hh) (fun e => by obtain ⟨cs', hk⟩ := row_type L4.out.vw k e; rw [hk] at hh; cases hh; exact ht rfl)]; exact hh
  have O5 : Hid (w5.heap[w1.heap.size]? = some (.cells #[.slice aoP ks.length capP, .slice aoH H.length capH, .slice aoV V.length capV] 95 (0, 0))) := kp5 _ (by decide) _ _ _ L4.out.ob
  have P5 : Hid (w5.ownsRow 0 169 1 (.slice aoP ks.length capP) ks.length (kCells ks)) := row_kp L4.out.ps (kp5 _ (by decide))
  have H5 : Hid (w5.ownsRow (w.heap.size + 1) 246 9 (.slice aoH H.length capH) H.length (headCells H)) := row_kp L4.out.hd (kp5 _ (by decide))
  have B5 : Hid (Below (w.heap.size + 1) W1 w5) := B4.out.trans (hC5.below (by omega) fun k hk e => by have := (L4.out.vw.lt k e).1; omega)
  have R5 : Hid (w5.heap[w.heap.size]? = some (.cells #[.slice none 0 0, .slice none 0 0, .slice none 0 0] 95 (0, 0))) := (B5.out.block _ (by omega)).trans R2.out
  have BB : Hid (Below w.heap.size w w5) := B2.out.trans (B5.out.mono (by omega))
  have c0 := cell_of_block O5.out 0 _ rfl
  have c1 := cell_of_block O5.out 1 _ rfl
  have c2 := cell_of_block O5.out 2 _ rfl
  have r0 := cell_of_block R5.out 0 _ rfl
  have r1 := cell_of_block R5.out 1 _ rfl
  have r2 := cell_of_block R5.out 2 _ rfl
  have rf := free_of_block R5.out
  clear hV5 hMC hMJ hC5 kp5
  go_wp2_with fail
  refine bodyPost_ret (results_cell_row rfl _ _ w.heap.size 95 #[.slice aoP ks.length capP, .slice aoH H.length capH, .slice aoV V.length capV] (0, 0) _ rfl (set3 R5.out) Tryz.underlying95 rfl (by kernel_rfl)) rfl ?_
  have kr : ∀ (t : TypeId) (u v x : Value), t ≠ 95 → Kp t w5 (((w5.setCell ⟨w.heap.size, 0, none⟩ u).setCell ⟨w.heap.size, 1, none⟩ v).setCell ⟨w.heap.size, 2, none⟩ x) := fun t u v x ht k cs m hh => by
    have hne : k ≠ w.heap.size := fun e => by subst e; rw [R5.out] at hh; cases hh; exact ht rfl
    rw [setCell_type hne, setCell_type hne, setCell_type hne]; exact hh
  refine ⟨_, _, rfl, ⟨_, _, _, rfl⟩, ⟨_, _, _, rfl⟩, ⟨J, X, K4, H, V, MC, MJ, ⟨JO.out, A2.out.ok, HO3.out.1.more (List.prefix_refl _) HO4.out.2.2.1, HO3.out.2.1, HO3.out.2.2.2.2, HO3.out.2.2.2.1, HO4.out.2.2.2, HO4.out.1, HO4.out.2.1, HM5.out.1, HM5.out.2⟩, row_kp P5.out (kr _ _ _ _ (by decide)), row_base (row_kp H5.out (kr _ _ _ _ (by decide))) (Nat.zero_le _), row_base (row_kp V5.out (kr _ _ _ _ (by decide))) (Nat.zero_le _)⟩, ((BB.out.setCell (Nat.le_refl _) _).setCell (Nat.le_refl _) _).setCell (Nat.le_refl _) _⟩
end Go.Proofs.YtodagkkjfipbgaaGreatDoor
namespace Go.Proofs.YtodagkkjfipbgaaGreatDoor
open Go.RowKit

/-- The block of a reference Rules in a state. -/
def Blk (w : World) (b : Nat) (T : ByteArray) (s : RS) (vN vS vL : Value) : Prop :=
  w.heap[b]? = some (.cells (rcell T s.at_ s.err s.place vN vS vL s.atoms s.nest) 35 (0, 0))

theorem fail_st (b : Nat) (T : ByteArray) (s : RS) (vN vS vL : Value) (e0 p0 : Int) (w : World) (h : Blk w b T s vN vS vL) :
    Calls Tryz.prog 46 #[.pointer (some ⟨b, 0, none⟩), .int .i64 e0, .int .i64 p0] w fun e w' => e = .returned (.tuple #[]) ∧ Blk w' b T (s.fail e0 p0) vN vS vL ∧ Chg (fun k => k = b) w w' := by
  by_cases h0 : s.err = 0
  · have hb : w.heap[b]? = some (.cells (rcell T s.at_ 0 s.place vN vS vL s.atoms s.nest) 35 (0, 0)) := by rw [← h0]; exact h
    refine (fail_yes b T _ _ vN vS vL _ _ e0 p0 w hb).mono ?_
    rintro e w' ⟨rfl, hb', hc⟩
    refine ⟨rfl, ?_, hc⟩
    unfold RS.fail; rw [if_pos h0]; exact hb'
  · refine (fail_no b T _ _ _ vN vS vL _ _ e0 p0 w h (by simpa using h0)).mono ?_
    rintro e w' ⟨rfl, rfl⟩
    refine ⟨rfl, ?_, Chg.refl _ _⟩
    unfold RS.fail; rw [if_neg h0]; exact h

theorem peek_st (b : Nat) (T : ByteArray) (s : RS) (vN vS vL : Value) (w : World) (h : Blk w b T s vN vS vL) (hT : T.size ≤ 1000) (hat : s.at_ ≤ T.size) :
    Calls Tryz.prog 47 #[.pointer (some ⟨b, 0, none⟩)] w fun e w' => e = .returned (.tuple #[.string (tok T s.at_), .int .i64 (s.pos T : Nat)]) ∧ Blk w' b T (s.peek T) vN vS vL ∧ Chg (fun k => k = b) w w' :=
  peek_any b T s.at_ s.err s.place vN vS vL s.atoms s.nest w h hT hat

theorem take_st (b : Nat) (T : ByteArray) (s : RS) (vN vS vL : Value) (w : World) (h : Blk w b T s vN vS vL) (hT : T.size ≤ 1000) (hat : s.at_ ≤ T.size) :
    Calls Tryz.prog 91 #[.pointer (some ⟨b, 0, none⟩)] w fun e w' => e = .returned (.tuple #[.string (tok T s.at_), .int .i64 (s.pos T : Nat)]) ∧ Blk w' b T (s.take T) vN vS vL ∧ Chg (fun k => k = b) w w' :=
  take_any b T s.at_ s.err s.place vN vS vL s.atoms s.nest w h hT hat

theorem take_at (T : ByteArray) (s : RS) (hat : s.at_ ≤ T.size) : (s.take T).at_ ≤ T.size ∧ s.at_ ≤ (s.take T).at_ ∧ (s.pos T < T.size → s.at_ < (s.take T).at_) ∧ s.pos T ≤ T.size := by
  have h1 := skip_le T s.at_
  have h2 := tokEnd_le T (skip T s.at_)
  simp only [RS.take, RS.pos]; omega
theorem peek_at (T : ByteArray) (s : RS) (hat : s.at_ ≤ T.size) : (s.peek T).at_ ≤ T.size ∧ s.at_ ≤ (s.peek T).at_ := by
  have h1 := skip_le T s.at_
  simp only [RS.peek]; omega

set_option maxHeartbeats 1000000 in
theorem want_st (b : Nat) (T : ByteArray) (s : RS) (vN vS vL : Value) (x : ByteArray) (w : World) (h : Blk w b T s vN vS vL) (hT : T.size ≤ 1000) (hat : s.at_ ≤ T.size) :
    Calls Tryz.prog 94 #[.pointer (some ⟨b, 0, none⟩), .string x] w fun e w' => e = .returned (.tuple #[]) ∧ Blk w' b T (s.want T x.toList) vN vS vL ∧ Chg (fun k => k = b) w w' := by
  by_cases he : s.tk T = x.toList
  · have he' : ((tok T s.at_).toList == x.toList) = true := by simpa [RS.tk] using he
    go_enter Tryz.func94, Tryz.ntmps94
    go_wp2_with (go_at_call 91; refine (take_st b T s vN vS vL _ h hT hat).mono ?_; rintro e w1 ⟨rfl, hb1, hc1⟩)
    go_end0
    exact ⟨rfl, by unfold RS.want; rw [if_pos he]; exact hb1, hc1⟩
  · have he' : ((tok T s.at_).toList == x.toList) = false := by simpa [RS.tk] using he
    go_enter Tryz.func94, Tryz.ntmps94
    go_wp2_with (first | (go_at_call 91; refine (take_st b T s vN vS vL _ h hT hat).mono ?_; rintro e w1 ⟨rfl, hb1, hc1⟩) | (go_at_call 46; refine (fail_st b T (s.take T) vN vS vL _ _ _ hb1).mono ?_; rintro e w2 ⟨rfl, hb2, hc2⟩))
    go_end0
    exact ⟨rfl, by unfold RS.want; rw [if_neg he]; exact hb2, hc1.trans hc2⟩

theorem take_snoc (s : ByteArray) (k : Nat) (h : k < s.size) : s.toList.take (k + 1) = s.toList.take k ++ [s[k]] := by
  rw [ByteArray.toList_eq, List.take_succ_eq_append_getElem (by simpa using h)]; rfl
theorem toList_length (s : ByteArray) : s.toList.length = s.size := by rw [ByteArray.toList_eq]; rfl
theorem dig_bd (c : Nat) (d : Int) (h : RS.dig c = some d) : 0 ≤ d ∧ d ≤ 15 := by
  unfold RS.dig at h
  split at h
  · simp at h; omega
  · split at h
    · simp at h; omega
    · split at h
      · simp at h; omega
      · simp at h
theorem hexN_snoc (l : List UInt8) (c : UInt8) : RS.hexN (l ++ [c]) = match RS.dig c.toNat with | some d => 16 * RS.hexN l + d | none => RS.hexN l := by
  unfold RS.hexN; rw [List.foldl_append]; rfl
theorem hexN_bd (k : Nat) : ∀ l : List UInt8, l.length ≤ k → 0 ≤ RS.hexN l ∧ RS.hexN l < 16 ^ k := by
  induction k with
  | zero => intro l h
            have e : l = [] := List.eq_nil_of_length_eq_zero (by omega)
            subst e; simp [RS.hexN]
  | succ k ih =>
    intro l h
    by_cases hl : l = []
    · subst hl; simp [RS.hexN]; exact Int.pow_pos (by omega)
    · obtain ⟨m, c, rfl⟩ : ∃ m c, l = m ++ [c] := ⟨l.dropLast, l.getLast hl, (List.dropLast_concat_getLast hl).symm⟩
      have := ih m (by simp at h; omega)
      rw [hexN_snoc]
      cases hd : RS.dig c.toNat with
      | none => simp only; rw [Int.pow_succ]; omega
      | some d => have := dig_bd _ _ hd; simp only; rw [Int.pow_succ]; omega
theorem hexOk_snoc (l : List UInt8) (c : UInt8) : RS.hexOk (l ++ [c]) = (RS.hexOk l && (RS.dig c.toNat).isSome) := by
  unfold RS.hexOk; simp
theorem fail_fail (s : RS) (e p : Int) (he : e ≠ 0) : (s.fail e p).fail e p = s.fail e p := by
  unfold RS.fail; by_cases h : s.err = 0 <;> simp [h, he]
end Go.Proofs.YtodagkkjfipbgaaGreatDoor
namespace Go.Proofs.YtodagkkjfipbgaaGreatDoor
open Go.RowKit

def hexAt (s : RS) (p : Int) (l : List UInt8) : RS := if RS.hexOk l = true then s else s.fail 2 p
theorem hexAt_ok {s : RS} {p : Int} {l : List UInt8} {c : UInt8} {d : Int} (h : RS.dig c.toNat = some d) : hexAt s p (l ++ [c]) = hexAt s p l ∧ RS.hexN (l ++ [c]) = 16 * RS.hexN l + d := by
  unfold hexAt; rw [hexOk_snoc, hexN_snoc, h]; simp
theorem hexAt_no {s : RS} {p : Int} {l : List UInt8} {c : UInt8} (h : RS.dig c.toNat = none) : hexAt s p (l ++ [c]) = (hexAt s p l).fail 2 p ∧ RS.hexN (l ++ [c]) = RS.hexN l := by
  unfold hexAt; rw [hexOk_snoc, hexN_snoc, h]
  refine ⟨?_, by simp⟩
  cases RS.hexOk l <;> simp [fail_fail]
theorem hexAt_fail (s : RS) (p : Int) (l : List UInt8) : (hexAt s p l).fail 2 p = s.fail 2 p := by
  unfold hexAt; split
  · rfl
  · exact fail_fail _ _ _ (by omega)
theorem hex_long {T : ByteArray} {s : RS} (h : 6 < (s.tk T).length) : s.hex T = (s.take T).fail 2 (s.pos T) ∧ RS.hexV (s.tk T) = 0 := by
  unfold RS.hex RS.hexV; simp [h]
theorem hex_short {T : ByteArray} {s : RS} (h : ¬ 6 < (s.tk T).length) (hn : s.tk T ≠ []) (hv : ¬ 1114111 < RS.hexN (s.tk T)) : s.hex T = hexAt (s.take T) (s.pos T) (s.tk T) ∧ RS.hexV (s.tk T) = RS.hexN (s.tk T) := by
  unfold RS.hex RS.hexV hexAt; simp [h, hn, hv]
theorem hex_big {T : ByteArray} {s : RS} (h : ¬ 6 < (s.tk T).length) (hn : s.tk T ≠ []) (hv : 1114111 < RS.hexN (s.tk T)) : s.hex T = (hexAt (s.take T) (s.pos T) (s.tk T)).fail 5 (s.pos T) ∧ RS.hexV (s.tk T) = RS.hexN (s.tk T) := by
  unfold RS.hex RS.hexV hexAt; simp [h, hn, hv]
theorem hex_none {T : ByteArray} {s : RS} (hn : s.tk T = []) : s.hex T = (s.take T).fail 2 (s.pos T) ∧ RS.hexV (s.tk T) = 0 ∧ RS.hexN (s.tk T) = 0 := by
  unfold RS.hex RS.hexV; simp [hn, RS.hexN]
theorem dig_cases (c : Nat) : (48 ≤ c ∧ c ≤ 57 ∧ RS.dig c = some ((c : Int) - 48)) ∨ (97 ≤ c ∧ c ≤ 102 ∧ RS.dig c = some ((c : Int) - 97 + 10)) ∨ (65 ≤ c ∧ c ≤ 70 ∧ RS.dig c = some ((c : Int) - 65 + 10)) ∨
    (¬ (48 ≤ c ∧ c ≤ 57) ∧ ¬ (97 ≤ c ∧ c ≤ 102) ∧ ¬ (65 ≤ c ∧ c ≤ 70) ∧ RS.dig c = none) := by
  unfold RS.dig
  by_cases h1 : 48 ≤ c ∧ c ≤ 57
  · left; simp [h1]
  · by_cases h2 : 97 ≤ c ∧ c ≤ 102
    · right; left; rw [if_neg h1, if_pos h2]; simp [h2]
    · by_cases h3 : 65 ≤ c ∧ c ≤ 70
      · right; right; left; rw [if_neg h1, if_neg h2, if_pos h3]; simp [h3]
      · right; right; right; rw [if_neg h1, if_neg h2, if_neg h3]; exact ⟨h1, h2, h3, rfl⟩

set_option maxHeartbeats 4000000 in
theorem hex_st (b : Nat) (T : ByteArray) (s : RS) (vN vS vL : Value) (w : World) (h : Blk w b T s vN vS vL) (hT : T.size ≤ 1000) (hat : s.at_ ≤ T.size) :
    Calls Tryz.prog 147 #[.pointer (some ⟨b, 0, none⟩)] w fun e w' => e = .returned (.tuple #[.int .i64 (RS.hexV (s.tk T)), .int .i64 (s.pos T : Nat)]) ∧ Blk w' b T (s.hex T) vN vS vL ∧ Chg (fun k => k = b) w w' := by
  obtain ⟨t, ht⟩ : ∃ t, t = tok T s.at_ := ⟨_, rfl⟩
  have hts : t.size ≤ 1000 := by rw [ht]; have := (tok_size T s.at_ hat).2; omega
  have hl : s.tk T = t.toList := by rw [ht]; rfl
  have HT : Hid (t = tok T s.at_) := ht
  have HL : Hid (s.tk T = t.toList) := hl
  clear ht hl
  go_enter Tryz.func147, Tryz.ntmps147
  go_wp2_with (go_at_call 91; refine (take_st b T s vN vS vL _ h hT hat).mono ?_; rintro e w1 ⟨rfl, hb1, hc1⟩; rw [← HT.out])
  go_loopg [6, 7] 7 (fun g n i wr => ∃ k : Nat, g = 7 - k ∧ k ≤ 6 ∧ k ≤ t.size ∧ i = .int .i64 k ∧ n = .int .i64 (RS.hexN (t.toList.take k)) ∧ Blk wr b T (hexAt (s.take T) (s.pos T) (t.toList.take k)) vN vS vL ∧ Chg (fun k => k = b) w wr)
  case atStart => exact ⟨0, rfl, by omega, by omega, rfl, rfl, hb1, hc1⟩
  case round =>
    obtain ⟨k, rfl, hk6, hkt, rfl, rfl, hbr, hcr⟩ := hrel
    have hbd := hexN_bd 6 (t.toList.take k) (by rw [List.length_take]; omega)
    have hbd1 := hbd.1
    have hbd2 : RS.hexN (t.toList.take k) < 16777216 := hbd.2
    clear hbd
    by_cases hlt : k < t.size
    · have hsn : Hid (t.toList.take (k + 1) = t.toList.take k ++ [t[k]]) := take_snoc t k hlt
      have hc256 : t[k].toNat < 256 := t[k].toNat_lt
      rcases dig_cases t[k].toNat with ⟨h1, h2, hd⟩ | ⟨h1, h2, hd⟩ | ⟨h1, h2, hd⟩ | ⟨h1, h2, h3, hd⟩
      · have HD : Hid (RS.dig t[k].toNat = some ((t[k].toNat : Int) - 48)) := hd
        clear hd
        by_cases hk5 : 5 < k
        · go_wp2_with (go_at_call 46; refine (fail_st b T _ vN vS vL _ _ _ hbr).mono ?_; rintro e w2 ⟨rfl, hb2, hc2⟩)
          go_ret2
          have hx := hex_long (T := T) (s := s) (by rw [HL.out, toList_length]; omega)
          exact ⟨ret_ii hx.2.symm, by rw [hx.1, ← hexAt_fail _ _ (t.toList.take k)]; exact hb2, hcr.trans hc2⟩
        · go_wp2_with (go_at_call 46; refine (fail_st b T _ vN vS vL _ _ _ hbr).mono ?_; rintro e w2 ⟨rfl, hb2, hc2⟩)
          go_roundg (7 - (k + 1))
          case measure => omega
          case rel =>
            have hh := hexAt_ok (s := s.take T) (p := s.pos T) (l := t.toList.take k) HD.out
            refine ⟨k + 1, rfl, by omega, by omega, by go_num, ?_, by rw [hsn.out, hh.1]; exact hbr, hcr⟩
            rw [hsn.out, hh.2]; congr 1; omega
      · have HD : Hid (RS.dig t[k].toNat = some ((t[k].toNat : Int) - 97 + 10)) := hd
        clear hd
        by_cases hk5 : 5 < k
        · go_wp2_with (go_at_call 46; refine (fail_st b T _ vN vS vL _ _ _ hbr).mono ?_; rintro e w2 ⟨rfl, hb2, hc2⟩)
          go_ret2
          have hx := hex_long (T := T) (s := s) (by rw [HL.out, toList_length]; omega)
          exact ⟨ret_ii hx.2.symm, by rw [hx.1, ← hexAt_fail _ _ (t.toList.take k)]; exact hb2, hcr.trans hc2⟩
        · go_wp2_with (go_at_call 46; refine (fail_st b T _ vN vS vL _ _ _ hbr).mono ?_; rintro e w2 ⟨rfl, hb2, hc2⟩)
          go_roundg (7 - (k + 1))
          case measure => omega
          case rel =>
            have hh := hexAt_ok (s := s.take T) (p := s.pos T) (l := t.toList.take k) HD.out
            refine ⟨k + 1, rfl, by omega, by omega, by go_num, ?_, by rw [hsn.out, hh.1]; exact hbr, hcr⟩
            rw [hsn.out, hh.2]; congr 1; omega
      · have HD : Hid (RS.dig t[k].toNat = some ((t[k].toNat : Int) - 65 + 10)) := hd
        clear hd
        by_cases hk5 : 5 < k
        · go_wp2_with (go_at_call 46; refine (fail_st b T _ vN vS vL _ _ _ hbr).mono ?_; rintro e w2 ⟨rfl, hb2, hc2⟩)
          go_ret2
          have hx := hex_long (T := T) (s := s) (by rw [HL.out, toList_length]; omega)
          exact ⟨ret_ii hx.2.symm, by rw [hx.1, ← hexAt_fail _ _ (t.toList.take k)]; exact hb2, hcr.trans hc2⟩
        · go_wp2_with (go_at_call 46; refine (fail_st b T _ vN vS vL _ _ _ hbr).mono ?_; rintro e w2 ⟨rfl, hb2, hc2⟩)
          go_roundg (7 - (k + 1))
          case measure => omega
          case rel =>
            have hh := hexAt_ok (s := s.take T) (p := s.pos T) (l := t.toList.take k) HD.out
            refine ⟨k + 1, rfl, by omega, by omega, by go_num, ?_, by rw [hsn.out, hh.1]; exact hbr, hcr⟩
            rw [hsn.out, hh.2]; congr 1; omega
      · have HD : Hid (RS.dig t[k].toNat = none) := hd
        clear hd
        have hr : t[k].toNat < 48 ∨ (58 ≤ t[k].toNat ∧ t[k].toNat ≤ 64) ∨ (71 ≤ t[k].toNat ∧ t[k].toNat ≤ 96) ∨ 103 ≤ t[k].toNat := by omega
        clear h1 h2 h3
        rcases hr with hr | ⟨hr, hr'⟩ | ⟨hr, hr'⟩ | hr
        all_goals
          by_cases hk5 : 5 < k
          · go_wp2_with (first | (go_at_call 46; refine (fail_st b T _ vN vS vL _ _ _ hb2).mono ?_; rintro e w3 ⟨rfl, hb3, hc3⟩) | (go_at_call 46; refine (fail_st b T _ vN vS vL _ _ _ hbr).mono ?_; rintro e w2 ⟨rfl, hb2, hc2⟩))
            go_ret2
            have hx := hex_long (T := T) (s := s) (by rw [HL.out, toList_length]; omega)
            exact ⟨ret_ii hx.2.symm, by rw [hx.1, ← hexAt_fail _ _ (t.toList.take k), ← fail_fail _ _ _ (by omega)]; exact hb3, (hcr.trans hc2).trans hc3⟩
          · go_wp2_with (go_at_call 46; refine (fail_st b T _ vN vS vL _ _ _ hbr).mono ?_; rintro e w2 ⟨rfl, hb2, hc2⟩)
            go_roundg (7 - (k + 1))
            case measure => omega
            case rel =>
              have hh := hexAt_no (s := s.take T) (p := s.pos T) (l := t.toList.take k) HD.out
              exact ⟨k + 1, rfl, by omega, by omega, by go_num, by rw [hsn.out, hh.2], by rw [hsn.out, hh.1]; exact hb2, hcr.trans hc2⟩
    · have hkt' : k = t.size := by omega
      have hall : t.toList.take k = s.tk T := by rw [HL.out, List.take_of_length_le (by rw [toList_length]; omega)]
      rw [hall] at hbr hbd1 hbd2 ⊢
      clear hall
      have hlen : Hid (¬ 6 < (s.tk T).length) := by show ¬ _; rw [HL.out, toList_length]; omega
      by_cases hnil : t.toList = []
      · have hx := hex_none (T := T) (s := s) (by rw [HL.out]; exact hnil)
        have HX := And.intro hx.1 (And.intro hx.2.1 hx.2.2)
        have hz : RS.hexN (s.tk T) ≤ 0 := by rw [hx.2.2]; omega
        have HX' : Hid (s.hex T = (s.take T).fail 2 (s.pos T) ∧ RS.hexV (s.tk T) = 0 ∧ RS.hexN (s.tk T) = 0) := HX
        clear hx HX
        go_wp2_with (go_at_call 46; refine (fail_st b T _ vN vS vL _ _ _ hbr).mono ?_; rintro e w2 ⟨rfl, hb2, hc2⟩)
        go_ret2
        exact ⟨ret_ii (HX'.out.2.2.trans HX'.out.2.1.symm), by rw [HX'.out.1, ← hexAt_fail _ _ (s.tk T)]; exact hb2, hcr.trans hc2⟩
      · have hne : s.tk T ≠ [] := by rw [HL.out]; exact hnil
        have HNE : Hid (s.tk T ≠ []) := hne
        have hE : t.toList.isEmpty = false := by simpa using hnil
        clear hne
        by_cases hv : 1114111 < RS.hexN (s.tk T)
        · go_wp2_with (go_at_call 46; refine (fail_st b T _ vN vS vL _ _ _ hbr).mono ?_; rintro e w2 ⟨rfl, hb2, hc2⟩)
          go_ret2
          have hx := hex_big hlen.out HNE.out (by assumption)
          exact ⟨ret_ii hx.2.symm, by rw [hx.1]; exact hb2, hcr.trans hc2⟩
        · go_wp2_with (go_at_call 46; refine (fail_st b T _ vN vS vL _ _ _ hbr).mono ?_; rintro e w2 ⟨rfl, hb2, hc2⟩)
          go_ret2
          have hx := hex_short hlen.out HNE.out (by omega)
          exact ⟨ret_ii hx.2.symm, by rw [hx.1]; exact hbr, hcr⟩
end Go.Proofs.YtodagkkjfipbgaaGreatDoor
/- strconv's ParseUint at base 16 and 32 bits. -/
namespace Go.Proofs.YtodagkkjfipbgaaGreatDoor
open Go.RowKit

/-- A letter made small. -/
def lowB (c : UInt8) : Nat := (bits BinOp.or IntKind.u8 c.toNat 32).toNat
theorem low_all : ∀ c : Fin 256, bits BinOp.or IntKind.u8 (c.val : Int) 32 = (c.val ||| 32 : Nat) := by decide +kernel
theorem low_cases : ∀ c : Fin 256, (65 ≤ c.val ∧ c.val ≤ 90 ∧ c.val ||| 32 = c.val + 32) ∨ (97 ≤ c.val ∧ c.val ≤ 122 ∧ c.val ||| 32 = c.val) ∨ (¬ (65 ≤ c.val ∧ c.val ≤ 90) ∧ ¬ (97 ≤ c.val ∧ c.val ≤ 122) ∧ (c.val ||| 32 < 97 ∨ 122 < c.val ||| 32)) := by decide +kernel

set_option maxHeartbeats 1000000 in
theorem lower_any (c : UInt8) (w : World) :
    Calls Tryz.prog 234 #[.int .u8 c.toNat] w fun e w' => e = .returned (.int .u8 (c.toNat ||| 32 : Nat)) ∧ w' = w := by
  have h := low_all ⟨c.toNat, c.toNat_lt⟩
  simp only at h
  go_enter Tryz.func234, Tryz.ntmps234
  go_wp2
  go_ret
  exact ⟨rfl, rfl⟩

theorem lower_up (c : UInt8) (w : World) (h1 : 65 ≤ c.toNat) (h2 : c.toNat ≤ 90) :
    Calls Tryz.prog 234 #[.int .u8 c.toNat] w fun e w' => e = .returned (.int .u8 ((c.toNat : Int) + 32)) ∧ w' = w := by
  refine (lower_any c w).mono ?_
  rintro e w' ⟨rfl, rfl⟩
  refine ⟨ret_int ?_, rfl⟩
  have := low_cases ⟨c.toNat, c.toNat_lt⟩
  simp only at this; omega
theorem lower_lo (c : UInt8) (w : World) (h1 : 97 ≤ c.toNat) (h2 : c.toNat ≤ 122) :
    Calls Tryz.prog 234 #[.int .u8 c.toNat] w fun e w' => e = .returned (.int .u8 (c.toNat : Int)) ∧ w' = w := by
  refine (lower_any c w).mono ?_
  rintro e w' ⟨rfl, rfl⟩
  refine ⟨ret_int ?_, rfl⟩
  have := low_cases ⟨c.toNat, c.toNat_lt⟩
  simp only at this; omega
theorem lower_eq (c : UInt8) (w : World) (r : Nat) (hr : c.toNat ||| 32 = r) :
    Calls Tryz.prog 234 #[.int .u8 c.toNat] w fun e w' => e = .returned (.int .u8 (r : Int)) ∧ w' = w := by
  refine (lower_any c w).mono ?_
  rintro e w' ⟨rfl, rfl⟩
  exact ⟨by rw [hr], rfl⟩
theorem lower_us (w : World) :
    Calls Tryz.prog 234 #[.int .u8 95] w fun e w' => e = .returned (.int .u8 127) ∧ w' = w := by
  refine Calls.mono (lower_any 95 w) ?_
  rintro e w' ⟨rfl, rfl⟩
  exact ⟨rfl, rfl⟩
theorem low_no (c : UInt8) (h1 : ¬ (65 ≤ c.toNat ∧ c.toNat ≤ 90)) (h2 : ¬ (97 ≤ c.toNat ∧ c.toNat ≤ 122)) : ∃ r, c.toNat ||| 32 = r ∧ (r < 97 ∨ 122 < r) := by
  have := low_cases ⟨c.toNat, c.toNat_lt⟩
  simp only at this
  exact ⟨_, rfl, by omega⟩
theorem hexOk_not {l : List UInt8} {c : UInt8} (hc : c ∈ l) (hd : RS.dig c.toNat = none) : RS.hexOk l = false := by
  unfold RS.hexOk
  rw [List.all_eq_false]
  exact ⟨c, hc, by rw [hd]; simp⟩
theorem mem_bytes (s : ByteArray) (k : Nat) (h : k < s.size) : s[k] ∈ s.toList := by
  rw [ByteArray.toList_eq]
  exact List.getElem_mem (l := s.data.toList) (n := k) (by simpa using h)

set_option maxRecDepth 100000 in
set_option maxHeartbeats 2000000 in
theorem parseIn_nil (s : ByteArray) (w : World) (hs : s.toList = []) :
    Calls Tryz.prog 219 #[.string s, .int .i64 16, .int .i64 32] w fun e w' => e = .returned (.tuple #[.int .u64 0, .iface 368 (.int .i64 2)]) ∧ w' = w := by
  go_enter Tryz.func219, Tryz.ntmps219
  go_wp2_with fail
  go_ret2
  exact ⟨rfl, rfl⟩

/-- What ParseUint answers to a word that has letters: its number; or the errors of syntax, of range. -/
def PU (s : ByteArray) (e : Ending) : Prop :=
  (e = .returned (.tuple #[.int .u64 (RS.hexN s.toList), .nilIface]) ∧ RS.hexOk s.toList = true ∧ RS.hexN s.toList ≤ 4294967295) ∨
  (e = .returned (.tuple #[.int .u64 0, .iface 368 (.int .i64 2)]) ∧ RS.hexOk s.toList = false) ∨
  (e = .returned (.tuple #[.int .u64 4294967295, .iface 368 (.int .i64 1)]) ∧ 6 < s.toList.length)

set_option maxRecDepth 100000 in
set_option maxHeartbeats 4000000 in
theorem parseIn_any (s : ByteArray) (w : World) (hs : s.toList.isEmpty = false) (hl : s.size ≤ 1000) :
    Calls Tryz.prog 219 #[.string s, .int .i64 16, .int .i64 32] w fun e w' => PU s e ∧ Below w.heap.size w w' := by
  have hcv := fun w s => run_bytes_of_string (P := Tryz.prog) w 9 63 5 s (by kernel_rfl) (by kernel_rfl) (by kernel_rfl)
  go_enter Tryz.func219, Tryz.ntmps219
  go_upto_region 35 with fail
  go_cut [98, 99, 100, 101] (fun _ sv lv iv wx => ∃ cap, sv = .slice (some ⟨w.heap.size, 0, none⟩) s.size cap ∧ lv = .int .i64 s.size ∧ iv = .int .i64 0 ∧ Hid (∀ i (hi : i < s.size), wx.cell? ⟨w.heap.size, i, none⟩ = some (.int .u8 s[i].toNat)) ∧ Below w.heap.size w wx)
  case first =>
    go_wp2_with fail
    go_meet
    refine ⟨_, rfl, rfl, rfl, ?_, ?_⟩
    · intro i hi
      show (w.alloc _).cell? _ = _
      rw [World.cell?_alloc_mark]
      exact bytesRow_at s _ i hi
    · exact ((Below.refl _ _).alloc (Nat.le_refl _) _).drew
  case rest =>
    obtain ⟨cap, rfl, rfl, rfl, HC, hb⟩ := hcut
    clear hcv
    go_wp2_with fail
    go_loop [12, 13, 101] (fun u n i => ∃ k : Nat, k ≤ s.size ∧ i = .int .i64 k ∧ u = .bool false ∧ n = .int .u64 (RS.hexN (s.toList.take k)) ∧ Hid (RS.hexOk (s.toList.take k) = true) ∧ 0 ≤ RS.hexN (s.toList.take k) ∧ RS.hexN (s.toList.take k) ≤ 4294967295) (fun _ _ i => s.size - (intOf i).toNat)
    case atStart => exact ⟨0, by omega, rfl, rfl, rfl, rfl, by show (0 : Int) ≤ 0; omega, by show (0 : Int) ≤ 4294967295; omega⟩
    case round =>
      obtain ⟨k, hk, rfl, rfl, rfl, hok, hn0, hn1⟩ := hrel
      by_cases hlt : k < s.size
      · have hcell := HC.out k hlt
        have hc256 : s[k].toNat < 256 := s[k].toNat_lt
        have hcs : (48 ≤ s[k].toNat ∧ s[k].toNat ≤ 57) ∨ (65 ≤ s[k].toNat ∧ s[k].toNat ≤ 70) ∨ (97 ≤ s[k].toNat ∧ s[k].toNat ≤ 102) ∨ (71 ≤ s[k].toNat ∧ s[k].toNat ≤ 90) ∨ (103 ≤ s[k].toNat ∧ s[k].toNat ≤ 122) ∨ s[k].toNat = 95 ∨ s[k].toNat < 48 ∨ (58 ≤ s[k].toNat ∧ s[k].toNat ≤ 64) ∨ (91 ≤ s[k].toNat ∧ s[k].toNat ≤ 94) ∨ (96 ≤ s[k].toNat ∧ s[k].toNat ≤ 96) ∨ 123 ≤ s[k].toNat := by omega
        rcases hcs with ⟨h1, h2⟩ | ⟨h1, h2⟩ | ⟨h1, h2⟩ | ⟨h1, h2⟩ | ⟨h1, h2⟩ | h1 | h1 | ⟨h1, h2⟩ | ⟨h1, h2⟩ | ⟨h1, h2⟩ | h1
        · have hdg : RS.dig s[k].toNat = some ((s[k].toNat : Int) - 48) := by unfold RS.dig; rw [if_pos ⟨h1, h2⟩]
          have hsn : Hid (s.toList.take (k + 1) = s.toList.take k ++ [s[k]]) := take_snoc s k hlt
          have hN : Hid (RS.hexN (s.toList.take (k + 1)) = 16 * RS.hexN (s.toList.take k) + ((s[k].toNat : Int) - 48)) := by show _ = _; rw [hsn.out, hexN_snoc, hdg]
          have hO : Hid (RS.hexOk (s.toList.take (k + 1)) = true) := by show _ = _; rw [hsn.out, hexOk_snoc, hok.out, hdg]; rfl
          clear hdg
          by_cases hfit : 16 * RS.hexN (s.toList.take k) + ((s[k].toNat : Int) - 48) ≤ 4294967295
          · go_wp2_with fail
            go_round
            case rel => exact ⟨k + 1, by omega, by go_num, rfl, by rw [hN.out]; congr 1; omega, hO, by rw [hN.out]; omega, by rw [hN.out]; omega⟩
            case measure => simp [intOf]; omega
          · have hlong : Hid (6 < s.toList.length) := by
              show 6 < s.toList.length
              rw [toList_length]
              rcases Nat.lt_or_ge k 6 with hk6 | hk6
              · exfalso
                have := (hexN_bd 6 (s.toList.take (k + 1)) (by rw [List.length_take]; omega)).2
                rw [hN.out] at this
                have e : (16 : Int) ^ 6 = 16777216 := by decide
                omega
              · omega
            go_wp2_with fail
            go_ret2
            exact ⟨Or.inr (Or.inr ⟨rfl, hlong.out⟩), hb⟩
        · have hdg : RS.dig s[k].toNat = some ((s[k].toNat : Int) - 65 + 10) := by unfold RS.dig; rw [if_neg (by omega), if_neg (by omega), if_pos ⟨h1, h2⟩]
          have hsn : Hid (s.toList.take (k + 1) = s.toList.take k ++ [s[k]]) := take_snoc s k hlt
          have hN : Hid (RS.hexN (s.toList.take (k + 1)) = 16 * RS.hexN (s.toList.take k) + ((s[k].toNat : Int) - 65 + 10)) := by show _ = _; rw [hsn.out, hexN_snoc, hdg]
          have hO : Hid (RS.hexOk (s.toList.take (k + 1)) = true) := by show _ = _; rw [hsn.out, hexOk_snoc, hok.out, hdg]; rfl
          clear hdg
          by_cases hfit : 16 * RS.hexN (s.toList.take k) + ((s[k].toNat : Int) - 65 + 10) ≤ 4294967295
          · go_wp2_with (go_at_call 234; refine (lower_up _ _ (by omega) (by omega)).mono ?_; rintro e w' ⟨rfl, rfl⟩)
            go_round
            case rel => exact ⟨k + 1, by omega, by go_num, rfl, by rw [hN.out]; congr 1; omega, hO, by rw [hN.out]; omega, by rw [hN.out]; omega⟩
            case measure => simp [intOf]; omega
          · have hlong : Hid (6 < s.toList.length) := by
              show 6 < s.toList.length
              rw [toList_length]
              rcases Nat.lt_or_ge k 6 with hk6 | hk6
              · exfalso
                have := (hexN_bd 6 (s.toList.take (k + 1)) (by rw [List.length_take]; omega)).2
                rw [hN.out] at this
                have e : (16 : Int) ^ 6 = 16777216 := by decide
                omega
              · omega
            go_wp2_with (go_at_call 234; refine (lower_up _ _ (by omega) (by omega)).mono ?_; rintro e w' ⟨rfl, rfl⟩)
            go_ret2
            exact ⟨Or.inr (Or.inr ⟨rfl, hlong.out⟩), hb⟩
        · have hdg : RS.dig s[k].toNat = some ((s[k].toNat : Int) - 97 + 10) := by unfold RS.dig; rw [if_neg (by omega), if_pos ⟨h1, h2⟩]
          have hsn : Hid (s.toList.take (k + 1) = s.toList.take k ++ [s[k]]) := take_snoc s k hlt
          have hN : Hid (RS.hexN (s.toList.take (k + 1)) = 16 * RS.hexN (s.toList.take k) + ((s[k].toNat : Int) - 97 + 10)) := by show _ = _; rw [hsn.out, hexN_snoc, hdg]
          have hO : Hid (RS.hexOk (s.toList.take (k + 1)) = true) := by show _ = _; rw [hsn.out, hexOk_snoc, hok.out, hdg]; rfl
          clear hdg
          by_cases hfit : 16 * RS.hexN (s.toList.take k) + ((s[k].toNat : Int) - 97 + 10) ≤ 4294967295
          · go_wp2_with (go_at_call 234; refine (lower_lo _ _ (by omega) (by omega)).mono ?_; rintro e w' ⟨rfl, rfl⟩)
            go_round
            case rel => exact ⟨k + 1, by omega, by go_num, rfl, by rw [hN.out]; congr 1; omega, hO, by rw [hN.out]; omega, by rw [hN.out]; omega⟩
            case measure => simp [intOf]; omega
          · have hlong : Hid (6 < s.toList.length) := by
              show 6 < s.toList.length
              rw [toList_length]
              rcases Nat.lt_or_ge k 6 with hk6 | hk6
              · exfalso
                have := (hexN_bd 6 (s.toList.take (k + 1)) (by rw [List.length_take]; omega)).2
                rw [hN.out] at this
                have e : (16 : Int) ^ 6 = 16777216 := by decide
                omega
              · omega
            go_wp2_with (go_at_call 234; refine (lower_lo _ _ (by omega) (by omega)).mono ?_; rintro e w' ⟨rfl, rfl⟩)
            go_ret2
            exact ⟨Or.inr (Or.inr ⟨rfl, hlong.out⟩), hb⟩
        · have hdg : RS.dig s[k].toNat = none := by unfold RS.dig; rw [if_neg (by omega), if_neg (by omega), if_neg (by omega)]
          have hno : Hid (RS.hexOk s.toList = false) := hexOk_not (mem_bytes s k hlt) hdg
          clear hdg
          go_wp2_with (go_at_call 234; refine (lower_up _ _ (by omega) (by omega)).mono ?_; rintro e w' ⟨rfl, rfl⟩)
          go_ret2
          exact ⟨Or.inr (Or.inl ⟨rfl, hno.out⟩), hb⟩
        · have hdg : RS.dig s[k].toNat = none := by unfold RS.dig; rw [if_neg (by omega), if_neg (by omega), if_neg (by omega)]
          have hno : Hid (RS.hexOk s.toList = false) := hexOk_not (mem_bytes s k hlt) hdg
          clear hdg
          go_wp2_with (go_at_call 234; refine (lower_lo _ _ (by omega) (by omega)).mono ?_; rintro e w' ⟨rfl, rfl⟩)
          go_ret2
          exact ⟨Or.inr (Or.inl ⟨rfl, hno.out⟩), hb⟩
        · have hdg : RS.dig s[k].toNat = none := by unfold RS.dig; rw [if_neg (by omega), if_neg (by omega), if_neg (by omega)]
          have hno : Hid (RS.hexOk s.toList = false) := hexOk_not (mem_bytes s k hlt) hdg
          clear hdg
          rw [h1] at hcell
          clear h1 hc256
          go_wp2_with (go_at_call 234; refine (lower_us _).mono ?_; rintro e w' ⟨rfl, rfl⟩)
          go_ret2
          exact ⟨Or.inr (Or.inl ⟨rfl, hno.out⟩), hb⟩
        all_goals
          have hdg : RS.dig s[k].toNat = none := by unfold RS.dig; rw [if_neg (by omega), if_neg (by omega), if_neg (by omega)]
          have hno : Hid (RS.hexOk s.toList = false) := hexOk_not (mem_bytes s k hlt) hdg
          clear hdg
          obtain ⟨r, hr, hr2⟩ := low_no s[k] (by omega) (by omega)
          have HR : Hid (s[k].toNat ||| 32 = r) := hr
          clear hr
          rcases hr2 with hr2 | hr2
        all_goals
          go_wp2_with (go_at_call 234; refine (lower_eq _ _ r HR.out).mono ?_; rintro e w' ⟨rfl, rfl⟩)
          go_ret2
          exact ⟨Or.inr (Or.inl ⟨rfl, hno.out⟩), hb⟩
      · have hall : s.toList.take k = s.toList := by rw [List.take_of_length_le (by rw [toList_length]; omega)]
        rw [hall] at hok hn0 hn1 ⊢
        clear hall
        go_wp2_with fail
        go_ret2
        exact ⟨Or.inl ⟨rfl, hok.out, hn1⟩, hb⟩
end Go.Proofs.YtodagkkjfipbgaaGreatDoor
