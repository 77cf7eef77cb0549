/- A class's Name. -/
import Derived.Test.YtonooajnjgnmnaaGreatDoorH2
import Derived.Test.YtonooajnjgnmnaaGreatDoorK4toK5
namespace Go.Proofs.YtonooajnjgnmnaaGreatDoor
open Go.RowKit

def six : List ByteArray := [wClass, wCut, wJoin, wAny, wOther, wBad]
def PS.nameA (T : ByteArray) (s : PS) : PS := if (wordp T s.p && !memL six (s.tk T)) = true then s else s.fail T 2
def PS.nameB (T : ByteArray) (names : List ByteArray) (l : List UInt8) (s : PS) : PS := if 0 ≤ clsIx names l then s.fail T 4 else s
def PS.newName (T : ByteArray) (names : List ByteArray) (s : PS) : PS := ((s.nameA T).nameB T names (s.tk T)).step T
theorem pset_nm {w : World} {b : Nat} {T : ByteArray} {a e : Int} {vN vE vL : Value} {fault place : Int} (h : PBlk w b T a e vN vE vL fault place) (x : Value) : PBlk (w.setCell ⟨b, 3, none⟩ x) b T a e x vE vL fault place := (block_setCell h 3 _).trans rfl

set_option maxRecDepth 100000 in
set_option maxHeartbeats 2000000 in
theorem newName_any (base b : Nat) (T : ByteArray) (names : List ByteArray) (vN vE vL : Value) (s : PS) (w : World) (h : RAt w b T vN vE vL s) (hN : w.ownsRow base 9 1 vN names.length (names.map .string)) (hl : names.length ≤ 100) (hbase : base ≤ w.heap.size) :
    Calls Tryz.prog 32 #[.pointer (some ⟨b, 0, none⟩)] w fun r w' => r = .returned (.int .u8 names.length) ∧ ∃ vN', RAt w' b T vN' vE vL (s.newName T names) ∧ w'.ownsRow base 9 1 vN' (names.length + 1) ((names ++ [tokp T s.p]).map .string) ∧ Chg (fun k => k = b ∨ vN.ownBlock = some k) w w' := by
  have HH : Hid (RAt w b T vN vE vL s) := h
  have HN : Hid (w.ownsRow base 9 1 vN names.length (names.map .string)) := hN
  clear h hN
  go_enter Tryz.func32, Tryz.ntmps32
  go_wp2_with fail
  refine (now_ps b T vN vE vL s w HH.out).mono ?_
  rintro r w1 ⟨rfl, n, hw1⟩
  have b1 : Below w.heap.size w w1 := by rw [hw1]; exact bdrew (Below.refl _ _) n
  clear hw1
  have H1 : Hid (RAt w1 b T vN vE vL s) := HH.out.later b1
  obtain ⟨x, hx⟩ : ∃ x, x = tokp T s.p := ⟨_, rfl⟩
  rw [← hx]
  have HX : Hid (x = tokp T s.p) := hx
  clear hx
  go_wp2_with fail
  refine (isWordBut_new b T vN vE vL s six w1 H1.out (by decide) (by decide)).mono ?_
  rintro r w2 ⟨rfl, b2⟩
  have H2 : Hid (RAt w2 b T vN vE vL s) := H1.out.later b2
  have C2 : Hid (Chg (fun k => k = b) w w2) := (Chg.of_below b1).trans (Chg.of_below b2)
  clear H1 b1 b2
  obtain ⟨bw, hbw⟩ : ∃ bw, bw = (wordp T s.p && !memL six (s.tk T)) := ⟨_, rfl⟩
  rw [← hbw]
  have HBW : Hid (bw = (wordp T s.p && !memL six (s.tk T))) := hbw
  clear hbw
  go_upto_if 11 with fail
  go_cut [] (fun wx => Hid (RAt wx b T vN vE vL (s.nameA T)) ∧ Hid (Chg (fun k => k = b) w wx))
  case first =>
    cases hm : bw
    · have e : Hid (s.nameA T = s.fail T 2) := by show _ = _; unfold PS.nameA; rw [← HBW.out, hm]; rfl
      go_wp2_with fail
      refine (fail_ps b T vN vE vL s 2 w2 H2.out).mono ?_
      rintro r w3 ⟨rfl, h3, c3⟩
      have H3 : Hid (RAt w3 b T vN vE vL (s.fail T 2)) := h3
      clear h3
      go_wp2_with fail
      go_meet
      exact ⟨by rw [e.out]; exact H3, C2.out.trans c3⟩
    · have e : Hid (s.nameA T = s) := by show _ = _; unfold PS.nameA; rw [← HBW.out, hm]; rfl
      go_wp2_with fail
      go_meet
      exact ⟨by rw [e.out]; exact H2, C2⟩
  case rest =>
    obtain ⟨h3, c3⟩ := hcut
    obtain ⟨w3, hw3⟩ : ∃ w3, w3 = wc := ⟨wc, rfl⟩
    subst hw3
    clear H2 C2
    have N3 : Hid (w3.ownsRow base 9 1 vN names.length (names.map .string)) := row_kp HN.out (Kp.chg1 HH.out.blk c3.out (by decide))
    go_wp2_with fail
    refine (kindOf_any b base T (s.nameA T).p vN vE vL (s.nameA T).f (s.nameA T).pl names x w3 h3.out.blk N3.out hl).mono ?_
    rintro r w4 ⟨rfl, hw4⟩
    subst hw4
    obtain ⟨kn, hkn⟩ : ∃ kn, kn = decide (0 ≤ clsIx names x.toList) := ⟨_, rfl⟩
    rw [← hkn]
    obtain ⟨mx, hmx⟩ : ∃ mx, mx = max (clsIx names x.toList) 0 := ⟨_, rfl⟩
    rw [← hmx]
    have HKN : Hid (kn = decide (0 ≤ clsIx names (s.tk T))) := by show _ = _; rw [hkn, HX.out]; rfl
    clear hkn hmx
    obtain ⟨s4, hs4⟩ : ∃ s4, s4 = (s.nameA T).nameB T names (s.tk T) := ⟨_, rfl⟩
    have HS4 : Hid (s4 = (s.nameA T).nameB T names (s.tk T)) := hs4
    clear hs4
    go_upto_if 20 with fail
    go_cut [4, 5] (fun _ _ wx => Hid (RAt wx b T vN vE vL s4) ∧ Hid (Chg (fun k => k = b) w wx))
    case first =>
      cases hk : kn
      · have e : Hid (s4 = s.nameA T) := by show _ = _; rw [HS4.out]; unfold PS.nameB; rw [if_neg (by have := HKN.out; rw [hk] at this; simpa using this.symm)]
        go_wp2_with fail
        go_meet
        exact ⟨by rw [e.out]; exact h3, c3⟩
      · have e : Hid (s4 = (s.nameA T).fail T 4) := by show _ = _; rw [HS4.out]; unfold PS.nameB; rw [if_pos (by have := HKN.out; rw [hk] at this; simpa using this.symm)]
        go_wp2_with fail
        refine (fail_ps b T vN vE vL (s.nameA T) 4 w4 h3.out).mono ?_
        rintro r w5 ⟨rfl, h5, c5⟩
        have H5 : Hid (RAt w5 b T vN vE vL ((s.nameA T).fail T 4)) := h5
        clear h5
        go_wp2_with fail
        go_meet
        exact ⟨by rw [e.out]; exact H5, c3.out.trans c5⟩
    case rest =>
      obtain ⟨h5, c5⟩ := hcut
      obtain ⟨w5, hw5⟩ : ∃ w5, w5 = wc := ⟨wc, rfl⟩
      subst hw5
      have N5 : Hid (w5.ownsRow base 9 1 vN names.length (names.map .string)) := row_kp HN.out (Kp.chg1 HH.out.blk c5.out (by decide))
      obtain ⟨ao, cap, rfl⟩ := row_shape HN.out
      have d3 := (pcells h5.out.blk).2.2.2.1
      clear h3 c3 N3
      go_upto_region 8 with (at_builtin; go_loud (refine wpList_push2 rfl (.tmp 27) (.tmp 29) 30 rfl base 9 (.string ⟨#[]⟩) 1 16 Tryz.infoStr Tryz.undStr rfl (by decide) (.slice ao names.length cap) names.length (names.map .string) rfl (by exact N5.out.alloc _) w5.heap.size 1 [.string x] rfl rfl (by exact cell_new1 w5 (.string x) _) (by intro u hu; simp at hu; subst hu; rfl) (by omega) (by omega) (Nat.le_trans hbase (Nat.le_trans c5.out.size (below_alloc w5 _).size)) ?_); intro v' w6 hown hg hsn; obtain ⟨ao', cap', rfl⟩ := row_shape hown; have hbl := kept_grown h5.out.blk ((Kp.refl _ w5).alloc _) (N5.out.alloc _) hg (by decide); have e3 := (pcells hbl).2.2.2.1; have ef := free_of_block hbl)
      have h6 : RAt (w6.setCell ⟨b, 3, none⟩ (.slice ao' (names.length + 1) cap')) b T (.slice ao' (names.length + 1) cap') vE vL s4 := ⟨pset_nm hbl _, h5.out.le, h5.out.short⟩
      have N6 : Hid ((w6.setCell ⟨b, 3, none⟩ (.slice ao' (names.length + 1) cap')).ownsRow base 9 1 (.slice ao' (names.length + 1) cap') (names.length + 1) (names.map .string ++ [.string x])) := row_kp hown ((Kp.refl _ _).setCell hbl (by decide) _)
      have C6 : Hid (Chg (fun k => k = b ∨ Value.ownBlock (.slice ao names.length cap) = some k) w (w6.setCell ⟨b, 3, none⟩ (.slice ao' (names.length + 1) cap'))) := by
        have c1 : Chg (fun k => k = b ∨ Value.ownBlock (.slice ao names.length cap) = some k) w (w5.alloc (.cells #[.string x] 9)) := (c5.out.mono fun _ _ e => Or.inl e).alloc _
        exact (c1.grown hg fun k e => Or.inr (Or.inr e)).setCell (q := ⟨b, 3, none⟩) (Or.inr (Or.inl rfl)) _
      clear hown hg hsn hbl e3 ef d3
      go_wp2_with fail
      refine (step_ps b T (.slice ao' (names.length + 1) cap') vE vL s4 _ h6).mono ?_
      rintro r w7 ⟨rfl, h7, c7⟩
      have H7 : Hid (RAt w7 b T (.slice ao' (names.length + 1) cap') vE vL (s4.step T)) := h7
      have i3 := (pcells h7.blk).2.2.2.1
      have N7 : Hid (w7.ownsRow base 9 1 (.slice ao' (names.length + 1) cap') (names.length + 1) (names.map .string ++ [.string x])) := row_kp N6.out (Kp.chg1 h6.blk c7 (by decide))
      have C7 : Hid (Chg (fun k => k = b ∨ Value.ownBlock (.slice ao names.length cap) = some k) w w7) := C6.out.trans (c7.mono fun _ _ e => Or.inl e)
      clear h7 h6 c7 N6 C6
      go_wp2_with fail
      go_ret
      refine ⟨ret_int (by omega), _, by rw [show s.newName T names = s4.step T from by unfold PS.newName; rw [HS4.out]]; exact H7.out, ?_, C7.out⟩
      rw [List.map_append, ← HX.out]; exact N7.out
end Go.Proofs.YtonooajnjgnmnaaGreatDoor
/- A Range, given how the table of classes takes one. -/
namespace Go.Proofs.YtonooajnjgnmnaaGreatDoor
open Go.RowKit

theorem pset_en4 {w : World} {b : Nat} {T : ByteArray} {a e : Int} {vN vE vL : Value} {fault place : Int} (h : PBlk w b T a e vN vE vL fault place) (x : Value) : PBlk (w.setCell ⟨b, 4, none⟩ x) b T a e vN x vL fault place := (block_setCell h 4 _).trans rfl
/-- How the table of classes takes a span. TR: the value holds these spans, each with its class. -/
structure AddOk (base : Nat) (TR : World → Value → List (Int × Int × Nat) → Prop) : Prop where
  nil : ∀ w, TR w (.slice none 0 0) []
  shape : ∀ w v l, TR w v l → ∃ ao n cap, v = .slice ao n cap
  keep : ∀ w w' v l, TR w v l → Kp 110 w w' → TR w' v l
  type : ∀ w v l k, TR w v l → v.ownBlock = some k → ∃ cs, w.heap[k]? = some (.cells cs 110 (0, 0))
  low : ∀ w v l k, TR w v l → v.ownBlock = some k → base ≤ k
  add : ∀ (b : Nat) (T : ByteArray) (vN vE vL : Value) (s : PS) (l : List (Int × Int × Nat)) (x y : Int) (k : Nat) (w : World), RAt w b T vN vE vL s → TR w vE l → l.length ≤ 2000 → k < 256 → base ≤ w.heap.size →
    Calls Tryz.prog 44 #[.pointer (some ⟨b, 4, none⟩), .agg #[.int .i32 x, .int .i32 y], .int .u8 k] w fun r w' => r = .returned (.bool (!RS.badSpan x y (l.map fun o => (o.1, o.2.1, (o.2.2 : Int))))) ∧
      ∃ vE', RAt w' b T vN vE' vL s ∧ TR w' vE' (if RS.badSpan x y (l.map fun o => (o.1, o.2.1, (o.2.2 : Int))) = true then l else l ++ [(x, y, k)]) ∧ Chg (fun k => k = b ∨ vE.ownBlock = some k) w w'

def PS.dash (T : ByteArray) (s : PS) : Bool := memL [sgn 45] ((s.hex T).tk T)
def PS.spanTo (T : ByteArray) (s : PS) : PS := if s.dash T = true then ((s.hex T).step T).hex T else s.hex T
def PS.spanAt (T : ByteArray) (s : PS) : Int := if s.dash T = true then ((s.hex T).step T).p else s.p
def PS.spanX (T : ByteArray) (s : PS) : Int := RS.hexN (s.tk T)
def PS.spanY (T : ByteArray) (s : PS) : Int := if s.dash T = true then RS.hexN (((s.hex T).step T).tk T) else RS.hexN (s.tk T)
def spI (l : List (Int × Int × Nat)) : List (Int × Int × Int) := l.map fun o => (o.1, o.2.1, (o.2.2 : Int))
def PS.span (T : ByteArray) (l : List (Int × Int × Nat)) (s : PS) : PS :=
  if (s.spanTo T).f ≠ 0 then s.spanTo T else if RS.badSpan (s.spanX T) (s.spanY T) (spI l) = true then (s.spanTo T).failAt T 5 (s.spanAt T) else s.spanTo T
/-- Behind a fault the reader stands at the end. -/
def Fz (T : ByteArray) (s : PS) : Prop := s.f ≠ 0 → s.p = T.size
theorem Fz.fail {T : ByteArray} (s : PS) (no at_ : Int) : Fz T (s.failAt T no at_) := fun _ => rfl
theorem Fz.step {T : ByteArray} {s : PS} (h : Fz T s) (_ : s.p ≤ T.size) : Fz T (s.step T) := fun e => by
  have h1 : s.p = T.size := h e
  rw [step_end T s h1]; exact h1
theorem hexErr_nil : hexErr [] = 2 := by unfold hexErr; rw [if_pos (by simp)]
theorem Fz.hex {T : ByteArray} {s : PS} (h : Fz T s) (hp : s.p ≤ T.size) : Fz T (s.hex T) := by
  unfold PS.hex
  split
  · exact h.step hp
  · exact Fz.fail s _ _
theorem hex_f {T : ByteArray} {s : PS} (h0 : (s.hex T).f = 0) : s.f = 0 ∧ hexErr (s.tk T) = 0 := by
  unfold PS.hex at h0
  by_cases e : hexErr (s.tk T) = 0
  · rw [if_pos e] at h0
    exact ⟨h0, e⟩
  · rw [if_neg e] at h0
    exfalso
    unfold PS.fail PS.failAt pf at h0
    simp only at h0
    by_cases hf : s.f = 0
    · rw [if_pos hf] at h0; exact e h0
    · rw [if_neg hf] at h0; exact hf h0
theorem failAt_same {T : ByteArray} {s : PS} (h : s.f ≠ 0) (hp : s.p = T.size) (no at_ : Int) : s.failAt T no at_ = s := by
  unfold PS.failAt pf pp
  rw [if_neg h, if_neg h, ← hp]
theorem hex_p {T : ByteArray} {s : PS} (hp : s.p ≤ T.size) : s.p ≤ (s.hex T).p ∧ (s.hex T).p ≤ T.size ∧ (s.p < T.size → s.p < (s.hex T).p) := by
  unfold PS.hex
  split
  · have := nextp_le T s.p hp; exact ⟨this.2.1, this.1, this.2.2⟩
  · exact ⟨hp, Nat.le_refl _, fun h => h⟩

set_option maxRecDepth 100000 in
set_option maxHeartbeats 2000000 in
theorem span_any (TR : World → Value → List (Int × Int × Nat) → Prop) (base : Nat) (hTR : AddOk base TR) (b : Nat) (T : ByteArray) (vN vE vL : Value) (s : PS) (l : List (Int × Int × Nat)) (k : Nat) (w : World) (h : RAt w b T vN vE vL s) (hE : ErrsOk w) (hg : 0 < b ∧ 1 < b) (ht : TR w vE l) (hl : l.length ≤ 2000) (hk : k < 256) (hz : Fz T s) (hbase : base ≤ w.heap.size) :
    Calls Tryz.prog 33 #[.pointer (some ⟨b, 0, none⟩), .int .u8 k] w fun r w' => r = .returned (.tuple #[]) ∧ ∃ vE' l', RAt w' b T vN vE' vL (s.span T l) ∧ TR w' vE' l' ∧ l'.length ≤ l.length + 1 ∧ ((s.span T l).f = 0 → l' = l ++ [(s.spanX T, s.spanY T, k)]) ∧ Chg (fun k => k = b ∨ vE.ownBlock = some k) w w' := by
  have HH : Hid (RAt w b T vN vE vL s) := h
  have HE : Hid (ErrsOk w) := hE
  have HT : Hid (TR w vE l) := ht
  have HZ : Hid (Fz T s) := hz
  have c1 := (pcells h.blk).2.1
  clear h hE ht hz
  go_enter Tryz.func33, Tryz.ntmps33
  go_wp2_with fail
  refine (hex_ps b T vN vE vL s w HH.out HE.out).mono ?_
  rintro r w1 ⟨⟨x, rfl, hx⟩, h1, c1'⟩
  have H1 : Hid (RAt w1 b T vN vE vL (s.hex T)) := h1
  have HX : Hid (hexErr (s.tk T) = 0 → x = RS.hexN (s.tk T)) := hx
  have C1 : Hid (Chg (fun k => k = b) w w1) := c1'
  have E1 : Hid (ErrsOk w1) := HE.out.chg c1' ⟨by omega, by omega⟩
  clear h1 hx c1' c1
  go_wp2_with fail
  refine (take_new b T vN vE vL (s.hex T) [sgn 45] w1 H1.out (by decide) (by decide)).mono ?_
  rintro r w2 ⟨rfl, h2, c2⟩
  have C2 : Hid (Chg (fun k => k = b) w w2) := C1.out.trans c2
  have E2 : Hid (ErrsOk w2) := E1.out.chg c2 ⟨by omega, by omega⟩
  obtain ⟨st, hst⟩ : ∃ st, st = takenOf T [sgn 45] (s.hex T).p := ⟨_, rfl⟩
  rw [← hst]
  obtain ⟨be, hbe⟩ : ∃ be, st.toList.isEmpty = be := ⟨_, rfl⟩
  obtain ⟨s2, hs2⟩ : ∃ s2, s2 = (s.hex T).take T [sgn 45] := ⟨_, rfl⟩
  rw [← hs2] at h2
  have H2 : Hid (RAt w2 b T vN vE vL s2) := h2
  have HD : Hid ((s.dash T = true ∧ be = false ∧ s2 = (s.hex T).step T) ∨ (s.dash T = false ∧ be = true ∧ s2 = s.hex T)) := by
    show _ ∨ _
    rw [← hbe]
    cases hm : memL [sgn 45] ((s.hex T).tk T)
    · right
      refine ⟨hm, ?_, ?_⟩
      · rw [hst]; unfold takenOf; rw [show memL _ (tokp T (s.hex T).p).toList = false from hm, if_neg (by simp), ByteArray.toList_eq]; rfl
      · rw [hs2]; unfold PS.take; rw [hm]; rfl
    · left
      refine ⟨hm, ?_, ?_⟩
      · rw [hst]; unfold takenOf; rw [show memL _ (tokp T (s.hex T).p).toList = true from hm]
        simp only [if_true]
        rw [memL_sgn] at hm
        rw [decide_eq_true_eq] at hm
        rw [show (tokp T (s.hex T).p).toList = [45] from hm]; rfl
      · rw [hs2]; unfold PS.take; rw [hm]; rfl
  clear hst hs2 h2 c2 H1 E1 C1
  go_upto_if 17 with fail
  go_cut [4, 6] (fun av yv wx => ∃ y : Int, av = .int .i64 (s.spanAt T) ∧ yv = .int .i32 y ∧ Hid (RAt wx b T vN vE vL (s.spanTo T)) ∧ Hid (Chg (fun k => k = b) w wx) ∧ Hid ((s.spanTo T).f = 0 → x = s.spanX T ∧ y = s.spanY T))
  case first =>
    rcases HD.out with ⟨hd, rfl, e2⟩ | ⟨hd, rfl, e2⟩
    · have e3 : Hid (s.spanTo T = s2.hex T) := by show _ = _; unfold PS.spanTo; rw [hd, e2]; rfl
      have e4 : Hid (s.spanAt T = s2.p) := by show _ = _; unfold PS.spanAt; rw [hd, e2]; rfl
      have e5 : Hid (s.spanY T = RS.hexN (s2.tk T)) := by show _ = _; unfold PS.spanY; rw [hd, e2]; rfl
      have E2' : Hid (s2 = (s.hex T).step T) := e2
      have d1 := (pcells H2.out.blk).2.1
      clear hd e2
      go_wp2_with fail
      refine (hex_ps b T vN vE vL s2 w2 H2.out E2.out).mono ?_
      rintro r w3 ⟨⟨y, rfl, hy⟩, h3, c3⟩
      have H3 : Hid (RAt w3 b T vN vE vL (s2.hex T)) := h3
      have HY : Hid (hexErr (s2.tk T) = 0 → y = RS.hexN (s2.tk T)) := hy
      clear h3 hy
      go_wp2_with fail
      go_meet
      refine ⟨y, by rw [e4.out], rfl, by rw [e3.out]; exact H3, C2.out.trans c3, ?_⟩
      rw [e3.out, e5.out]
      intro h0
      have hle := HH.out.le
      have z1 := HZ.out.hex hle
      have z2 : Fz T s2 := by rw [E2'.out]; exact z1.step (hex_p hle).2.1
      have q := hex_f h0
      have q1 : (s.hex T).f = 0 := by have := q.1; rw [E2'.out] at this; exact this
      exact ⟨HX.out (hex_f q1).2, HY.out q.2⟩
    · have e3 : Hid (s.spanTo T = s.hex T) := by show _ = _; unfold PS.spanTo; rw [hd]; rfl
      have e4 : Hid (s.spanAt T = s.p) := by show _ = _; unfold PS.spanAt; rw [hd]; rfl
      have e5 : Hid (s.spanY T = RS.hexN (s.tk T)) := by show _ = _; unfold PS.spanY; rw [hd]; rfl
      have E2' : Hid (s2 = s.hex T) := e2
      clear hd e2
      go_wp2_with fail
      go_meet
      refine ⟨x, by rw [e4.out], rfl, by rw [e3.out, ← E2'.out]; exact H2, C2, ?_⟩
      rw [e3.out, e5.out]
      intro h0
      have := HX.out (hex_f h0).2
      exact ⟨this, this⟩
  case rest =>
    obtain ⟨y, rfl, rfl, h3, c3, hxy⟩ := hcut
    obtain ⟨w3, hw3⟩ : ∃ w3, w3 = wc := ⟨wc, rfl⟩
    subst hw3
    have T3 : Hid (TR w3 vE l) := hTR.keep _ _ _ _ HT.out (Kp.chg1 HH.out.blk c3.out (by decide))
    clear H2 C2 E2 HD
    obtain ⟨bs, hbs⟩ : ∃ bs, bs = RS.badSpan x y (spI l) := ⟨_, rfl⟩
    have HBS : Hid (bs = RS.badSpan x y (spI l)) := hbs
    have HA := hTR.add b T vN vE vL (s.spanTo T) l x y k w3 h3.out T3.out hl hk (Nat.le_trans hbase c3.out.size)
    rw [show (l.map fun o => (o.1, o.2.1, (o.2.2 : Int))) = spI l from rfl, ← hbs] at HA
    have HA' : Hid (Calls Tryz.prog 44 #[.pointer (some ⟨b, 4, none⟩), .agg #[.int .i32 x, .int .i32 y], .int .u8 k] w3 fun r w' => r = .returned (.bool (!bs)) ∧ ∃ vE', RAt w' b T vN vE' vL (s.spanTo T) ∧ TR w' vE' (if bs = true then l else l ++ [(x, y, k)]) ∧ Chg (fun k => k = b ∨ vE.ownBlock = some k) w3 w') := HA
    clear HA hbs
    go_wp2_with fail
    refine HA'.out.mono ?_
    rintro r w4 ⟨rfl, vE', h4, t4, c4⟩
    have H4 : Hid (RAt w4 b T vN vE' vL (s.spanTo T)) := h4
    have T4 : Hid (TR w4 vE' (if bs = true then l else l ++ [(x, y, k)])) := t4
    have C4 : Hid (Chg (fun k => k = b ∨ vE.ownBlock = some k) w w4) := (c3.out.mono fun _ _ e => Or.inl e).trans c4
    have hbE : Hid (∀ cs m, w4.heap[b]? = some (.cells cs 51 m) → True) := fun _ _ _ => trivial
    clear h4 t4 c4 HA'
    cases hb : bs
    · have e : Hid (s.span T l = s.spanTo T) := by
        show _ = _
        unfold PS.span
        split
        · rfl
        · rename_i h0
          have h0' : (s.spanTo T).f = 0 := by simpa using h0
          have := hxy.out h0'
          rw [if_neg (by rw [← this.1, ← this.2, ← HBS.out, hb]; simp)]
      rw [hb] at T4
      go_wp2_with fail
      go_end0
      refine ⟨rfl, vE', _, by rw [e.out]; exact H4.out, T4.out, by simp, fun h0 => ?_, C4.out⟩
      rw [e.out] at h0
      have := hxy.out h0
      simp [this.1, this.2]
    · have e : Hid (s.span T l = (s.spanTo T).failAt T 5 (s.spanAt T)) := by
        show _ = _
        unfold PS.span
        split
        · rename_i h0
          have hle := HH.out.le
          have z1 := HZ.out.hex hle
          have z2 : Fz T (s.spanTo T) := by
            unfold PS.spanTo; split
            · exact (z1.step (hex_p hle).2.1).hex (nextp_le T _ (hex_p hle).2.1).1
            · exact z1
          exact (failAt_same h0 (z2 h0) _ _).symm
        · rename_i h0
          have h0' : (s.spanTo T).f = 0 := by simpa using h0
          have := hxy.out h0'
          rw [if_pos (by rw [← this.1, ← this.2, ← HBS.out, hb])]
      rw [hb] at T4
      go_wp2_with fail
      refine (failAt_ps b T vN vE' vL (s.spanTo T) 5 (s.spanAt T) w4 H4.out).mono ?_
      rintro r w5 ⟨rfl, h5, c5⟩
      have H5 : Hid (RAt w5 b T vN vE' vL ((s.spanTo T).failAt T 5 (s.spanAt T))) := h5
      clear h5
      go_wp2_with fail
      go_end0
      refine ⟨rfl, vE', l, by rw [e.out]; exact H5.out, hTR.keep _ _ _ _ (by simpa using T4.out) (Kp.chg1 H4.out.blk c5 (by decide)), by omega, fun h0 => ?_, C4.out.trans (c5.mono fun _ _ e => Or.inl e)⟩
      exfalso
      rw [e.out] at h0
      unfold PS.failAt pf at h0
      simp only at h0
      split at h0
      · omega
      · rename_i hne; exact hne h0
end Go.Proofs.YtonooajnjgnmnaaGreatDoor
/- A class. -/
namespace Go.Proofs.YtonooajnjgnmnaaGreatDoor
open Go.RowKit

/-- Ranges, the one behind the other. -/
def PS.spansL (T : ByteArray) (k : Nat) : Nat → PS → List (Int × Int × Nat) → PS × List (Int × Int × Nat)
  | 0, s, l => (s, l)
  | g + 1, s, l => if s.tk T = [44] then PS.spansL T k g ((s.step T).span T l) (l ++ [((s.step T).spanX T, (s.step T).spanY T, k)]) else (s, l)
def PS.classN (T : ByteArray) (n : Nat) (s : PS) : PS := if n = 6 then s.fail T 6 else s
def PS.classA (T : ByteArray) (names : List ByteArray) (s : PS) : PS := (((s.classN T names.length).need T [wClass]).newName T names).need T [sgn 61]
def PS.classB (T : ByteArray) (names : List ByteArray) (l : List (Int × Int × Nat)) (s : PS) : PS × List (Int × Int × Nat) :=
  PS.spansL T names.length (T.size + 1) ((s.classA T names).span T l) (l ++ [((s.classA T names).spanX T, (s.classA T names).spanY T, names.length)])
def PS.klass (T : ByteArray) (names : List ByteArray) (l : List (Int × Int × Nat)) (s : PS) : PS := (s.classB T names l).1.need T [sgn 59]
def nameTok (T : ByteArray) (names : List ByteArray) (s : PS) : ByteArray := tokp T ((s.classN T names.length).need T [wClass]).p

theorem Fz.need {T : ByteArray} {s : PS} (h : Fz T s) (hp : s.p ≤ T.size) (L : List ByteArray) : Fz T (s.need T L) := by
  unfold PS.need; split
  · exact h.step hp
  · exact Fz.fail s _ _
theorem Fz.spanTo {T : ByteArray} {s : PS} (h : Fz T s) (hle : s.p ≤ T.size) : Fz T (s.spanTo T) := by
  have z1 := h.hex hle
  unfold PS.spanTo; split
  · exact (z1.step (hex_p hle).2.1).hex (nextp_le T _ (hex_p hle).2.1).1
  · exact z1
theorem Fz.span {T : ByteArray} {s : PS} (h : Fz T s) (hle : s.p ≤ T.size) (l : List (Int × Int × Nat)) : Fz T (s.span T l) := by
  unfold PS.span; split
  · exact h.spanTo hle
  · split
    · exact Fz.fail _ _ _
    · exact h.spanTo hle
theorem spanTo_p {T : ByteArray} {s : PS} (hle : s.p ≤ T.size) : s.p ≤ (s.spanTo T).p ∧ (s.spanTo T).p ≤ T.size ∧ (s.p < T.size → s.p < (s.spanTo T).p) := by
  have h1 := hex_p hle
  unfold PS.spanTo; split
  · have h2 := nextp_le T (s.hex T).p h1.2.1
    have e : ((s.hex T).step T).p = nextp T (s.hex T).p := rfl
    have h3 := hex_p (s := (s.hex T).step T) h2.1
    exact ⟨by omega, h3.2.1, fun h => by have := h1.2.2 h; omega⟩
  · exact h1
theorem span_p {T : ByteArray} {s : PS} (hle : s.p ≤ T.size) (l : List (Int × Int × Nat)) : s.p ≤ (s.span T l).p ∧ (s.span T l).p ≤ T.size ∧ (s.p < T.size → s.p < (s.span T l).p) := by
  have h1 := spanTo_p hle
  unfold PS.span; split
  · exact h1
  · split
    · exact ⟨hle, Nat.le_refl _, fun h => h⟩
    · exact h1
theorem Fz.fail' {T : ByteArray} (s : PS) (no : Int) : Fz T (s.fail T no) := fun _ => rfl
theorem Fz.if_ {T : ByteArray} {s : PS} (h : Fz T s) {c : Prop} [Decidable c] (no : Int) : Fz T (if c then s.fail T no else s) := by
  split
  · exact Fz.fail' s no
  · exact h
theorem Fz.if' {T : ByteArray} {s : PS} (h : Fz T s) {c : Prop} [Decidable c] (no : Int) : Fz T (if c then s else s.fail T no) := by
  split
  · exact h
  · exact Fz.fail' s no
theorem p_if {T : ByteArray} {s : PS} (h : s.p ≤ T.size) {c : Prop} [Decidable c] (no : Int) : (if c then s.fail T no else s).p ≤ T.size ∧ s.p ≤ (if c then s.fail T no else s).p := by
  split
  · exact ⟨Nat.le_refl _, h⟩
  · exact ⟨h, Nat.le_refl _⟩
theorem p_if' {T : ByteArray} {s : PS} (h : s.p ≤ T.size) {c : Prop} [Decidable c] (no : Int) : (if c then s else s.fail T no).p ≤ T.size ∧ s.p ≤ (if c then s else s.fail T no).p := by
  split
  · exact ⟨h, Nat.le_refl _⟩
  · exact ⟨Nat.le_refl _, h⟩
theorem need_p {T : ByteArray} {s : PS} (h : s.p ≤ T.size) (L : List ByteArray) : (s.need T L).p ≤ T.size ∧ s.p ≤ (s.need T L).p ∧ (s.p < T.size → s.p < (s.need T L).p) := by
  have := nextp_le T s.p h
  unfold PS.need; split
  · exact ⟨this.1, this.2.1, this.2.2⟩
  · exact ⟨Nat.le_refl _, h, fun h => h⟩
theorem newName_p {T : ByteArray} {s : PS} (h : s.p ≤ T.size) (names : List ByteArray) : (s.newName T names).p ≤ T.size ∧ s.p ≤ (s.newName T names).p := by
  have h1 : (s.nameA T).p ≤ T.size ∧ s.p ≤ (s.nameA T).p := p_if' h 2
  have h2 : ((s.nameA T).nameB T names (s.tk T)).p ≤ T.size ∧ (s.nameA T).p ≤ ((s.nameA T).nameB T names (s.tk T)).p := p_if h1.1 4
  have h3 := nextp_le T ((s.nameA T).nameB T names (s.tk T)).p h2.1
  have e : (s.newName T names).p = nextp T ((s.nameA T).nameB T names (s.tk T)).p := rfl
  omega
theorem Fz.newName {T : ByteArray} {s : PS} (h : Fz T s) (hp : s.p ≤ T.size) (names : List ByteArray) : Fz T (s.newName T names) := by
  have h1 : Fz T (s.nameA T) := h.if' 2
  have h2 : Fz T ((s.nameA T).nameB T names (s.tk T)) := h1.if_ 4
  have h3 : ((s.nameA T).nameB T names (s.tk T)).p ≤ T.size := (p_if (p_if' hp 2).1 4).1
  exact h2.step h3
theorem classA_fz {T : ByteArray} {s : PS} (h : Fz T s) (hp : s.p ≤ T.size) (names : List ByteArray) : Fz T (s.classA T names) ∧ (s.classA T names).p ≤ T.size ∧ s.p ≤ (s.classA T names).p ∧ (s.p < T.size → s.p < (s.classA T names).p) := by
  have a1 : Fz T (s.classN T names.length) := h.if_ 6
  have a2 : (s.classN T names.length).p ≤ T.size ∧ s.p ≤ (s.classN T names.length).p := p_if hp 6
  have b1 := a1.need a2.1 [wClass]
  have b2 := need_p a2.1 [wClass]
  have c1 := b1.newName b2.1 names
  have c2 := newName_p b2.1 names
  have d1 := c1.need c2.1 [sgn 61]
  have d2 := need_p c2.1 [sgn 61]
  have e : (s.classA T names).p = ((((s.classN T names.length).need T [wClass]).newName T names).need T [sgn 61]).p := rfl
  refine ⟨d1, d2.1, by omega, fun h => ?_⟩
  rcases Nat.lt_or_ge (s.classN T names.length).p T.size with h1 | h1
  · have := b2.2.2 h1; omega
  · omega

/-- What lies below base, and all blocks but those of the reader, of strings and of entries, are as they were. -/
def Fr (base : Nat) (w w' : World) : Prop := Below base w w' ∧ ∀ t, t ≠ 51 → t ≠ 9 → t ≠ 110 → Kp t w w'
theorem Fr.trans {base : Nat} {a b c : World} (h : Fr base a b) (k : Fr base b c) : Fr base a c := ⟨h.1.trans k.1, fun t h1 h2 h3 => (h.2 t h1 h2 h3).trans (k.2 t h1 h2 h3)⟩
theorem Fr.of_chg {base : Nat} {p : Nat → Prop} {w w' : World} (h : Chg p w w') (hb : base ≤ w.heap.size) (hp : ∀ k, p k → base ≤ k ∧ ∃ cs t m, w.heap[k]? = some (.cells cs t m) ∧ (t = 51 ∨ t = 9 ∨ t = 110)) : Fr base w w' := by
  refine ⟨h.below hb fun k hk hpk => by have := (hp k hpk).1; omega, fun t h1 h2 h3 k cs m hh => ?_⟩
  rw [h.block k (heap_lt hh) (fun hpk => ?_)]
  · exact hh
  · obtain ⟨_, cs', t', m', h4, h5⟩ := hp k hpk
    rw [hh] at h4
    simp at h4
    rcases h5 with h5 | h5 | h5
    · exact h1 (h4.2.1.trans h5)
    · exact h2 (h4.2.1.trans h5)
    · exact h3 (h4.2.1.trans h5)
theorem Fr.one {base b : Nat} {T : ByteArray} {vN vE vL : Value} {s : PS} {w w' : World} (h : RAt w b T vN vE vL s) (hc : Chg (fun k => k = b) w w') (hb : base ≤ w.heap.size) (hbb : base ≤ b) : Fr base w w' :=
  Fr.of_chg hc hb fun k e => by subst e; exact ⟨hbb, _, _, _, h.blk, Or.inl rfl⟩
theorem Fr.errs {base : Nat} {w w' : World} (h : Fr base w w') (hE : ErrsOk w) (hg : 0 < base ∧ 1 < base) : ErrsOk w' :=
  hE.on fun b o v hk hv => (h.1.cell (p := ⟨b, o, none⟩) (by rcases hk with rfl | rfl; exact hg.1; exact hg.2)).trans hv

/-- The reader, its names, its table. -/
structure CAt (TR : World → Value → List (Int × Int × Nat) → Prop) (base b : Nat) (T : ByteArray) (names : List ByteArray) (vN vE vL : Value) (s : PS) (l : List (Int × Int × Nat)) (w : World) : Prop where
  rd : RAt w b T vN vE vL s
  row : w.ownsRow base 9 1 vN names.length (names.map .string)
  tr : TR w vE l
  errs : ErrsOk w
  fz : Fz T s
  hb : base ≤ b
  hg : 0 < base ∧ 1 < base
theorem CAt.sz {TR : World → Value → List (Int × Int × Nat) → Prop} {base b : Nat} {T : ByteArray} {names : List ByteArray} {vN vE vL : Value} {s : PS} {l : List (Int × Int × Nat)} {w : World} (h : CAt TR base b T names vN vE vL s l w) : base ≤ w.heap.size := by
  have := h.rd.lt; have := h.hb; omega
/-- The reader alone has gone on. -/
theorem CAt.on {TR : World → Value → List (Int × Int × Nat) → Prop} {base b : Nat} {T : ByteArray} {names : List ByteArray} {vN vE vL : Value} {s s' : PS} {l : List (Int × Int × Nat)} {w w' : World} (hTR : AddOk base TR) (h : CAt TR base b T names vN vE vL s l w) (hr : RAt w' b T vN vE vL s') (hc : Chg (fun k => k = b) w w') (hz : Fz T s') :
    CAt TR base b T names vN vE vL s' l w' ∧ Fr base w w' := by
  have hf := Fr.one h.rd hc h.sz h.hb
  exact ⟨⟨hr, row_kp h.row (Kp.chg1 h.rd.blk hc (by decide)), hTR.keep _ _ _ _ h.tr (Kp.chg1 h.rd.blk hc (by decide)), hf.errs h.errs h.hg, hz, h.hb, h.hg⟩, hf⟩

theorem need_c {TR : World → Value → List (Int × Int × Nat) → Prop} {base : Nat} (hTR : AddOk base TR) (b : Nat) (T : ByteArray) (names : List ByteArray) (vN vE vL : Value) (s : PS) (l : List (Int × Int × Nat)) (L : List ByteArray) (w : World) (h : CAt TR base b T names vN vE vL s l w) (hL : L.length ≤ 100) (h1 : 1 ≤ L.length) (hne : ∀ x ∈ L, x.toList ≠ []) :
    Calls Tryz.prog 31 #[.pointer (some ⟨b, 0, none⟩), .slice (some ⟨w.heap.size, 0, none⟩) L.length L.length] (w.alloc (.cells (L.map .string).toArray 9)) fun r w' => (∃ x, r = .returned (.string x)) ∧ CAt TR base b T names vN vE vL (s.need T L) l w' ∧ Fr base w w' := by
  refine (need_new b T vN vE vL s L w h.rd hL h1 hne).mono ?_
  rintro r w' ⟨rfl, h1, h2⟩
  exact ⟨⟨_, rfl⟩, h.on hTR h1 h2 (h.fz.need h.rd.le L)⟩
theorem name_c {TR : World → Value → List (Int × Int × Nat) → Prop} {base : Nat} (hTR : AddOk base TR) (b : Nat) (T : ByteArray) (names : List ByteArray) (vN vE vL : Value) (s : PS) (l : List (Int × Int × Nat)) (w : World) (h : CAt TR base b T names vN vE vL s l w) (hl : names.length ≤ 100) :
    Calls Tryz.prog 32 #[.pointer (some ⟨b, 0, none⟩)] w fun r w' => r = .returned (.int .u8 names.length) ∧ ∃ vN', CAt TR base b T (names ++ [tokp T s.p]) vN' vE vL (s.newName T names) l w' ∧ Fr base w w' := by
  refine (newName_any base b T names vN vE vL s w h.rd h.row hl h.sz).mono ?_
  rintro r w' ⟨rfl, vN', h1, h2, h3⟩
  have hf : Fr base w w' := Fr.of_chg h3 h.sz fun k e => by
    rcases e with rfl | e
    · exact ⟨h.hb, _, _, _, h.rd.blk, Or.inl rfl⟩
    · obtain ⟨cs, hcs⟩ := row_type h.row k e
      exact ⟨(h.row.lt k e).1, _, _, _, hcs, Or.inr (Or.inl rfl)⟩
  refine ⟨rfl, vN', ⟨h1, by rw [List.length_append]; exact h2, hTR.keep _ _ _ _ h.tr ?_, hf.errs h.errs h.hg, h.fz.newName h.rd.le names, h.hb, h.hg⟩, hf⟩
  intro k cs m hh
  rw [h3.block k (heap_lt hh) (fun e => ?_)]
  · exact hh
  · rcases e with rfl | e
    · exact type_ne hh h.rd.blk (by decide) rfl
    · obtain ⟨cs', hcs⟩ := row_type h.row k e
      exact type_ne hh hcs (by decide) rfl
theorem span_c {TR : World → Value → List (Int × Int × Nat) → Prop} {base : Nat} (hTR : AddOk base TR) (b : Nat) (T : ByteArray) (names : List ByteArray) (vN vE vL : Value) (s : PS) (l : List (Int × Int × Nat)) (k : Nat) (w : World) (h : CAt TR base b T names vN vE vL s l w) (hl : l.length ≤ 2000) (hk : k < 256) :
    Calls Tryz.prog 33 #[.pointer (some ⟨b, 0, none⟩), .int .u8 k] w fun r w' => r = .returned (.tuple #[]) ∧ ∃ vE' l', CAt TR base b T names vN vE' vL (s.span T l) l' w' ∧ l'.length ≤ l.length + 1 ∧ ((s.span T l).f = 0 → l' = l ++ [(s.spanX T, s.spanY T, k)]) ∧ Fr base w w' := by
  have hgb : 0 < b ∧ 1 < b := by have := h.hg; have := h.hb; omega
  refine (span_any TR base hTR b T vN vE vL s l k w h.rd h.errs hgb h.tr hl hk h.fz h.sz).mono ?_
  rintro r w' ⟨rfl, vE', l', h1, h2, h3, h4, h5⟩
  have hf : Fr base w w' := Fr.of_chg h5 h.sz fun k e => by
    rcases e with rfl | e
    · exact ⟨h.hb, _, _, _, h.rd.blk, Or.inl rfl⟩
    · obtain ⟨cs, hcs⟩ := hTR.type _ _ _ k h.tr e
      exact ⟨hTR.low _ _ _ k h.tr e, _, _, _, hcs, Or.inr (Or.inr rfl)⟩
  refine ⟨rfl, vE', l', ⟨h1, row_kp h.row ?_, h2, hf.errs h.errs h.hg, h.fz.span h.rd.le l, h.hb, h.hg⟩, h3, h4, hf⟩
  intro k cs m hh
  rw [h5.block k (heap_lt hh) (fun e => ?_)]
  · exact hh
  · rcases e with rfl | e
    · exact type_ne hh h.rd.blk (by decide) rfl
    · obtain ⟨cs', hcs⟩ := hTR.type _ _ _ k h.tr e
      exact type_ne hh hcs (by decide) rfl

theorem cls_ne : ∀ x ∈ [wClass], x.toList ≠ [] := by
  intro x hx; simp at hx; subst hx; unfold wClass; rw [ByteArray.toList_eq]; simp
set_option maxRecDepth 100000 in
set_option maxHeartbeats 2000000 in
theorem pclass_any {TR : World → Value → List (Int × Int × Nat) → Prop} {base : Nat} (hTR : AddOk base TR) (b : Nat) (T : ByteArray) (names : List ByteArray) (vN vE vL : Value) (s : PS) (l : List (Int × Int × Nat)) (w : World) (h : CAt TR base b T names vN vE vL s l w) (hnl : names.length ≤ 100) (hl : l.length ≤ s.p) (hp : s.p < T.size) :
    Calls Tryz.prog 15 #[.pointer (some ⟨b, 0, none⟩)] w fun r w' => r = .returned (.tuple #[]) ∧ ∃ vN' vE' l', CAt TR base b T (names ++ [nameTok T names s]) vN' vE' vL (s.klass T names l) l' w' ∧ l'.length ≤ (s.klass T names l).p ∧ ((s.klass T names l).f = 0 → l' = (s.classB T names l).2) ∧ Fr base w w' := by
  have HH : Hid (CAt TR base b T names vN vE vL s l w) := h
  have hT := h.rd.short
  have hle := h.rd.le
  have hA := classA_fz h.fz hle names
  obtain ⟨ao, cap, rfl⟩ := row_shape h.row
  have c3 := (pcells h.rd.blk).2.2.2.1
  clear h
  go_enter Tryz.func15, Tryz.ntmps15
  go_upto_if 8 with fail
  go_cut [] (fun wx => Hid (CAt TR base b T names (.slice ao names.length cap) vE vL (s.classN T names.length) l wx) ∧ Hid (Fr base w wx))
  case first =>
    by_cases h6 : names.length = 6
    · have k6 : ((names.length : Int) == 6) = true := by rw [beq_iff_eq]; omega
      have e : Hid (s.classN T names.length = s.fail T 6) := by show _ = _; unfold PS.classN; rw [if_pos h6]
      clear h6
      go_wp2_with fail
      refine (fail_ps b T (.slice ao names.length cap) vE vL s 6 w HH.out.rd).mono ?_
      rintro r w1 ⟨rfl, h1, c1⟩
      have H1 := HH.out.on hTR h1 c1 (Fz.fail' s 6)
      have H1' : Hid (CAt TR base b T names (.slice ao names.length cap) vE vL (s.fail T 6) l w1 ∧ Fr base w w1) := H1
      clear h1 H1
      go_wp2_with fail
      go_meet
      exact ⟨by rw [e.out]; exact H1'.out.1, H1'.out.2⟩
    · have k6 : ((names.length : Int) == 6) = false := by rw [beq_eq_false_iff_ne]; omega
      have e : Hid (s.classN T names.length = s) := by show _ = _; unfold PS.classN; rw [if_neg h6]
      clear h6
      go_wp2_with fail
      go_meet
      exact ⟨by rw [e.out]; exact HH, ⟨Below.refl _ _, fun t _ _ _ => Kp.refl _ _⟩⟩
  case rest =>
    obtain ⟨h1, f1⟩ := hcut
    obtain ⟨w1, hw1⟩ : ∃ w1, w1 = wc := ⟨wc, rfl⟩
    subst hw1
    clear c3
    go_wp2_with fail
    refine (need_c hTR b T names (.slice ao names.length cap) vE vL _ l [wClass] w1 h1.out (by decide) (by decide) cls_ne).mono ?_
    rintro r w2 ⟨⟨x, rfl⟩, h2, f2⟩
    have H2 : Hid (CAt TR base b T names (.slice ao names.length cap) vE vL ((s.classN T names.length).need T [wClass]) l w2) := h2
    have F2 : Hid (Fr base w w2) := f1.out.trans f2
    clear h2 f2 h1 f1
    go_wp2_with fail
    refine (name_c hTR b T names (.slice ao names.length cap) vE vL _ l w2 H2.out hnl).mono ?_
    rintro r w3 ⟨rfl, vN3, h3, f3⟩
    have H3 : Hid (CAt TR base b T (names ++ [nameTok T names s]) vN3 vE vL (((s.classN T names.length).need T [wClass]).newName T names) l w3) := h3
    have F3 : Hid (Fr base w w3) := F2.out.trans f3
    clear h3 f3 H2 F2
    go_wp2_with fail
    refine (need_c hTR b T _ vN3 vE vL _ l [sgn 61] w3 H3.out (by decide) (by decide) (sgn_ne _)).mono ?_
    rintro r w4 ⟨⟨x, rfl⟩, h4, f4⟩
    have H4 : Hid (CAt TR base b T (names ++ [nameTok T names s]) vN3 vE vL (s.classA T names) l w4) := h4
    have F4 : Hid (Fr base w w4) := F3.out.trans f4
    clear h4 f4 H3 F3
    go_wp2_with fail
    refine (span_c hTR b T _ vN3 vE vL (s.classA T names) l names.length w4 H4.out (by omega) (by omega)).mono ?_
    rintro r w5 ⟨rfl, vE5, l5, h5, l5l, l5e, f5⟩
    have H5 : Hid (CAt TR base b T (names ++ [nameTok T names s]) vN3 vE5 vL ((s.classA T names).span T l) l5 w5) := h5
    have F5 : Hid (Fr base w w5) := F4.out.trans f5
    have L5 : Hid (((s.classA T names).span T l).f = 0 → l5 = l ++ [((s.classA T names).spanX T, (s.classA T names).spanY T, names.length)]) := l5e
    have hsp := span_p hA.2.1 l
    have hAp := hA.2.2.2 hp
    clear h5 f5 l5e H4 F4
    go_wp2_with fail
    go_loopg [] (T.size + 1) (fun g wx => ∃ (s' : PS) (l' lm : List (Int × Int × Nat)) (vE' : Value), Hid (CAt TR base b T (names ++ [nameTok T names s]) vN3 vE' vL s' lm wx) ∧ Hid (Fr base w wx) ∧ Hid (s'.f = 0 → lm = l') ∧ Hid (PS.spansL T names.length g s' l' = s.classB T names l) ∧ T.size < s'.p + g ∧ lm.length ≤ s'.p)
    case atStart => exact ⟨_, _, l5, vE5, H5, F5, L5, rfl, by omega, by omega⟩
    case round =>
      obtain ⟨s', l', lm, vE', hC, hF, hL, hS, hg, hlm⟩ := hrel
      obtain ⟨w6, hw6⟩ : ∃ w6, w6 = wr := ⟨wr, rfl⟩
      subst hw6
      have hle' := hC.out.rd.le
      obtain ⟨g', hg'⟩ : ∃ g', gk = g' + 1 := ⟨gk - 1, by omega⟩
      subst hg'
      clear H5 F5 L5
      go_wp2_with fail
      refine (take_new b T vN3 vE' vL s' [sgn 44] w6 hC.out.rd (by decide) (by decide)).mono ?_
      rintro r w7 ⟨rfl, h7, c7⟩
      by_cases hm : s'.tk T = [44]
      · have hmm : memL [sgn 44] (s'.tk T) = true := by rw [memL_sgn]; simp [hm]
        have e1 : takenOf T [sgn 44] s'.p = tokp T s'.p := by unfold takenOf; rw [show memL _ (tokp T s'.p).toList = true from hmm]; rfl
        have e2 : s'.take T [sgn 44] = s'.step T := by unfold PS.take; rw [hmm]; rfl
        rw [e2] at h7
        rw [e1]
        have hlt := tk_lt hle' hm
        have hnx := nextp_le T s'.p hle'
        have h0 : s'.f = 0 := by
          rcases Classical.em (s'.f = 0) with h | h
          · exact h
          · have := hC.out.fz h; omega
        have hll := hL.out h0
        have H7 := hC.out.on hTR h7 c7 (hC.out.fz.step hle')
        have C7 : Hid (CAt TR base b T (names ++ [nameTok T names s]) vN3 vE' vL (s'.step T) lm w7) := H7.1
        have F7 : Hid (Fr base w w7) := hF.out.trans H7.2
        have e : Hid (PS.spansL T names.length g' ((s'.step T).span T l') (l' ++ [((s'.step T).spanX T, (s'.step T).spanY T, names.length)]) = s.classB T names l) := by show _ = _; rw [← hS.out, PS.spansL, if_pos hm]
        have HLL : Hid (lm = l') := hll
        have k1 : (tokp T s'.p).toList.isEmpty = false := by rw [show (tokp T s'.p).toList = [44] from hm]; rfl
        have hsp2 := span_p (s := s'.step T) hnx.1 lm
        have hst : (s'.step T).p = nextp T s'.p := rfl
        have hadv := hnx.2.2 hlt
        clear hm hmm e1 e2 h7 H7 h0 hll hC hF hL hS c7
        go_wp2_with fail
        refine (span_c hTR b T _ vN3 vE' vL (s'.step T) lm names.length w7 C7.out (by omega) (by omega)).mono ?_
        rintro r w8 ⟨rfl, vE8, l8, h8, l8l, l8e, f8⟩
        have H8 : Hid (CAt TR base b T (names ++ [nameTok T names s]) vN3 vE8 vL ((s'.step T).span T lm) l8 w8) := h8
        have F8 : Hid (Fr base w w8) := F7.out.trans f8
        have L8 : Hid (((s'.step T).span T lm).f = 0 → l8 = lm ++ [((s'.step T).spanX T, (s'.step T).spanY T, names.length)]) := l8e
        clear h8 f8 l8e
        go_wp2_with fail
        go_roundg g'
        case measure => omega
        case rel =>
          refine ⟨_, lm ++ [((s'.step T).spanX T, (s'.step T).spanY T, names.length)], l8, vE8, H8, F8, L8, ?_, by omega, by omega⟩
          rw [HLL.out]; exact e
      · have hmm : memL [sgn 44] (s'.tk T) = false := by rw [memL_sgn]; simp [hm]
        have e1 : takenOf T [sgn 44] s'.p = ⟨#[]⟩ := by unfold takenOf; rw [show memL _ (tokp T s'.p).toList = false from hmm]; rfl
        have e2 : s'.take T [sgn 44] = s' := by unfold PS.take; rw [hmm]; rfl
        rw [e2] at h7
        rw [e1]
        have H7 := hC.out.on hTR h7 c7 hC.out.fz
        have C7 : Hid (CAt TR base b T (names ++ [nameTok T names s]) vN3 vE' vL s' lm w7) := H7.1
        have F7 : Hid (Fr base w w7) := hF.out.trans H7.2
        have e : Hid (s.classB T names l = (s', l')) := by show _ = _; rw [← hS.out, PS.spansL, if_neg hm]
        clear hm hmm e1 e2 h7 H7 hC hF hS c7
        go_wp2_with fail
        refine (need_c hTR b T _ vN3 vE' vL s' lm [sgn 59] w7 C7.out (by decide) (by decide) (sgn_ne _)).mono ?_
        rintro r w8 ⟨⟨x, rfl⟩, h8, f8⟩
        have H8 : Hid (CAt TR base b T (names ++ [nameTok T names s]) vN3 vE' vL (s'.need T [sgn 59]) lm w8) := h8
        have F8 : Hid (Fr base w w8) := F7.out.trans f8
        clear h8 f8
        go_wp2_with fail
        go_end0
        have hnp := need_p hle' [sgn 59]
        have ec : s.klass T names l = s'.need T [sgn 59] := by unfold PS.klass; rw [e.out]
        refine ⟨rfl, vN3, vE', lm, by rw [ec]; exact H8.out, by rw [ec]; omega, fun h0 => ?_, F8.out⟩
        rw [e.out]
        refine hL.out ?_
        rw [ec] at h0
        unfold PS.need at h0
        split at h0
        · exact h0
        · unfold PS.fail PS.failAt pf at h0
          simp only at h0
          split at h0
          · omega
          · exact h0
end Go.Proofs.YtonooajnjgnmnaaGreatDoor
