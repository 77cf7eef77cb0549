/- A class. -/
import Derived.Test.YtodagkkjfipbgaaGreatDoorH1toC2
import Derived.Test.YtodagkkjfipbgaaGreatDoorK4toK6
import Derived.Test.YtodagkkjfipbgaaGreatDoorJ6toK3
import Derived.Test.YtodagkkjfipbgaaGreatDoorQ5toK2
import Derived.Test.YtodagkkjfipbgaaGreatDoorP2toQ1
import Derived.Test.YtodagkkjfipbgaaGreatDoorJ8toQ4
import Derived.Test.YtodagkkjfipbgaaGreatDoorQ2toQ3
import Derived.Test.YtodagkkjfipbgaaGreatDoorBtoP1
import Derived.Test.YtodagkkjfipbgaaGreatDoorUlone
import Derived.Test.YtodagkkjfipbgaaGreatDoorShlone
import Derived.Test.YtodagkkjfipbgaaGreatDoorV7toW5
import Derived.Test.YtodagkkjfipbgaaGreatDoorK9toJ9
import Derived.Test.YtodagkkjfipbgaaGreatDoorK7toL3
namespace Go.Proofs.YtodagkkjfipbgaaGreatDoor
open Go.RowKit

/-- Ranges, the one behind the other. -/
def PS.spansL (T : ByteArray) (k : Nat) : Nat → PS → List (Int × Int × Nat) → PS × List (Int × Int × Nat)
  | 0, s, l => (s, l)
  | g + 1, s, l => if s.tk T = [44] then PS.spansL T k g ((s.step T).span T l) (l ++ [((s.step T).spanX T, (s.step T).spanY T, k)]) else (s, l)
def PS.classN (T : ByteArray) (n : Nat) (s : PS) : PS := if n = 6 then s.fail T 6 else s
def PS.classA (T : ByteArray) (names : List ByteArray) (s : PS) : PS := (((s.classN T names.length).need T [wClass]).newName T names).need T [sgn 61]
def PS.classB (T : ByteArray) (names : List ByteArray) (l : List (Int × Int × Nat)) (s : PS) : PS × List (Int × Int × Nat) :=
  PS.spansL T names.length (T.size + 1) ((s.classA T names).span T l) (l ++ [((s.classA T names).spanX T, (s.classA T names).spanY T, names.length)])
def PS.klass (T : ByteArray) (names : List ByteArray) (l : List (Int × Int × Nat)) (s : PS) : PS := (s.classB T names l).1.need T [sgn 59]
def nameTok (T : ByteArray) (names : List ByteArray) (s : PS) : ByteArray := tokp T ((s.classN T names.length).need T [wClass]).p

theorem Fz.need {T : ByteArray} {s : PS} (h : Fz T s) (hp : s.p ≤ T.size) (L : List ByteArray) : Fz T (s.need T L) := by
  unfold PS.need; split
  · exact h.step hp
  · exact Fz.fail s _ _
theorem Fz.spanTo {T : ByteArray} {s : PS} (h : Fz T s) (hle : s.p ≤ T.size) : Fz T (s.spanTo T) := by
  have z1 := h.hex hle
  unfold PS.spanTo; split
  · exact (z1.step (hex_p hle).2.1).hex (nextp_le T _ (hex_p hle).2.1).1
  · exact z1
theorem Fz.span {T : ByteArray} {s : PS} (h : Fz T s) (hle : s.p ≤ T.size) (l : List (Int × Int × Nat)) : Fz T (s.span T l) := by
  unfold PS.span; split
  · exact h.spanTo hle
  · split
    · exact Fz.fail _ _ _
    · exact h.spanTo hle
theorem spanTo_p {T : ByteArray} {s : PS} (hle : s.p ≤ T.size) : s.p ≤ (s.spanTo T).p ∧ (s.spanTo T).p ≤ T.size ∧ (s.p < T.size → s.p < (s.spanTo T).p) := by
  have h1 := hex_p hle
  unfold PS.spanTo; split
  · have h2 := nextp_le T (s.hex T).p h1.2.1
    have e : ((s.hex T).step T).p = nextp T (s.hex T).p := rfl
    have h3 := hex_p (s := (s.hex T).step T) h2.1
    exact ⟨by omega, h3.2.1, fun h => by have := h1.2.2 h; omega⟩
  · exact h1
theorem span_p {T : ByteArray} {s : PS} (hle : s.p ≤ T.size) (l : List (Int × Int × Nat)) : s.p ≤ (s.span T l).p ∧ (s.span T l).p ≤ T.size ∧ (s.p < T.size → s.p < (s.span T l).p) := by
  have h1 := spanTo_p hle
  unfold PS.span; split
  · exact h1
  · split
    · exact ⟨hle, Nat.le_refl _, fun h => h⟩
    · exact h1
theorem Fz.fail' {T : ByteArray} (s : PS) (no : Int) : Fz T (s.fail T no) := fun _ => rfl
theorem Fz.if_ {T : ByteArray} {s : PS} (h : Fz T s) {c : Prop} [Decidable c] (no : Int) : Fz T (if c then s.fail T no else s) := by
  split
  · exact Fz.fail' s no
  · exact h
theorem Fz.if' {T : ByteArray} {s : PS} (h : Fz T s) {c : Prop} [Decidable c] (no : Int) : Fz T (if c then s else s.fail T no) := by
  split
  · exact h
  · exact Fz.fail' s no
theorem p_if {T : ByteArray} {s : PS} (h : s.p ≤ T.size) {c : Prop} [Decidable c] (no : Int) : (if c then s.fail T no else s).p ≤ T.size ∧ s.p ≤ (if c then s.fail T no else s).p := by
  split
  · exact ⟨Nat.le_refl _, h⟩
  · exact ⟨h, Nat.le_refl _⟩
theorem p_if' {T : ByteArray} {s : PS} (h : s.p ≤ T.size) {c : Prop} [Decidable c] (no : Int) : (if c then s else s.fail T no).p ≤ T.size ∧ s.p ≤ (if c then s else s.fail T no).p := by
  split
  · exact ⟨h, Nat.le_refl _⟩
  · exact ⟨Nat.le_refl _, h⟩
theorem need_p {T : ByteArray} {s : PS} (h : s.p ≤ T.size) (L : List ByteArray) : (s.need T L).p ≤ T.size ∧ s.p ≤ (s.need T L).p ∧ (s.p < T.size → s.p < (s.need T L).p) := by
  have := nextp_le T s.p h
  unfold PS.need; split
  · exact ⟨this.1, this.2.1, this.2.2⟩
  · exact ⟨Nat.le_refl _, h, fun h => h⟩
theorem newName_p {T : ByteArray} {s : PS} (h : s.p ≤ T.size) (names : List ByteArray) : (s.newName T names).p ≤ T.size ∧ s.p ≤ (s.newName T names).p := by
  have h1 : (s.nameA T).p ≤ T.size ∧ s.p ≤ (s.nameA T).p := p_if' h 2
  have h2 : ((s.nameA T).nameB T names (s.tk T)).p ≤ T.size ∧ (s.nameA T).p ≤ ((s.nameA T).nameB T names (s.tk T)).p := p_if h1.1 4
  have h3 := nextp_le T ((s.nameA T).nameB T names (s.tk T)).p h2.1
  have e : (s.newName T names).p = nextp T ((s.nameA T).nameB T names (s.tk T)).p := rfl
  omega
theorem Fz.newName {T : ByteArray} {s : PS} (h : Fz T s) (hp : s.p ≤ T.size) (names : List ByteArray) : Fz T (s.newName T names) := by
  have h1 : Fz T (s.nameA T) := h.if' 2
  have h2 : Fz T ((s.nameA T).nameB T names (s.tk T)) := h1.if_ 4
  have h3 : ((s.nameA T).nameB T names (s.tk T)).p ≤ T.size := (p_if (p_if' hp 2).1 4).1
  exact h2.step h3
theorem classA_fz {T : ByteArray} {s : PS} (h : Fz T s) (hp : s.p ≤ T.size) (names : List ByteArray) : Fz T (s.classA T names) ∧ (s.classA T names).p ≤ T.size ∧ s.p ≤ (s.classA T names).p ∧ (s.p < T.size → s.p < (s.classA T names).p) := by
  have a1 : Fz T (s.classN T names.length) := h.if_ 6
  have a2 : (s.classN T names.length).p ≤ T.size ∧ s.p ≤ (s.classN T names.length).p := p_if hp 6
  have b1 := a1.need a2.1 [wClass]
  have b2 := need_p a2.1 [wClass]
  have c1 := b1.newName b2.1 names
  have c2 := newName_p b2.1 names
  have d1 := c1.need c2.1 [sgn 61]
  have d2 := need_p c2.1 [sgn 61]
  have e : (s.classA T names).p = ((((s.classN T names.length).need T [wClass]).newName T names).need T [sgn 61]).p := rfl
  refine ⟨d1, d2.1, by omega, fun h => ?_⟩
  rcases Nat.lt_or_ge (s.classN T names.length).p T.size with h1 | h1
  · have := b2.2.2 h1; omega
  · omega

/-- What lies below base, and all blocks but those of the reader, of strings and of entries, are as they were. -/
def Fr (base : Nat) (w w' : World) : Prop := Below base w w' ∧ ∀ t, t ≠ 141 → t ≠ 9 → t ≠ 173 → Kp t w w'
theorem Fr.trans {base : Nat} {a b c : World} (h : Fr base a b) (k : Fr base b c) : Fr base a c := ⟨h.1.trans k.1, fun t h1 h2 h3 => (h.2 t h1 h2 h3).trans (k.2 t h1 h2 h3)⟩
theorem Fr.of_chg {base : Nat} {p : Nat → Prop} {w w' : World} (h : Chg p w w') (hb : base ≤ w.heap.size) (hp : ∀ k, p k → base ≤ k ∧ ∃ cs t m, w.heap[k]? = some (.cells cs t m) ∧ (t = 141 ∨ t = 9 ∨ t = 173)) : Fr base w w' := by
  refine ⟨h.below hb fun k hk hpk => by have := (hp k hpk).1; omega, fun t h1 h2 h3 k cs m hh => ?_⟩
  rw [h.block k (heap_lt hh) (fun hpk => ?_)]
  · exact hh
  · obtain ⟨_, cs', t', m', h4, h5⟩ := hp k hpk
    rw [hh] at h4
    simp at h4
    rcases h5 with h5 | h5 | h5
    · exact h1 (h4.2.1.trans h5)
    · exact h2 (h4.2.1.trans h5)
    · exact h3 (h4.2.1.trans h5)
theorem Fr.one {base b : Nat} {T : ByteArray} {vN vE vL : Value} {s : PS} {w w' : World} (h : RAt w b T vN vE vL s) (hc : Chg (fun k => k = b) w w') (hb : base ≤ w.heap.size) (hbb : base ≤ b) : Fr base w w' :=
  Fr.of_chg hc hb fun k e => by subst e; exact ⟨hbb, _, _, _, h.blk, Or.inl rfl⟩
theorem Fr.errs {base : Nat} {w w' : World} (h : Fr base w w') (hE : ErrsOk w) (hg : 6 < base ∧ 7 < base) : ErrsOk w' :=
  hE.on fun b o v hk hv => (h.1.cell (p := ⟨b, o, none⟩) (by simp only; rcases hk with rfl | rfl | rfl <;> omega)).trans hv

/-- The reader, its names, its table. -/
structure CAt (TR : World → Value → List (Int × Int × Nat) → Prop) (base b : Nat) (T : ByteArray) (names : List ByteArray) (vN vE vL : Value) (s : PS) (l : List (Int × Int × Nat)) (w : World) : Prop where
  rd : RAt w b T vN vE vL s
  row : w.ownsRow base 9 1 vN names.length (names.map .string)
  tr : TR w vE l
  errs : ErrsOk w
  fz : Fz T s
  hb : base ≤ b
  hg : 6 < base ∧ 7 < base
theorem CAt.sz {TR : World → Value → List (Int × Int × Nat) → Prop} {base b : Nat} {T : ByteArray} {names : List ByteArray} {vN vE vL : Value} {s : PS} {l : List (Int × Int × Nat)} {w : World} (h : CAt TR base b T names vN vE vL s l w) : base ≤ w.heap.size := by
  have := h.rd.lt; have := h.hb; omega
/-- The reader alone has gone on. -/
theorem CAt.on {TR : World → Value → List (Int × Int × Nat) → Prop} {base b : Nat} {T : ByteArray} {names : List ByteArray} {vN vE vL : Value} {s s' : PS} {l : List (Int × Int × Nat)} {w w' : World} (hTR : AddOk base TR) (h : CAt TR base b T names vN vE vL s l w) (hr : RAt w' b T vN vE vL s') (hc : Chg (fun k => k = b) w w') (hz : Fz T s') :
    CAt TR base b T names vN vE vL s' l w' ∧ Fr base w w' := by
  have hf := Fr.one h.rd hc h.sz h.hb
  exact ⟨⟨hr, row_kp h.row (Kp.chg1 h.rd.blk hc (by decide)), hTR.keep _ _ _ _ h.tr (Kp.chg1 h.rd.blk hc (by decide)), hf.errs h.errs h.hg, hz, h.hb, h.hg⟩, hf⟩

theorem need_c {TR : World → Value → List (Int × Int × Nat) → Prop} {base : Nat} (hTR : AddOk base TR) (b : Nat) (T : ByteArray) (names : List ByteArray) (vN vE vL : Value) (s : PS) (l : List (Int × Int × Nat)) (L : List ByteArray) (w : World) (h : CAt TR base b T names vN vE vL s l w) (hL : L.length ≤ 100) (h1 : 1 ≤ L.length) (hne : ∀ x ∈ L, x.toList ≠ []) :
    Calls Tryz.prog 128 #[.pointer (some ⟨b, 0, none⟩), .slice (some ⟨w.heap.size, 0, none⟩) L.length L.length] (w.alloc (.cells (L.map .string).toArray 9)) fun r w' => (∃ x, r = .returned (.string x)) ∧ CAt TR base b T names vN vE vL (s.need T L) l w' ∧ Fr base w w' := by
  refine (need_new b T vN vE vL s L w h.rd hL h1 hne).mono ?_
  rintro r w' ⟨rfl, h1, h2⟩
  exact ⟨⟨_, rfl⟩, h.on hTR h1 h2 (h.fz.need h.rd.le L)⟩
theorem name_c {TR : World → Value → List (Int × Int × Nat) → Prop} {base : Nat} (hTR : AddOk base TR) (b : Nat) (T : ByteArray) (names : List ByteArray) (vN vE vL : Value) (s : PS) (l : List (Int × Int × Nat)) (w : World) (h : CAt TR base b T names vN vE vL s l w) (hl : names.length ≤ 100) :
    Calls Tryz.prog 129 #[.pointer (some ⟨b, 0, none⟩)] w fun r w' => r = .returned (.int .u8 names.length) ∧ ∃ vN', CAt TR base b T (names ++ [tokp T s.p]) vN' vE vL (s.newName T names) l w' ∧ Fr base w w' := by
  refine (newName_any base b T names vN vE vL s w h.rd h.row hl h.sz).mono ?_
  rintro r w' ⟨rfl, vN', h1, h2, h3⟩
  have hf : Fr base w w' := Fr.of_chg h3 h.sz fun k e => by
    rcases e with rfl | e
    · exact ⟨h.hb, _, _, _, h.rd.blk, Or.inl rfl⟩
    · obtain ⟨cs, hcs⟩ := row_type h.row k e
      exact ⟨(h.row.lt k e).1, _, _, _, hcs, Or.inr (Or.inl rfl)⟩
  refine ⟨rfl, vN', ⟨h1, by rw [List.length_append]; exact h2, hTR.keep _ _ _ _ h.tr ?_, hf.errs h.errs h.hg, h.fz.newName h.rd.le names, h.hb, h.hg⟩, hf⟩
  intro k cs m hh
  rw [h3.block k (heap_lt hh) (fun e => ?_)]
  · exact hh
  · rcases e with rfl | e
    · exact type_ne hh h.rd.blk (by decide) rfl
    · obtain ⟨cs', hcs⟩ := row_type h.row k e
      exact type_ne hh hcs (by decide) rfl
theorem span_c {TR : World → Value → List (Int × Int × Nat) → Prop} {base : Nat} (hTR : AddOk base TR) (b : Nat) (T : ByteArray) (names : List ByteArray) (vN vE vL : Value) (s : PS) (l : List (Int × Int × Nat)) (k : Nat) (w : World) (h : CAt TR base b T names vN vE vL s l w) (hl : l.length ≤ 2000) (hk : k < 256) :
    Calls Tryz.prog 130 #[.pointer (some ⟨b, 0, none⟩), .int .u8 k] w fun r w' => r = .returned (.tuple #[]) ∧ ∃ vE' l', CAt TR base b T names vN vE' vL (s.span T l) l' w' ∧ l'.length ≤ l.length + 1 ∧ ((s.span T l).f = 0 → l' = l ++ [(s.spanX T, s.spanY T, k)]) ∧ Fr base w w' := by
  have hgb : 6 < b ∧ 7 < b := by have := h.hg; have := h.hb; omega
  refine (span_any TR base hTR b T vN vE vL s l k w h.rd h.errs hgb h.tr hl hk h.fz h.sz).mono ?_
  rintro r w' ⟨rfl, vE', l', h1, h2, h3, h4, h5⟩
  have hf : Fr base w w' := Fr.of_chg h5 h.sz fun k e => by
    rcases e with rfl | e
    · exact ⟨h.hb, _, _, _, h.rd.blk, Or.inl rfl⟩
    · obtain ⟨cs, hcs⟩ := hTR.type _ _ _ k h.tr e
      exact ⟨hTR.low _ _ _ k h.tr e, _, _, _, hcs, Or.inr (Or.inr rfl)⟩
  refine ⟨rfl, vE', l', ⟨h1, row_kp h.row ?_, h2, hf.errs h.errs h.hg, h.fz.span h.rd.le l, h.hb, h.hg⟩, h3, h4, hf⟩
  intro k cs m hh
  rw [h5.block k (heap_lt hh) (fun e => ?_)]
  · exact hh
  · rcases e with rfl | e
    · exact type_ne hh h.rd.blk (by decide) rfl
    · obtain ⟨cs', hcs⟩ := hTR.type _ _ _ k h.tr e
      exact type_ne hh hcs (by decide) rfl

theorem cls_ne : ∀ x ∈ [wClass], x.toList ≠ [] := by
  intro x hx; simp at hx; subst hx; unfold wClass; rw [ByteArray.toList_eq]; simp
set_option maxRecDepth 100000 in
set_option maxHeartbeats 2000000 in
theorem pclass_any {TR : World → Value → List (Int × Int × Nat) → Prop} {base : Nat} (hTR : AddOk base TR) (b : Nat) (T : ByteArray) (names : List ByteArray) (vN vE vL : Value) (s : PS) (l : List (Int × Int × Nat)) (w : World) (h : CAt TR base b T names vN vE vL s l w) (hnl : names.length ≤ 100) (hl : l.length ≤ s.p) (hp : s.p < T.size) :
    Calls Tryz.prog 77 #[.pointer (some ⟨b, 0, none⟩)] w fun r w' => r = .returned (.tuple #[]) ∧ ∃ vN' vE' l', CAt TR base b T (names ++ [nameTok T names s]) vN' vE' vL (s.klass T names l) l' w' ∧ l'.length ≤ (s.klass T names l).p ∧ ((s.klass T names l).f = 0 → l' = (s.classB T names l).2) ∧ Fr base w w' := by
  have HH : Hid (CAt TR base b T names vN vE vL s l w) := h
  have hT := h.rd.short
  have hle := h.rd.le
  have hA := classA_fz h.fz hle names
  obtain ⟨ao, cap, rfl⟩ := row_shape h.row
  have c3 := (pcells h.rd.blk).2.2.2.1
  clear h
  go_enter Tryz.func77, Tryz.ntmps77
  go_upto_if 8 with fail
  go_cut [] (fun wx => Hid (CAt TR base b T names (.slice ao names.length cap) vE vL (s.classN T names.length) l wx) ∧ Hid (Fr base w wx))
  case first =>
    by_cases h6 : names.length = 6
    · have k6 : ((names.length : Int) == 6) = true := by rw [beq_iff_eq]; omega
      have e : Hid (s.classN T names.length = s.fail T 6) := by show _ = _; unfold PS.classN; rw [if_pos h6]
      clear h6
      go_wp2_with fail
      refine (fail_ps b T (.slice ao names.length cap) vE vL s 6 w HH.out.rd).mono ?_
      rintro r w1 ⟨rfl, h1, c1⟩
      have H1 := HH.out.on hTR h1 c1 (Fz.fail' s 6)
      have H1' : Hid (CAt TR base b T names (.slice ao names.length cap) vE vL (s.fail T 6) l w1 ∧ Fr base w w1) := H1
      clear h1 H1
      go_wp2_with fail
      go_meet
      exact ⟨by rw [e.out]; exact H1'.out.1, H1'.out.2⟩
    · have k6 : ((names.length : Int) == 6) = false := by rw [beq_eq_false_iff_ne]; omega
      have e : Hid (s.classN T names.length = s) := by show _ = _; unfold PS.classN; rw [if_neg h6]
      clear h6
      go_wp2_with fail
      go_meet
      exact ⟨by rw [e.out]; exact HH, ⟨Below.refl _ _, fun t _ _ _ => Kp.refl _ _⟩⟩
  case rest =>
    obtain ⟨h1, f1⟩ := hcut
    obtain ⟨w1, hw1⟩ : ∃ w1, w1 = wc := ⟨wc, rfl⟩
    subst hw1
    clear c3
    go_wp2_with fail
    refine (need_c hTR b T names (.slice ao names.length cap) vE vL _ l [wClass] w1 h1.out (by decide) (by decide) cls_ne).mono ?_
    rintro r w2 ⟨⟨x, rfl⟩, h2, f2⟩
    have H2 : Hid (CAt TR base b T names (.slice ao names.length cap) vE vL ((s.classN T names.length).need T [wClass]) l w2) := h2
    have F2 : Hid (Fr base w w2) := f1.out.trans f2
    clear h2 f2 h1 f1
    go_wp2_with fail
    refine (name_c hTR b T names (.slice ao names.length cap) vE vL _ l w2 H2.out hnl).mono ?_
    rintro r w3 ⟨rfl, vN3, h3, f3⟩
    have H3 : Hid (CAt TR base b T (names ++ [nameTok T names s]) vN3 vE vL (((s.classN T names.length).need T [wClass]).newName T names) l w3) := h3
    have F3 : Hid (Fr base w w3) := F2.out.trans f3
    clear h3 f3 H2 F2
    go_wp2_with fail
    refine (need_c hTR b T _ vN3 vE vL _ l [sgn 61] w3 H3.out (by decide) (by decide) (sgn_ne _)).mono ?_
    rintro r w4 ⟨⟨x, rfl⟩, h4, f4⟩
    have H4 : Hid (CAt TR base b T (names ++ [nameTok T names s]) vN3 vE vL (s.classA T names) l w4) := h4
    have F4 : Hid (Fr base w w4) := F3.out.trans f4
    clear h4 f4 H3 F3
    go_wp2_with fail
    refine (span_c hTR b T _ vN3 vE vL (s.classA T names) l names.length w4 H4.out (by omega) (by omega)).mono ?_
    rintro r w5 ⟨rfl, vE5, l5, h5, l5l, l5e, f5⟩
    have H5 : Hid (CAt TR base b T (names ++ [nameTok T names s]) vN3 vE5 vL ((s.classA T names).span T l) l5 w5) := h5
    have F5 : Hid (Fr base w w5) := F4.out.trans f5
    have L5 : Hid (((s.classA T names).span T l).f = 0 → l5 = l ++ [((s.classA T names).spanX T, (s.classA T names).spanY T, names.length)]) := l5e
    have hsp := span_p hA.2.1 l
    have hAp := hA.2.2.2 hp
    clear h5 f5 l5e H4 F4
    go_wp2_with fail
    go_loopg [] (T.size + 1) (fun g wx => ∃ (s' : PS) (l' lm : List (Int × Int × Nat)) (vE' : Value), Hid (CAt TR base b T (names ++ [nameTok T names s]) vN3 vE' vL s' lm wx) ∧ Hid (Fr base w wx) ∧ Hid (s'.f = 0 → lm = l') ∧ Hid (PS.spansL T names.length g s' l' = s.classB T names l) ∧ T.size < s'.p + g ∧ lm.length ≤ s'.p)
    case atStart => exact ⟨_, _, l5, vE5, H5, F5, L5, rfl, by omega, by omega⟩
    case round =>
      obtain ⟨s', l', lm, vE', hC, hF, hL, hS, hg, hlm⟩ := hrel
      obtain ⟨w6, hw6⟩ : ∃ w6, w6 = wr := ⟨wr, rfl⟩
      subst hw6
      have hle' := hC.out.rd.le
      obtain ⟨g', hg'⟩ : ∃ g', gk = g' + 1 := ⟨gk - 1, by omega⟩
      subst hg'
      clear H5 F5 L5
      go_wp2_with fail
      refine (take_new b T vN3 vE' vL s' [sgn 44] w6 hC.out.rd (by decide) (by decide)).mono ?_
      rintro r w7 ⟨rfl, h7, c7⟩
      by_cases hm : s'.tk T = [44]
      · have hmm : memL [sgn 44] (s'.tk T) = true := by rw [memL_sgn]; simp [hm]
        have e1 : takenOf T [sgn 44] s'.p = tokp T s'.p := by unfold takenOf; rw [show memL _ (tokp T s'.p).toList = true from hmm]; rfl
        have e2 : s'.take T [sgn 44] = s'.step T := by unfold PS.take; rw [hmm]; rfl
        rw [e2] at h7
        rw [e1]
        have hlt := tk_lt hle' hm
        have hnx := nextp_le T s'.p hle'
        have h0 : s'.f = 0 := by
          rcases Classical.em (s'.f = 0) with h | h
          · exact h
          · have := hC.out.fz h; omega
        have hll := hL.out h0
        have H7 := hC.out.on hTR h7 c7 (hC.out.fz.step hle')
        have C7 : Hid (CAt TR base b T (names ++ [nameTok T names s]) vN3 vE' vL (s'.step T) lm w7) := H7.1
        have F7 : Hid (Fr base w w7) := hF.out.trans H7.2
        have e : Hid (PS.spansL T names.length g' ((s'.step T).span T l') (l' ++ [((s'.step T).spanX T, (s'.step T).spanY T, names.length)]) = s.classB T names l) := by show _ = _; rw [← hS.out, PS.spansL, if_pos hm]
        have HLL : Hid (lm = l') := hll
        have k1 : (tokp T s'.p).toList.isEmpty = false := by rw [show (tokp T s'.p).toList = [44] from hm]; rfl
        have hsp2 := span_p (s := s'.step T) hnx.1 lm
        have hst : (s'.step T).p = nextp T s'.p := rfl
        have hadv := hnx.2.2 hlt
        clear hm hmm e1 e2 h7 H7 h0 hll hC hF hL hS c7
        go_wp2_with fail
        refine (span_c hTR b T _ vN3 vE' vL (s'.step T) lm names.length w7 C7.out (by omega) (by omega)).mono ?_
        rintro r w8 ⟨rfl, vE8, l8, h8, l8l, l8e, f8⟩
        have H8 : Hid (CAt TR base b T (names ++ [nameTok T names s]) vN3 vE8 vL ((s'.step T).span T lm) l8 w8) := h8
        have F8 : Hid (Fr base w w8) := F7.out.trans f8
        have L8 : Hid (((s'.step T).span T lm).f = 0 → l8 = lm ++ [((s'.step T).spanX T, (s'.step T).spanY T, names.length)]) := l8e
        clear h8 f8 l8e
        go_wp2_with fail
        go_roundg g'
        case measure => omega
        case rel =>
          refine ⟨_, lm ++ [((s'.step T).spanX T, (s'.step T).spanY T, names.length)], l8, vE8, H8, F8, L8, ?_, by omega, by omega⟩
          rw [HLL.out]; exact e
      · have hmm : memL [sgn 44] (s'.tk T) = false := by rw [memL_sgn]; simp [hm]
        have e1 : takenOf T [sgn 44] s'.p = ⟨#[]⟩ := by unfold takenOf; rw [show memL _ (tokp T s'.p).toList = false from hmm]; rfl
        have e2 : s'.take T [sgn 44] = s' := by unfold PS.take; rw [hmm]; rfl
        rw [e2] at h7
        rw [e1]
        have H7 := hC.out.on hTR h7 c7 hC.out.fz
        have C7 : Hid (CAt TR base b T (names ++ [nameTok T names s]) vN3 vE' vL s' lm w7) := H7.1
        have F7 : Hid (Fr base w w7) := hF.out.trans H7.2
        have e : Hid (s.classB T names l = (s', l')) := by show _ = _; rw [← hS.out, PS.spansL, if_neg hm]
        clear hm hmm e1 e2 h7 H7 hC hF hS c7
        go_wp2_with fail
        refine (need_c hTR b T _ vN3 vE' vL s' lm [sgn 59] w7 C7.out (by decide) (by decide) (sgn_ne _)).mono ?_
        rintro r w8 ⟨⟨x, rfl⟩, h8, f8⟩
        have H8 : Hid (CAt TR base b T (names ++ [nameTok T names s]) vN3 vE' vL (s'.need T [sgn 59]) lm w8) := h8
        have F8 : Hid (Fr base w w8) := F7.out.trans f8
        clear h8 f8
        go_wp2_with fail
        go_end0
        have hnp := need_p hle' [sgn 59]
        have ec : s.klass T names l = s'.need T [sgn 59] := by unfold PS.klass; rw [e.out]
        refine ⟨rfl, vN3, vE', lm, by rw [ec]; exact H8.out, by rw [ec]; omega, fun h0 => ?_, F8.out⟩
        rw [e.out]
        refine hL.out ?_
        rw [ec] at h0
        unfold PS.need at h0
        split at h0
        · exact h0
        · unfold PS.fail PS.failAt pf at h0
          simp only at h0
          split at h0
          · omega
          · exact h0
end Go.Proofs.YtodagkkjfipbgaaGreatDoor
/- All classes and rules of a text, read. -/
namespace Go.Proofs.YtodagkkjfipbgaaGreatDoor
open Go.RowKit

/-- A fault that is there stays. -/
def Stk (s s' : PS) : Prop := s.f ≠ 0 → s'.f = s.f ∧ s'.pl = s.pl
theorem Stk.refl (s : PS) : Stk s s := fun _ => ⟨rfl, rfl⟩
theorem Stk.trans {a b c : PS} (h : Stk a b) (k : Stk b c) : Stk a c := fun e => by
  have h1 := h e
  have h2 := k (by rw [h1.1]; exact e)
  exact ⟨h2.1.trans h1.1, h2.2.trans h1.2⟩
theorem stk_failAt (T : ByteArray) (s : PS) (no at_ : Int) : Stk s (s.failAt T no at_) := fun e => by
  unfold PS.failAt pf pp; simp [e]
theorem stk_fail (T : ByteArray) (s : PS) (no : Int) : Stk s (s.fail T no) := stk_failAt T s no _
theorem stk_step (T : ByteArray) (s : PS) : Stk s (s.step T) := fun _ => ⟨rfl, rfl⟩
theorem stk_if (T : ByteArray) (s : PS) {c : Prop} [Decidable c] (no : Int) : Stk s (if c then s.fail T no else s) := by
  split
  · exact stk_fail T s no
  · exact Stk.refl s
theorem stk_if' (T : ByteArray) (s : PS) {c : Prop} [Decidable c] (no : Int) : Stk s (if c then s else s.fail T no) := by
  split
  · exact Stk.refl s
  · exact stk_fail T s no
theorem stk_need (T : ByteArray) (L : List ByteArray) (s : PS) : Stk s (s.need T L) := by
  unfold PS.need; split
  · exact stk_step T s
  · exact stk_fail T s 2
theorem stk_newName (T : ByteArray) (names : List ByteArray) (s : PS) : Stk s (s.newName T names) := by
  have h1 : Stk s (s.nameA T) := stk_if' T s 2
  have h2 : Stk (s.nameA T) ((s.nameA T).nameB T names (s.tk T)) := stk_if T _ 4
  exact (h1.trans h2).trans (stk_step T _)
theorem stk_hex (T : ByteArray) (s : PS) : Stk s (s.hex T) := by
  unfold PS.hex; split
  · exact stk_step T s
  · exact stk_fail T s _
theorem stk_spanTo (T : ByteArray) (s : PS) : Stk s (s.spanTo T) := by
  unfold PS.spanTo; split
  · exact ((stk_hex T s).trans (stk_step T _)).trans (stk_hex T _)
  · exact stk_hex T s
theorem stk_span (T : ByteArray) (l : List (Int × Int × Nat)) (s : PS) : Stk s (s.span T l) := by
  unfold PS.span; split
  · exact stk_spanTo T s
  · split
    · exact (stk_spanTo T s).trans (stk_failAt T _ _ _)
    · exact stk_spanTo T s
theorem stk_spansL (T : ByteArray) (k : Nat) : ∀ (g : Nat) (s : PS) (l : List (Int × Int × Nat)), Stk s (PS.spansL T k g s l).1 := by
  intro g
  induction g with
  | zero => intro s l; exact Stk.refl s
  | succ g ih =>
    intro s l
    rw [PS.spansL]
    split
    · exact ((stk_step T s).trans (stk_span T l _)).trans (ih _ _)
    · exact Stk.refl s
theorem stk_classA (T : ByteArray) (names : List ByteArray) (s : PS) : Stk s (s.classA T names) :=
  (((show Stk s (s.classN T names.length) from stk_if T s 6).trans (stk_need T _ _)).trans (stk_newName T names _)).trans (stk_need T _ _)
theorem stk_class (T : ByteArray) (names : List ByteArray) (l : List (Int × Int × Nat)) (s : PS) : Stk s (s.klass T names l) :=
  (((stk_classA T names s).trans (stk_span T l _)).trans (stk_spansL T names.length (T.size + 1) _ _)).trans (stk_need T _ _)
theorem class_six (T : ByteArray) (names : List ByteArray) (l : List (Int × Int × Nat)) (s : PS) (h : (s.klass T names l).f = 0) : names.length ≠ 6 := by
  intro e
  have h1 : (s.classN T names.length).f ≠ 0 := by
    unfold PS.classN; rw [if_pos e]
    unfold PS.fail PS.failAt pf
    simp only
    split
    · decide
    · assumption
  have h2 : Stk (s.classN T names.length) (s.klass T names l) :=
    ((((stk_need T _ _).trans (stk_newName T names _)).trans (stk_need T _ _)).trans (stk_span T l _)).trans ((stk_spansL T names.length (T.size + 1) _ _).trans (stk_need T _ _))
  have := (h2 h1).1
  rw [h] at this
  exact h1 this.symm
theorem class_p (T : ByteArray) (names : List ByteArray) (l : List (Int × Int × Nat)) (s : PS) (h : Fz T s) (hp : s.p ≤ T.size) : (s.klass T names l).p ≤ T.size ∧ s.p ≤ (s.klass T names l).p ∧ (s.p < T.size → s.p < (s.klass T names l).p) := by
  have hA := classA_fz h hp names
  have h1 := span_p hA.2.1 l
  have key : ∀ (g : Nat) (s : PS) (l : List (Int × Int × Nat)), s.p ≤ T.size → s.p ≤ (PS.spansL T names.length g s l).1.p ∧ (PS.spansL T names.length g s l).1.p ≤ T.size := by
    intro g
    induction g with
    | zero => intro s l h; exact ⟨Nat.le_refl _, h⟩
    | succ g ih =>
      intro s l h
      rw [PS.spansL]
      split
      · have h2 := nextp_le T s.p h
        have h3 := span_p (s := s.step T) h2.1 l
        have e : (s.step T).p = nextp T s.p := rfl
        have h4 := ih ((s.step T).span T l) (l ++ [((s.step T).spanX T, (s.step T).spanY T, names.length)]) h3.2.1
        exact ⟨by omega, h4.2⟩
      · exact ⟨Nat.le_refl _, h⟩
  have h2 := key (T.size + 1) ((s.classA T names).span T l) (l ++ [((s.classA T names).spanX T, (s.classA T names).spanY T, names.length)]) h1.2.1
  have h3 := need_p h2.2 [sgn 59]
  have e : s.klass T names l = (PS.spansL T names.length (T.size + 1) ((s.classA T names).span T l) (l ++ [((s.classA T names).spanX T, (s.classA T names).spanY T, names.length)])).1.need T [sgn 59] := rfl
  rw [e]
  exact ⟨h3.1, by omega, fun h => by have := hA.2.2.2 h; omega⟩

theorem Fz.one {T : ByteArray} {names : List ByteArray} {s : PS} (h : Fz T s) (hp : s.p ≤ T.size) : Fz T (s.one T names).1 := by
  have h1 : Fz T (s.known T names) := h.if' 3
  have p1 : (s.known T names).p ≤ T.size := (p_if' hp 3).1
  have h2 : Fz T ((s.known T names).many T) := h1.if_ 6
  have p2 : ((s.known T names).many T).p ≤ T.size := (p_if p1 6).1
  have h3 : Fz T ((s.known T names).many T).more := h2
  exact h3.step p2
/-- What a plain reader keeps besides. -/
def FGood (T : ByteArray) (P : PS → PS × Px) : Prop := ∀ s : PS, s.p ≤ T.size → Fz T s → Fz T (P s).1 ∧ Stk s (P s).1
theorem stk_one (T : ByteArray) (names : List ByteArray) (s : PS) : Stk s (s.one T names).1 := by
  have h1 : Stk s (s.known T names) := stk_if' T s 3
  have h2 : Stk (s.known T names) ((s.known T names).many T) := stk_if T _ 6
  have h3 : Stk ((s.known T names).many T) ((s.known T names).many T).more := fun _ => ⟨rfl, rfl⟩
  exact ((h1.trans h2).trans h3).trans (stk_step T _)
theorem fg_bracket (T : ByteArray) (sub : PS → PS × Px) (hs : PGood T sub) (hf : FGood T sub) (s : PS) (h : s.p ≤ T.size) (hz : Fz T s) : Fz T (s.bracket T sub).1 ∧ Stk s (s.bracket T sub).1 := by
  have h1 : Goes T s (s.nest T) := goes_if 6 h
  have z1 : Fz T (s.nest T) := hz.if_ 6
  have k1 : Stk s (s.nest T) := stk_if T s 6
  have h2 := adv_need T [sgn 40] (s.nest T) h1.2.2
  have z2 : Fz T (((s.nest T).need T [sgn 40]).inK) := z1.need h1.2.2 _
  have k2 : Stk (s.nest T) (((s.nest T).need T [sgn 40]).inK) := stk_need T _ _
  have h3 := hs (((s.nest T).need T [sgn 40]).inK) h2.1.2.2
  have h4 := hf (((s.nest T).need T [sgn 40]).inK) h2.1.2.2 z2
  have z5 : Fz T ((sub (((s.nest T).need T [sgn 40]).inK)).1.outK) := h4.1
  have k5 : Stk (((s.nest T).need T [sgn 40]).inK) ((sub (((s.nest T).need T [sgn 40]).inK)).1.outK) := h4.2
  exact ⟨z5.need h3.2.2.1 _, ((k1.trans k2).trans k5).trans (stk_need T _ _)⟩
theorem fg_atom (T : ByteArray) (names : List ByteArray) (sub : PS → PS × Px) (hs : PGood T sub) (hf : FGood T sub) (s : PS) (h : s.p ≤ T.size) (hz : Fz T s) : Fz T (s.atom T names sub).1 ∧ Stk s (s.atom T names sub).1 := by
  have h1 : Goes T s (s.atomOk T) := goes_if' 2 h
  have z1 : Fz T (s.atomOk T) := hz.if' 2
  have k1 : Stk s (s.atomOk T) := stk_if' T s 2
  unfold PS.atom
  split
  · have := fg_bracket T sub hs hf _ h1.2.2 z1
    exact ⟨this.1, k1.trans this.2⟩
  · exact ⟨z1.one h1.2.2, k1.trans (stk_one T names _)⟩
theorem fg_atom0 (T : ByteArray) (names : List ByteArray) (s : PS) (h : s.p ≤ T.size) (hz : Fz T s) : Fz T (s.atom T names (fun s => (s, rowP []))).1 ∧ Stk s (s.atom T names (fun s => (s, rowP []))).1 := by
  have h1 : Goes T s (s.atomOk T) := goes_if' 2 h
  have z1 : Fz T (s.atomOk T) := hz.if' 2
  have k1 : Stk s (s.atomOk T) := stk_if' T s 2
  unfold PS.atom
  split
  · have h2 : Goes T (s.atomOk T) ((s.atomOk T).nest T) := goes_if 6 h1.2.2
    have z2 : Fz T ((s.atomOk T).nest T) := z1.if_ 6
    have k2 : Stk (s.atomOk T) ((s.atomOk T).nest T) := stk_if T _ 6
    have h3 := adv_need T [sgn 40] ((s.atomOk T).nest T) h2.2.2
    have z3 : Fz T (((((s.atomOk T).nest T).need T [sgn 40]).inK).outK) := z2.need h2.2.2 _
    have k3 : Stk ((s.atomOk T).nest T) (((((s.atomOk T).nest T).need T [sgn 40]).inK).outK) := stk_need T _ _
    exact ⟨z3.need h3.1.2.2 _, ((k1.trans k2).trans k3).trans (stk_need T _ _)⟩
  · exact ⟨z1.one h1.2.2, k1.trans (stk_one T names _)⟩
theorem fg_partF (T : ByteArray) (s : PS) (q : PS × Px) (hq : q.1.p ≤ T.size) (h : Fz T q.1 ∧ Stk s q.1) : Fz T (PS.partF T q).1 ∧ Stk s (PS.partF T q).1 := by
  unfold PS.partF
  split
  · exact ⟨h.1.step hq, h.2.trans (stk_step T _)⟩
  · split
    · exact ⟨h.1.step hq, h.2.trans (stk_step T _)⟩
    · split
      · exact ⟨h.1.step hq, h.2.trans (stk_step T _)⟩
      · exact h
theorem fg_rowL (T : ByteArray) (P : PS → PS × Px) (hP : PGood T P) (hf : FGood T P) : ∀ (g : Nat) (s : PS) (l : List Px), s.p ≤ T.size → Fz T s → Fz T (PS.rowL T P g s l).1 ∧ Stk s (PS.rowL T P g s l).1 := by
  intro g
  induction g with
  | zero => intro s l _ h; exact ⟨h, Stk.refl s⟩
  | succ g ih =>
    intro s l hp h
    rw [PS.rowL]
    split
    · have h1 := hf s hp h
      have h2 := ih (P s).1 (l ++ [(P s).2]) (hP s hp).2.2.1 h1.1
      exact ⟨h2.1, h1.2.trans h2.2⟩
    · exact ⟨h, Stk.refl s⟩
theorem fg_row (T : ByteArray) (P : PS → PS × Px) (hP : PGood T P) (hf : FGood T P) : FGood T (PS.rowR T P) := fun s hp h => by
  have h1 := hf s hp h
  have h2 := fg_rowL T P hP hf (T.size + 1) (P s).1 [(P s).2] (hP s hp).2.2.1 h1.1
  exact ⟨h2.1, h1.2.trans h2.2⟩
theorem fg_exprL (T : ByteArray) (R : PS → PS × Px) (hR : PGood T R) (hf : FGood T R) : ∀ (g : Nat) (s : PS) (l : List Px), s.p ≤ T.size → Fz T s → Fz T (PS.exprL T R g s l).1 ∧ Stk s (PS.exprL T R g s l).1 := by
  intro g
  induction g with
  | zero => intro s l _ h; exact ⟨h, Stk.refl s⟩
  | succ g ih =>
    intro s l hp h
    rw [PS.exprL]
    split
    · have h0 := (adv_step T s hp).1.2.2
      have h1 := hf (s.step T) h0 (h.step hp)
      have h2 := ih (R (s.step T)).1 (l ++ [(R (s.step T)).2]) (hR (s.step T) h0).2.2.1 h1.1
      exact ⟨h2.1, ((stk_step T s).trans h1.2).trans h2.2⟩
    · exact ⟨h, Stk.refl s⟩
theorem fg_expr' (T : ByteArray) (R : PS → PS × Px) (hR : PGood T R) (hf : FGood T R) : FGood T (PS.exprR T R) := fun s hp h => by
  have h1 := hf s hp h
  have h2 := fg_exprL T R hR hf (T.size + 1) (R s).1 [(R s).2] (hR s hp).2.2.1 h1.1
  exact ⟨h2.1, h1.2.trans h2.2⟩
theorem fg_expr (T : ByteArray) (names : List ByteArray) : ∀ n, FGood T (PS.expr T names n) := by
  intro n
  induction n with
  | zero =>
    have g0 : PGood T (PS.partP T names (fun s => (s, rowP []))) := good_adv.2 fun s h => adv_partF T s _ (adv_atom0 T names s h)
    have f0 : FGood T (PS.partP T names (fun s => (s, rowP []))) := fun s hp h => fg_partF T s _ (adv_atom0 T names s hp).1.2.2 (fg_atom0 T names s hp h)
    exact fg_expr' T _ (good_row T _ g0) (fg_row T _ g0 f0)
  | succ n ih =>
    have g0 : PGood T (PS.partP T names (PS.expr T names n)) := good_part T names _ (good_expr T names n)
    have f0 : FGood T (PS.partP T names (PS.expr T names n)) := fun s hp h => fg_partF T s _ (adv_atom T names _ (good_expr T names n) s hp).1.2.2 (fg_atom T names _ (good_expr T names n) ih s hp h)
    exact fg_expr' T _ (good_row T _ g0) (fg_row T _ g0 f0)
theorem fg_side (T : ByteArray) (names : List ByteArray) (x : ByteArray) (s : PS) (hp : s.p ≤ T.size) (h : Fz T s) : Fz T (s.side T names x).1 ∧ Stk s (s.side T names x).1 := by
  unfold PS.side
  split
  · exact ⟨h, Stk.refl s⟩
  · exact fg_expr T names 5 s.zero hp h
theorem rule_good (T : ByteArray) (names : List ByteArray) (n : Nat) (s : PS) (hp : s.p ≤ T.size) (h : Fz T s) : Fz T (s.rule T names n) ∧ Stk s (s.rule T names n) ∧ (s.rule T names n).p ≤ T.size ∧ s.p ≤ (s.rule T names n).p ∧ (s.p < T.size → s.p < (s.rule T names n).p) := by
  have z1 : Fz T (s.ruleN T n) := h.if_ 6
  have k1 : Stk s (s.ruleN T n) := stk_if T s 6
  have p1 : (s.ruleN T n).p ≤ T.size ∧ s.p ≤ (s.ruleN T n).p := p_if hp 6
  have z2 := z1.need p1.1 [wCut, wJoin]
  have p2 := need_p p1.1 [wCut, wJoin]
  have f3 := fg_side T names (sgn 124) _ p2.1 z2
  have p3 := side_goes T names (sgn 124) _ p2.1
  have z4 := f3.1.need p3.2 [sgn 124]
  have p4 := need_p p3.2 [sgn 124]
  have f5 := fg_side T names (sgn 59) _ p4.1 z4
  have p5 := side_goes T names (sgn 59) _ p4.1
  have z6 := f5.1.need p5.2 [sgn 59]
  have p6 := need_p p5.2 [sgn 59]
  have e : s.rule T names n = ((((((s.ruleN T n).need T [wCut, wJoin]).side T names (sgn 124)).1.need T [sgn 124]).side T names (sgn 59)).1).need T [sgn 59] := rfl
  rw [e]
  refine ⟨z6, ((((k1.trans (stk_need T _ _)).trans f3.2).trans (stk_need T _ _)).trans f5.2).trans (stk_need T _ _), p6.1, by omega, fun hlt => ?_⟩
  rcases Nat.lt_or_ge (s.ruleN T n).p T.size with h1 | h1
  · have := p2.2.2 h1; omega
  · omega
end Go.Proofs.YtodagkkjfipbgaaGreatDoor
