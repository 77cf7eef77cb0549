/- The program's plain reader and the reference's: they stand at the same word, or have the same fault. -/
import Derived.Test.YtodagkkjfipbgaaGreatDoorProg
import Derived.Deep.RegionLaw
import Derived.Deep.DeepCutAuto
import Derived.Deep.CutBlock
import Derived.Test.YtodagkkjfipbgaaGreatDoorC5toS
import Derived.Test.YtodagkkjfipbgaaGreatDoorV7toW5
import Derived.Test.YtodagkkjfipbgaaGreatDoorBtoP1
import Derived.Test.YtodagkkjfipbgaaGreatDoorC3toC4
import Derived.Test.YtodagkkjfipbgaaGreatDoorK9toJ9
import Derived.Test.YtodagkkjfipbgaaGreatDoorK7toL3
import Derived.Test.YtodagkkjfipbgaaGreatDoorP2toQ1
import Derived.Test.YtodagkkjfipbgaaGreatDoorK4toK6
import Derived.Test.YtodagkkjfipbgaaGreatDoorJ6toK3
import Derived.Test.YtodagkkjfipbgaaGreatDoorQ5toK2
import Derived.Test.YtodagkkjfipbgaaGreatDoorJ8toQ4
import Derived.Test.YtodagkkjfipbgaaGreatDoorQ2toQ3
import Derived.Test.YtodagkkjfipbgaaGreatDoorH1toC2
import Derived.Test.YtodagkkjfipbgaaGreatDoorUlone
import Derived.Test.YtodagkkjfipbgaaGreatDoorShlone
import Derived.Test.YtodagkkjfipbgaaGreatDoorV10toN19
import Derived.Test.YtodagkkjfipbgaaGreatDoorSh4lone
import Derived.Test.YtodagkkjfipbgaaGreatDoorD6toV9
import Derived.Test.YtodagkkjfipbgaaGreatDoorD1toD5
import Derived.Test.YtodagkkjfipbgaaGreatDoorSh2lone
import Derived.Test.YtodagkkjfipbgaaGreatDoorN17toV1
import Derived.Test.YtodagkkjfipbgaaGreatDoorN15toN16
import Derived.Test.YtodagkkjfipbgaaGreatDoorN13toN14
import Derived.Test.YtodagkkjfipbgaaGreatDoorN12lone
import Derived.Test.YtodagkkjfipbgaaGreatDoorN10toN11
import Derived.Test.YtodagkkjfipbgaaGreatDoorN9lone
import Derived.Test.YtodagkkjfipbgaaGreatDoorN1toN5
import Derived.Test.YtodagkkjfipbgaaGreatDoorJ10toJ11
import Derived.Test.YtodagkkjfipbgaaGreatDoorJ3toJ5
import Derived.Test.YtodagkkjfipbgaaGreatDoorJ2toJ7
import Derived.Test.YtodagkkjfipbgaaGreatDoorN8lone
import Derived.Test.YtodagkkjfipbgaaGreatDoorN6toN0
namespace Go.Proofs.YtodagkkjfipbgaaGreatDoor
open Go.RowKit

/-- Both stand at the same word, without a fault. -/
def Okz (T : ByteArray) (s : RS) (p : PS) : Prop := s.err = 0 ∧ p.f = 0 ∧ p.p = skip T s.at_ ∧ s.at_ ≤ T.size ∧ s.place = 0
/-- Both have the same fault. -/
def Badz (T : ByteArray) (s : RS) (p : PS) : Prop := s.err ≠ 0 ∧ p.f = s.err ∧ p.pl = s.place ∧ p.p = T.size
/-- The reference has a fault; the program will have it as soon as it asks for something. -/
def Pendz (T : ByteArray) (s : RS) (p : PS) : Prop := s.err = 2 ∧ p.f = 0 ∧ s.place = (p.p : Int) ∧ p.p < T.size ∧ memL [wClass, wCut, wJoin] (p.tk T) = true

theorem okz_tk {T : ByteArray} {s : RS} {p : PS} (h : Okz T s p) : s.tk T = p.tk T := by
  unfold RS.tk PS.tk tok tokp; rw [h.2.2.1]
theorem okz_pos {T : ByteArray} {s : RS} {p : PS} (h : Okz T s p) : (s.pos T : Int) = (p.p : Int) := by unfold RS.pos; rw [h.2.2.1]
theorem okz_le {T : ByteArray} {s : RS} {p : PS} (h : Okz T s p) : p.p ≤ T.size := by rw [h.2.2.1]; exact (skip_le T s.at_).2 h.2.2.2.1
theorem okz_take {T : ByteArray} {s : RS} {p : PS} (h : Okz T s p) : Okz T (s.take T) (p.step T) := by
  refine ⟨h.1, h.2.1, ?_, ?_, h.2.2.2.2⟩
  · show nextp T p.p = skip T (tokEnd T (skip T s.at_)); unfold nextp; rw [h.2.2.1]
  · exact (tokEnd_le T _).2.1 ((skip_le T s.at_).2 h.2.2.2.1)
theorem okz_peek {T : ByteArray} {s : RS} {p : PS} (h : Okz T s p) : Okz T (s.peek T) p :=
  ⟨h.1, h.2.1, by show p.p = skip T (skip T s.at_); rw [skip_skip]; exact h.2.2.1, (skip_le T s.at_).2 h.2.2.2.1, h.2.2.2.2⟩
/-- A fault where there was none. -/
theorem badz_fail {T : ByteArray} {s : RS} {p : PS} (h1 : s.err = 0) (h2 : p.f = 0) (e : Int) (he : e ≠ 0) (q : Int) (hq : q = p.p) : Badz T (s.fail e q) (p.fail T e) := by
  have e1 : (s.fail e q).err = e := by unfold RS.fail; rw [if_pos h1]
  have e2 : (s.fail e q).place = q := by unfold RS.fail; rw [if_pos h1]
  refine ⟨by rw [e1]; exact he, ?_, ?_, rfl⟩
  · rw [e1]; show pf p.f e = e; unfold pf; rw [if_pos h2]
  · rw [e2, hq]; show pp p.f p.p p.pl = _; unfold pp; rw [if_pos h2]
theorem rs_fail_same {s : RS} (h : s.err ≠ 0) (e q : Int) : s.fail e q = s := by unfold RS.fail; rw [if_neg h]
theorem badz_keep {T : ByteArray} {s s' : RS} {p p' : PS} (h : Badz T s p) (h1 : s'.err = s.err) (h2 : s'.place = s.place) (hs : Stk p p') (hz : Fz T p') : Badz T s' p' := by
  have hf : p.f ≠ 0 := by rw [h.2.1]; exact h.1
  have := hs hf
  exact ⟨by rw [h1]; exact h.1, by rw [this.1, h1]; exact h.2.1, by rw [this.2, h2]; exact h.2.2.1, hz (by rw [this.1]; exact hf)⟩
theorem badz_fz {T : ByteArray} {s : RS} {p : PS} (h : Badz T s p) : Fz T p := fun _ => h.2.2.2
theorem okz_fz {T : ByteArray} {s : RS} {p : PS} (h : Okz T s p) : Fz T p := fun e => absurd h.2.1 e
theorem badz_tk {T : ByteArray} {s : RS} {p : PS} (h : Badz T s p) : p.tk T = [] := by unfold PS.tk; rw [h.2.2.2]; exact tokp_end T

/-- What must stand there. -/
theorem okz_want {T : ByteArray} {s : RS} {p : PS} (h : Okz T s p) (c : UInt8) : (p.tk T = [c] ∧ s.want T [c] = s.take T ∧ Okz T (s.want T [c]) (p.need T [sgn c])) ∨ (p.tk T ≠ [c] ∧ Badz T (s.want T [c]) (p.need T [sgn c])) := by
  by_cases e : p.tk T = [c]
  · left
    have e1 : s.want T [c] = s.take T := by unfold RS.want; rw [okz_tk h, if_pos e]
    have e2 : p.need T [sgn c] = p.step T := by unfold PS.need; rw [memL_sgn, e]; simp
    exact ⟨e, e1, by rw [e1, e2]; exact okz_take h⟩
  · right
    have e1 : s.want T [c] = (s.take T).fail 2 (s.pos T) := by unfold RS.want; rw [okz_tk h, if_neg e]
    have e2 : p.need T [sgn c] = p.fail T 2 := by unfold PS.need; rw [memL_sgn]; simp [e]
    exact ⟨e, by rw [e1, e2]; exact badz_fail (s := s.take T) h.1 h.2.1 2 (by decide) _ (okz_pos h)⟩
/-- A keyword that stands where a sign must. -/
theorem pendz_need {T : ByteArray} {s : RS} {p : PS} (h : Pendz T s p) (c : UInt8) : Badz T s (p.need T [sgn c]) ∧ p.tk T ≠ [c] := by
  have hk := h.2.2.2.2
  rw [memL_iff] at hk
  have hne : p.tk T ≠ [c] := by
    intro e
    obtain ⟨x, hx, hx2⟩ := hk
    rw [e] at hx2
    simp at hx
    rcases hx with rfl | rfl | rfl
    · unfold wClass at hx2; rw [ByteArray.toList_eq] at hx2; simp at hx2
    · unfold wCut at hx2; rw [ByteArray.toList_eq] at hx2; simp at hx2
    · unfold wJoin at hx2; rw [ByteArray.toList_eq] at hx2; simp at hx2
  have e2 : p.need T [sgn c] = p.fail T 2 := by unfold PS.need; rw [memL_sgn]; simp [hne]
  refine ⟨?_, hne⟩
  rw [e2]
  refine ⟨by rw [h.1]; decide, ?_, ?_, rfl⟩
  · rw [h.1]; show pf p.f 2 = 2; unfold pf; rw [if_pos h.2.1]
  · rw [h.2.2.1]; show pp p.f p.p p.pl = _; unfold pp; rw [if_pos h.2.1]

/- A HEX. -/
theorem okz_hex {T : ByteArray} {s : RS} {p : PS} (h : Okz T s p) : (hexErr (p.tk T) = 0 ∧ s.hex T = s.take T ∧ Okz T (s.hex T) (p.hex T) ∧ RS.hexV (s.tk T) = RS.hexN (p.tk T)) ∨ (Badz T (s.hex T) (p.hex T)) := by
  have ht := okz_tk h
  have hq := okz_pos h
  by_cases e : hexErr (p.tk T) = 0
  · left
    have hb : ¬ (6 < (p.tk T).length ∨ RS.hexOk (p.tk T) = false ∨ p.tk T = []) := by
      intro hb; unfold hexErr at e; rw [if_pos hb] at e; omega
    have hn : ¬ 1114111 < RS.hexN (p.tk T) := by
      intro hn; unfold hexErr at e; rw [if_neg hb, if_pos hn] at e; omega
    have h6 : ¬ 6 < (p.tk T).length := fun h => hb (Or.inl h)
    have hok : RS.hexOk (p.tk T) = true ∧ p.tk T ≠ [] := by
      constructor
      · cases hh : RS.hexOk (p.tk T) with
        | true => rfl
        | false => exact absurd (Or.inr (Or.inl hh)) hb
      · intro hh; exact hb (Or.inr (Or.inr hh))
    have e1 : s.hex T = s.take T := by unfold RS.hex; simp only; rw [ht, if_neg h6, if_pos hok, if_neg hn]
    have e2 : p.hex T = p.step T := by unfold PS.hex; rw [if_pos e]
    refine ⟨e, e1, by rw [e1, e2]; exact okz_take h, ?_⟩
    unfold RS.hexV; rw [ht, if_neg h6]
  · right
    have e2 : p.hex T = p.fail T (hexErr (p.tk T)) := by unfold PS.hex; rw [if_neg e]
    have e1 : s.hex T = (s.take T).fail (hexErr (p.tk T)) (s.pos T) := by
      have hto : (s.take T).err = 0 := h.1
      unfold RS.hex hexErr
      simp only
      rw [ht]
      by_cases h6 : 6 < (p.tk T).length
      · rw [if_pos h6, if_pos (Or.inl h6)]
      · rw [if_neg h6]
        by_cases hk : RS.hexOk (p.tk T) = true ∧ p.tk T ≠ []
        · have hb : ¬ (6 < (p.tk T).length ∨ RS.hexOk (p.tk T) = false ∨ p.tk T = []) := by
            rintro (h | h | h)
            · exact h6 h
            · rw [hk.1] at h; cases h
            · exact hk.2 h
          rw [if_pos hk, if_neg hb]
          by_cases hn : 1114111 < RS.hexN (p.tk T)
          · rw [if_pos hn, if_pos hn]
          · exfalso; apply e; unfold hexErr; rw [if_neg hb, if_neg hn]
        · have hb : 6 < (p.tk T).length ∨ RS.hexOk (p.tk T) = false ∨ p.tk T = [] := by
            cases hh : RS.hexOk (p.tk T) with
            | false => exact Or.inr (Or.inl rfl)
            | true =>
              right; right
              rcases Classical.em (p.tk T = []) with h | h
              · exact h
              · exact absurd ⟨hh, h⟩ hk
          rw [if_neg hk, if_pos hb]
          split
          · exact rs_fail_same (by unfold RS.fail; rw [if_pos hto]; show (2 : Int) ≠ 0; decide) _ _
          · rfl
    rw [e1, e2]
    exact badz_fail (s := s.take T) h.1 h.2.1 _ e _ hq

/- A RANGE. -/
theorem badz_addSpan {T : ByteArray} {s : RS} {p : PS} (h : Badz T s p) (a b q : Int) : (s.addSpan a b q).err = s.err ∧ (s.addSpan a b q).place = s.place := by
  unfold RS.addSpan
  simp only
  split
  · rw [rs_fail_same h.1]; exact ⟨rfl, rfl⟩
  · exact ⟨rfl, rfl⟩
theorem addSpan_z {T : ByteArray} {s : RS} {p : PS} {l : List (Int × Int × Nat)} {k : Nat} (h : Okz T s p) (a b q : Int) (hs : s.spans = spI l) (hn : s.names.length = k + 1) :
    (RS.badSpan a b (spI l) = false ∧ Okz T (s.addSpan a b q) p ∧ (s.addSpan a b q).spans = spI (l ++ [(a, b, k)]) ∧ (s.addSpan a b q).names = s.names) ∨ (RS.badSpan a b (spI l) = true ∧ Badz T (s.addSpan a b q) (p.failAt T 5 q)) := by
  cases hb : RS.badSpan a b (spI l)
  · left
    have e : s.addSpan a b q = { s with spans := s.spans ++ [(a, b, (s.names.length : Int) - 1)] } := by unfold RS.addSpan; simp only; rw [hs, hb]; simp [hs]
    refine ⟨rfl, ?_, ?_, ?_⟩
    · rw [e]; exact h
    · rw [e]; show s.spans ++ _ = _; rw [hs]; unfold spI; rw [List.map_append, hn]; simp
    · rw [e]
  · right
    refine ⟨rfl, ?_⟩
    have e1 : (s.addSpan a b q).err = 5 ∧ (s.addSpan a b q).place = q := by unfold RS.addSpan; simp only; rw [hs, hb]; simp [RS.fail, h.1]
    refine ⟨by rw [e1.1]; decide, ?_, ?_, rfl⟩
    · rw [e1.1]; show pf p.f 5 = 5; unfold pf; rw [if_pos h.2.1]
    · rw [e1.2]; show pp p.f q p.pl = q; unfold pp; rw [if_pos h.2.1]
theorem hex_names (T : ByteArray) (s : RS) : (s.hex T).names = s.names ∧ (s.hex T).spans = s.spans ∧ (s.hex T).L = s.L := by
  have := hex_same T s; exact ⟨this.1, this.2.1, this.2.2.1⟩

theorem span_z {T : ByteArray} {s : RS} {p : PS} {l : List (Int × Int × Nat)} {k : Nat} (h : Okz T s p) (hs : s.spans = spI l) (hn : s.names.length = k + 1) :
    (Okz T (s.span T) (p.span T l) ∧ (s.span T).spans = spI (l ++ [(p.spanX T, p.spanY T, k)]) ∧ (s.span T).names = s.names) ∨ Badz T (s.span T) (p.span T l) := by
  have hle := okz_le h
  have hfz := okz_fz h
  rcases okz_hex h with ⟨e0, eh, h1, hv⟩ | hbad
  · have h1' := okz_peek h1
    have ht1 : ((s.hex T).peek T).tk T = (p.hex T).tk T := okz_tk h1'
    by_cases hd : (p.hex T).tk T = [45]
    · have hdash : p.dash T = true := by unfold PS.dash; rw [memL_sgn]; simp [hd]
      have es : s.span T = ((((s.hex T).peek T).take T).hex T).addSpan (RS.hexV (s.tk T)) (RS.hexV ((((s.hex T).peek T).take T).tk T)) ((((s.hex T).peek T).take T).pos T) := by
        unfold RS.span; simp only; rw [if_pos ⟨h1'.1, by rw [ht1]; exact hd⟩]
      have h2 := okz_take h1'
      have et : p.spanTo T = ((p.hex T).step T).hex T := by unfold PS.spanTo; rw [hdash]; rfl
      have ea : p.spanAt T = (((p.hex T).step T).p : Int) := by unfold PS.spanAt; rw [hdash]; rfl
      have ey : p.spanY T = RS.hexN (((p.hex T).step T).tk T) := by unfold PS.spanY; rw [hdash]; rfl
      rcases okz_hex h2 with ⟨e0', eh', h3, hv'⟩ | hbad
      · have hp0 : (p.spanTo T).f = 0 := by rw [et]; exact h3.2.1
        have hpos := okz_pos h2
        rw [es, hv, hv', hpos]
        have ex : p.spanX T = RS.hexN (p.tk T) := rfl
        have hsp : (((((s.hex T).peek T).take T).hex T)).spans = spI l := by rw [(hex_names T _).2.1]; show (s.hex T).spans = _; rw [(hex_names T s).2.1]; exact hs
        have hnm : (((((s.hex T).peek T).take T).hex T)).names = s.names := by rw [(hex_names T _).1]; show (s.hex T).names = _; exact (hex_names T s).1
        have hps : p.span T l = if RS.badSpan (p.spanX T) (p.spanY T) (spI l) = true then (p.spanTo T).failAt T 5 (p.spanAt T) else p.spanTo T := by
          unfold PS.span; rw [if_neg (by simpa using hp0)]
        have := addSpan_z (k := k) h3 (RS.hexN (p.tk T)) (RS.hexN (((p.hex T).step T).tk T)) (((p.hex T).step T).p : Int) hsp (by rw [hnm]; exact hn)
        rw [← ex, ← ey] at this ⊢
        rcases this with ⟨hb, a1, a2, a3⟩ | ⟨hb, a1⟩
        · left
          rw [hps, hb]
          refine ⟨?_, a2, by rw [a3, hnm]⟩
          simp only [Bool.false_eq_true, if_false]
          rw [et]; exact a1
        · right
          rw [hps, hb]
          simp only [if_true]
          rw [et, ea]; exact a1
      · right
        have hf : (p.spanTo T).f ≠ 0 := by rw [et, hbad.2.1]; exact hbad.1
        have hps : p.span T l = p.spanTo T := by unfold PS.span; rw [if_pos hf]
        rw [hps, et, es]
        have := badz_addSpan hbad (RS.hexV (s.tk T)) (RS.hexV ((((s.hex T).peek T).take T).tk T)) ((((s.hex T).peek T).take T).pos T)
        exact badz_keep hbad this.1 this.2 (Stk.refl _) (badz_fz hbad)
    · have hdash : p.dash T = false := by unfold PS.dash; rw [memL_sgn]; simp [hd]
      have es : s.span T = ((s.hex T).peek T).addSpan (RS.hexV (s.tk T)) (RS.hexV (s.tk T)) (s.pos T) := by
        unfold RS.span; simp only; rw [if_neg (fun hh => hd (by rw [← ht1]; exact hh.2))]
      have et : p.spanTo T = p.hex T := by unfold PS.spanTo; rw [hdash]; rfl
      have ea : p.spanAt T = (p.p : Int) := by unfold PS.spanAt; rw [hdash]; rfl
      have ey : p.spanY T = RS.hexN (p.tk T) := by unfold PS.spanY; rw [hdash]; rfl
      have ex : p.spanX T = RS.hexN (p.tk T) := rfl
      have hp0 : (p.spanTo T).f = 0 := by rw [et]; exact h1.2.1
      have hps : p.span T l = if RS.badSpan (p.spanX T) (p.spanY T) (spI l) = true then (p.spanTo T).failAt T 5 (p.spanAt T) else p.spanTo T := by
        unfold PS.span; rw [if_neg (by simpa using hp0)]
      have hsp : (((s.hex T).peek T)).spans = spI l := by show (s.hex T).spans = _; rw [(hex_names T s).2.1]; exact hs
      have hnm : (((s.hex T).peek T)).names = s.names := (hex_names T s).1
      have := addSpan_z (k := k) h1' (RS.hexN (p.tk T)) (RS.hexN (p.tk T)) (p.p : Int) hsp (by rw [hnm]; exact hn)
      rw [es, hv, okz_pos h]
      rw [hps, ex, ey, et, ea]
      rcases this with ⟨hb, a1, a2, a3⟩ | ⟨hb, a1⟩
      · left
        rw [hb]
        exact ⟨a1, a2, by rw [a3, hnm]⟩
      · right
        rw [hb]
        exact a1
  · right
    have hf : (p.hex T).f ≠ 0 := by rw [hbad.2.1]; exact hbad.1
    have hd : p.dash T = false := by unfold PS.dash; rw [badz_tk hbad, memL_sgn]; simp
    have et : p.spanTo T = p.hex T := by unfold PS.spanTo; rw [hd]; rfl
    have hps : p.span T l = p.hex T := by unfold PS.span; rw [et, if_pos hf]
    have es : s.span T = ((s.hex T).peek T).addSpan (RS.hexV (s.tk T)) (RS.hexV (s.tk T)) (s.pos T) := by
      unfold RS.span; simp only; rw [if_neg (fun hh => hbad.1 hh.1)]
    have hb2 : Badz T ((s.hex T).peek T) (p.hex T) := hbad
    have := badz_addSpan hb2 (RS.hexV (s.tk T)) (RS.hexV (s.tk T)) (s.pos T)
    rw [hps, es]
    exact badz_keep hb2 this.1 this.2 (Stk.refl _) (badz_fz hb2)
end Go.Proofs.YtodagkkjfipbgaaGreatDoor
namespace Go.Proofs.YtodagkkjfipbgaaGreatDoor
open Go.RowKit

/-- What the numbers of a span leave of the state. -/
def SpanQ (s s2 : RS) : Prop := s2.spans = s.spans ∧ s.at_ ≤ s2.at_ ∧ (s2.err = 0 → s.at_ < s2.at_)
theorem SpanQ.fail {s s2 : RS} (h : SpanQ s s2) (e p : Int) (he : e ≠ 0) : SpanQ s (s2.fail e p) := by
  obtain ⟨a, b, c⟩ := h
  have f := fail_same s2 e p
  exact ⟨by rw [f.2.1]; exact a, by rw [f.2.2.2.1]; exact b, fun e0 => absurd e0 (fail_err _ _ _ he)⟩
def bad0 (a t : Int) : Bool := decide (t < a) || (decide (a ≤ 57343) && decide (55296 ≤ t))
end Go.Proofs.YtodagkkjfipbgaaGreatDoor
namespace Go.Proofs.YtodagkkjfipbgaaGreatDoor
open Go.RowKit

/-- The numbers that a character's kinds can be. -/
def KNum (n : Nat) : Prop := n ∈ [0, 1, 2, 3, 4, 7, 8, 15, 16, 31, 32, 63, 64] ∨ n ∈ [127, 128, 255]
/-- What is asked of strconv.Itoa. -/
def ItoaOk : Prop := ∀ (n : Nat) (w : World), KNum n → TabOK w → 1 < w.heap.size → Calls Tryz.prog 39 #[.int .i64 n] w fun e w' => e = .returned (.string (itoaB n)) ∧ Below w.heap.size w w'

def bit (s : RS) : Nat := if s.err = 0 then 0 else 1
/-- What a method that reads a piece of an Expr leaves. -/
def PQ (K : Nat) (s : RS) (r : RS × Rx) : Prop :=
  r.1.names = s.names ∧ r.1.nest = s.nest ∧ s.at_ ≤ r.1.at_ ∧ (r.1.err = 0 → s.at_ < r.1.at_) ∧ r.2.form.size + 5 ≤ K * (r.1.at_ - s.at_ + bit r.1)
/-- The function fn reads as P does. -/
def Parses (T : ByteArray) (fn : Nat) (P : RS → RS × Rx) (K : Nat) (nst : Int) : Prop :=
  ∀ (base b : Nat) (s : RS) (w : World), RSt w base b T s → s.err = 0 → s.nest = nst →
    Calls Tryz.prog fn #[.pointer (some ⟨b, 0, none⟩)] w fun e w' => ∃ v d, e = .returned v ∧ RSt w' base b T (P s).1 ∧ IsRe d w' v (P s).2 ∧ RChg base w w' ∧ PQ K s (P s)

theorem leafErr_same (s : RS) (l : List UInt8) (p : Int) : (s.leafErr l p).names = s.names ∧ (s.leafErr l p).spans = s.spans ∧ (s.leafErr l p).L = s.L ∧ (s.leafErr l p).at_ = s.at_ ∧ (s.leafErr l p).atoms = s.atoms ∧ (s.leafErr l p).nest = s.nest := by
  unfold RS.leafErr; split
  · simp
  · split <;> exact fail_same _ _ _
end Go.Proofs.YtodagkkjfipbgaaGreatDoor
namespace Go.Proofs.YtodagkkjfipbgaaGreatDoor
open Go.RowKit

theorem RS.Ok.nest {T : ByteArray} {s : RS} (h : s.Ok T) (n : Int) (h1 : 0 ≤ n) (h2 : n ≤ 4) : ({ s with nest := n } : RS).Ok T := by
  obtain ⟨p1, p2, p3, p4, p5, p6, p7, p8, p9⟩ := h
  exact ⟨p1, p2, p3, p4, p5, p6, h1, h2, p9⟩
end Go.Proofs.YtodagkkjfipbgaaGreatDoor
/- Classes: both readers. -/
namespace Go.Proofs.YtodagkkjfipbgaaGreatDoor
open Go.RowKit

theorem spansL_stop {T : ByteArray} {k g : Nat} {p : PS} {l : List (Int × Int × Nat)} (h : p.tk T ≠ [44]) : PS.spansL T k g p l = (p, l) := by
  cases g with
  | zero => rfl
  | succ g => rw [PS.spansL, if_neg h]
theorem spans_z {T : ByteArray} {k : Nat} : ∀ (g : Nat) (s : RS) (p : PS) (l : List (Int × Int × Nat)) (g' : Nat), Okz T s p → s.spans = spI l → s.names.length = k + 1 → T.size < p.p + g → T.size < p.p + g' →
    (Okz T (RS.spansL T g s) ((PS.spansL T k g' (p.span T l) (l ++ [(p.spanX T, p.spanY T, k)])).1.need T [sgn 59]) ∧ (RS.spansL T g s).spans = spI (PS.spansL T k g' (p.span T l) (l ++ [(p.spanX T, p.spanY T, k)])).2 ∧ (RS.spansL T g s).names = s.names) ∨
    Badz T (RS.spansL T g s) ((PS.spansL T k g' (p.span T l) (l ++ [(p.spanX T, p.spanY T, k)])).1.need T [sgn 59]) := by
  intro g
  induction g with
  | zero => intro s p l g' h _ _ hg; have := okz_le h; omega
  | succ g ih =>
    intro s p l g' h hs hn hg hg'
    have hle := okz_le h
    have hsp := span_p hle l
    rw [RS.spansL, if_neg (by rw [h.1]; simp)]
    simp only
    rcases span_z h hs hn with ⟨h1, s1, n1⟩ | hbad
    · rw [if_neg (by rw [h1.1]; simp)]
      have ht := okz_tk h1
      by_cases e59 : (s.span T).tk T = [59]
      · rw [if_pos e59]
        have e : (p.span T l).tk T = [59] := by rw [← ht]; exact e59
        rw [spansL_stop (by rw [e]; decide)]
        left
        rcases okz_want h1 59 with ⟨_, w2, w3⟩ | ⟨w1, _⟩
        · rw [w2] at w3
          exact ⟨w3, s1, n1⟩
        · exact absurd e w1
      · rw [if_neg e59]
        by_cases e44 : (s.span T).tk T = [44]
        · rw [if_pos e44]
          have e : (p.span T l).tk T = [44] := by rw [← ht]; exact e44
          have hlt := tk_lt (okz_le h1) e
          have hnx := nextp_le T (p.span T l).p (okz_le h1)
          obtain ⟨g'', rfl⟩ : ∃ g'', g' = g'' + 1 := ⟨g' - 1, by omega⟩
          rw [PS.spansL, if_pos e]
          have hst : ((p.span T l).step T).p = nextp T (p.span T l).p := rfl
          have hadv := hnx.2.2 hlt
          have := ih ((s.span T).take T) ((p.span T l).step T) (l ++ [(p.spanX T, p.spanY T, k)]) g'' (okz_take h1) s1 (by show (s.span T).names.length = _; rw [n1]; exact hn) (by omega) (by omega)
          rcases this with ⟨a1, a2, a3⟩ | a1
          · left; exact ⟨a1, a2, by rw [a3]; exact n1⟩
          · right; exact a1
        · rw [if_neg e44]
          have e : (p.span T l).tk T ≠ [44] := by rw [← ht]; exact e44
          have e' : (p.span T l).tk T ≠ [59] := by rw [← ht]; exact e59
          rw [spansL_stop e]
          right
          have e2 : (p.span T l).need T [sgn 59] = (p.span T l).fail T 2 := by unfold PS.need; rw [memL_sgn]; simp [e']
          have hb := badz_fail (T := T) (s := (s.span T).take T) h1.1 h1.2.1 2 (by decide) ((s.span T).pos T : Int) (okz_pos h1)
          have e3 : RS.spansL T g (((s.span T).take T).fail 2 ((s.span T).pos T)) = ((s.span T).take T).fail 2 ((s.span T).pos T) := by
            cases g with
            | zero => rfl
            | succ g => rw [RS.spansL, if_pos hb.1]
          rw [e3, e2]; exact hb
    · right
      rw [if_pos hbad.1, spansL_stop (by rw [badz_tk hbad]; decide)]
      exact badz_keep hbad rfl rfl (stk_need T _ _) ((badz_fz hbad).need (by rw [hbad.2.2.2]; omega) _)

/- A NAME. -/
theorem tokp_head {T : ByteArray} {p : Nat} (h : p < T.size) : (tokp T p).toList ≠ [] ∧ ((tokp T p).toList.headD 0).toNat = at0 T p := by
  have h1 := (tokEnd_le T p).2.2 h
  have h2 := (tokEnd_le T p).2.1 (by omega)
  have hsz : 0 < (tokp T p).size := by unfold tokp; rw [ByteArray.size_extract]; omega
  constructor
  · intro e
    have : (tokp T p).toList.length = 0 := by rw [e]; rfl
    rw [ByteArray.toList_eq] at this
    simp at this
    have e2 : (tokp T p).size = (tokp T p).data.size := rfl
    rw [e2, this] at hsz
    simp at hsz
  · have e : ∀ (x : ByteArray) (hx : 0 < x.size), x = T.extract p (tokEnd T p) → x[0]'hx = T[p]'h := by
      intro x hx e; subst e; rw [ByteArray.getElem_extract]; simp
    rw [headD_bytes _ hsz, at0_eq h, e _ hsz rfl]
theorem nameL_word (T : ByteArray) (p : Nat) (hp : p ≤ T.size) : nameL (tokp T p).toList = (wordp T p && !memL six (tokp T p).toList) := by
  have hsix : memL six (tokp T p).toList = true ↔ ((tokp T p).toList = [99, 108, 97, 115, 115] ∨ (tokp T p).toList = [99, 117, 116] ∨ (tokp T p).toList = [106, 111, 105, 110] ∨ (tokp T p).toList = [97, 110, 121] ∨ (tokp T p).toList = [111, 116, 104, 101, 114] ∨ (tokp T p).toList = [98, 97, 100]) := by
    rw [memL_iff]
    unfold six wClass wCut wJoin wAny wOther wBad
    simp only [List.mem_cons, List.not_mem_nil, or_false]
    constructor
    · rintro ⟨x, (rfl | rfl | rfl | rfl | rfl | rfl), hx⟩ <;> rw [ByteArray.toList_eq] at hx <;> simp [← hx]
    · rintro (h | h | h | h | h | h)
      · exact ⟨_, Or.inl rfl, by rw [ByteArray.toList_eq]; exact h.symm⟩
      · exact ⟨_, Or.inr (Or.inl rfl), by rw [ByteArray.toList_eq]; exact h.symm⟩
      · exact ⟨_, Or.inr (Or.inr (Or.inl rfl)), by rw [ByteArray.toList_eq]; exact h.symm⟩
      · exact ⟨_, Or.inr (Or.inr (Or.inr (Or.inl rfl))), by rw [ByteArray.toList_eq]; exact h.symm⟩
      · exact ⟨_, Or.inr (Or.inr (Or.inr (Or.inr (Or.inl rfl)))), by rw [ByteArray.toList_eq]; exact h.symm⟩
      · exact ⟨_, Or.inr (Or.inr (Or.inr (Or.inr (Or.inr rfl)))), by rw [ByteArray.toList_eq]; exact h.symm⟩
  unfold nameL
  rcases Nat.lt_or_ge p T.size with hlt | hge
  · obtain ⟨hne, hhd⟩ := tokp_head hlt
    cases hm : memL six (tokp T p).toList
    · rw [if_neg (by rintro (h | h); exact hne h; exact absurd (hsix.2 h) (by rw [hm]; simp)), hhd]
      unfold wordp
      simp
      omega
    · rw [if_pos (Or.inr (hsix.1 hm))]; simp
  · have e : p = T.size := by omega
    rw [e, tokp_end, if_pos (Or.inl rfl)]
    unfold wordp; simp

theorem class_word {T : ByteArray} {p : PS} (h : memL [wClass] (p.tk T) = true) : p.tk T = [99, 108, 97, 115, 115] := by
  rw [memL_iff] at h
  obtain ⟨x, hx, hx2⟩ := h
  simp at hx
  subst hx
  rw [← hx2]; unfold wClass; rw [ByteArray.toList_eq]
/-- Names that may be: words, none of them one of the six. -/
def NamesOk (names : List ByteArray) : Prop := ∀ x ∈ names, nameL x.toList = true

theorem spansL_fz {T : ByteArray} {k : Nat} : ∀ (g : Nat) (p : PS) (l : List (Int × Int × Nat)), p.p ≤ T.size → Fz T p → Fz T (PS.spansL T k g p l).1 ∧ (PS.spansL T k g p l).1.p ≤ T.size := by
  intro g
  induction g with
  | zero => intro p l hp h; exact ⟨h, hp⟩
  | succ g ih =>
    intro p l hp h
    rw [PS.spansL]
    split
    · have h1 := (nextp_le T p.p hp).1
      exact ih _ _ (span_p (s := p.step T) h1 l).2.1 ((h.step hp).span h1 l)
    · exact ⟨h, hp⟩
theorem class_fz {T : ByteArray} {p : PS} (h : Fz T p) (hp : p.p ≤ T.size) (names : List ByteArray) (l : List (Int × Int × Nat)) : Fz T (p.klass T names l) := by
  have hA := classA_fz h hp names
  have h2 := spansL_fz (T := T) (k := names.length) (T.size + 1) ((p.classA T names).span T l) (l ++ [((p.classA T names).spanX T, (p.classA T names).spanY T, names.length)]) (span_p hA.2.1 l).2.1 (hA.1.span hA.2.1 l)
  exact h2.1.need h2.2 _

theorem class_z {T : ByteArray} {s : RS} {p : PS} {l : List (Int × Int × Nat)} (h : Okz T s p) (hs : s.spans = spI l) (hm : memL [wClass] (p.tk T) = true) (hno : NamesOk s.names) :
    (Okz T (s.classes T) (p.klass T s.names l) ∧ (s.classes T).spans = spI (p.classB T s.names l).2 ∧ (s.classes T).names = s.names ++ [nameTok T s.names p] ∧ NamesOk (s.classes T).names) ∨ Badz T (s.classes T) (p.klass T s.names l) := by
  have hle := okz_le h
  have hfz := okz_fz h
  have hcf := class_fz hfz hle s.names l
  unfold RS.classes
  simp only
  by_cases h6 : s.names.length = 6
  · rw [if_pos (by show (s.take T).names.length = 6; exact h6)]
    right
    have hb := badz_fail (T := T) (s := s.take T) h.1 h.2.1 6 (by decide) (s.pos T : Int) (okz_pos h)
    have ec : p.classN T s.names.length = p.fail T 6 := by unfold PS.classN; rw [if_pos h6]
    have k1 : Stk (p.fail T 6) (p.klass T s.names l) := by
      rw [← ec]
      exact ((((stk_need T _ _).trans (stk_newName T s.names _)).trans (stk_need T _ _)).trans (stk_span T l _)).trans ((stk_spansL T s.names.length (T.size + 1) _ _).trans (stk_need T _ _))
    exact badz_keep hb rfl rfl k1 hcf
  · rw [if_neg (by show ¬ (s.take T).names.length = 6; exact h6)]
    have h1 := okz_take h
    have ec : (p.classN T s.names.length).need T [wClass] = p.step T := by
      have : p.classN T s.names.length = p := by unfold PS.classN; rw [if_neg h6]
      rw [this]; unfold PS.need; rw [hm]; rfl
    have hnt : nameTok T s.names p = tok T (s.take T).at_ := by unfold nameTok; rw [ec]; unfold tokp tok; rw [h1.2.2.1]
    have ht := okz_tk h1
    have hq := okz_pos h1
    have hle1 := okz_le h1
    have hnl : nameL ((s.take T).tk T) = (wordp T (p.step T).p && !memL six ((p.step T).tk T)) := by rw [ht]; exact nameL_word T _ hle1
    have h2 := okz_take h1
    have rest : ∀ (q : PS), Stk q ((p.step T).newName T s.names) → Stk q (p.klass T s.names l) := by
      intro q hk
      have e : p.klass T s.names l = ((PS.spansL T s.names.length (T.size + 1) ((((p.step T).newName T s.names).need T [sgn 61]).span T l) (l ++ [((((p.step T).newName T s.names).need T [sgn 61]).spanX T, (((p.step T).newName T s.names).need T [sgn 61]).spanY T, s.names.length)])).1).need T [sgn 59] := by
        unfold PS.klass PS.classB PS.classA; rw [ec]
      rw [e]
      exact (((hk.trans (stk_need T _ _)).trans (stk_span T l _)).trans (stk_spansL T s.names.length (T.size + 1) _ _)).trans (stk_need T _ _)
    have stop : ∀ (x : RS), x.err ≠ 0 → RS.spansL T (T.size + 2) x = x := fun x hx => by rw [RS.spansL, if_pos hx]
    cases hn : nameL ((s.take T).tk T)
    · right
      have hA : (p.step T).nameA T = (p.step T).fail T 2 := by unfold PS.nameA; rw [← hnl, hn]; rfl
      have hb := badz_fail (T := T) (s := (s.take T).take T) h2.1 h1.2.1 2 (by decide) ((s.take T).pos T : Int) hq
      simp only [Bool.false_eq_true, if_false]
      have e4 : (if 0 ≤ clsIx (((s.take T).take T).fail 2 ((s.take T).pos T)).names ((s.take T).tk T) then (((s.take T).take T).fail 2 ((s.take T).pos T)).fail 4 ((s.take T).pos T) else ((s.take T).take T).fail 2 ((s.take T).pos T)) = ((s.take T).take T).fail 2 ((s.take T).pos T) := by
        split
        · exact rs_fail_same hb.1 _ _
        · rfl
      rw [e4, if_neg hb.1, stop _ (by exact hb.1)]
      have k1 : Stk ((p.step T).fail T 2) ((p.step T).newName T s.names) := by
        unfold PS.newName; rw [hA]; exact (show Stk ((p.step T).fail T 2) (((p.step T).fail T 2).nameB T s.names ((p.step T).tk T)) from stk_if T _ 4).trans (stk_step T _)
      exact badz_keep hb rfl rfl (rest _ k1) hcf
    · have hA : (p.step T).nameA T = p.step T := by unfold PS.nameA; rw [← hnl, hn]; rfl
      simp only [if_true]
      by_cases hc : 0 ≤ clsIx s.names ((s.take T).tk T)
      · right
        have hb := badz_fail (T := T) (s := (s.take T).take T) h2.1 h1.2.1 4 (by decide) ((s.take T).pos T : Int) hq
        rw [if_pos (show 0 ≤ clsIx ((s.take T).take T).names ((s.take T).tk T) from hc), if_neg hb.1, stop _ (by exact hb.1)]
        have k1 : Stk ((p.step T).fail T 4) ((p.step T).newName T s.names) := by
          have : (p.step T).newName T s.names = ((p.step T).fail T 4).step T := by
            unfold PS.newName; rw [hA]; unfold PS.nameB; rw [← ht, if_pos hc]
          rw [this]; exact stk_step T _
        exact badz_keep hb rfl rfl (rest _ k1) hcf
      · rw [if_neg (show ¬ 0 ≤ clsIx ((s.take T).take T).names ((s.take T).tk T) from hc)]
        have hN : (p.step T).newName T s.names = (p.step T).step T := by
          unfold PS.newName; rw [hA]; unfold PS.nameB; rw [← ht, if_neg hc]
        have hA2 : p.classA T s.names = ((p.step T).step T).need T [sgn 61] := by unfold PS.classA; rw [ec, hN]
        have h5 : Okz T { (s.take T).take T with names := ((s.take T).take T).names ++ [tok T (s.take T).at_] } ((p.step T).step T) := h2
        rw [if_pos h5.1]
        rcases okz_want h5 61 with ⟨_, w2, w3⟩ | ⟨_, w3⟩
        · have hw : ({ (s.take T).take T with names := ((s.take T).take T).names ++ [tok T (s.take T).at_] } : RS).want T [61] = ({ (s.take T).take T with names := ((s.take T).take T).names ++ [tok T (s.take T).at_] } : RS).take T := w2
          have hnn : (({ (s.take T).take T with names := ((s.take T).take T).names ++ [tok T (s.take T).at_] } : RS).want T [61]).names = s.names ++ [tok T (s.take T).at_] := by rw [hw]; rfl
          have hss : (({ (s.take T).take T with names := ((s.take T).take T).names ++ [tok T (s.take T).at_] } : RS).want T [61]).spans = spI l := by rw [hw]; exact hs
          have := spans_z (k := s.names.length) (T.size + 2) _ _ l (T.size + 1) w3 hss (by rw [hnn]; simp) (by omega) (by omega)
          rw [← hA2] at this
          rcases this with ⟨a1, a2, a3⟩ | a1
          · left
            refine ⟨a1, a2, by rw [a3, hnn, hnt], ?_⟩
            rw [a3, hnn]
            intro x hx
            rcases List.mem_append.1 hx with hx | hx
            · exact hno x hx
            · simp at hx; subst hx; exact hn
          · right; exact a1
        · right
          rw [stop _ w3.1]
          have k1 : Stk (p.classA T s.names) (p.klass T s.names l) := (stk_span T l _).trans ((stk_spansL T s.names.length (T.size + 1) _ _).trans (stk_need T _ _))
          rw [hA2] at k1
          exact badz_keep w3 rfl rfl k1 hcf
end Go.Proofs.YtodagkkjfipbgaaGreatDoor
