/- The program's plain reader and the reference's: they stand at the same word, or have the same fault. -/
import Derived.Test.YtonooajnjgnmnaaGreatDoorC4toC5
import Derived.Test.YtonooajnjgnmnaaGreatDoorS
namespace Go.Proofs.YtonooajnjgnmnaaGreatDoor
open Go.RowKit

/-- Both stand at the same word, without a fault. -/
def Okz (T : ByteArray) (s : RS) (p : PS) : Prop := s.err = 0 ∧ p.f = 0 ∧ p.p = skip T s.at_ ∧ s.at_ ≤ T.size ∧ s.place = 0
/-- Both have the same fault. -/
def Badz (T : ByteArray) (s : RS) (p : PS) : Prop := s.err ≠ 0 ∧ p.f = s.err ∧ p.pl = s.place ∧ p.p = T.size
/-- The reference has a fault; the program will have it as soon as it asks for something. -/
def Pendz (T : ByteArray) (s : RS) (p : PS) : Prop := s.err = 2 ∧ p.f = 0 ∧ s.place = (p.p : Int) ∧ p.p < T.size ∧ memL [wClass, wCut, wJoin] (p.tk T) = true

theorem okz_tk {T : ByteArray} {s : RS} {p : PS} (h : Okz T s p) : s.tk T = p.tk T := by
  unfold RS.tk PS.tk tok tokp; rw [h.2.2.1]
theorem okz_pos {T : ByteArray} {s : RS} {p : PS} (h : Okz T s p) : (s.pos T : Int) = (p.p : Int) := by unfold RS.pos; rw [h.2.2.1]
theorem okz_le {T : ByteArray} {s : RS} {p : PS} (h : Okz T s p) : p.p ≤ T.size := by rw [h.2.2.1]; exact (skip_le T s.at_).2 h.2.2.2.1
theorem okz_take {T : ByteArray} {s : RS} {p : PS} (h : Okz T s p) : Okz T (s.take T) (p.step T) := by
  refine ⟨h.1, h.2.1, ?_, ?_, h.2.2.2.2⟩
  · show nextp T p.p = skip T (tokEnd T (skip T s.at_)); unfold nextp; rw [h.2.2.1]
  · exact (tokEnd_le T _).2.1 ((skip_le T s.at_).2 h.2.2.2.1)
theorem okz_peek {T : ByteArray} {s : RS} {p : PS} (h : Okz T s p) : Okz T (s.peek T) p :=
  ⟨h.1, h.2.1, by show p.p = skip T (skip T s.at_); rw [skip_skip]; exact h.2.2.1, (skip_le T s.at_).2 h.2.2.2.1, h.2.2.2.2⟩
/-- A fault where there was none. -/
theorem badz_fail {T : ByteArray} {s : RS} {p : PS} (h1 : s.err = 0) (h2 : p.f = 0) (e : Int) (he : e ≠ 0) (q : Int) (hq : q = p.p) : Badz T (s.fail e q) (p.fail T e) := by
  have e1 : (s.fail e q).err = e := by unfold RS.fail; rw [if_pos h1]
  have e2 : (s.fail e q).place = q := by unfold RS.fail; rw [if_pos h1]
  refine ⟨by rw [e1]; exact he, ?_, ?_, rfl⟩
  · rw [e1]; show pf p.f e = e; unfold pf; rw [if_pos h2]
  · rw [e2, hq]; show pp p.f p.p p.pl = _; unfold pp; rw [if_pos h2]
theorem rs_fail_same {s : RS} (h : s.err ≠ 0) (e q : Int) : s.fail e q = s := by unfold RS.fail; rw [if_neg h]
theorem badz_keep {T : ByteArray} {s s' : RS} {p p' : PS} (h : Badz T s p) (h1 : s'.err = s.err) (h2 : s'.place = s.place) (hs : Stk p p') (hz : Fz T p') : Badz T s' p' := by
  have hf : p.f ≠ 0 := by rw [h.2.1]; exact h.1
  have := hs hf
  exact ⟨by rw [h1]; exact h.1, by rw [this.1, h1]; exact h.2.1, by rw [this.2, h2]; exact h.2.2.1, hz (by rw [this.1]; exact hf)⟩
theorem badz_fz {T : ByteArray} {s : RS} {p : PS} (h : Badz T s p) : Fz T p := fun _ => h.2.2.2
theorem okz_fz {T : ByteArray} {s : RS} {p : PS} (h : Okz T s p) : Fz T p := fun e => absurd h.2.1 e
theorem badz_tk {T : ByteArray} {s : RS} {p : PS} (h : Badz T s p) : p.tk T = [] := by unfold PS.tk; rw [h.2.2.2]; exact tokp_end T

/-- What must stand there. -/
theorem okz_want {T : ByteArray} {s : RS} {p : PS} (h : Okz T s p) (c : UInt8) : (p.tk T = [c] ∧ s.want T [c] = s.take T ∧ Okz T (s.want T [c]) (p.need T [sgn c])) ∨ (p.tk T ≠ [c] ∧ Badz T (s.want T [c]) (p.need T [sgn c])) := by
  by_cases e : p.tk T = [c]
  · left
    have e1 : s.want T [c] = s.take T := by unfold RS.want; rw [okz_tk h, if_pos e]
    have e2 : p.need T [sgn c] = p.step T := by unfold PS.need; rw [memL_sgn, e]; simp
    exact ⟨e, e1, by rw [e1, e2]; exact okz_take h⟩
  · right
    have e1 : s.want T [c] = (s.take T).fail 2 (s.pos T) := by unfold RS.want; rw [okz_tk h, if_neg e]
    have e2 : p.need T [sgn c] = p.fail T 2 := by unfold PS.need; rw [memL_sgn]; simp [e]
    exact ⟨e, by rw [e1, e2]; exact badz_fail (s := s.take T) h.1 h.2.1 2 (by decide) _ (okz_pos h)⟩
/-- A keyword that stands where a sign must. -/
theorem pendz_need {T : ByteArray} {s : RS} {p : PS} (h : Pendz T s p) (c : UInt8) : Badz T s (p.need T [sgn c]) ∧ p.tk T ≠ [c] := by
  have hk := h.2.2.2.2
  rw [memL_iff] at hk
  have hne : p.tk T ≠ [c] := by
    intro e
    obtain ⟨x, hx, hx2⟩ := hk
    rw [e] at hx2
    simp at hx
    rcases hx with rfl | rfl | rfl
    · unfold wClass at hx2; rw [ByteArray.toList_eq] at hx2; simp at hx2
    · unfold wCut at hx2; rw [ByteArray.toList_eq] at hx2; simp at hx2
    · unfold wJoin at hx2; rw [ByteArray.toList_eq] at hx2; simp at hx2
  have e2 : p.need T [sgn c] = p.fail T 2 := by unfold PS.need; rw [memL_sgn]; simp [hne]
  refine ⟨?_, hne⟩
  rw [e2]
  refine ⟨by rw [h.1]; decide, ?_, ?_, rfl⟩
  · rw [h.1]; show pf p.f 2 = 2; unfold pf; rw [if_pos h.2.1]
  · rw [h.2.2.1]; show pp p.f p.p p.pl = _; unfold pp; rw [if_pos h.2.1]

/- A HEX. -/
theorem okz_hex {T : ByteArray} {s : RS} {p : PS} (h : Okz T s p) : (hexErr (p.tk T) = 0 ∧ s.hex T = s.take T ∧ Okz T (s.hex T) (p.hex T) ∧ RS.hexV (s.tk T) = RS.hexN (p.tk T)) ∨ (Badz T (s.hex T) (p.hex T)) := by
  have ht := okz_tk h
  have hq := okz_pos h
  by_cases e : hexErr (p.tk T) = 0
  · left
    have hb : ¬ (6 < (p.tk T).length ∨ RS.hexOk (p.tk T) = false ∨ p.tk T = []) := by
      intro hb; unfold hexErr at e; rw [if_pos hb] at e; omega
    have hn : ¬ 1114111 < RS.hexN (p.tk T) := by
      intro hn; unfold hexErr at e; rw [if_neg hb, if_pos hn] at e; omega
    have h6 : ¬ 6 < (p.tk T).length := fun h => hb (Or.inl h)
    have hok : RS.hexOk (p.tk T) = true ∧ p.tk T ≠ [] := by
      constructor
      · cases hh : RS.hexOk (p.tk T) with
        | true => rfl
        | false => exact absurd (Or.inr (Or.inl hh)) hb
      · intro hh; exact hb (Or.inr (Or.inr hh))
    have e1 : s.hex T = s.take T := by unfold RS.hex; simp only; rw [ht, if_neg h6, if_pos hok, if_neg hn]
    have e2 : p.hex T = p.step T := by unfold PS.hex; rw [if_pos e]
    refine ⟨e, e1, by rw [e1, e2]; exact okz_take h, ?_⟩
    unfold RS.hexV; rw [ht, if_neg h6]
  · right
    have e2 : p.hex T = p.fail T (hexErr (p.tk T)) := by unfold PS.hex; rw [if_neg e]
    have e1 : s.hex T = (s.take T).fail (hexErr (p.tk T)) (s.pos T) := by
      have hto : (s.take T).err = 0 := h.1
      unfold RS.hex hexErr
      simp only
      rw [ht]
      by_cases h6 : 6 < (p.tk T).length
      · rw [if_pos h6, if_pos (Or.inl h6)]
      · rw [if_neg h6]
        by_cases hk : RS.hexOk (p.tk T) = true ∧ p.tk T ≠ []
        · have hb : ¬ (6 < (p.tk T).length ∨ RS.hexOk (p.tk T) = false ∨ p.tk T = []) := by
            rintro (h | h | h)
            · exact h6 h
            · rw [hk.1] at h; cases h
            · exact hk.2 h
          rw [if_pos hk, if_neg hb]
          by_cases hn : 1114111 < RS.hexN (p.tk T)
          · rw [if_pos hn, if_pos hn]
          · exfalso; apply e; unfold hexErr; rw [if_neg hb, if_neg hn]
        · have hb : 6 < (p.tk T).length ∨ RS.hexOk (p.tk T) = false ∨ p.tk T = [] := by
            cases hh : RS.hexOk (p.tk T) with
            | false => exact Or.inr (Or.inl rfl)
            | true =>
              right; right
              rcases Classical.em (p.tk T = []) with h | h
              · exact h
              · exact absurd ⟨hh, h⟩ hk
          rw [if_neg hk, if_pos hb]
          split
          · exact rs_fail_same (by unfold RS.fail; rw [if_pos hto]; show (2 : Int) ≠ 0; decide) _ _
          · rfl
    rw [e1, e2]
    exact badz_fail (s := s.take T) h.1 h.2.1 _ e _ hq

/- A RANGE. -/
theorem badz_addSpan {T : ByteArray} {s : RS} {p : PS} (h : Badz T s p) (a b q : Int) : (s.addSpan a b q).err = s.err ∧ (s.addSpan a b q).place = s.place := by
  unfold RS.addSpan
  simp only
  split
  · rw [rs_fail_same h.1]; exact ⟨rfl, rfl⟩
  · exact ⟨rfl, rfl⟩
theorem addSpan_z {T : ByteArray} {s : RS} {p : PS} {l : List (Int × Int × Nat)} {k : Nat} (h : Okz T s p) (a b q : Int) (hs : s.spans = spI l) (hn : s.names.length = k + 1) :
    (RS.badSpan a b (spI l) = false ∧ Okz T (s.addSpan a b q) p ∧ (s.addSpan a b q).spans = spI (l ++ [(a, b, k)]) ∧ (s.addSpan a b q).names = s.names) ∨ (RS.badSpan a b (spI l) = true ∧ Badz T (s.addSpan a b q) (p.failAt T 5 q)) := by
  cases hb : RS.badSpan a b (spI l)
  · left
    have e : s.addSpan a b q = { s with spans := s.spans ++ [(a, b, (s.names.length : Int) - 1)] } := by unfold RS.addSpan; simp only; rw [hs, hb]; simp [hs]
    refine ⟨rfl, ?_, ?_, ?_⟩
    · rw [e]; exact h
    · rw [e]; show s.spans ++ _ = _; rw [hs]; unfold spI; rw [List.map_append, hn]; simp
    · rw [e]
  · right
    refine ⟨rfl, ?_⟩
    have e1 : (s.addSpan a b q).err = 5 ∧ (s.addSpan a b q).place = q := by unfold RS.addSpan; simp only; rw [hs, hb]; simp [RS.fail, h.1]
    refine ⟨by rw [e1.1]; decide, ?_, ?_, rfl⟩
    · rw [e1.1]; show pf p.f 5 = 5; unfold pf; rw [if_pos h.2.1]
    · rw [e1.2]; show pp p.f q p.pl = q; unfold pp; rw [if_pos h.2.1]
theorem hex_names (T : ByteArray) (s : RS) : (s.hex T).names = s.names ∧ (s.hex T).spans = s.spans ∧ (s.hex T).L = s.L := by
  have := hex_same T s; exact ⟨this.1, this.2.1, this.2.2.1⟩

theorem span_z {T : ByteArray} {s : RS} {p : PS} {l : List (Int × Int × Nat)} {k : Nat} (h : Okz T s p) (hs : s.spans = spI l) (hn : s.names.length = k + 1) :
    (Okz T (s.span T) (p.span T l) ∧ (s.span T).spans = spI (l ++ [(p.spanX T, p.spanY T, k)]) ∧ (s.span T).names = s.names) ∨ Badz T (s.span T) (p.span T l) := by
  have hle := okz_le h
  have hfz := okz_fz h
  rcases okz_hex h with ⟨e0, eh, h1, hv⟩ | hbad
  · have h1' := okz_peek h1
    have ht1 : ((s.hex T).peek T).tk T = (p.hex T).tk T := okz_tk h1'
    by_cases hd : (p.hex T).tk T = [45]
    · have hdash : p.dash T = true := by unfold PS.dash; rw [memL_sgn]; simp [hd]
      have es : s.span T = ((((s.hex T).peek T).take T).hex T).addSpan (RS.hexV (s.tk T)) (RS.hexV ((((s.hex T).peek T).take T).tk T)) ((((s.hex T).peek T).take T).pos T) := by
        unfold RS.span; simp only; rw [if_pos ⟨h1'.1, by rw [ht1]; exact hd⟩]
      have h2 := okz_take h1'
      have et : p.spanTo T = ((p.hex T).step T).hex T := by unfold PS.spanTo; rw [hdash]; rfl
      have ea : p.spanAt T = (((p.hex T).step T).p : Int) := by unfold PS.spanAt; rw [hdash]; rfl
      have ey : p.spanY T = RS.hexN (((p.hex T).step T).tk T) := by unfold PS.spanY; rw [hdash]; rfl
      rcases okz_hex h2 with ⟨e0', eh', h3, hv'⟩ | hbad
      · have hp0 : (p.spanTo T).f = 0 := by rw [et]; exact h3.2.1
        have hpos := okz_pos h2
        rw [es, hv, hv', hpos]
        have ex : p.spanX T = RS.hexN (p.tk T) := rfl
        have hsp : (((((s.hex T).peek T).take T).hex T)).spans = spI l := by rw [(hex_names T _).2.1]; show (s.hex T).spans = _; rw [(hex_names T s).2.1]; exact hs
        have hnm : (((((s.hex T).peek T).take T).hex T)).names = s.names := by rw [(hex_names T _).1]; show (s.hex T).names = _; exact (hex_names T s).1
        have hps : p.span T l = if RS.badSpan (p.spanX T) (p.spanY T) (spI l) = true then (p.spanTo T).failAt T 5 (p.spanAt T) else p.spanTo T := by
          unfold PS.span; rw [if_neg (by simpa using hp0)]
        have := addSpan_z (k := k) h3 (RS.hexN (p.tk T)) (RS.hexN (((p.hex T).step T).tk T)) (((p.hex T).step T).p : Int) hsp (by rw [hnm]; exact hn)
        rw [← ex, ← ey] at this ⊢
        rcases this with ⟨hb, a1, a2, a3⟩ | ⟨hb, a1⟩
        · left
          rw [hps, hb]
          refine ⟨?_, a2, by rw [a3, hnm]⟩
          simp only [Bool.false_eq_true, if_false]
          rw [et]; exact a1
        · right
          rw [hps, hb]
          simp only [if_true]
          rw [et, ea]; exact a1
      · right
        have hf : (p.spanTo T).f ≠ 0 := by rw [et, hbad.2.1]; exact hbad.1
        have hps : p.span T l = p.spanTo T := by unfold PS.span; rw [if_pos hf]
        rw [hps, et, es]
        have := badz_addSpan hbad (RS.hexV (s.tk T)) (RS.hexV ((((s.hex T).peek T).take T).tk T)) ((((s.hex T).peek T).take T).pos T)
        exact badz_keep hbad this.1 this.2 (Stk.refl _) (badz_fz hbad)
    · have hdash : p.dash T = false := by unfold PS.dash; rw [memL_sgn]; simp [hd]
      have es : s.span T = ((s.hex T).peek T).addSpan (RS.hexV (s.tk T)) (RS.hexV (s.tk T)) (s.pos T) := by
        unfold RS.span; simp only; rw [if_neg (fun hh => hd (by rw [← ht1]; exact hh.2))]
      have et : p.spanTo T = p.hex T := by unfold PS.spanTo; rw [hdash]; rfl
      have ea : p.spanAt T = (p.p : Int) := by unfold PS.spanAt; rw [hdash]; rfl
      have ey : p.spanY T = RS.hexN (p.tk T) := by unfold PS.spanY; rw [hdash]; rfl
      have ex : p.spanX T = RS.hexN (p.tk T) := rfl
      have hp0 : (p.spanTo T).f = 0 := by rw [et]; exact h1.2.1
      have hps : p.span T l = if RS.badSpan (p.spanX T) (p.spanY T) (spI l) = true then (p.spanTo T).failAt T 5 (p.spanAt T) else p.spanTo T := by
        unfold PS.span; rw [if_neg (by simpa using hp0)]
      have hsp : (((s.hex T).peek T)).spans = spI l := by show (s.hex T).spans = _; rw [(hex_names T s).2.1]; exact hs
      have hnm : (((s.hex T).peek T)).names = s.names := (hex_names T s).1
      have := addSpan_z (k := k) h1' (RS.hexN (p.tk T)) (RS.hexN (p.tk T)) (p.p : Int) hsp (by rw [hnm]; exact hn)
      rw [es, hv, okz_pos h]
      rw [hps, ex, ey, et, ea]
      rcases this with ⟨hb, a1, a2, a3⟩ | ⟨hb, a1⟩
      · left
        rw [hb]
        exact ⟨a1, a2, by rw [a3, hnm]⟩
      · right
        rw [hb]
        exact a1
  · right
    have hf : (p.hex T).f ≠ 0 := by rw [hbad.2.1]; exact hbad.1
    have hd : p.dash T = false := by unfold PS.dash; rw [badz_tk hbad, memL_sgn]; simp
    have et : p.spanTo T = p.hex T := by unfold PS.spanTo; rw [hd]; rfl
    have hps : p.span T l = p.hex T := by unfold PS.span; rw [et, if_pos hf]
    have es : s.span T = ((s.hex T).peek T).addSpan (RS.hexV (s.tk T)) (RS.hexV (s.tk T)) (s.pos T) := by
      unfold RS.span; simp only; rw [if_neg (fun hh => hbad.1 hh.1)]
    have hb2 : Badz T ((s.hex T).peek T) (p.hex T) := hbad
    have := badz_addSpan hb2 (RS.hexV (s.tk T)) (RS.hexV (s.tk T)) (s.pos T)
    rw [hps, es]
    exact badz_keep hb2 this.1 this.2 (Stk.refl _) (badz_fz hb2)
end Go.Proofs.YtonooajnjgnmnaaGreatDoor
