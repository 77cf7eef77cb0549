/- Classes: both readers. -/
import Derived.Test.YtonooajnjgnmnaaGreatDoorZ1
import Derived.Test.YtonooajnjgnmnaaGreatDoorW15toW17
namespace Go.Proofs.YtonooajnjgnmnaaGreatDoor
open Go.RowKit

theorem spansL_stop {T : ByteArray} {k g : Nat} {p : PS} {l : List (Int × Int × Nat)} (h : p.tk T ≠ [44]) : PS.spansL T k g p l = (p, l) := by
  cases g with
  | zero => rfl
  | succ g => rw [PS.spansL, if_neg h]
theorem spans_z {T : ByteArray} {k : Nat} : ∀ (g : Nat) (s : RS) (p : PS) (l : List (Int × Int × Nat)) (g' : Nat), Okz T s p → s.spans = spI l → s.names.length = k + 1 → T.size < p.p + g → T.size < p.p + g' →
    (Okz T (RS.spansL T g s) ((PS.spansL T k g' (p.span T l) (l ++ [(p.spanX T, p.spanY T, k)])).1.need T [sgn 59]) ∧ (RS.spansL T g s).spans = spI (PS.spansL T k g' (p.span T l) (l ++ [(p.spanX T, p.spanY T, k)])).2 ∧ (RS.spansL T g s).names = s.names) ∨
    Badz T (RS.spansL T g s) ((PS.spansL T k g' (p.span T l) (l ++ [(p.spanX T, p.spanY T, k)])).1.need T [sgn 59]) := by
  intro g
  induction g with
  | zero => intro s p l g' h _ _ hg; have := okz_le h; omega
  | succ g ih =>
    intro s p l g' h hs hn hg hg'
    have hle := okz_le h
    have hsp := span_p hle l
    rw [RS.spansL, if_neg (by rw [h.1]; simp)]
    simp only
    rcases span_z h hs hn with ⟨h1, s1, n1⟩ | hbad
    · rw [if_neg (by rw [h1.1]; simp)]
      have ht := okz_tk h1
      by_cases e59 : (s.span T).tk T = [59]
      · rw [if_pos e59]
        have e : (p.span T l).tk T = [59] := by rw [← ht]; exact e59
        rw [spansL_stop (by rw [e]; decide)]
        left
        rcases okz_want h1 59 with ⟨_, w2, w3⟩ | ⟨w1, _⟩
        · rw [w2] at w3
          exact ⟨w3, s1, n1⟩
        · exact absurd e w1
      · rw [if_neg e59]
        by_cases e44 : (s.span T).tk T = [44]
        · rw [if_pos e44]
          have e : (p.span T l).tk T = [44] := by rw [← ht]; exact e44
          have hlt := tk_lt (okz_le h1) e
          have hnx := nextp_le T (p.span T l).p (okz_le h1)
          obtain ⟨g'', rfl⟩ : ∃ g'', g' = g'' + 1 := ⟨g' - 1, by omega⟩
          rw [PS.spansL, if_pos e]
          have hst : ((p.span T l).step T).p = nextp T (p.span T l).p := rfl
          have hadv := hnx.2.2 hlt
          have := ih ((s.span T).take T) ((p.span T l).step T) (l ++ [(p.spanX T, p.spanY T, k)]) g'' (okz_take h1) s1 (by show (s.span T).names.length = _; rw [n1]; exact hn) (by omega) (by omega)
          rcases this with ⟨a1, a2, a3⟩ | a1
          · left; exact ⟨a1, a2, by rw [a3]; exact n1⟩
          · right; exact a1
        · rw [if_neg e44]
          have e : (p.span T l).tk T ≠ [44] := by rw [← ht]; exact e44
          have e' : (p.span T l).tk T ≠ [59] := by rw [← ht]; exact e59
          rw [spansL_stop e]
          right
          have e2 : (p.span T l).need T [sgn 59] = (p.span T l).fail T 2 := by unfold PS.need; rw [memL_sgn]; simp [e']
          have hb := badz_fail (T := T) (s := (s.span T).take T) h1.1 h1.2.1 2 (by decide) ((s.span T).pos T : Int) (okz_pos h1)
          have e3 : RS.spansL T g (((s.span T).take T).fail 2 ((s.span T).pos T)) = ((s.span T).take T).fail 2 ((s.span T).pos T) := by
            cases g with
            | zero => rfl
            | succ g => rw [RS.spansL, if_pos hb.1]
          rw [e3, e2]; exact hb
    · right
      rw [if_pos hbad.1, spansL_stop (by rw [badz_tk hbad]; decide)]
      exact badz_keep hbad rfl rfl (stk_need T _ _) ((badz_fz hbad).need (by rw [hbad.2.2.2]; omega) _)

/- A NAME. -/
theorem tokp_head {T : ByteArray} {p : Nat} (h : p < T.size) : (tokp T p).toList ≠ [] ∧ ((tokp T p).toList.headD 0).toNat = at0 T p := by
  have h1 := (tokEnd_le T p).2.2 h
  have h2 := (tokEnd_le T p).2.1 (by omega)
  have hsz : 0 < (tokp T p).size := by unfold tokp; rw [ByteArray.size_extract]; omega
  constructor
  · intro e
    have : (tokp T p).toList.length = 0 := by rw [e]; rfl
    rw [ByteArray.toList_eq] at this
    simp at this
    have e2 : (tokp T p).size = (tokp T p).data.size := rfl
    rw [e2, this] at hsz
    simp at hsz
  · have e : ∀ (x : ByteArray) (hx : 0 < x.size), x = T.extract p (tokEnd T p) → x[0]'hx = T[p]'h := by
      intro x hx e; subst e; rw [ByteArray.getElem_extract]; simp
    rw [headD_bytes _ hsz, at0_eq h, e _ hsz rfl]
theorem nameL_word (T : ByteArray) (p : Nat) (hp : p ≤ T.size) : nameL (tokp T p).toList = (wordp T p && !memL six (tokp T p).toList) := by
  have hsix : memL six (tokp T p).toList = true ↔ ((tokp T p).toList = [99, 108, 97, 115, 115] ∨ (tokp T p).toList = [99, 117, 116] ∨ (tokp T p).toList = [106, 111, 105, 110] ∨ (tokp T p).toList = [97, 110, 121] ∨ (tokp T p).toList = [111, 116, 104, 101, 114] ∨ (tokp T p).toList = [98, 97, 100]) := by
    rw [memL_iff]
    unfold six wClass wCut wJoin wAny wOther wBad
    simp only [List.mem_cons, List.not_mem_nil, or_false]
    constructor
    · rintro ⟨x, (rfl | rfl | rfl | rfl | rfl | rfl), hx⟩ <;> rw [ByteArray.toList_eq] at hx <;> simp [← hx]
    · rintro (h | h | h | h | h | h)
      · exact ⟨_, Or.inl rfl, by rw [ByteArray.toList_eq]; exact h.symm⟩
      · exact ⟨_, Or.inr (Or.inl rfl), by rw [ByteArray.toList_eq]; exact h.symm⟩
      · exact ⟨_, Or.inr (Or.inr (Or.inl rfl)), by rw [ByteArray.toList_eq]; exact h.symm⟩
      · exact ⟨_, Or.inr (Or.inr (Or.inr (Or.inl rfl))), by rw [ByteArray.toList_eq]; exact h.symm⟩
      · exact ⟨_, Or.inr (Or.inr (Or.inr (Or.inr (Or.inl rfl)))), by rw [ByteArray.toList_eq]; exact h.symm⟩
      · exact ⟨_, Or.inr (Or.inr (Or.inr (Or.inr (Or.inr rfl)))), by rw [ByteArray.toList_eq]; exact h.symm⟩
  unfold nameL
  rcases Nat.lt_or_ge p T.size with hlt | hge
  · obtain ⟨hne, hhd⟩ := tokp_head hlt
    cases hm : memL six (tokp T p).toList
    · rw [if_neg (by rintro (h | h); exact hne h; exact absurd (hsix.2 h) (by rw [hm]; simp)), hhd]
      unfold wordp
      simp
      omega
    · rw [if_pos (Or.inr (hsix.1 hm))]; simp
  · have e : p = T.size := by omega
    rw [e, tokp_end, if_pos (Or.inl rfl)]
    unfold wordp; simp

theorem class_word {T : ByteArray} {p : PS} (h : memL [wClass] (p.tk T) = true) : p.tk T = [99, 108, 97, 115, 115] := by
  rw [memL_iff] at h
  obtain ⟨x, hx, hx2⟩ := h
  simp at hx
  subst hx
  rw [← hx2]; unfold wClass; rw [ByteArray.toList_eq]
/-- Names that may be: words, none of them one of the six. -/
def NamesOk (names : List ByteArray) : Prop := ∀ x ∈ names, nameL x.toList = true

theorem spansL_fz {T : ByteArray} {k : Nat} : ∀ (g : Nat) (p : PS) (l : List (Int × Int × Nat)), p.p ≤ T.size → Fz T p → Fz T (PS.spansL T k g p l).1 ∧ (PS.spansL T k g p l).1.p ≤ T.size := by
  intro g
  induction g with
  | zero => intro p l hp h; exact ⟨h, hp⟩
  | succ g ih =>
    intro p l hp h
    rw [PS.spansL]
    split
    · have h1 := (nextp_le T p.p hp).1
      exact ih _ _ (span_p (s := p.step T) h1 l).2.1 ((h.step hp).span h1 l)
    · exact ⟨h, hp⟩
theorem class_fz {T : ByteArray} {p : PS} (h : Fz T p) (hp : p.p ≤ T.size) (names : List ByteArray) (l : List (Int × Int × Nat)) : Fz T (p.klass T names l) := by
  have hA := classA_fz h hp names
  have h2 := spansL_fz (T := T) (k := names.length) (T.size + 1) ((p.classA T names).span T l) (l ++ [((p.classA T names).spanX T, (p.classA T names).spanY T, names.length)]) (span_p hA.2.1 l).2.1 (hA.1.span hA.2.1 l)
  exact h2.1.need h2.2 _

theorem class_z {T : ByteArray} {s : RS} {p : PS} {l : List (Int × Int × Nat)} (h : Okz T s p) (hs : s.spans = spI l) (hm : memL [wClass] (p.tk T) = true) (hno : NamesOk s.names) :
    (Okz T (s.classes T) (p.klass T s.names l) ∧ (s.classes T).spans = spI (p.classB T s.names l).2 ∧ (s.classes T).names = s.names ++ [nameTok T s.names p] ∧ NamesOk (s.classes T).names) ∨ Badz T (s.classes T) (p.klass T s.names l) := by
  have hle := okz_le h
  have hfz := okz_fz h
  have hcf := class_fz hfz hle s.names l
  unfold RS.classes
  simp only
  by_cases h6 : s.names.length = 6
  · rw [if_pos (by show (s.take T).names.length = 6; exact h6)]
    right
    have hb := badz_fail (T := T) (s := s.take T) h.1 h.2.1 6 (by decide) (s.pos T : Int) (okz_pos h)
    have ec : p.classN T s.names.length = p.fail T 6 := by unfold PS.classN; rw [if_pos h6]
    have k1 : Stk (p.fail T 6) (p.klass T s.names l) := by
      rw [← ec]
      exact ((((stk_need T _ _).trans (stk_newName T s.names _)).trans (stk_need T _ _)).trans (stk_span T l _)).trans ((stk_spansL T s.names.length (T.size + 1) _ _).trans (stk_need T _ _))
    exact badz_keep hb rfl rfl k1 hcf
  · rw [if_neg (by show ¬ (s.take T).names.length = 6; exact h6)]
    have h1 := okz_take h
    have ec : (p.classN T s.names.length).need T [wClass] = p.step T := by
      have : p.classN T s.names.length = p := by unfold PS.classN; rw [if_neg h6]
      rw [this]; unfold PS.need; rw [hm]; rfl
    have hnt : nameTok T s.names p = tok T (s.take T).at_ := by unfold nameTok; rw [ec]; unfold tokp tok; rw [h1.2.2.1]
    have ht := okz_tk h1
    have hq := okz_pos h1
    have hle1 := okz_le h1
    have hnl : nameL ((s.take T).tk T) = (wordp T (p.step T).p && !memL six ((p.step T).tk T)) := by rw [ht]; exact nameL_word T _ hle1
    have h2 := okz_take h1
    have rest : ∀ (q : PS), Stk q ((p.step T).newName T s.names) → Stk q (p.klass T s.names l) := by
      intro q hk
      have e : p.klass T s.names l = ((PS.spansL T s.names.length (T.size + 1) ((((p.step T).newName T s.names).need T [sgn 61]).span T l) (l ++ [((((p.step T).newName T s.names).need T [sgn 61]).spanX T, (((p.step T).newName T s.names).need T [sgn 61]).spanY T, s.names.length)])).1).need T [sgn 59] := by
        unfold PS.klass PS.classB PS.classA; rw [ec]
      rw [e]
      exact (((hk.trans (stk_need T _ _)).trans (stk_span T l _)).trans (stk_spansL T s.names.length (T.size + 1) _ _)).trans (stk_need T _ _)
    have stop : ∀ (x : RS), x.err ≠ 0 → RS.spansL T (T.size + 2) x = x := fun x hx => by rw [RS.spansL, if_pos hx]
    cases hn : nameL ((s.take T).tk T)
    · right
      have hA : (p.step T).nameA T = (p.step T).fail T 2 := by unfold PS.nameA; rw [← hnl, hn]; rfl
      have hb := badz_fail (T := T) (s := (s.take T).take T) h2.1 h1.2.1 2 (by decide) ((s.take T).pos T : Int) hq
      simp only [Bool.false_eq_true, if_false]
      have e4 : (if 0 ≤ clsIx (((s.take T).take T).fail 2 ((s.take T).pos T)).names ((s.take T).tk T) then (((s.take T).take T).fail 2 ((s.take T).pos T)).fail 4 ((s.take T).pos T) else ((s.take T).take T).fail 2 ((s.take T).pos T)) = ((s.take T).take T).fail 2 ((s.take T).pos T) := by
        split
        · exact rs_fail_same hb.1 _ _
        · rfl
      rw [e4, if_neg hb.1, stop _ (by exact hb.1)]
      have k1 : Stk ((p.step T).fail T 2) ((p.step T).newName T s.names) := by
        unfold PS.newName; rw [hA]; exact (show Stk ((p.step T).fail T 2) (((p.step T).fail T 2).nameB T s.names ((p.step T).tk T)) from stk_if T _ 4).trans (stk_step T _)
      exact badz_keep hb rfl rfl (rest _ k1) hcf
    · have hA : (p.step T).nameA T = p.step T := by unfold PS.nameA; rw [← hnl, hn]; rfl
      simp only [if_true]
      by_cases hc : 0 ≤ clsIx s.names ((s.take T).tk T)
      · right
        have hb := badz_fail (T := T) (s := (s.take T).take T) h2.1 h1.2.1 4 (by decide) ((s.take T).pos T : Int) hq
        rw [if_pos (show 0 ≤ clsIx ((s.take T).take T).names ((s.take T).tk T) from hc), if_neg hb.1, stop _ (by exact hb.1)]
        have k1 : Stk ((p.step T).fail T 4) ((p.step T).newName T s.names) := by
          have : (p.step T).newName T s.names = ((p.step T).fail T 4).step T := by
            unfold PS.newName; rw [hA]; unfold PS.nameB; rw [← ht, if_pos hc]
          rw [this]; exact stk_step T _
        exact badz_keep hb rfl rfl (rest _ k1) hcf
      · rw [if_neg (show ¬ 0 ≤ clsIx ((s.take T).take T).names ((s.take T).tk T) from hc)]
        have hN : (p.step T).newName T s.names = (p.step T).step T := by
          unfold PS.newName; rw [hA]; unfold PS.nameB; rw [← ht, if_neg hc]
        have hA2 : p.classA T s.names = ((p.step T).step T).need T [sgn 61] := by unfold PS.classA; rw [ec, hN]
        have h5 : Okz T { (s.take T).take T with names := ((s.take T).take T).names ++ [tok T (s.take T).at_] } ((p.step T).step T) := h2
        rw [if_pos h5.1]
        rcases okz_want h5 61 with ⟨_, w2, w3⟩ | ⟨_, w3⟩
        · have hw : ({ (s.take T).take T with names := ((s.take T).take T).names ++ [tok T (s.take T).at_] } : RS).want T [61] = ({ (s.take T).take T with names := ((s.take T).take T).names ++ [tok T (s.take T).at_] } : RS).take T := w2
          have hnn : (({ (s.take T).take T with names := ((s.take T).take T).names ++ [tok T (s.take T).at_] } : RS).want T [61]).names = s.names ++ [tok T (s.take T).at_] := by rw [hw]; rfl
          have hss : (({ (s.take T).take T with names := ((s.take T).take T).names ++ [tok T (s.take T).at_] } : RS).want T [61]).spans = spI l := by rw [hw]; exact hs
          have := spans_z (k := s.names.length) (T.size + 2) _ _ l (T.size + 1) w3 hss (by rw [hnn]; simp) (by omega) (by omega)
          rw [← hA2] at this
          rcases this with ⟨a1, a2, a3⟩ | a1
          · left
            refine ⟨a1, a2, by rw [a3, hnn, hnt], ?_⟩
            rw [a3, hnn]
            intro x hx
            rcases List.mem_append.1 hx with hx | hx
            · exact hno x hx
            · simp at hx; subst hx; exact hn
          · right; exact a1
        · right
          rw [stop _ w3.1]
          have k1 : Stk (p.classA T s.names) (p.klass T s.names l) := (stk_span T l _).trans ((stk_spansL T s.names.length (T.size + 1) _ _).trans (stk_need T _ _))
          rw [hA2] at k1
          exact badz_keep w3 rfl rfl k1 hcf
end Go.Proofs.YtonooajnjgnmnaaGreatDoor
