/- Rules, and all of a text: both readers. -/
import Derived.Deep.CutBlock
import Derived.Test.YtodagkkjfipbgaaGreatDoorProg
import Derived.Test.YtodagkkjfipbgaaGreatDoorZ3toW17
import Derived.Test.YtodagkkjfipbgaaGreatDoorZ1toZ2
import Derived.Test.YtodagkkjfipbgaaGreatDoorV10toN19
import Derived.Test.YtodagkkjfipbgaaGreatDoorSh4lone
import Derived.Test.YtodagkkjfipbgaaGreatDoorD6toV9
import Derived.Test.YtodagkkjfipbgaaGreatDoorV7toW5
import Derived.Test.YtodagkkjfipbgaaGreatDoorD1toD5
import Derived.Test.YtodagkkjfipbgaaGreatDoorH1toC2
import Derived.Test.YtodagkkjfipbgaaGreatDoorK4toK6
import Derived.Test.YtodagkkjfipbgaaGreatDoorJ6toK3
import Derived.Test.YtodagkkjfipbgaaGreatDoorQ5toK2
import Derived.Test.YtodagkkjfipbgaaGreatDoorP2toQ1
import Derived.Test.YtodagkkjfipbgaaGreatDoorJ8toQ4
import Derived.Test.YtodagkkjfipbgaaGreatDoorQ2toQ3
import Derived.Test.YtodagkkjfipbgaaGreatDoorBtoP1
import Derived.Test.YtodagkkjfipbgaaGreatDoorUlone
import Derived.Test.YtodagkkjfipbgaaGreatDoorShlone
import Derived.Test.YtodagkkjfipbgaaGreatDoorSh2lone
import Derived.Test.YtodagkkjfipbgaaGreatDoorN17toV1
import Derived.Test.YtodagkkjfipbgaaGreatDoorN15toN16
import Derived.Test.YtodagkkjfipbgaaGreatDoorN13toN14
import Derived.Test.YtodagkkjfipbgaaGreatDoorN12lone
import Derived.Test.YtodagkkjfipbgaaGreatDoorN10toN11
import Derived.Test.YtodagkkjfipbgaaGreatDoorN9lone
import Derived.Test.YtodagkkjfipbgaaGreatDoorN1toN5
import Derived.Test.YtodagkkjfipbgaaGreatDoorJ10toJ11
import Derived.Test.YtodagkkjfipbgaaGreatDoorK9toJ9
import Derived.Test.YtodagkkjfipbgaaGreatDoorK7toL3
import Derived.Test.YtodagkkjfipbgaaGreatDoorJ3toJ5
import Derived.Test.YtodagkkjfipbgaaGreatDoorJ2toJ7
import Derived.Test.YtodagkkjfipbgaaGreatDoorN8lone
import Derived.Test.YtodagkkjfipbgaaGreatDoorN6toN0
import Derived.Test.YtodagkkjfipbgaaGreatDoorC5toS
import Derived.Test.YtodagkkjfipbgaaGreatDoorC3toC4
import Derived.Test.YtodagkkjfipbgaaGreatDoorN20toD7
namespace Go.Proofs.YtodagkkjfipbgaaGreatDoor
open Go.RowKit

/-- A side and what ends it. -/
theorem side_z {T : ByteArray} {names : List ByteArray} {s : RS} {p : PS} (hno : NamesOk names) (c : UInt8) (h : Okz T s p) (hn : s.names = names) (h0 : s.nest = 0) :
    (Okz T (s.side T [c]).1 ((p.side T names (sgn c)).1.need T [sgn c]) ∧ (s.side T [c]).1.names = names ∧ (s.side T [c]).1.nest = 0) ∨ Badz T (s.side T [c]).1 ((p.side T names (sgn c)).1.need T [sgn c]) := by
  have hle := okz_le h
  have h1 : Okz T (({ s with atoms := 0 } : RS).peek T) p := okz_peek (s := { s with atoms := 0 }) h
  have ht := okz_tk h1
  unfold RS.side PS.side
  simp only
  rw [ht, memL_sgn]
  by_cases e : p.tk T = [c]
  · rw [if_pos e, if_pos (by simpa using e)]
    simp only
    have eb : RS.endB T (({ s with atoms := 0 } : RS).peek T) [c] = (({ s with atoms := 0 } : RS).peek T).want T [c] := by unfold RS.endB; rw [if_pos h1.1]
    rw [eb]
    rcases okz_want h1 c with ⟨_, w2, w3⟩ | ⟨_, w3⟩
    · left; exact ⟨w3, by rw [w2]; exact hn, by rw [w2]; exact h0⟩
    · right; exact w3
  · rw [if_neg e, if_neg (by simpa using e)]
    simp only
    have hE : Ez T names 4 (({ s with atoms := 0 } : RS).peek T) p.zero := ⟨h1, rfl, by show (0 : Int) = s.nest; rw [h0], by show (0 : Int) ≤ 0; omega, by show (0 : Int) ≤ 4; omega, hn, by show s.nest + 4 = 4; omega⟩
    have hR := expr_z hno 4 _ _ hE
    obtain ⟨r, hr⟩ : ∃ r, r = (RS.expr T 4 (({ s with atoms := 0 } : RS).peek T)).1 := ⟨_, rfl⟩
    obtain ⟨q, hq⟩ : ∃ q, q = (PS.expr T names 5 p.zero).1 := ⟨_, rfl⟩
    have hqz : Fz T q := by rw [hq]; exact (fg_expr T names 5 p.zero hle (okz_fz h)).1
    rw [← hr] at hR ⊢
    rw [show PS.expr T names (4 + 1) p.zero = PS.expr T names 5 p.zero from rfl, ← hq] at hR
    rw [← hq]
    rcases hR with hE | hb | hpd
    · have eb : RS.endB T r [c] = r.want T [c] := by unfold RS.endB; rw [if_pos hE.1.1]
      rw [eb]
      rcases okz_want hE.1 c with ⟨_, w2, w3⟩ | ⟨_, w3⟩
      · left; exact ⟨w3, by rw [w2]; exact hE.2.2.2.2.2.1, by rw [w2]; show r.nest = 0; have := hE.2.2.2.2.2.2; omega⟩
      · right; exact w3
    · right
      have eb : RS.endB T r [c] = r := by unfold RS.endB; rw [if_neg hb.1]
      rw [eb]
      exact badz_keep hb rfl rfl (stk_need T _ _) (hqz.need (by rw [hb.2.2.2]; omega) _)
    · right
      have eb : RS.endB T r [c] = r := by unfold RS.endB; rw [if_neg (by rw [hpd.1]; decide)]
      rw [eb]
      exact (pendz_need hpd c).1

theorem rule_z {T : ByteArray} {names : List ByteArray} {s : RS} {p : PS} {n : Nat} (hno : NamesOk names) (h : Okz T s p) (hn : s.names = names) (h0 : s.nest = 0) (hm : memL [wCut, wJoin] (p.tk T) = true) (hL : s.L.length = n) :
    (Okz T (s.rule T) (p.rule T names n) ∧ (s.rule T).names = names ∧ (s.rule T).nest = 0 ∧ (s.rule T).L.length = n + 1) ∨ Badz T (s.rule T) (p.rule T names n) := by
  have hle := okz_le h
  have hfz := okz_fz h
  have hrg := rule_good T names n p hle hfz
  unfold RS.rule
  simp only
  by_cases h4 : n = 4
  · rw [if_pos (by show s.L.length = 4; omega)]
    right
    have hb := badz_fail (T := T) (s := s.take T) h.1 h.2.1 6 (by decide) (s.pos T : Int) (okz_pos h)
    have en : p.ruleN T n = p.fail T 6 := by unfold PS.ruleN; rw [if_pos h4]
    have z1 : Fz T (p.ruleN T n) := hfz.if_ 6
    have p1 : (p.ruleN T n).p ≤ T.size := (p_if hle 6).1
    have z2 := z1.need p1 [wCut, wJoin]
    have p2 := (need_p p1 [wCut, wJoin]).1
    have f3 := fg_side T names (sgn 124) _ p2 z2
    have p3 := (side_goes T names (sgn 124) _ p2).2
    have z4 := f3.1.need p3 [sgn 124]
    have p4 := (need_p p3 [sgn 124]).1
    have f5 := fg_side T names (sgn 59) _ p4 z4
    have k1 : Stk (p.ruleN T n) (p.rule T names n) := ((((stk_need T _ _).trans f3.2).trans (stk_need T _ _)).trans f5.2).trans (stk_need T _ _)
    rw [en] at k1
    exact badz_keep hb rfl rfl k1 hrg.1
  · rw [if_neg (by show ¬ s.L.length = 4; omega)]
    have en : (p.ruleN T n).need T [wCut, wJoin] = p.step T := by
      have : p.ruleN T n = p := by unfold PS.ruleN; rw [if_neg h4]
      rw [this]; unfold PS.need; rw [hm]; rfl
    have h1 := okz_take h
    have hA := side_z hno 124 h1 hn h0
    have eA : (p.ruleA T names n).1.need T [sgn 124] = ((p.step T).side T names (sgn 124)).1.need T [sgn 124] := by unfold PS.ruleA; rw [en]
    rcases hA with ⟨a1, a2, a3⟩ | ab
    · rw [if_pos a1.1]
      have hB := side_z hno 59 a1 a2 a3
      have eB : p.rule T names n = ((((p.step T).side T names (sgn 124)).1.need T [sgn 124]).side T names (sgn 59)).1.need T [sgn 59] := by unfold PS.rule PS.ruleB; rw [eA]
      rw [eB]
      rcases hB with ⟨b1, b2, b3⟩ | bb
      · left
        refine ⟨b1, b2, b3, ?_⟩
        show ((((s.take T).side T [124]).1.side T [59]).1.L ++ _).length = n + 1
        rw [List.length_append, side_L, side_L]
        show s.L.length + _ = _
        rw [hL]; rfl
      · right; exact bb
    · right
      rw [if_neg ab.1]
      have hb2 : Badz T { ((s.take T).side T [124]).1 with L := ((s.take T).side T [124]).1.L ++ [(decide (s.tk T = [99, 117, 116]), ((s.take T).side T [124]).2, emptyX)] } (((p.step T).side T names (sgn 124)).1.need T [sgn 124]) := ab
      have f5 := fg_side T names (sgn 59) (((p.step T).side T names (sgn 124)).1.need T [sgn 124]) (by rw [ab.2.2.2]; omega) (badz_fz ab)
      have k1 : Stk (((p.step T).side T names (sgn 124)).1.need T [sgn 124]) (p.rule T names n) := by
        unfold PS.rule PS.ruleB; rw [eA]
        exact f5.2.trans (stk_need T _ _)
      exact badz_keep hb2 rfl rfl k1 hrg.1

/-- Both end alike. -/
def Finz (T : ByteArray) (s : RS) (p : PS) : Prop := (s.err = 0 ∧ s.place = 0 ∧ p.f = 0) ∨ Badz T s p
theorem readL_badz {T : ByteArray} {s : RS} (h : s.err ≠ 0) (g : Nat) : RS.readL T g s = s := by
  cases g with
  | zero => rfl
  | succ g => rw [RS.readL, if_pos h]
theorem cj_mem (l : List UInt8) : memL [wCut, wJoin] l = true ↔ (l = [99, 117, 116] ∨ l = [106, 111, 105, 110]) := by
  rw [memL_iff]
  unfold wCut wJoin
  simp only [List.mem_cons, List.not_mem_nil, or_false]
  constructor
  · rintro ⟨x, (rfl | rfl), hx⟩ <;> rw [ByteArray.toList_eq] at hx <;> simp [← hx]
  · rintro (h | h)
    · exact ⟨_, Or.inl rfl, by rw [ByteArray.toList_eq]; exact h.symm⟩
    · exact ⟨_, Or.inr rfl, by rw [ByteArray.toList_eq]; exact h.symm⟩
theorem end_bad {T : ByteArray} {s : RS} {p : PS} {names : List ByteArray} (h : Badz T s p) (g' : Nat) (Ls : List RuleM) : Badz T s (readEnd T (readR T names g' p Ls).1) := by
  have e1 : (readR T names g' p Ls).1 = p := by
    cases g' with
    | zero => rfl
    | succ g' => rw [readR, if_neg (by rw [cj_mem, badz_tk h]; simp)]
  have e2 : readEnd T p = p := by unfold readEnd; rw [if_pos h.2.2.2]
  rw [e1, e2]; exact h
theorem tk_nil_iff {T : ByteArray} {p : PS} (hp : p.p ≤ T.size) : p.tk T = [] ↔ p.p = T.size := by
  constructor
  · intro h
    rcases Nat.lt_or_ge p.p T.size with h1 | h1
    · exact absurd h (tokp_head h1).1
    · omega
  · intro h; unfold PS.tk; rw [h]; exact tokp_end T
theorem rules_z {T : ByteArray} {names : List ByteArray} (hno : NamesOk names) : ∀ (g : Nat) (s : RS) (p : PS) (Ls : List RuleM) (g' : Nat), Okz T s p → s.names = names → s.nest = 0 → s.L.length = Ls.length → (p.tk T = [99, 108, 97, 115, 115] → s.L.length ≠ 0) → T.size < p.p + g → T.size < p.p + g' →
    Finz T (RS.readL T g s) (readEnd T (readR T names g' p Ls).1) := by
  intro g
  induction g with
  | zero => intro s p Ls g' h _ _ _ _ hg; have := okz_le h; omega
  | succ g ih =>
    intro s p Ls g' h hn h0 hL hc hg hg'
    have hle := okz_le h
    have ht := okz_tk h
    have hpk := okz_peek h
    obtain ⟨g'', rfl⟩ : ∃ g'', g' = g'' + 1 := ⟨g' - 1, by omega⟩
    rw [RS.readL, if_neg (by rw [h.1]; simp)]
    simp only
    rw [ht, if_neg (fun hh => hc hh.1 hh.2), readR]
    by_cases hcj : p.tk T = [99, 117, 116] ∨ p.tk T = [106, 111, 105, 110]
    · have hm := (cj_mem (p.tk T)).2 hcj
      rw [if_pos hcj, if_pos hm]
      have hlt := mem_lt hle cj_ne hm
      have hrg := rule_good T names Ls.length p hle (okz_fz h)
      have hadv := hrg.2.2.2.2 hlt
      rcases rule_z hno hpk hn h0 hm hL with ⟨a1, a2, a3, a4⟩ | ab
      · exact ih _ _ _ _ a1 a2 a3 (by rw [a4, List.length_append]; rfl) (fun _ => by rw [a4]; omega) (by omega) (by omega)
      · right
        rw [readL_badz ab.1]
        exact end_bad ab _ _
    · have hm : ¬ memL [wCut, wJoin] (p.tk T) = true := fun hh => hcj ((cj_mem _).1 hh)
      rw [if_neg hcj, if_neg hm]
      by_cases e : p.tk T = []
      · rw [if_pos e]
        have e2 : readEnd T p = p := by unfold readEnd; rw [if_pos ((tk_nil_iff hle).1 e)]
        show Finz T (s.peek T) (readEnd T p)
        rw [e2]
        exact Or.inl ⟨h.1, h.2.2.2.2, h.2.1⟩
      · rw [if_neg e]
        have hb := badz_fail (T := T) (s := s.peek T) h.1 h.2.1 2 (by decide) (s.pos T : Int) (okz_pos h)
        rw [readL_badz hb.1]
        have e2 : readEnd T p = p.fail T 2 := by unfold readEnd; rw [if_neg (fun hh => e ((tk_nil_iff hle).2 hh))]
        right
        show Badz T _ (readEnd T p)
        rw [e2]; exact hb

theorem fail_L (s : RS) (e p : Int) : (s.fail e p).L = s.L ∧ (s.fail e p).nest = s.nest := ⟨(fail_same s e p).2.2.1, (fail_same s e p).2.2.2.2.2⟩
theorem addSpan_L (s : RS) (a b q : Int) : (s.addSpan a b q).L = s.L ∧ (s.addSpan a b q).nest = s.nest := by
  unfold RS.addSpan; simp only; split
  · exact fail_L s 5 q
  · exact ⟨rfl, rfl⟩
theorem span_L (T : ByteArray) (s : RS) : (s.span T).L = s.L ∧ (s.span T).nest = s.nest := by
  have h1 := hex_same T s
  unfold RS.span; simp only; split
  · have h2 := hex_same T (((s.hex T).peek T).take T)
    have h3 := addSpan_L ((((s.hex T).peek T).take T).hex T) (RS.hexV (s.tk T)) (RS.hexV ((((s.hex T).peek T).take T).tk T)) ((((s.hex T).peek T).take T).pos T)
    exact ⟨h3.1.trans (h2.2.2.1.trans h1.2.2.1), h3.2.trans (h2.2.2.2.2.2.trans h1.2.2.2.2.2)⟩
  · have h3 := addSpan_L ((s.hex T).peek T) (RS.hexV (s.tk T)) (RS.hexV (s.tk T)) (s.pos T)
    exact ⟨h3.1.trans h1.2.2.1, h3.2.trans h1.2.2.2.2.2⟩
theorem spansL_L (T : ByteArray) : ∀ (g : Nat) (s : RS), (RS.spansL T g s).L = s.L ∧ (RS.spansL T g s).nest = s.nest := by
  intro g
  induction g with
  | zero => intro s; exact ⟨rfl, rfl⟩
  | succ g ih =>
    intro s
    have h1 := span_L T s
    rw [RS.spansL]
    split
    · exact ⟨rfl, rfl⟩
    · simp only
      split
      · exact h1
      · split
        · exact h1
        · split
          · have := ih ((s.span T).take T); exact ⟨this.1.trans h1.1, this.2.trans h1.2⟩
          · have := ih (((s.span T).take T).fail 2 ((s.span T).pos T))
            have h2 := fail_L ((s.span T).take T) 2 ((s.span T).pos T)
            exact ⟨this.1.trans (h2.1.trans h1.1), this.2.trans (h2.2.trans h1.2)⟩
def RS.clsB (T : ByteArray) (s2 : RS) (b : Bool) (q : Int) (nm : ByteArray) (l : List UInt8) : RS :=
  let s3 := if b = true then s2 else s2.fail 2 q
  let s4 := if 0 ≤ clsIx s3.names l then s3.fail 4 q else s3
  let s5 := { s4 with names := s4.names ++ [nm] }
  let s6 := if s5.err = 0 then s5.want T [61] else s5
  RS.spansL T (T.size + 2) s6
theorem clsB_6 (T : ByteArray) (s5 : RS) : (RS.spansL T (T.size + 2) (if s5.err = 0 then s5.want T [61] else s5)).L = s5.L ∧ (RS.spansL T (T.size + 2) (if s5.err = 0 then s5.want T [61] else s5)).nest = s5.nest := by
  split
  · have h7 := want_same T s5 [61]
    have h6 := spansL_L T (T.size + 2) (s5.want T [61])
    exact ⟨h6.1.trans h7.2.2.1, h6.2.trans h7.2.2.2.2.2⟩
  · exact spansL_L T (T.size + 2) s5
theorem clsB_L (T : ByteArray) (s2 : RS) (b : Bool) (q : Int) (nm : ByteArray) (l : List UInt8) : (RS.clsB T s2 b q nm l).L = s2.L ∧ (RS.clsB T s2 b q nm l).nest = s2.nest := by
  have h3 : ∀ s3 : RS, s3 = (if b = true then s2 else s2.fail 2 q) → s3.L = s2.L ∧ s3.nest = s2.nest := by
    intro s3 e; rw [e]; split
    · exact ⟨rfl, rfl⟩
    · exact fail_L s2 2 q
  have h4 : ∀ s3 s4 : RS, s3.L = s2.L ∧ s3.nest = s2.nest → s4 = (if 0 ≤ clsIx s3.names l then s3.fail 4 q else s3) → s4.L = s2.L ∧ s4.nest = s2.nest := by
    intro s3 s4 h e; rw [e]; split
    · have := fail_L s3 4 q; exact ⟨this.1.trans h.1, this.2.trans h.2⟩
    · exact h
  have h5 := h4 _ _ (h3 _ rfl) rfl
  have h6 := clsB_6 T { (if 0 ≤ clsIx (if b = true then s2 else s2.fail 2 q).names l then (if b = true then s2 else s2.fail 2 q).fail 4 q else (if b = true then s2 else s2.fail 2 q)) with names := (if 0 ≤ clsIx (if b = true then s2 else s2.fail 2 q).names l then (if b = true then s2 else s2.fail 2 q).fail 4 q else (if b = true then s2 else s2.fail 2 q)).names ++ [nm] }
  exact ⟨h6.1.trans h5.1, h6.2.trans h5.2⟩
theorem classes_eq (T : ByteArray) (s : RS) : s.classes T = if (s.take T).names.length = 6 then (s.take T).fail 6 (s.pos T) else RS.clsB T ((s.take T).take T) (nameL ((s.take T).tk T)) ((s.take T).pos T) (tok T (s.take T).at_) ((s.take T).tk T) := rfl
theorem classes_L (T : ByteArray) (s : RS) : (s.classes T).L = s.L ∧ (s.classes T).nest = s.nest := by
  rw [classes_eq]
  split
  · exact fail_L (s.take T) 6 _
  · exact clsB_L T ((s.take T).take T) _ _ _ _

theorem classes_z {T : ByteArray} : ∀ (g : Nat) (s : RS) (p : PS) (l : List (Int × Int × Nat)) (g' : Nat), Okz T s p → NamesOk s.names → s.spans = spI l → s.nest = 0 → s.L = [] → T.size < p.p + g → T.size < p.p + g' →
    Finz T (RS.readL T g s) (readEnd T (readR T (readC T g' ⟨p, s.names, l⟩).names (T.size + 1) (readC T g' ⟨p, s.names, l⟩).s []).1) := by
  intro g
  induction g with
  | zero => intro s p l g' h _ _ _ _ hg; have := okz_le h; omega
  | succ g ih =>
    intro s p l g' h hno hs h0 hL hg hg'
    have hle := okz_le h
    have ht := okz_tk h
    have hpk := okz_peek h
    obtain ⟨g'', rfl⟩ : ∃ g'', g' = g'' + 1 := ⟨g' - 1, by omega⟩
    by_cases hm : memL [wClass] (p.tk T) = true
    · have hcw := class_word hm
      rw [readC, if_pos hm, RS.readL, if_neg (by rw [h.1]; simp)]
      simp only
      rw [ht, if_pos ⟨hcw, by show s.L.length = 0; rw [hL]; rfl⟩]
      have hlt := mem_lt hle cls_ne hm
      have hcp := class_p T s.names l p (okz_fz h) hle
      have hadv := hcp.2.2 hlt
      have hLL := classes_L T (s.peek T)
      rcases class_z hpk hs hm hno with ⟨a1, a2, a3, a4⟩ | ab
      · have := ih ((s.peek T).classes T) (p.klass T s.names l) (p.classB T s.names l).2 g'' a1 a4 a2 (by rw [hLL.2]; exact h0) (by rw [hLL.1]; exact hL) (by omega) (by omega)
        rw [a3] at this
        exact this
      · right
        rw [readL_badz ab.1]
        have ab' : Badz T ((s.peek T).classes T) (p.klass T s.names l) := ab
        have e1 : readC T g'' ⟨p.klass T s.names l, s.names ++ [nameTok T s.names p], (p.classB T s.names l).2⟩ = ⟨p.klass T s.names l, s.names ++ [nameTok T s.names p], (p.classB T s.names l).2⟩ := by
          cases g'' with
          | zero => rfl
          | succ g => rw [readC, if_neg (by
              intro hh
              have := class_word (p := p.klass T s.names l) hh
              rw [badz_tk ab'] at this; cases this)]
        rw [e1]
        exact end_bad ab' _ _
    · have e1 : readC T (g'' + 1) ⟨p, s.names, l⟩ = ⟨p, s.names, l⟩ := by rw [readC, if_neg hm]
      rw [e1]
      refine rules_z hno (g + 1) s p [] (T.size + 1) h rfl h0 (by rw [hL]; rfl) (fun hh => ?_) hg (by omega)
      exfalso
      apply hm
      rw [memL_iff]
      exact ⟨wClass, by simp, by unfold wClass; rw [ByteArray.toList_eq]; exact hh.symm⟩

/-- A text of rules: both readers answer the same. -/
theorem read_z (T : ByteArray) (hT : T.size ≤ 1000) : (readP T).f = (RS.read T).err ∧ ((RS.read T).err = 0 → (RS.read T).place = 0) ∧ ((RS.read T).err ≠ 0 → (readP T).pl = (RS.read T).place) := by
  have h0 : Okz T RS.start (read0 T).s := ⟨rfl, rfl, rfl, Nat.zero_le _, rfl⟩
  have h := classes_z (T := T) (T.size + 2) RS.start (read0 T).s [] (T.size + 1) h0 (fun x hx => by simp [RS.start] at hx) rfl rfl rfl (by omega) (by omega)
  have e1 : RS.read T = RS.readL T (T.size + 2) RS.start := by unfold RS.read; rw [if_neg (by omega)]
  have e2 : readP T = readEnd T (readR T (readC T (T.size + 1) ⟨(read0 T).s, RS.start.names, []⟩).names (T.size + 1) (readC T (T.size + 1) ⟨(read0 T).s, RS.start.names, []⟩).s []).1 := rfl
  rw [← e1, ← e2] at h
  rcases h with ⟨a1, a2, a3⟩ | hb
  · exact ⟨by rw [a1, a3], fun _ => a2, fun hh => absurd a1 hh⟩
  · exact ⟨hb.2.1, fun hh => absurd hh hb.1, fun _ => hb.2.2.1⟩
end Go.Proofs.YtodagkkjfipbgaaGreatDoor
/- rules.Read of every text, with the table in order; what is told with it: the table and the machines. -/
namespace Go.Proofs.YtodagkkjfipbgaaGreatDoor
open Go.RowKit

set_option maxRecDepth 100000 in
set_option maxHeartbeats 2000000 in
theorem read_big (T : ByteArray) (w : World) (hT : 1000 < T.size) (hT2 : T.size ≤ 140737488351232) :
    Calls Tryz.prog 42 #[.string T] w fun r w' => Below w.heap.size w w' ∧ ∃ vE vL, r = .returned (.tuple #[.agg #[vE, vL], .int .i64 (RS.read T).err, .int .i64 (RS.read T).place]) ∧ (∃ a b c, vE = .slice a b c) ∧ ∃ a b c, vL = .slice a b c := by
  have hfin : Hid ((RS.read T).err = 1 ∧ (RS.read T).place = 0) := by
    show _ ∧ _
    have : RS.read T = RS.start.fail 1 0 := by unfold RS.read; rw [if_pos hT]
    rw [this]; exact ⟨rfl, rfl⟩
  rw [hfin.out.1, hfin.out.2]
  go_enter Tryz.func42, Tryz.ntmps42
  go_wp2_with fail
  refine bodyPost_ret (results_ctt rfl _ _ w.heap.size 84 #[.slice none 0 0, .slice none 0 0] (0, 0) _ rfl (heap_alloc_new _ _) Tryz.underlying84 rfl (by kernel_rfl)) rfl ?_
  exact ⟨(Below.refl _ _).alloc (Nat.le_refl _) _, .slice none 0 0, .slice none 0 0, rfl, ⟨_, _, _, rfl⟩, _, _, _, rfl⟩

theorem read_err0 (T : ByteArray) (h : (RS.read T).err = 0) : (RS.read T).place = 0 := by
  by_cases h1 : T.size ≤ 1000
  · exact (read_z T h1).2.1 h
  · have : RS.read T = RS.start.fail 1 0 := by unfold RS.read; rw [if_pos (by omega)]
    rw [this] at h; exact absurd h (by decide)

/-- What a Read answers, whatever the text. -/
theorem read_all (T : ByteArray) (w : World) (hE : ErrsOk w) (hT2 : T.size ≤ 140737488351232) :
    Calls Tryz.prog 42 #[.string T] w fun r w' => Below w.heap.size w w' ∧ ∃ vE vL, r = .returned (.tuple #[.agg #[vE, vL], .int .i64 (RS.read T).err, .int .i64 (RS.read T).place]) ∧ (∃ a b c, vE = .slice a b c) ∧ (∃ a b c, vL = .slice a b c) ∧ ((RS.read T).err = 0 → TRs (w.heap.size + 1) w' vE (read1 T).l ∧ LIn (w.heap.size + 1) w' vL (read2 T).2) := by
  by_cases h : T.size ≤ 1000
  · obtain ⟨e1, e2, e3⟩ := read_z T h
    refine (read_pr _ T w (addOk_s _) hE h).mono ?_
    rintro r w' ⟨hb, vE, vL, rfl, hx, hy⟩
    have e4 : (if (readP T).f = 0 then 0 else (readP T).pl) = (RS.read T).place := by
      by_cases h0 : (RS.read T).err = 0
      · rw [if_pos (e1.trans h0), e2 h0]
      · rw [if_neg (by rw [e1]; exact h0), e3 h0]
    rw [e4, e1]
    refine ⟨hb, vE, vL, rfl, ?_⟩
    by_cases h0 : (readP T).f = 0
    · obtain ⟨_, _, h1, _⟩ := (hx h0).1
      obtain ⟨ao, cap, e⟩ := row_shape h1
      obtain ⟨_, _, h2, _⟩ := (hx h0).2
      obtain ⟨ao', cap', e'⟩ := row_shape h2
      exact ⟨⟨_, _, _, e⟩, ⟨_, _, _, e'⟩, fun _ => hx h0⟩
    · exact ⟨⟨_, _, _, (hy h0).1⟩, ⟨_, _, _, (hy h0).2⟩, fun e => absurd (e1.trans e) h0⟩
  · refine (read_big T w (by omega) hT2).mono ?_
    rintro r w' ⟨hb, vE, vL, rfl, h1, h2⟩
    refine ⟨hb, vE, vL, rfl, h1, h2, fun e => absurd e ?_⟩
    have : RS.read T = RS.start.fail 1 0 := by unfold RS.read; rw [if_pos (by omega)]
    rw [this]; decide
end Go.Proofs.YtodagkkjfipbgaaGreatDoor
/- What is read without a fault: four atoms a side at most, four rules at most; machines of them. -/
namespace Go.Proofs.YtodagkkjfipbgaaGreatDoor
open Go.RowKit

theorem Stk.back {s s' : PS} (h : Stk s s') (e : s'.f = 0) : s.f = 0 := by
  by_cases h0 : s.f = 0
  · exact h0
  · have := (h h0).1; rw [e] at this; exact this.symm
theorem fail_f (T : ByteArray) (s : PS) (no : Int) (hn : no ≠ 0) : (s.fail T no).f ≠ 0 := by
  unfold PS.fail PS.failAt pf
  simp only
  split
  · exact hn
  · assumption
theorem a_if (T : ByteArray) (s : PS) {c : Prop} [Decidable c] (no : Int) : (if c then s.fail T no else s).a = s.a := by split <;> rfl
theorem a_if' (T : ByteArray) (s : PS) {c : Prop} [Decidable c] (no : Int) : (if c then s else s.fail T no).a = s.a := by split <;> rfl
theorem a_need (T : ByteArray) (L : List ByteArray) (s : PS) : (s.need T L).a = s.a := by unfold PS.need; split <;> rfl
/-- Without a fault: no more than four atoms. -/
def AG (s : PS) (q : PS × Px) : Prop := q.1.f = 0 → 0 ≤ s.a → s.a ≤ 4 → q.1.a ≤ 4 ∧ ∀ d, (atn d q.2 : Int) + s.a ≤ q.1.a ∧ kok d q.2
def AGood (T : ByteArray) (P : PS → PS × Px) : Prop := ∀ s : PS, s.p ≤ T.size → Fz T s → AG s (P s)
theorem AG.pre {s s' : PS} {q : PS × Px} (h : AG s' q) (e : s'.a = s.a) : AG s q := fun hf h0 h4 => by
  have := h hf (by omega) (by omega)
  rw [e] at this; exact this
theorem atn_row0 (d : Nat) : atn d (rowP []) = 0 := by cases d <;> simp [atn, rowP]
theorem kok_row0 (d : Nat) : kok d (rowP []) := by cases d <;> simp [kok, rowP]
theorem ag_one (T : ByteArray) (names : List ByteArray) (hn : names.length ≤ 7) (s : PS) : AG s (s.one T names) := by
  intro hf h0 h4
  have ea : (s.known T names).a = s.a := a_if' T s 3
  have hne : s.a ≠ 4 := by
    intro e
    have h1 : ((s.known T names).many T).f ≠ 0 := by unfold PS.many; rw [if_pos (by rw [ea]; exact e)]; exact fail_f T _ 6 (by decide)
    exact h1 hf
  have em : ((s.known T names).many T).a = s.a := (a_if T _ 6).trans ea
  have e1 : (s.one T names).1.a = s.a + 1 := by
    show IntKind.i64.wrap (((s.known T names).many T).a + 1) = _
    rw [em]; exact IntWalk.i64_in _ ⟨by omega, by omega⟩
  refine ⟨by omega, fun d => ?_⟩
  rw [e1]
  show (atn d (oneP (meaningP names (s.tk T)).1) : Int) + s.a ≤ s.a + 1 ∧ kok d (oneP (meaningP names (s.tk T)).1)
  have hlt := meaningP_lt names (s.tk T) hn
  cases d with
  | zero => simp [atn, kok]; omega
  | succ d => simp [atn, kok, oneP, hlt]; omega
theorem ag_bracket (T : ByteArray) (sub : PS → PS × Px) (_hs : PGood T sub) (_hf : FGood T sub) (ha : AGood T sub) (s : PS) (h : s.p ≤ T.size) (hz : Fz T s) : AG s (s.bracket T sub) := by
  have h1 : Goes T s (s.nest T) := goes_if 6 h
  have z1 : Fz T (s.nest T) := hz.if_ 6
  have h2 := adv_need T [sgn 40] (s.nest T) h1.2.2
  have z2 : Fz T (((s.nest T).need T [sgn 40]).inK) := z1.need h1.2.2 _
  have h3 := ha (((s.nest T).need T [sgn 40]).inK) h2.1.2.2 z2
  have ea : (((s.nest T).need T [sgn 40]).inK).a = s.a := (a_need T _ _).trans (a_if T s 6)
  intro e h0 h4
  have k := stk_need T [sgn 41] ((sub (((s.nest T).need T [sgn 40]).inK)).1.outK)
  have e' : (sub (((s.nest T).need T [sgn 40]).inK)).1.f = 0 := k.back e
  have h5 := (h3.pre ea) e' h0 h4
  have eb : (s.bracket T sub).1.a = (sub (((s.nest T).need T [sgn 40]).inK)).1.a := a_need T _ _
  rw [eb]; exact h5
theorem ag_atom (T : ByteArray) (names : List ByteArray) (hn : names.length ≤ 7) (sub : PS → PS × Px) (hs : PGood T sub) (hf : FGood T sub) (ha : AGood T sub) (s : PS) (h : s.p ≤ T.size) (hz : Fz T s) : AG s (s.atom T names sub) := by
  have h1 : Goes T s (s.atomOk T) := goes_if' 2 h
  have z1 : Fz T (s.atomOk T) := hz.if' 2
  have ea : (s.atomOk T).a = s.a := a_if' T s 2
  unfold PS.atom
  split
  · exact (ag_bracket T sub hs hf ha _ h1.2.2 z1).pre ea
  · exact (ag_one T names hn _).pre ea
theorem ag_atom0 (T : ByteArray) (names : List ByteArray) (hn : names.length ≤ 7) (s : PS) (_h : s.p ≤ T.size) (_hz : Fz T s) : AG s (s.atom T names (fun s => (s, rowP []))) := by
  have ea : (s.atomOk T).a = s.a := a_if' T s 2
  unfold PS.atom
  split
  · intro e h0 h4
    have eb : ((s.atomOk T).bracket T (fun s => (s, rowP []))).1.a = s.a := by
      show ((((((s.atomOk T).nest T).need T [sgn 40]).inK).outK).need T [sgn 41]).a = s.a
      rw [a_need]; show (((s.atomOk T).nest T).need T [sgn 40]).a = s.a
      rw [a_need]; exact (a_if T _ 6).trans ea
    refine ⟨by omega, fun d => ?_⟩
    rw [eb]
    show (atn d (rowP []) : Int) + s.a ≤ s.a ∧ kok d (rowP [])
    exact ⟨by rw [atn_row0]; omega, kok_row0 d⟩
  · exact (ag_one T names hn _).pre ea
theorem ag_partF (T : ByteArray) (s : PS) (q : PS × Px) (h : AG s q) : AG s (PS.partF T q) := by
  have wrapd : ∀ (x : Px), (∀ d, atn d x ≤ atn (d - 1) q.2 ∧ (kok (d - 1) q.2 → kok d x)) → AG s (q.1.step T, x) := fun x hx hf h0 h4 => by
    have h1 := h hf h0 h4
    refine ⟨h1.1, fun d => ?_⟩
    have h2 := hx d
    have h3 := h1.2 (d - 1)
    refine ⟨?_, h2.2 h3.2⟩
    show (atn d x : Int) + s.a ≤ q.1.a
    have := h3.1
    omega
  unfold PS.partF
  split
  · exact wrapd _ fun d => by
      cases d with
      | zero => exact ⟨Nat.zero_le _, fun _ => trivial⟩
      | succ d => simp [atn, kok, starP]
  · split
    · exact wrapd _ fun d => by
        cases d with
        | zero => exact ⟨Nat.zero_le _, fun _ => trivial⟩
        | succ d => simp [atn, kok, plusP]
    · split
      · exact wrapd _ fun d => by
          cases d with
          | zero => exact ⟨Nat.zero_le _, fun _ => trivial⟩
          | succ d => simp [atn, kok, maybeP, atn_row0, kok_row0]
      · exact h
/-- A list that is being read. -/
def LG (s : PS) (l : List Px) (q : PS × List Px) : Prop := q.1.f = 0 → 0 ≤ s.a → s.a ≤ 4 → q.1.a ≤ 4 ∧ ∀ d, ((q.2.map (atn d)).sum : Int) + s.a ≤ q.1.a + ((l.map (atn d)).sum : Int) ∧ ((∀ y ∈ l, kok d y) → ∀ y ∈ q.2, kok d y)
theorem LG.refl (s : PS) (l : List Px) : LG s l (s, l) := fun _ _ h4 => ⟨h4, fun d => ⟨by show ((l.map (atn d)).sum : Int) + s.a ≤ s.a + ((l.map (atn d)).sum : Int); omega, fun h => h⟩⟩
theorem LG.step {s s1 : PS} {x : Px} {l : List Px} {q : PS × List Px} (h1 : AG s (s1, x)) (h2 : LG s1 (l ++ [x]) q) (hb : q.1.f = 0 → s1.f = 0) : LG s l q := fun hf h0 h4 => by
  have a1 := h1 (hb hf) h0 h4
  have e0 : 0 ≤ s1.a := by have h3 := (a1.2 0).1; have h4' : (0 : Int) ≤ (atn 0 (s1, x).2 : Int) := by omega
                           show 0 ≤ (s1, x).1.a; omega
  have a2 := h2 hf e0 a1.1
  refine ⟨a2.1, fun d => ?_⟩
  have b1 := a1.2 d
  have b2 := a2.2 d
  have es : ((l ++ [x]).map (atn d)).sum = (l.map (atn d)).sum + atn d x := by simp
  have b3 : (atn d x : Int) + s.a ≤ s1.a := b1.1
  rw [es] at b2
  refine ⟨by have := b2.1; omega, fun hk => b2.2 fun y hy => ?_⟩
  rw [List.mem_append] at hy
  rcases hy with hy | hy
  · exact hk y hy
  · simp at hy; subst hy; exact b1.2
theorem ag_rowL (T : ByteArray) (P : PS → PS × Px) (hP : PGood T P) (hf : FGood T P) (ha : AGood T P) : ∀ (g : Nat) (s : PS) (l : List Px), s.p ≤ T.size → Fz T s → LG s l (PS.rowL T P g s l) := by
  intro g
  induction g with
  | zero => intro s l _ _; exact LG.refl s l
  | succ g ih =>
    intro s l hp h
    rw [PS.rowL]
    split
    · have h1 := hf s hp h
      have h2 := ih (P s).1 (l ++ [(P s).2]) (hP s hp).2.2.1 h1.1
      exact LG.step (ha s hp h) h2 (fg_rowL T P hP hf g (P s).1 (l ++ [(P s).2]) (hP s hp).2.2.1 h1.1).2.back
    · exact LG.refl s l
theorem ag_exprL (T : ByteArray) (P : PS → PS × Px) (hP : PGood T P) (hf : FGood T P) (ha : AGood T P) : ∀ (g : Nat) (s : PS) (l : List Px), s.p ≤ T.size → Fz T s → LG s l (PS.exprL T P g s l) := by
  intro g
  induction g with
  | zero => intro s l _ _; exact LG.refl s l
  | succ g ih =>
    intro s l hp h
    rw [PS.exprL]
    split
    · have h0 := (adv_step T s hp).1.2.2
      have h1 := hf (s.step T) h0 (h.step hp)
      have h2 := ih (P (s.step T)).1 (l ++ [(P (s.step T)).2]) (hP (s.step T) h0).2.2.1 h1.1
      exact LG.step ((ha (s.step T) h0 (h.step hp)).pre rfl) h2 (fg_exprL T P hP hf g _ (l ++ [(P (s.step T)).2]) (hP (s.step T) h0).2.2.1 h1.1).2.back
    · exact LG.refl s l
theorem LG.all {s s1 : PS} {x : Px} {q : PS × List Px} (h1 : AG s (s1, x)) (h2 : LG s1 [x] q) (hb : q.1.f = 0 → s1.f = 0) : LG s [] q := LG.step (l := []) h1 h2 hb
theorem AG.of_list {s : PS} {q : PS × List Px} {y : Px} (h : LG s [] q) (hy : ∀ d, atn d y ≤ (q.2.map (atn (d - 1))).sum ∨ q.2 = [y]) (hk : ∀ d, (∀ z ∈ q.2, kok (d - 1) z ∧ kok d z) → kok d y) : AG s (q.1, y) := fun hf h0 h4 => by
  have h1 := h hf h0 h4
  refine ⟨h1.1, fun d => ?_⟩
  have b1 := h1.2 (d - 1)
  have b2 := h1.2 d
  refine ⟨?_, hk d fun z hz => ⟨b1.2 (fun _ h => by simp at h) z hz, b2.2 (fun _ h => by simp at h) z hz⟩⟩
  show (atn d y : Int) + s.a ≤ q.1.a
  rcases hy d with h2 | h2
  · have := b1.1; simp at this; omega
  · have := b2.1; rw [h2] at this; simp at this; omega
theorem ag_row (T : ByteArray) (P : PS → PS × Px) (hP : PGood T P) (hf : FGood T P) (ha : AGood T P) : AGood T (PS.rowR T P) := fun s hp h => by
  have h1 := hf s hp h
  have h2 := ag_rowL T P hP hf ha (T.size + 1) (P s).1 [(P s).2] (hP s hp).2.2.1 h1.1
  have h3 := LG.all (ha s hp h) h2 (fg_rowL T P hP hf (T.size + 1) (P s).1 [(P s).2] (hP s hp).2.2.1 h1.1).2.back
  refine AG.of_list h3 (fun d => ?_) (fun d hz => ?_)
  · left
    cases d with
    | zero => exact Nat.zero_le _
    | succ d => simp [atn, rowP]
  · cases d with
    | zero => trivial
    | succ d => simp only [kok, rowP]; exact ⟨fun e => by simp at e, fun y hy => (hz y hy).1⟩
theorem ag_expr' (T : ByteArray) (P : PS → PS × Px) (hP : PGood T P) (hf : FGood T P) (ha : AGood T P) : AGood T (PS.exprR T P) := fun s hp h => by
  have h1 := hf s hp h
  have h2 := ag_exprL T P hP hf ha (T.size + 1) (P s).1 [(P s).2] (hP s hp).2.2.1 h1.1
  have h3 := LG.all (ha s hp h) h2 (fg_exprL T P hP hf (T.size + 1) (P s).1 [(P s).2] (hP s hp).2.2.1 h1.1).2.back
  unfold PS.exprR
  generalize PS.exprL T P (T.size + 1) (P s).1 [(P s).2] = q at h3
  obtain ⟨s', l⟩ := q
  refine AG.of_list h3 (fun d => ?_) (fun d hz => ?_)
  · match l with
    | [x] => exact Or.inr rfl
    | [] => left; cases d <;> simp [atn, eitherP]
    | x :: y :: l => left; cases d <;> simp [atn, eitherP]
  · match l with
    | [x] => exact (hz x List.mem_cons_self).2
    | [] => cases d <;> simp [kok, eitherP]
    | x :: y :: l =>
      cases d with
      | zero => trivial
      | succ d => simp only [kok, eitherP]; exact ⟨fun e => by simp at e, fun z hz' => (hz z hz').1⟩
theorem ag_expr (T : ByteArray) (names : List ByteArray) (hn : names.length ≤ 7) : ∀ n, AGood T (PS.expr T names n) := by
  intro n
  induction n with
  | zero =>
    have g0 : PGood T (PS.partP T names (fun s => (s, rowP []))) := good_adv.2 fun s h => adv_partF T s _ (adv_atom0 T names s h)
    have f0 : FGood T (PS.partP T names (fun s => (s, rowP []))) := fun s hp h => fg_partF T s _ (adv_atom0 T names s hp).1.2.2 (fg_atom0 T names s hp h)
    have a0 : AGood T (PS.partP T names (fun s => (s, rowP []))) := fun s hp h => ag_partF T s _ (ag_atom0 T names hn s hp h)
    exact ag_expr' T _ (good_row T _ g0) (fg_row T _ g0 f0) (ag_row T _ g0 f0 a0)
  | succ n ih =>
    have g0 : PGood T (PS.partP T names (PS.expr T names n)) := good_part T names _ (good_expr T names n)
    have f0 : FGood T (PS.partP T names (PS.expr T names n)) := fun s hp h => fg_partF T s _ (adv_atom T names _ (good_expr T names n) s hp).1.2.2 (fg_atom T names _ (good_expr T names n) (fg_expr T names n) s hp h)
    have a0 : AGood T (PS.partP T names (PS.expr T names n)) := fun s hp h => ag_partF T s _ (ag_atom T names hn _ (good_expr T names n) (fg_expr T names n) ih s hp h)
    exact ag_expr' T _ (good_row T _ g0) (fg_row T _ g0 f0) (ag_row T _ g0 f0 a0)
theorem side_few (T : ByteArray) (names : List ByteArray) (hn : names.length ≤ 7) (x : ByteArray) (s : PS) (hp : s.p ≤ T.size) (h : Fz T s) (hf : (s.side T names x).1.f = 0) (d : Nat) : atn d (s.side T names x).2 ≤ 4 ∧ kok d (s.side T names x).2 := by
  unfold PS.side at hf ⊢
  split at hf
  · rename_i hm; rw [if_pos hm]; exact ⟨by rw [atn_row0]; omega, kok_row0 d⟩
  · rename_i hm
    rw [if_neg hm]
    have h1 := ag_expr T names hn 5 s.zero hp h hf (Int.le_refl _) (by show (0 : Int) ≤ 4; decide)
    have h2 := h1.2 d
    have e : s.zero.a = 0 := rfl
    exact ⟨by have := h2.1; have := h1.1; omega, h2.2⟩
theorem rule_few (T : ByteArray) (names : List ByteArray) (hn : names.length ≤ 7) (hT : T.size ≤ 1000) (n : Nat) (s : PS) (hp : s.p ≤ T.size) (h : Fz T s) (hf : (s.rule T names n).f = 0) : n ≠ 4 ∧ RuleOk (ruleOf T names n s) := by
  have z1 : Fz T (s.ruleN T n) := h.if_ 6
  have p1 : (s.ruleN T n).p ≤ T.size ∧ s.p ≤ (s.ruleN T n).p := p_if hp 6
  have z2 := z1.need p1.1 [wCut, wJoin]
  have p2 := need_p p1.1 [wCut, wJoin]
  have f3 := fg_side T names (sgn 124) _ p2.1 z2
  have p3 := side_goes T names (sgn 124) _ p2.1
  have z4 := f3.1.need p3.2 [sgn 124]
  have p4 := need_p p3.2 [sgn 124]
  have f5 := fg_side T names (sgn 59) _ p4.1 z4
  have e5 : (s.ruleB T names n).1.f = 0 := (stk_need T [sgn 59] _).back hf
  have e4 : ((s.ruleA T names n).1.need T [sgn 124]).f = 0 := f5.2.back e5
  have e3 : (s.ruleA T names n).1.f = 0 := (stk_need T [sgn 124] _).back e4
  have e2 : ((s.ruleN T n).need T [wCut, wJoin]).f = 0 := f3.2.back e3
  have e1 : (s.ruleN T n).f = 0 := (stk_need T [wCut, wJoin] _).back e2
  have hA := side_few T names hn (sgn 124) _ p2.1 z2 e3 24
  have hB := side_few T names hn (sgn 59) _ p4.1 z4 e5 24
  have wA := side_wt T names (sgn 124) _ p2.1 hT 24
  have wB := side_wt T names (sgn 59) _ p4.1 hT 24
  have mA := make_sok _ hA.2 (Nat.le_trans wA (by omega)) hA.1
  have mB := make_sok _ hB.2 (Nat.le_trans wB (by omega)) hB.1
  refine ⟨fun e => ?_, mA.1, mB.1, mA.2.1 true, mB.2.1 false, mB.2.1 true, mA.2.2, mB.2.2⟩
  have : (s.ruleN T n).f ≠ 0 := by unfold PS.ruleN; rw [if_pos e]; exact fail_f T s 6 (by decide)
  exact this e1
theorem readR_few (T : ByteArray) (names : List ByteArray) (hn : names.length ≤ 7) (hT : T.size ≤ 1000) : ∀ (g : Nat) (s : PS) (L : List RuleM), s.p ≤ T.size → Fz T s → (readR T names g s L).1.f = 0 → L.length ≤ 4 → (∀ x ∈ L, RuleOk x) → (readR T names g s L).2.length ≤ 4 ∧ ∀ x ∈ (readR T names g s L).2, RuleOk x := by
  intro g
  induction g with
  | zero => intro s L _ _ _ h1 h2; exact ⟨h1, h2⟩
  | succ g ih =>
    intro s L hp hz hf h1 h2
    rw [readR] at hf ⊢
    split at hf
    · rename_i hm
      rw [if_pos hm]
      have hg := rule_good T names L.length s hp hz
      have e := (readR_stk T names g _ (L ++ [ruleOf T names L.length s]) hg.2.2.1 hg.1).back hf
      have hr := rule_few T names hn hT L.length s hp hz e
      refine ih _ _ hg.2.2.1 hg.1 hf (by rw [List.length_append]; have := hr.1; simp; omega) fun x hx => ?_
      rw [List.mem_append] at hx
      rcases hx with hx | hx
      · exact h2 x hx
      · simp at hx; subst hx; exact hr.2
    · rename_i hm; rw [if_neg hm]; exact ⟨h1, h2⟩
theorem fz_spansL (T : ByteArray) (k : Nat) : ∀ (g : Nat) (s : PS) (l : List (Int × Int × Nat)), s.p ≤ T.size → Fz T s → Fz T (PS.spansL T k g s l).1 ∧ (PS.spansL T k g s l).1.p ≤ T.size := by
  intro g
  induction g with
  | zero => intro s l hp h; exact ⟨h, hp⟩
  | succ g ih =>
    intro s l hp h
    rw [PS.spansL]
    split
    · have h0 := (adv_step T s hp).1.2.2
      exact ih _ _ (span_p (s := s.step T) h0 l).2.1 ((h.step hp).span h0 l)
    · exact ⟨h, hp⟩
theorem klass_fz (T : ByteArray) (names : List ByteArray) (l : List (Int × Int × Nat)) (s : PS) (h : Fz T s) (hp : s.p ≤ T.size) : Fz T (s.klass T names l) := by
  have hA := classA_fz h hp names
  have h1 := span_p hA.2.1 l
  have h2 := fz_spansL T names.length (T.size + 1) ((s.classA T names).span T l) (l ++ [((s.classA T names).spanX T, (s.classA T names).spanY T, names.length)]) h1.2.1 (hA.1.span hA.2.1 l)
  exact h2.1.need h2.2 [sgn 59]
theorem readC_few (T : ByteArray) : ∀ (g : Nat) (r : RD), r.s.p ≤ T.size → Fz T r.s → Fz T (readC T g r).s ∧ (readC T g r).s.p ≤ T.size ∧ Stk r.s (readC T g r).s ∧ ((readC T g r).s.f = 0 → r.names.length ≤ 6 → (readC T g r).names.length ≤ 6) := by
  intro g
  induction g with
  | zero => intro r hp hz; exact ⟨hz, hp, Stk.refl _, fun _ h => h⟩
  | succ g ih =>
    intro r hp hz
    rw [readC]
    split
    · have h1 := ih ⟨r.s.klass T r.names r.l, r.names ++ [nameTok T r.names r.s], (r.s.classB T r.names r.l).2⟩ (class_p T r.names r.l r.s hz hp).1 (klass_fz T r.names r.l r.s hz hp)
      refine ⟨h1.1, h1.2.1, (stk_class T r.names r.l r.s).trans h1.2.2.1, fun hf hn => h1.2.2.2 hf ?_⟩
      have := class_six T r.names r.l r.s (h1.2.2.1.back hf)
      simp; omega
    · exact ⟨hz, hp, Stk.refl _, fun _ h => h⟩
theorem read_few (T : ByteArray) (h0 : (RS.read T).err = 0) : (read2 T).2.length ≤ 4 ∧ ∀ x ∈ (read2 T).2, RuleOk x := by
  have hT : T.size ≤ 1000 := by
    rcases Nat.lt_or_ge 1000 T.size with h | h
    · have : RS.read T = RS.start.fail 1 0 := by unfold RS.read; rw [if_pos h]
      rw [this] at h0; exact absurd h0 (by decide)
    · exact h
  have hf : (readP T).f = 0 := (read_z T hT).1.trans h0
  have h2 : (read2 T).1.f = 0 := readEnd_f hf
  have hp : (read0 T).s.p ≤ T.size := (skip_le T 0).2 (Nat.zero_le _)
  have h1 := readC_few T (T.size + 1) (read0 T) hp (fun e => absurd rfl e)
  have hs := readR_stk T (read1 T).names (T.size + 1) (read1 T).s [] h1.2.1 h1.1
  have hn := h1.2.2.2 (hs.back h2) (by show (0 : Nat) ≤ 6; omega)
  exact readR_few T (read1 T).names (Nat.le_trans hn (by omega)) hT (T.size + 1) (read1 T).s [] h1.2.1 h1.1 h2 (by simp) (by simp)
end Go.Proofs.YtodagkkjfipbgaaGreatDoor
