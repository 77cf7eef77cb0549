/- Exprs: both readers. -/
import Derived.Deep.CutBlock
import Derived.Test.YtodagkkjfipbgaaGreatDoorProg
import Derived.Test.YtodagkkjfipbgaaGreatDoorZ1toZ2
import Derived.Test.YtodagkkjfipbgaaGreatDoorV10toN19
import Derived.Test.YtodagkkjfipbgaaGreatDoorSh4lone
import Derived.Test.YtodagkkjfipbgaaGreatDoorD6toV9
import Derived.Test.YtodagkkjfipbgaaGreatDoorV7toW5
import Derived.Test.YtodagkkjfipbgaaGreatDoorD1toD5
import Derived.Test.YtodagkkjfipbgaaGreatDoorH1toC2
import Derived.Test.YtodagkkjfipbgaaGreatDoorK4toK6
import Derived.Test.YtodagkkjfipbgaaGreatDoorJ6toK3
import Derived.Test.YtodagkkjfipbgaaGreatDoorQ5toK2
import Derived.Test.YtodagkkjfipbgaaGreatDoorP2toQ1
import Derived.Test.YtodagkkjfipbgaaGreatDoorJ8toQ4
import Derived.Test.YtodagkkjfipbgaaGreatDoorQ2toQ3
import Derived.Test.YtodagkkjfipbgaaGreatDoorBtoP1
import Derived.Test.YtodagkkjfipbgaaGreatDoorUlone
import Derived.Test.YtodagkkjfipbgaaGreatDoorShlone
import Derived.Test.YtodagkkjfipbgaaGreatDoorSh2lone
import Derived.Test.YtodagkkjfipbgaaGreatDoorN17toV1
import Derived.Test.YtodagkkjfipbgaaGreatDoorN15toN16
import Derived.Test.YtodagkkjfipbgaaGreatDoorN13toN14
import Derived.Test.YtodagkkjfipbgaaGreatDoorN12lone
import Derived.Test.YtodagkkjfipbgaaGreatDoorN10toN11
import Derived.Test.YtodagkkjfipbgaaGreatDoorN9lone
import Derived.Test.YtodagkkjfipbgaaGreatDoorN1toN5
import Derived.Test.YtodagkkjfipbgaaGreatDoorJ10toJ11
import Derived.Test.YtodagkkjfipbgaaGreatDoorK9toJ9
import Derived.Test.YtodagkkjfipbgaaGreatDoorK7toL3
import Derived.Test.YtodagkkjfipbgaaGreatDoorJ3toJ5
import Derived.Test.YtodagkkjfipbgaaGreatDoorJ2toJ7
import Derived.Test.YtodagkkjfipbgaaGreatDoorN8lone
import Derived.Test.YtodagkkjfipbgaaGreatDoorN6toN0
import Derived.Test.YtodagkkjfipbgaaGreatDoorC5toS
import Derived.Test.YtodagkkjfipbgaaGreatDoorC3toC4
namespace Go.Proofs.YtodagkkjfipbgaaGreatDoor
open Go.RowKit

/-- Both stand at the same word of a side, within as many brackets. -/
def Ez (T : ByteArray) (names : List ByteArray) (n : Nat) (s : RS) (p : PS) : Prop := Okz T s p ∧ p.a = s.atoms ∧ p.k = s.nest ∧ 0 ≤ s.atoms ∧ s.atoms ≤ 4 ∧ s.names = names ∧ s.nest + n = 4
def Rz (T : ByteArray) (names : List ByteArray) (n : Nat) (s : RS) (p : PS) : Prop := Ez T names n s p ∨ Badz T s p ∨ Pendz T s p
def SubZ (T : ByteArray) (names : List ByteArray) (n : Nat) (f : RS → RS × Rx) (g : PS → PS × Px) : Prop := ∀ s p, Ez T names n s p → Rz T names n (f s).1 (g p).1

theorem three_mem (l : List UInt8) : memL [wClass, wCut, wJoin] l = true ↔ (l = [99, 108, 97, 115, 115] ∨ l = [99, 117, 116] ∨ l = [106, 111, 105, 110]) := by
  rw [memL_iff]
  unfold wClass wCut wJoin
  simp only [List.mem_cons, List.not_mem_nil, or_false]
  constructor
  · rintro ⟨x, (rfl | rfl | rfl), hx⟩ <;> rw [ByteArray.toList_eq] at hx <;> simp [← hx]
  · rintro (h | h | h)
    · exact ⟨_, Or.inl rfl, by rw [ByteArray.toList_eq]; exact h.symm⟩
    · exact ⟨_, Or.inr (Or.inl rfl), by rw [ByteArray.toList_eq]; exact h.symm⟩
    · exact ⟨_, Or.inr (Or.inr rfl), by rw [ByteArray.toList_eq]; exact h.symm⟩
theorem cls_name {names : List ByteArray} (hno : NamesOk names) {l : List UInt8} (h : 0 ≤ clsIx names l) : nameL l = true := by
  have : memL names l = true := by unfold memL; simpa using h
  rw [memL_iff] at this
  obtain ⟨x, hx, rfl⟩ := this
  exact hno x hx
theorem nameL_iff (l : List UInt8) : nameL l = true ↔ (l ≠ [] ∧ letterN (l.headD 0).toNat = true ∧ l ≠ [99, 108, 97, 115, 115] ∧ l ≠ [99, 117, 116] ∧ l ≠ [106, 111, 105, 110] ∧ l ≠ [97, 110, 121] ∧ l ≠ [111, 116, 104, 101, 114] ∧ l ≠ [98, 97, 100]) := by
  unfold nameL
  split
  · rename_i h
    simp
    intro h1 _ h2 h3 h4 h5 h6
    rcases h with h | h | h | h | h | h | h
    · exact absurd h h1
    · exact absurd h h2
    · exact absurd h h3
    · exact absurd h h4
    · exact absurd h h5
    · exact absurd h h6
    · exact h
  · rename_i h
    simp only [not_or] at h
    constructor
    · intro hl; exact ⟨h.1, hl, h.2.1, h.2.2.1, h.2.2.2.1, h.2.2.2.2.1, h.2.2.2.2.2.1, h.2.2.2.2.2.2⟩
    · intro hl; exact hl.2.1
/-- Is a word looked at? By the word itself. -/
theorem wordp_iff (T : ByteArray) (p : Nat) (hp : p ≤ T.size) : wordp T p = true ↔ ((tokp T p).toList ≠ [] ∧ letterN ((tokp T p).toList.headD 0).toNat = true) := by
  rcases Nat.lt_or_ge p T.size with h1 | h1
  · obtain ⟨h2, h3⟩ := tokp_head h1
    unfold wordp
    rw [h3]
    simp [h2]
    intro _; omega
  · have e : p = T.size := by omega
    rw [e, tokp_end]
    unfold wordp; simp
def leafKnown (names : List ByteArray) (l : List UInt8) : Prop := 0 ≤ clsIx names l ∨ l = [97, 110, 121] ∨ l = [111, 116, 104, 101, 114] ∨ l = [98, 97, 100]
theorem known_iff (names : List ByteArray) (l : List UInt8) : (meaningP names l).2 = true ↔ leafKnown names l := by
  unfold meaningP leafKnown
  split
  · rename_i h; simp [h]
  · rename_i h1
    split
    · rename_i h; simp [h]
    · rename_i h2
      split
      · rename_i h; simp [h]
      · rename_i h3
        simp [h1, h2, h3]
/-- A word for one character: 2 it is none, 3 it is no class's, 0 it is one. -/
theorem leaf_cases {T : ByteArray} {names : List ByteArray} (hno : NamesOk names) (p : PS) (hp : p.p ≤ T.size) (h40 : p.tk T ≠ [40]) :
    (p.isAtom T = false ∧ ¬ leafKnown names (p.tk T) ∧ nameL (p.tk T) = false) ∨ (p.isAtom T = true ∧ leafKnown names (p.tk T)) ∨ (p.isAtom T = true ∧ ¬ leafKnown names (p.tk T) ∧ nameL (p.tk T) = true) := by
  have hw := wordp_iff T p.p hp
  have hn := nameL_iff (p.tk T)
  have ht := three_mem (p.tk T)
  have hia : p.isAtom T = true ↔ (wordp T p.p = true ∧ ¬ memL [wClass, wCut, wJoin] (p.tk T) = true) := by
    unfold PS.isAtom; rw [memL_sgn]; simp [h40]
  have hw' : wordp T p.p = true ↔ (p.tk T ≠ [] ∧ letterN ((p.tk T).headD 0).toNat = true) := hw
  by_cases hk : leafKnown names (p.tk T)
  · right; left
    refine ⟨hia.2 ?_, hk⟩
    rw [hw', ht]
    rcases hk with h | h | h | h
    · have := hn.1 (cls_name hno h)
      exact ⟨⟨this.1, this.2.1⟩, by rintro (h | h | h); exact this.2.2.1 h; exact this.2.2.2.1 h; exact this.2.2.2.2.1 h⟩
    all_goals (rw [h]; decide)
  · cases hi : p.isAtom T
    · left
      refine ⟨rfl, hk, ?_⟩
      cases hl : nameL (p.tk T) with
      | false => rfl
      | true =>
        exfalso
        have := hn.1 hl
        have : p.isAtom T = true := hia.2 ⟨hw'.2 ⟨this.1, this.2.1⟩, by rw [ht]; rintro (h | h | h); exact this.2.2.1 h; exact this.2.2.2.1 h; exact this.2.2.2.2.1 h⟩
        rw [hi] at this; cases this
    · right; right
      refine ⟨rfl, hk, ?_⟩
      have h1 := hia.1 hi
      have h2 := hw'.1 h1.1
      have h3 : ¬ (p.tk T = [99, 108, 97, 115, 115] ∨ p.tk T = [99, 117, 116] ∨ p.tk T = [106, 111, 105, 110]) := fun h => h1.2 (ht.2 h)
      unfold leafKnown at hk
      simp only [not_or] at h3 hk
      exact hn.2 ⟨h2.1, h2.2, h3.1, h3.2.1, h3.2.2, hk.2.1, hk.2.2.1, hk.2.2.2⟩

theorem stk_one_known (T : ByteArray) (names : List ByteArray) (s : PS) : Stk (s.known T names) (s.one T names).1 := by
  have h2 : Stk (s.known T names) ((s.known T names).many T) := stk_if T _ 6
  have h3 : Stk ((s.known T names).many T) ((s.known T names).many T).more := fun _ => ⟨rfl, rfl⟩
  exact (h2.trans h3).trans (stk_step T _)
theorem leafMany_bad {s : RS} (h : s.err ≠ 0) (q : Int) : (s.leafMany q).err = s.err ∧ (s.leafMany q).place = s.place := by
  unfold RS.leafMany; simp only
  split
  · rw [rs_fail_same h]; exact ⟨rfl, rfl⟩
  · exact ⟨rfl, rfl⟩
theorem leaf_z {T : ByteArray} {names : List ByteArray} {n : Nat} {s : RS} {p : PS} {subR : RS → RS × Rx} {subP : PS → PS × Px} (hno : NamesOk names) (h : Ez T names n s p) (h40 : p.tk T ≠ [40]) : Ez T names n (s.atom T subR).1 (p.atom T names subP).1 ∨ (Badz T (s.atom T subR).1 (p.atom T names subP).1 ∧ (p.isAtom T = false → (s.atom T subR).1.err = 2 ∧ (s.atom T subR).1.place = p.p)) := by
  obtain ⟨h0, ha, hk, ha0, ha4, hnm, hnn⟩ := h
  have hle := okz_le h0
  have ht := okz_tk h0
  have hq := okz_pos h0
  have hfz := okz_fz h0
  have eR : (s.atom T subR).1 = ((s.take T).leafErr (s.tk T) (s.pos T)).leafMany (s.pos T) := by unfold RS.atom; rw [if_neg (by rw [ht]; exact h40)]; rfl
  have hnt : (s.take T).names = names := hnm
  rcases leaf_cases hno p hle h40 with ⟨hi, hkn, hnl⟩ | ⟨hi, hkn⟩ | ⟨hi, hkn, hnl⟩
  · right
    have e1 : (s.take T).leafErr (s.tk T) (s.pos T) = (s.take T).fail 2 (s.pos T) := by
      unfold RS.leafErr; rw [ht, hnt, if_neg (by exact hkn), hnl]; rfl
    have hb := badz_fail (T := T) (s := s.take T) h0.1 h0.2.1 2 (by decide) (s.pos T : Int) hq
    have eok : p.atomOk T = p.fail T 2 := by unfold PS.atomOk; rw [hi]; rfl
    have eP : (p.atom T names subP).1 = ((p.fail T 2).one T names).1 := by
      unfold PS.atom; rw [eok, memL_sgn, badz_tk hb]; rfl
    have hm := leafMany_bad hb.1 (s.pos T : Int)
    rw [eR, e1, eP]
    refine ⟨badz_keep hb hm.1 hm.2 (stk_one T names _) ((badz_fz hb).one (by show T.size ≤ T.size; omega)), fun _ => ?_⟩
    rw [hm.1, hm.2]
    have e2 : ((s.take T).fail 2 (s.pos T)).err = 2 ∧ ((s.take T).fail 2 (s.pos T)).place = s.pos T := by
      unfold RS.fail; rw [if_pos (show (s.take T).err = 0 from h0.1)]; exact ⟨rfl, rfl⟩
    rw [e2.1, e2.2]; exact ⟨rfl, hq⟩
  · have e1 : (s.take T).leafErr (s.tk T) (s.pos T) = s.take T := by unfold RS.leafErr; rw [ht, hnt, if_pos (by exact hkn)]
    have eok : p.atomOk T = p := by unfold PS.atomOk; rw [hi]; rfl
    have eP : (p.atom T names subP).1 = (p.one T names).1 := by
      unfold PS.atom; rw [eok, memL_sgn]; simp [h40]
    have ekn : p.known T names = p := by unfold PS.known; rw [(known_iff names _).2 hkn]; rfl
    rw [eR, e1, eP]
    by_cases h4 : s.atoms = 4
    · right
      have hb := badz_fail (T := T) (s := s.take T) h0.1 h0.2.1 6 (by decide) (s.pos T : Int) hq
      have e2 : ((s.take T).leafMany (s.pos T)).err = ((s.take T).fail 6 (s.pos T)).err ∧ ((s.take T).leafMany (s.pos T)).place = ((s.take T).fail 6 (s.pos T)).place := by
        unfold RS.leafMany; simp only; rw [if_pos (show (s.take T).atoms = 4 from h4)]; exact ⟨rfl, rfl⟩
      have em : (p.known T names).many T = p.fail T 6 := by rw [ekn]; unfold PS.many; rw [if_pos (by rw [ha]; exact h4)]
      have k1 : Stk (p.fail T 6) (p.one T names).1 := by
        rw [← em]
        exact (show Stk ((p.known T names).many T) ((p.known T names).many T).more from fun _ => ⟨rfl, rfl⟩).trans (stk_step T _)
      exact ⟨badz_keep hb e2.1 e2.2 k1 (hfz.one hle), fun hh => by rw [hi] at hh; cases hh⟩
    · left
      have e2 : (s.take T).leafMany (s.pos T) = { s.take T with atoms := s.atoms + 1 } := by
        unfold RS.leafMany; simp only; rw [if_neg (show ¬ (s.take T).atoms = 4 from h4)]; rfl
      have em : (p.known T names).many T = p := by rw [ekn]; unfold PS.many; rw [if_neg (by rw [ha]; exact h4)]
      have eo : (p.one T names).1 = (p.more).step T := by unfold PS.one; simp only; rw [em]
      have hw : IntKind.i64.wrap (p.a + 1) = p.a + 1 := IntWalk.i64_in _ ⟨by omega, by omega⟩
      rw [e2, eo]
      refine ⟨okz_take h0, ?_, hk, by show 0 ≤ s.atoms + 1; omega, by show s.atoms + 1 ≤ 4; omega, hnm, hnn⟩
      show IntKind.i64.wrap (p.a + 1) = s.atoms + 1
      rw [hw, ha]
  · right
    have e1 : (s.take T).leafErr (s.tk T) (s.pos T) = (s.take T).fail 3 (s.pos T) := by
      unfold RS.leafErr; rw [ht, hnt, if_neg (by exact hkn), hnl]; rfl
    have hb := badz_fail (T := T) (s := s.take T) h0.1 h0.2.1 3 (by decide) (s.pos T : Int) hq
    have eok : p.atomOk T = p := by unfold PS.atomOk; rw [hi]; rfl
    have eP : (p.atom T names subP).1 = (p.one T names).1 := by
      unfold PS.atom; rw [eok, memL_sgn]; simp [h40]
    have ekn : p.known T names = p.fail T 3 := by
      unfold PS.known
      rw [if_neg (fun hh => hkn ((known_iff names _).1 hh))]
    have hm := leafMany_bad hb.1 (s.pos T : Int)
    rw [eR, e1, eP]
    have k1 := stk_one_known T names p
    rw [ekn] at k1
    exact ⟨badz_keep hb hm.1 hm.2 k1 (hfz.one hle), fun hh => by rw [hi] at hh; cases hh⟩
end Go.Proofs.YtodagkkjfipbgaaGreatDoor
/- Exprs, whole: both readers. -/
namespace Go.Proofs.YtodagkkjfipbgaaGreatDoor
open Go.RowKit

theorem fg_bracket_from (T : ByteArray) (sub : PS → PS × Px) (hs : PGood T sub) (hf : FGood T sub) (s : PS) (h : s.p ≤ T.size) (hz : Fz T s) : Stk (s.nest T) (s.bracket T sub).1 := by
  have h1 : Goes T s (s.nest T) := goes_if 6 h
  have z1 : Fz T (s.nest T) := hz.if_ 6
  have h2 := adv_need T [sgn 40] (s.nest T) h1.2.2
  have z2 : Fz T (((s.nest T).need T [sgn 40]).inK) := z1.need h1.2.2 _
  have k2 : Stk (s.nest T) (((s.nest T).need T [sgn 40]).inK) := stk_need T _ _
  have h4 := hf (((s.nest T).need T [sgn 40]).inK) h2.1.2.2 z2
  have k5 : Stk (((s.nest T).need T [sgn 40]).inK) ((sub (((s.nest T).need T [sgn 40]).inK)).1.outK) := h4.2
  have _ := hs
  exact (k2.trans k5).trans (stk_need T _ _)

theorem bracket_z {T : ByteArray} {names : List ByteArray} {n : Nat} {s : RS} {p : PS} {subR : RS → RS × Rx} {subP : PS → PS × Px} (hs : PGood T subP) (hf : FGood T subP) (hsub : ∀ m, n = m + 1 → SubZ T names m subR subP) (h : Ez T names n s p) (h40 : p.tk T = [40]) :
    Ez T names n (s.atom T subR).1 (p.atom T names subP).1 ∨ Badz T (s.atom T subR).1 (p.atom T names subP).1 := by
  obtain ⟨h0, ha, hk, ha0, ha4, hnm, hnn⟩ := h
  have hle := okz_le h0
  have ht := okz_tk h0
  have hq := okz_pos h0
  have hfz := okz_fz h0
  have hi : p.isAtom T = true := by unfold PS.isAtom; rw [memL_sgn, h40]; simp
  have eok : p.atomOk T = p := by unfold PS.atomOk; rw [hi]; rfl
  have eP : (p.atom T names subP).1 = (p.bracket T subP).1 := by unfold PS.atom; rw [eok, memL_sgn, h40]; simp
  have hbz := (fg_bracket T subP hs hf p hle hfz).1
  rw [eP]
  unfold RS.atom
  rw [if_pos (by rw [ht]; exact h40)]
  by_cases h4 : s.nest = 4
  · right
    rw [if_pos h4]
    have hb := badz_fail (T := T) (s := s.take T) h0.1 h0.2.1 6 (by decide) (s.pos T : Int) hq
    have en : p.nest T = p.fail T 6 := by unfold PS.nest; rw [if_pos (by rw [hk]; exact h4)]
    have k1 := fg_bracket_from T subP hs hf p hle hfz
    rw [en] at k1
    exact badz_keep hb rfl rfl k1 hbz
  · rw [if_neg h4]
    obtain ⟨m, hm⟩ : ∃ m, n = m + 1 := ⟨n - 1, by omega⟩
    have en : p.nest T = p := by unfold PS.nest; rw [if_neg (by rw [hk]; exact h4)]
    have e1 : (p.nest T).need T [sgn 40] = p.step T := by rw [en]; unfold PS.need; rw [memL_sgn, h40]; simp
    have hE : Ez T names m { s.take T with nest := s.nest + 1 } (p.step T).inK := by
      refine ⟨okz_take h0, ha, ?_, ha0, ha4, hnm, ?_⟩
      · show p.k + 1 = s.nest + 1; rw [hk]
      · show s.nest + 1 + (m : Int) = 4; omega
    have hR := hsub m hm _ _ hE
    have eB : (p.bracket T subP).1 = ((subP ((p.step T).inK)).1.outK).need T [sgn 41] := by unfold PS.bracket; simp only; rw [e1]
    rw [eB]
    obtain ⟨r, hr⟩ : ∃ r, r = (subR { s.take T with nest := s.nest + 1 }).1 := ⟨_, rfl⟩
    obtain ⟨q, hq'⟩ : ∃ q, q = (subP ((p.step T).inK)).1 := ⟨_, rfl⟩
    show Ez T names n ((subR { s.take T with nest := s.nest + 1 }).1.closeB T) _ ∨ Badz T ((subR { s.take T with nest := s.nest + 1 }).1.closeB T) _
    rw [← hr, ← hq'] at hR ⊢
    have hqz : Fz T q := by rw [hq']; exact (hf (p.step T).inK (nextp_le T p.p hle).1 (hfz.step hle)).1
    rcases hR with ⟨g0, ga, gk, ga0, ga4, gnm, gnn⟩ | hb | hpd
    · have g0' : Okz T { r with nest := r.nest - 1 } q.outK := g0
      have ec : r.closeB T = ({ r with nest := r.nest - 1 } : RS).want T [41] := by unfold RS.closeB; simp only; rw [if_pos g0.1]
      rw [ec]
      rcases okz_want g0' 41 with ⟨_, w2, w3⟩ | ⟨_, w3⟩
      · left
        have en2 := need_ak T [sgn 41] q.outK
        refine ⟨w3, ?_, ?_, ?_, ?_, ?_, ?_⟩
        · rw [en2.1, w2]; exact ga
        · rw [en2.2, w2]; show q.k - 1 = r.nest - 1; rw [gk]
        · rw [w2]; exact ga0
        · rw [w2]; exact ga4
        · rw [w2]; exact gnm
        · rw [w2]; show r.nest - 1 + (n : Int) = 4; omega
      · right; exact w3
    · right
      have ec : r.closeB T = { r with nest := r.nest - 1 } := by unfold RS.closeB; simp only; rw [if_neg hb.1]
      rw [ec]
      have hb' : Badz T { r with nest := r.nest - 1 } q.outK := hb
      exact badz_keep hb' rfl rfl (stk_need T _ _) ((show Fz T q.outK from hqz).need (by show q.p ≤ T.size; rw [hb.2.2.2]; omega) _)
    · right
      have ec : r.closeB T = { r with nest := r.nest - 1 } := by unfold RS.closeB; simp only; rw [if_neg (by rw [hpd.1]; decide)]
      rw [ec]
      have hp' : Pendz T { r with nest := r.nest - 1 } q.outK := hpd
      exact (pendz_need hp' 41).1

theorem atom_z {T : ByteArray} {names : List ByteArray} {n : Nat} {s : RS} {p : PS} {subR : RS → RS × Rx} {subP : PS → PS × Px} (hno : NamesOk names) (hs : PGood T subP) (hf : FGood T subP) (hsub : ∀ m, n = m + 1 → SubZ T names m subR subP) (h : Ez T names n s p) :
    Ez T names n (s.atom T subR).1 (p.atom T names subP).1 ∨ (Badz T (s.atom T subR).1 (p.atom T names subP).1 ∧ (p.isAtom T = false → (s.atom T subR).1.err = 2 ∧ (s.atom T subR).1.place = p.p)) := by
  by_cases h40 : p.tk T = [40]
  · rcases bracket_z hs hf hsub h h40 with h1 | h1
    · exact Or.inl h1
    · refine Or.inr ⟨h1, fun hh => ?_⟩
      have hi : p.isAtom T = true := by unfold PS.isAtom; rw [memL_sgn, h40]; simp
      rw [hi] at hh; cases hh
  · exact leaf_z hno h h40
theorem part_z {T : ByteArray} {names : List ByteArray} {n : Nat} {s : RS} {p : PS} {subR : RS → RS × Rx} {subP : PS → PS × Px} (hno : NamesOk names) (hs : PGood T subP) (hf : FGood T subP) (hsub : ∀ m, n = m + 1 → SubZ T names m subR subP) (h : Ez T names n s p) :
    Ez T names n (s.part T subR).1 (PS.partP T names subP p).1 ∨ (Badz T (s.part T subR).1 (PS.partP T names subP p).1 ∧ (p.isAtom T = false → (s.part T subR).1.err = 2 ∧ (s.part T subR).1.place = p.p)) := by
  rcases atom_z hno hs hf hsub h with h1 | ⟨h1, h2⟩
  · left
    have e : s.part T subR = RS.suffix T (s.atom T subR).1 (s.atom T subR).2 := by unfold RS.part; rw [if_neg (by rw [h1.1.1]; simp)]
    have ht := okz_tk h1.1
    have step : Ez T names n (((s.atom T subR).1.peek T).take T) ((p.atom T names subP).1.step T) := ⟨okz_take (okz_peek h1.1), h1.2.1, h1.2.2.1, h1.2.2.2.1, h1.2.2.2.2.1, h1.2.2.2.2.2.1, h1.2.2.2.2.2.2⟩
    rw [e]
    unfold RS.suffix PS.partP PS.partF
    simp only
    rw [ht]
    split
    · exact step
    · split
      · exact step
      · split
        · exact step
        · exact ⟨okz_peek h1.1, h1.2⟩
  · right
    have e : s.part T subR = s.atom T subR := by unfold RS.part; rw [if_pos h1.1]
    have e2 : PS.partP T names subP p = p.atom T names subP := by
      unfold PS.partP PS.partF
      rw [badz_tk h1]
      rw [if_neg (by decide), if_neg (by decide), if_neg (by decide)]
    rw [e, e2]; exact ⟨h1, h2⟩

theorem isAtom_end {T : ByteArray} {p : PS} (h : p.p = T.size) : p.isAtom T = false := by
  cases hh : p.isAtom T with
  | false => rfl
  | true => have := isAtom_lt (by omega) hh; omega
theorem more_iff {T : ByteArray} (p : PS) (hp : p.p ≤ T.size) : RS.moreL (p.tk T) = (decide (p.tk T = [40]) || wordp T p.p) := by
  have hw := wordp_iff T p.p hp
  unfold RS.moreL
  congr 1
  rw [Bool.eq_iff_iff, hw]
  simp
  rfl
theorem rowL_z {T : ByteArray} {names : List ByteArray} {n : Nat} {subR : RS → RS × Rx} {subP : PS → PS × Px} (hno : NamesOk names) (hs : PGood T subP) (hf : FGood T subP) (hsub : ∀ m, n = m + 1 → SubZ T names m subR subP) :
    ∀ (g : Nat) (s : RS) (e : Rx) (p : PS) (l : List Px) (g' : Nat), (Ez T names n s p ∧ T.size < p.p + g ∧ T.size < p.p + g') ∨ Badz T s p → Rz T names n (RS.rowL T subR g s e).1 (PS.rowL T (PS.partP T names subP) g' p l).1 := by
  intro g
  induction g with
  | zero =>
    intro s e p l g' h
    rcases h with ⟨h, h1, _⟩ | hb
    · have := okz_le h.1; omega
    · have e1 : (PS.rowL T (PS.partP T names subP) g' p l).1 = p := by
        cases g' with
        | zero => rfl
        | succ g' => rw [PS.rowL, isAtom_end hb.2.2.2]; rfl
      rw [e1]; exact Or.inr (Or.inl hb)
  | succ g ih =>
    intro s e p l g' h
    rcases h with ⟨h, h1, h2⟩ | hb
    · have hle := okz_le h.1
      have ht := okz_tk h.1
      obtain ⟨g'', rfl⟩ : ∃ g'', g' = g'' + 1 := ⟨g' - 1, by omega⟩
      rw [RS.rowL, if_neg (by rw [h.1.1]; simp), PS.rowL, ht, more_iff p hle]
      have hpk : Ez T names n (s.peek T) p := ⟨okz_peek h.1, h.2⟩
      cases hi : p.isAtom T
      · have hnot : p.tk T ≠ [40] := by
          intro e; unfold PS.isAtom at hi; rw [memL_sgn, e] at hi; simp at hi
        cases hw : wordp T p.p
        · simp only [hnot, decide_false, Bool.or_false, Bool.false_eq_true, if_false]
          exact Or.inl hpk
        · simp only [Bool.or_true, if_true, Bool.false_eq_true, if_false]
          have hkw : memL [wClass, wCut, wJoin] (p.tk T) = true := by
            unfold PS.isAtom at hi; rw [hw] at hi; simp at hi; exact hi.2
          have hlt : p.p < T.size := by
            unfold wordp at hw; simp at hw; omega
          rcases part_z hno hs hf hsub hpk with hE | ⟨hB, hpl⟩
          · exfalso
            have eP : (PS.partP T names subP p).1.f ≠ 0 := by
              have eok : p.atomOk T = p.fail T 2 := by unfold PS.atomOk; rw [hi]; rfl
              have hb2 : (p.fail T 2).f ≠ 0 := by
                show pf p.f 2 ≠ 0; unfold pf; rw [if_pos h.1.2.1]; decide
              have et : (p.fail T 2).tk T = [] := tokp_end T
              have ea : p.atom T names subP = (p.fail T 2).one T names := by unfold PS.atom; rw [eok, memL_sgn, et]; rfl
              have k1 := stk_one T names (p.fail T 2)
              have hz := (show Fz T (p.fail T 2) from Fz.fail' p 2).one (names := names) (by show T.size ≤ T.size; omega)
              have k2 := (fg_partF T (p.fail T 2) (p.atom T names subP) (by rw [ea]; exact (adv_one T names _ (by show T.size ≤ T.size; omega)).1.2.2) (by rw [ea]; exact ⟨hz, k1⟩)).2
              have := (k2 hb2).1
              unfold PS.partP
              rw [this]; exact hb2
            exact eP hE.1.2.1
          · have hp2 := hpl hi
            right; right
            have er : (RS.rowL T subR g ((s.peek T).part T subR).1 (rowR e ((s.peek T).part T subR).2)).1 = ((s.peek T).part T subR).1 := by
              cases g with
              | zero => rfl
              | succ g => rw [RS.rowL, if_pos hB.1]
            rw [er]
            exact ⟨hp2.1, h.1.2.1, hp2.2, hlt, hkw⟩
      · have hm : (decide (p.tk T = [40]) || wordp T p.p) = true := by
          unfold PS.isAtom at hi
          rw [memL_sgn] at hi
          simp at hi ⊢
          rcases hi with h | h
          · exact Or.inl h
          · exact Or.inr h.1
        rw [hm]
        simp only [if_true]
        have hlt := isAtom_lt hle hi
        have hadv := (good_part T names subP hs p hle).2.2.2 hlt
        rcases part_z hno hs hf hsub hpk with hE | ⟨hB, _⟩
        · exact ih _ _ _ _ _ (Or.inl ⟨hE, by omega, by omega⟩)
        · exact ih _ _ _ _ _ (Or.inr hB)
    · have e1 : (PS.rowL T (PS.partP T names subP) g' p l).1 = p := by
        cases g' with
        | zero => rfl
        | succ g' => rw [PS.rowL, isAtom_end hb.2.2.2]; rfl
      rw [e1, RS.rowL, if_pos hb.1]; exact Or.inr (Or.inl hb)
theorem row_z {T : ByteArray} {names : List ByteArray} {n : Nat} {s : RS} {p : PS} {subR : RS → RS × Rx} {subP : PS → PS × Px} (hno : NamesOk names) (hs : PGood T subP) (hf : FGood T subP) (hsub : ∀ m, n = m + 1 → SubZ T names m subR subP) (h : Ez T names n s p) :
    Rz T names n (s.row T subR).1 (PS.rowR T (PS.partP T names subP) p).1 := by
  have hle := okz_le h.1
  have hg := good_part T names subP hs p hle
  unfold RS.row PS.rowR
  simp only
  refine rowL_z hno hs hf hsub _ _ _ _ _ _ ?_
  rcases part_z hno hs hf hsub h with hE | ⟨hB, _⟩
  · exact Or.inl ⟨hE, by omega, by omega⟩
  · exact Or.inr hB
theorem exprL_z {T : ByteArray} {names : List ByteArray} {n : Nat} {subR : RS → RS × Rx} {subP : PS → PS × Px} (hno : NamesOk names) (hs : PGood T subP) (hf : FGood T subP) (hsub : ∀ m, n = m + 1 → SubZ T names m subR subP) :
    ∀ (g : Nat) (s : RS) (e : Rx) (p : PS) (l : List Px) (g' : Nat), p.p ≤ T.size → Rz T names n s p → T.size < p.p + g → T.size < p.p + g' → Rz T names n (RS.exprL T subR g s e).1 (PS.exprL T (PS.rowR T (PS.partP T names subP)) g' p l).1 := by
  intro g
  induction g with
  | zero => intro s e p l g' hp h h1 _; omega
  | succ g ih =>
    intro s e p l g' hp h h1 h2
    obtain ⟨g'', rfl⟩ : ∃ g'', g' = g'' + 1 := ⟨g' - 1, by omega⟩
    rcases h with h | hb | hpd
    · have ht := okz_tk h.1
      rw [RS.exprL, if_neg (by rw [h.1.1]; simp), PS.exprL, ht]
      by_cases e47 : p.tk T = [47]
      · rw [if_pos e47, if_pos e47]
        have hlt := tk_lt hp e47
        have hnx := nextp_le T p.p hp
        have hst : (p.step T).p = nextp T p.p := rfl
        have hadv := hnx.2.2 hlt
        have hE : Ez T names n ((s.peek T).take T) (p.step T) := ⟨okz_take (okz_peek h.1), h.2⟩
        have hR := row_z hno hs hf hsub hE
        have hg := good_row T _ (good_part T names subP hs) (p.step T) (by omega)
        exact ih _ _ _ _ _ hg.2.2.1 hR (by omega) (by omega)
      · rw [if_neg e47, if_neg e47]
        exact Or.inl ⟨okz_peek h.1, h.2⟩
    · rw [RS.exprL, if_pos hb.1, PS.exprL, if_neg (by rw [badz_tk hb]; decide)]
      exact Or.inr (Or.inl hb)
    · rw [RS.exprL, if_pos (by rw [hpd.1]; decide), PS.exprL, if_neg (pendz_need hpd 47).2]
      exact Or.inr (Or.inr hpd)
theorem exprS_z {T : ByteArray} {names : List ByteArray} {n : Nat} {s : RS} {p : PS} {subR : RS → RS × Rx} {subP : PS → PS × Px} (hno : NamesOk names) (hs : PGood T subP) (hf : FGood T subP) (hsub : ∀ m, n = m + 1 → SubZ T names m subR subP) (h : Ez T names n s p) :
    Rz T names n (RS.exprS T subR s).1 (PS.exprAt T names subP p).1 := by
  have hle := okz_le h.1
  have hg := good_row T _ (good_part T names subP hs) p hle
  unfold RS.exprS PS.exprAt PS.exprR
  simp only
  exact exprL_z hno hs hf hsub _ _ _ _ _ _ hg.2.2.1 (row_z hno hs hf hsub h) (by omega) (by omega)
theorem expr_z {T : ByteArray} {names : List ByteArray} (hno : NamesOk names) : ∀ n, SubZ T names n (RS.expr T n) (PS.expr T names (n + 1)) := by
  intro n
  induction n with
  | zero =>
    intro s p h
    exact exprS_z hno (good_expr T names 0) (fg_expr T names 0) (fun m hm => by omega) h
  | succ n ih =>
    intro s p h
    have hsub : ∀ m, n + 1 = m + 1 → SubZ T names m (RS.expr T n) (PS.expr T names (n + 1)) := by
      intro m hm
      have e : m = n := by omega
      subst e
      exact ih
    exact exprS_z hno (good_expr T names (n + 1)) (fg_expr T names (n + 1)) hsub h
end Go.Proofs.YtodagkkjfipbgaaGreatDoor
namespace Go.Proofs.YtodagkkjfipbgaaGreatDoor
open Go.RowKit

/- What the pieces of an Expr leave of the rules. -/
theorem want_L (T : ByteArray) (s : RS) (l : List UInt8) : (s.want T l).L = s.L := (want_same T s l).2.2.1
theorem closeB_L (T : ByteArray) (s : RS) : (s.closeB T).L = s.L := by
  unfold RS.closeB; simp only; split
  · rw [want_L]
  · rfl
theorem atomLeaf_L (T : ByteArray) (s : RS) : (s.atomLeaf T).1.L = s.L := by
  unfold RS.atomLeaf RS.leafMany; simp only
  have h := (leafErr_same (s.take T) (s.tk T) (s.pos T)).2.2.1
  split
  · show ((((s.take T).leafErr (s.tk T) (s.pos T)).fail 6 (s.pos T))).L = _
    rw [(fail_same _ _ _).2.2.1, h]; rfl
  · exact h.trans rfl
theorem atom_L (T : ByteArray) (sub : RS → RS × Rx) (hs : ∀ s, (sub s).1.L = s.L) (s : RS) : (s.atom T sub).1.L = s.L := by
  unfold RS.atom; split
  · split
    · show ((s.take T).fail 6 (s.pos T)).L = _
      rw [(fail_same _ _ _).2.2.1]; rfl
    · show ((sub _).1.closeB T).L = _
      rw [closeB_L, hs]; rfl
  · exact atomLeaf_L T s
theorem part_L (T : ByteArray) (sub : RS → RS × Rx) (hs : ∀ s, (sub s).1.L = s.L) (s : RS) : (s.part T sub).1.L = s.L := by
  unfold RS.part; split
  · exact atom_L T sub hs s
  · unfold RS.suffix; simp only
    split
    · exact atom_L T sub hs s
    · split
      · exact atom_L T sub hs s
      · split
        · exact atom_L T sub hs s
        · exact atom_L T sub hs s
theorem rowL_L (T : ByteArray) (sub : RS → RS × Rx) (hs : ∀ s, (sub s).1.L = s.L) (g : Nat) : ∀ s e, (RS.rowL T sub g s e).1.L = s.L := by
  induction g with
  | zero => intro s e; rfl
  | succ g ih =>
    intro s e; rw [RS.rowL]; split
    · rfl
    · split
      · rw [ih, part_L T sub hs]; rfl
      · rfl
theorem row_L (T : ByteArray) (sub : RS → RS × Rx) (hs : ∀ s, (sub s).1.L = s.L) (s : RS) : (s.row T sub).1.L = s.L := by
  unfold RS.row; rw [rowL_L T sub hs, part_L T sub hs]
theorem exprL_L (T : ByteArray) (sub : RS → RS × Rx) (hs : ∀ s, (sub s).1.L = s.L) (g : Nat) : ∀ s e, (RS.exprL T sub g s e).1.L = s.L := by
  induction g with
  | zero => intro s e; rfl
  | succ g ih =>
    intro s e; rw [RS.exprL]; split
    · rfl
    · split
      · rw [ih, row_L T sub hs]; rfl
      · rfl
theorem exprS_L (T : ByteArray) (sub : RS → RS × Rx) (hs : ∀ s, (sub s).1.L = s.L) (s : RS) : (s.exprS T sub).1.L = s.L := by
  unfold RS.exprS; rw [exprL_L T sub hs, row_L T sub hs]
theorem expr_L (T : ByteArray) (n : Nat) : ∀ s, (RS.expr T n s).1.L = s.L := by
  induction n with
  | zero => intro s; exact exprS_L T _ (fun _ => rfl) s
  | succ n ih => intro s; exact exprS_L T _ ih s
theorem endB_L (T : ByteArray) (s : RS) (l : List UInt8) : (s.endB T l).L = s.L := by
  unfold RS.endB; split
  · exact want_L T s l
  · rfl
theorem side_L (T : ByteArray) (s : RS) (l : List UInt8) : (s.side T l).1.L = s.L := by
  unfold RS.side; simp only; split
  · rw [endB_L]; rfl
  · rw [endB_L, expr_L]; rfl
end Go.Proofs.YtodagkkjfipbgaaGreatDoor
