import Derived.Test.YtonooajnjgnmnaaGreatDoorW15toW17
namespace Go.Proofs.YtonooajnjgnmnaaGreatDoor
open Go.RowKit

theorem ruleCells_snoc (vs : List (Bool × Value × Value)) (v : Bool × Value × Value) : ruleCells (vs ++ [v]) = ruleCells vs ++ [.bool v.1, v.2.1, v.2.2] := by simp [ruleCells]
theorem AreRules.snoc {w : World} {vs : List (Bool × Value × Value)} {L : List (Bool × Rx × Rx)} (h : AreRules w vs L) (c : Bool) (vl vr : Value) (xl xr : Rx) {d e : Nat} (hl : IsRe d w vl xl) (hr : IsRe e w vr xr) : AreRules w (vs ++ [(c, vl, vr)]) (L ++ [(c, xl, xr)]) := by
  refine ⟨by simp [h.1], fun i v x hv hx => ?_⟩
  by_cases hi : i < L.length
  · rw [List.getElem?_append_left (by have := h.1; omega)] at hv
    rw [List.getElem?_append_left hi] at hx
    exact h.2 i v x hv hx
  · have hi' : i = L.length := by
      have := (List.getElem?_eq_some_iff.1 hx).1
      simp at this; omega
    subst hi'
    rw [List.getElem?_append_right (by have := h.1; omega)] at hv
    rw [List.getElem?_append_right (by omega)] at hx
    simp [h.1] at hv hx
    subst hv; subst hx
    exact ⟨rfl, ⟨d, hl⟩, e, hr⟩

theorem RSt.pushRule {w w1 w2 w3 : World} {base b : Nat} {T : ByteArray} {s : RS} {vN vS vL v' : Value} {c : Bool} {vl vr : Value} {xl xr : Rx} {d e : Nat} {vs : List (Bool × Value × Value)} (h : RSt w base b T s) (hblk : Blk w b T s vN vS vL)
    (hN : w.ownsRow base 9 1 vN s.names.length (s.names.map .string)) (hS : w.ownsRow base 81 3 vS s.spans.length (spanCells s.spans)) (hL : w.ownsRow base 60 3 vL s.L.length (ruleCells vs)) (har : AreRules w vs s.L)
    (hp : Pushed 60 6 base b vL v' w w1 w2 w3) (hnew : w2.ownsRow base 60 3 v' (s.L.length + 1) (ruleCells vs ++ [.bool c, vl, vr]))
    (hl : IsRe d w vl xl) (hr : IsRe e w vr xr) (hn : s.L.length ≤ 3) : RSt w3 base b T { s with L := s.L ++ [(c, xl, xr)] } ∧ Below base w w3 := by
  obtain ⟨g, hbb, hT, hok, ht, _⟩ := h
  have k1 : ∀ t', Kt t' w w1 := fun t' => Kt.below hp.first
  have own1 : w1.ownsRow base 60 3 vL s.L.length (ruleCells vs) := ownsRow_chg hL (k1 _)
  have hbs : b < w.heap.size := (Array.getElem?_eq_some_iff.1 hblk).1
  have hs1 := hp.first.size
  have b1 : Below base w w2 := (hp.first.mono (by omega)).grown hp.grown (by omega) (fun k hk => (own1.lt k hk).1)
  have b2 : Below base w (w2.setCell ⟨b, 6, none⟩ v') := b1.setCell hbb v'
  have hb3 : Below base w w3 := ⟨hp.last.2.1.trans b1.os, hp.last.2.2.1.trans b1.tape, hp.last.2.2.2.trans b1.output, by rw [hp.last.1]; exact b2.size, fun k hk => by rw [hp.last.1]; exact b2.block k hk⟩
  have hkr : KeepRe w w3 := keepRe_kt (hp.kt hL hblk (by decide) (by decide) (by decide)) (hp.kt hL hblk (by decide) (by decide) (by decide))
  refine ⟨⟨g, hbb, hT, ?_, ht.on hb3 g, vN, vS, v', ?_, ?_, ?_, vs ++ [(c, vl, vr)], ?_, ?_⟩, hb3⟩
  · obtain ⟨p1, p2, p3, p4, p5⟩ := hok
    exact ⟨p1, p2, p3, by show (s.L ++ [(c, xl, xr)]).length ≤ 4; rw [List.length_append]; simp; omega, p5⟩
  · exact (hp.blk hL hblk (by decide)).trans rfl
  · exact ownsRow_chg hN (hp.kt hL hblk (by decide) (by decide) (by decide))
  · exact ownsRow_chg hS (hp.kt hL hblk (by decide) (by decide) (by decide))
  · have := hp.row hL hblk (by decide) hnew
    show w3.ownsRow base _ 3 v' (s.L ++ [(c, xl, xr)]).length (ruleCells (vs ++ [(c, vl, vr)]))
    rw [ruleCells_snoc, List.length_append]; exact this
  · exact (har.keep hkr).snoc c vl vr xl xr (hl.keep hkr) (hr.keep hkr)
end Go.Proofs.YtonooajnjgnmnaaGreatDoor
