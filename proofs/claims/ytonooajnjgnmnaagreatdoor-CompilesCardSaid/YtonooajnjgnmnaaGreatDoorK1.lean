/- The program's reader of Exprs, as plain functions on a state; its small calls. -/
import Derived.Test.YtonooajnjgnmnaaGreatDoorP3toP4
import Derived.Test.YtonooajnjgnmnaaGreatDoorQ6toQ7
namespace Go.Proofs.YtonooajnjgnmnaaGreatDoor
open Go.RowKit

/-- Where the reader is: its place, its fault and the place of it; on this side so many atoms, around it so many brackets. -/
structure PS where
  p : Nat
  f : Int
  pl : Int
  a : Int
  k : Int
namespace PS
def tk (T : ByteArray) (s : PS) : List UInt8 := (tokp T s.p).toList
def failAt (T : ByteArray) (s : PS) (no at_ : Int) : PS := { s with p := T.size, f := pf s.f no, pl := pp s.f at_ s.pl }
def fail (T : ByteArray) (s : PS) (no : Int) : PS := s.failAt T no s.p
def step (T : ByteArray) (s : PS) : PS := { s with p := nextp T s.p }
def take (T : ByteArray) (L : List ByteArray) (s : PS) : PS := if memL L (s.tk T) = true then s.step T else s
def need (T : ByteArray) (L : List ByteArray) (s : PS) : PS := if memL L (s.tk T) = true then s.step T else s.fail T 2
end PS
def takenOf (T : ByteArray) (L : List ByteArray) (p : Nat) : ByteArray := if memL L (tokp T p).toList = true then tokp T p else ⟨#[]⟩

theorem nextp_le (T : ByteArray) (p : Nat) (hp : p ≤ T.size) : nextp T p ≤ T.size ∧ p ≤ nextp T p ∧ (p < T.size → p < nextp T p) := by
  have h1 := tokEnd_le T p
  have h2 := skip_le T (tokEnd T p)
  have h3 := h2.2 (h1.2.1 hp)
  unfold nextp
  refine ⟨h3, by omega, fun h => ?_⟩
  have := h1.2.2 h; omega
/-- The reader's block, at a state. -/
structure RAt (w : World) (b : Nat) (T : ByteArray) (vN vE vL : Value) (s : PS) : Prop where
  blk : PAt w b T s.p vN vE vL s.f s.pl
  le : s.p ≤ T.size
  short : T.size ≤ 1000
theorem RAt.lt {w : World} {b : Nat} {T : ByteArray} {vN vE vL : Value} {s : PS} (h : RAt w b T vN vE vL s) : b < w.heap.size := heap_lt h.blk
theorem RAt.later {w w' : World} {b : Nat} {T : ByteArray} {vN vE vL : Value} {s : PS} (h : RAt w b T vN vE vL s) (hb : Below w.heap.size w w') : RAt w' b T vN vE vL s :=
  ⟨by show w'.heap[b]? = _; rw [hb.block b h.lt]; exact h.blk, h.le, h.short⟩
theorem bdrew {B : Nat} {a w : World} (h : Below B a w) (n : Nat) : Below B a (w.drewN n) := ⟨h.os, h.tape, h.output, h.size, h.block⟩
theorem Chg.of_alloc {p : Nat → Prop} (w : World) (o : Obj) : Chg p w (w.alloc o) := (Chg.refl _ _).alloc o

theorem these_new (L : List ByteArray) (w : World) (hL : L.length ≤ 100) (h1 : 1 ≤ L.length) : These (w.alloc (.cells (L.map .string).toArray 9)) (.slice (some ⟨w.heap.size, 0, none⟩) L.length L.length) L := by
  refine ⟨⟨by simp, Or.inr ⟨w.heap.size, L.length, (L.map .string).toArray, rfl, Nat.zero_le _, heap_alloc_new _ _, Nat.le_refl _, by simp only [maxLen]; omega, by simp, by simp [List.take_of_length_le]⟩⟩, hL⟩

theorem is_new (b : Nat) (T : ByteArray) (vN vE vL : Value) (s : PS) (L : List ByteArray) (w : World) (h : RAt w b T vN vE vL s) (hL : L.length ≤ 100) (h1 : 1 ≤ L.length) :
    Calls Tryz.prog 14 #[.pointer (some ⟨b, 0, none⟩), .slice (some ⟨w.heap.size, 0, none⟩) L.length L.length] (w.alloc (.cells (L.map .string).toArray 9)) fun r w' => r = .returned (.bool (memL L (s.tk T))) ∧ Below w.heap.size w w' := by
  have h2 := h.later (below_alloc w (.cells (L.map .string).toArray 9))
  refine (is_any b T s.p vN vE vL s.f s.pl _ L _ h2.blk h.le (these_new L w hL h1)).mono ?_
  rintro r w' ⟨rfl, n, rfl⟩
  exact ⟨rfl, bdrew (below_alloc w _) n⟩
theorem take_new (b : Nat) (T : ByteArray) (vN vE vL : Value) (s : PS) (L : List ByteArray) (w : World) (h : RAt w b T vN vE vL s) (hL : L.length ≤ 100) (h1 : 1 ≤ L.length) :
    Calls Tryz.prog 34 #[.pointer (some ⟨b, 0, none⟩), .slice (some ⟨w.heap.size, 0, none⟩) L.length L.length] (w.alloc (.cells (L.map .string).toArray 9)) fun r w' => r = .returned (.string (takenOf T L s.p)) ∧ RAt w' b T vN vE vL (s.take T L) ∧ Chg (fun k => k = b) w w' := by
  have h2 := h.later (below_alloc w (.cells (L.map .string).toArray 9))
  have hc : Chg (fun k => k = b) w (w.alloc (.cells (L.map .string).toArray 9)) := Chg.of_alloc _ _
  cases hm : memL L (s.tk T)
  · refine (take_no b T s.p vN vE vL s.f s.pl _ L _ h2.blk h.le (these_new L w hL h1) hm).mono ?_
    rintro r w' ⟨rfl, n, rfl⟩
    refine ⟨?_, ?_, hc.drewN n⟩
    · unfold takenOf; rw [show memL L (tokp T s.p).toList = false from hm]; rfl
    · unfold PS.take; rw [hm]; exact ⟨pat_drewN h2.blk n, h.le, h.short⟩
  · refine (take_yes b T s.p vN vE vL s.f s.pl _ L _ h2.blk h.le h.short (these_new L w hL h1) hm).mono ?_
    rintro r w' ⟨rfl, hp, hc2⟩
    refine ⟨?_, ?_, hc.trans hc2⟩
    · unfold takenOf; rw [show memL L (tokp T s.p).toList = true from hm]; rfl
    · unfold PS.take; rw [hm]; exact ⟨hp, (nextp_le T s.p h.le).1, h.short⟩
theorem need_new (b : Nat) (T : ByteArray) (vN vE vL : Value) (s : PS) (L : List ByteArray) (w : World) (h : RAt w b T vN vE vL s) (hL : L.length ≤ 100) (h1 : 1 ≤ L.length) (hne : ∀ x ∈ L, x.toList ≠ []) :
    Calls Tryz.prog 31 #[.pointer (some ⟨b, 0, none⟩), .slice (some ⟨w.heap.size, 0, none⟩) L.length L.length] (w.alloc (.cells (L.map .string).toArray 9)) fun r w' => r = .returned (.string (takenOf T L s.p)) ∧ RAt w' b T vN vE vL (s.need T L) ∧ Chg (fun k => k = b) w w' := by
  have h2 := h.later (below_alloc w (.cells (L.map .string).toArray 9))
  have hc : Chg (fun k => k = b) w (w.alloc (.cells (L.map .string).toArray 9)) := Chg.of_alloc _ _
  cases hm : memL L (s.tk T)
  · refine (need_no b T s.p vN vE vL s.f s.pl _ L _ h2.blk h.le (these_new L w hL h1) hm).mono ?_
    rintro r w' ⟨rfl, hp, hc2⟩
    refine ⟨?_, ?_, hc.trans hc2⟩
    · unfold takenOf; rw [show memL L (tokp T s.p).toList = false from hm]; rfl
    · unfold PS.need; rw [hm]; exact ⟨hp, Nat.le_refl _, h.short⟩
  · refine (need_yes b T s.p vN vE vL s.f s.pl _ L _ h2.blk h.le h.short (these_new L w hL h1) hm hne).mono ?_
    rintro r w' ⟨rfl, hp, hc2⟩
    refine ⟨?_, ?_, hc.trans hc2⟩
    · unfold takenOf; rw [show memL L (tokp T s.p).toList = true from hm]; rfl
    · unfold PS.need; rw [hm]; exact ⟨hp, (nextp_le T s.p h.le).1, h.short⟩
theorem failAt_ps (b : Nat) (T : ByteArray) (vN vE vL : Value) (s : PS) (no at_ : Int) (w : World) (h : RAt w b T vN vE vL s) :
    Calls Tryz.prog 37 #[.pointer (some ⟨b, 0, none⟩), .int .i64 no, .int .i64 at_] w fun r w' => r = .returned (.tuple #[]) ∧ RAt w' b T vN vE vL (s.failAt T no at_) ∧ Chg (fun k => k = b) w w' := by
  refine (failAt_any b T s.p (tokEnd T s.p) vN vE vL s.f s.pl no at_ w h.blk).mono ?_
  rintro r w' ⟨rfl, hp, hc⟩
  refine ⟨rfl, ⟨?_, Nat.le_refl _, h.short⟩, hc⟩
  show PBlk _ _ _ _ _ _ _ _ _ _
  rw [show (s.failAt T no at_).p = T.size from rfl, tokEnd_size]; exact hp
theorem fail_ps (b : Nat) (T : ByteArray) (vN vE vL : Value) (s : PS) (no : Int) (w : World) (h : RAt w b T vN vE vL s) :
    Calls Tryz.prog 18 #[.pointer (some ⟨b, 0, none⟩), .int .i64 no] w fun r w' => r = .returned (.tuple #[]) ∧ RAt w' b T vN vE vL (s.fail T no) ∧ Chg (fun k => k = b) w w' := by
  refine (fail_pr b T s.p (tokEnd T s.p) vN vE vL s.f s.pl no w h.blk).mono ?_
  rintro r w' ⟨rfl, hp, hc⟩
  refine ⟨rfl, ⟨?_, Nat.le_refl _, h.short⟩, hc⟩
  show PBlk _ _ _ _ _ _ _ _ _ _
  rw [show (s.fail T no).p = T.size from rfl, tokEnd_size]; exact hp
theorem step_ps (b : Nat) (T : ByteArray) (vN vE vL : Value) (s : PS) (w : World) (h : RAt w b T vN vE vL s) :
    Calls Tryz.prog 13 #[.pointer (some ⟨b, 0, none⟩)] w fun r w' => r = .returned (.tuple #[]) ∧ RAt w' b T vN vE vL (s.step T) ∧ Chg (fun k => k = b) w w' := by
  refine (step_any b T s.p (tokEnd T s.p) vN vE vL s.f s.pl w h.blk ((tokEnd_le T s.p).2.1 h.le) h.short).mono ?_
  rintro r w' ⟨rfl, hp, hc⟩
  exact ⟨rfl, ⟨hp, (nextp_le T s.p h.le).1, h.short⟩, hc⟩
theorem now_ps (b : Nat) (T : ByteArray) (vN vE vL : Value) (s : PS) (w : World) (h : RAt w b T vN vE vL s) :
    Calls Tryz.prog 30 #[.pointer (some ⟨b, 0, none⟩)] w fun r w' => r = .returned (.string (tokp T s.p)) ∧ ∃ n, w' = w.drewN n :=
  now_any b T s.p (tokEnd T s.p) vN vE vL s.f s.pl w h.blk (tokEnd_le T s.p).1 ((tokEnd_le T s.p).2.1 h.le)
theorem RAt.drewN {w : World} {b : Nat} {T : ByteArray} {vN vE vL : Value} {s : PS} (h : RAt w b T vN vE vL s) (n : Nat) : RAt (w.drewN n) b T vN vE vL s := ⟨h.blk, h.le, h.short⟩
theorem isWordBut_new (b : Nat) (T : ByteArray) (vN vE vL : Value) (s : PS) (L : List ByteArray) (w : World) (h : RAt w b T vN vE vL s) (hL : L.length ≤ 100) (h1 : 1 ≤ L.length) :
    Calls Tryz.prog 41 #[.pointer (some ⟨b, 0, none⟩), .slice (some ⟨w.heap.size, 0, none⟩) L.length L.length] (w.alloc (.cells (L.map .string).toArray 9)) fun r w' => r = .returned (.bool (wordp T s.p && !memL L (s.tk T))) ∧ Below w.heap.size w w' := by
  have h2 := h.later (below_alloc w (.cells (L.map .string).toArray 9))
  refine (isWordBut_any b T s.p vN vE vL s.f s.pl _ L _ h2.blk h.le (these_new L w hL h1)).mono ?_
  rintro r w' ⟨rfl, n, rfl⟩
  exact ⟨rfl, bdrew (below_alloc w _) n⟩

/- THE WORDS. -/
def wClass : ByteArray := ⟨#[99, 108, 97, 115, 115]⟩
def wCut : ByteArray := ⟨#[99, 117, 116]⟩
def wJoin : ByteArray := ⟨#[106, 111, 105, 110]⟩
def sgn (c : UInt8) : ByteArray := ⟨#[c]⟩
def PS.isAtom (T : ByteArray) (s : PS) : Bool := memL [sgn 40] (s.tk T) || (wordp T s.p && !memL [wClass, wCut, wJoin] (s.tk T))

set_option maxHeartbeats 1000000 in
theorem isAtom_any (b : Nat) (T : ByteArray) (vN vE vL : Value) (s : PS) (w : World) (h : RAt w b T vN vE vL s) :
    Calls Tryz.prog 64 #[.pointer (some ⟨b, 0, none⟩)] w fun r w' => r = .returned (.bool (s.isAtom T)) ∧ Below w.heap.size w w' := by
  have HH : Hid (RAt w b T vN vE vL s) := h
  clear h
  cases hm : memL [sgn 40] (s.tk T)
  · have e : Hid (s.isAtom T = (wordp T s.p && !memL [wClass, wCut, wJoin] (s.tk T))) := by show _ = _; unfold PS.isAtom; rw [hm]; rfl
    rw [e.out]
    go_enter Tryz.func64, Tryz.ntmps64
    go_wp2_with fail
    refine (is_new b T vN vE vL s [sgn 40] w HH.out (by decide) (by decide)).mono ?_
    rintro r w1 ⟨rfl, hb⟩
    rw [hm]
    have H1 : Hid (RAt w1 b T vN vE vL s) := HH.out.later hb
    go_wp2_with fail
    refine (isWordBut_new b T vN vE vL s [wClass, wCut, wJoin] w1 H1.out (by decide) (by decide)).mono ?_
    rintro r w2 ⟨rfl, hb2⟩
    go_wp2_with fail
    go_ret
    exact ⟨rfl, hb.trans (hb2.mono hb.size)⟩
  · have e : Hid (s.isAtom T = true) := by show _ = _; unfold PS.isAtom; rw [hm]; rfl
    rw [e.out]
    go_enter Tryz.func64, Tryz.ntmps64
    go_wp2_with fail
    refine (is_new b T vN vE vL s [sgn 40] w HH.out (by decide) (by decide)).mono ?_
    rintro r w1 ⟨rfl, hb⟩
    rw [hm]
    go_wp2_with fail
    go_ret
    exact ⟨rfl, hb⟩
end Go.Proofs.YtonooajnjgnmnaaGreatDoor
