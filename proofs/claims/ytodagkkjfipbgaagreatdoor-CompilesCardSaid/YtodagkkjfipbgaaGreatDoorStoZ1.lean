/- A reference Rules in memory, in a state; what each step keeps. -/
import Derived.Test.YtodagkkjfipbgaaGreatDoorN19toU
import Derived.Test.YtodagkkjfipbgaaGreatDoorW7toW9
import Derived.Test.YtodagkkjfipbgaaGreatDoorC4toW6
namespace Go.Proofs.YtodagkkjfipbgaaGreatDoor
open Go.RowKit

/-- The one cell of the table of tens that is read. -/
def TabOK (w : World) : Prop := w.cell? ⟨1, 2, none⟩ = some (.int .u64 100)

def RS.Ok (T : ByteArray) (s : RS) : Prop :=
  s.at_ ≤ T.size ∧ s.names.length ≤ 6 ∧ s.spans.length ≤ s.at_ + 1 ∧ s.L.length ≤ 4 ∧ 0 ≤ s.atoms ∧ s.atoms ≤ 5 ∧ 0 ≤ s.nest ∧ s.nest ≤ 4 ∧ (s.err = 0 → s.spans.length ≤ s.at_ ∧ s.atoms ≤ 4 ∧ ∀ x ∈ s.names, x.toList ≠ [])

def spanCells (l : List (Int × Int × Int)) : List Value := l.flatMap fun o => [.int .i64 o.1, .int .i64 o.2.1, .int .i64 o.2.2]
def ruleCells (l : List (Bool × Value × Value)) : List Value := l.flatMap fun o => [.bool o.1, o.2.1, o.2.2]
def AreRules (w : World) (vs : List (Bool × Value × Value)) (L : List (Bool × Rx × Rx)) : Prop :=
  vs.length = L.length ∧ ∀ (i : Nat) (v : Bool × Value × Value) (x : Bool × Rx × Rx), vs[i]? = some v → L[i]? = some x → v.1 = x.1 ∧ (∃ d, IsRe d w v.2.1 x.2.1) ∧ ∃ d, IsRe d w v.2.2 x.2.2

/-- The rows of a reference Rules. -/
def Rows3 (w : World) (base : Nat) (s : RS) (vN vS vL : Value) : Prop :=
  w.ownsRow base 9 1 vN s.names.length (s.names.map .string) ∧ w.ownsRow base 197 3 vS s.spans.length (spanCells s.spans) ∧
  ∃ vs, w.ownsRow base 181 3 vL s.L.length (ruleCells vs) ∧ AreRules w vs s.L

def RSt (w : World) (base b : Nat) (T : ByteArray) (s : RS) : Prop :=
  1 < base ∧ base ≤ b ∧ T.size ≤ 1000 ∧ s.Ok T ∧ TabOK w ∧ ∃ vN vS vL, Blk w b T s vN vS vL ∧ Rows3 w base s vN vS vL

/-- All blocks of a type are as they were. -/
def Kt (t : TypeId) (w w' : World) : Prop := ∀ (k : Nat) (cs : Array Value) (m : Nat × Nat), w.heap[k]? = some (.cells cs t m) → w'.heap[k]? = some (.cells cs t m)
theorem Kt.refl (t : TypeId) (w : World) : Kt t w w := fun _ _ _ h => h
theorem Kt.trans {t : TypeId} {a b c : World} (h : Kt t a b) (k : Kt t b c) : Kt t a c := fun i cs m hh => k i cs m (h i cs m hh)
theorem Kt.below {t : TypeId} {w w' : World} (h : Below w.heap.size w w') : Kt t w w' := fun k cs m hh => by rw [h.block k (Array.getElem?_eq_some_iff.1 hh).1]; exact hh
/-- The list of rules of each Rules is the same slice. -/
def KL (w w' : World) : Prop := ∀ (k : Nat) (cs : Array Value), w.heap[k]? = some (.cells cs 35 (0, 0)) → ∃ cs' : Array Value, w'.heap[k]? = some (.cells cs' 35 (0, 0)) ∧ cs'[6]? = cs[6]?
theorem KL.refl (w : World) : KL w w := fun _ cs h => ⟨cs, h, rfl⟩
theorem KL.trans {a b c : World} (h : KL a b) (k : KL b c) : KL a c := fun i cs hh => by
  obtain ⟨c1, h1, e1⟩ := h i cs hh
  obtain ⟨c2, h2, e2⟩ := k i c1 h1
  exact ⟨c2, h2, e2.trans e1⟩
theorem KL.of_kt {w w' : World} (h : Kt 35 w w') : KL w w' := fun k cs hh => ⟨cs, h k cs _ hh, rfl⟩
/-- Nothing below base has turned, nor a tree, nor a rule, nor which rules there are. -/
structure RChg (base : Nat) (w w' : World) : Prop where
  b : Below base w w'
  k : KeepRe w w'
  r : Kt 181 w w'
  l : KL w w'
theorem RChg.refl (base : Nat) (w : World) : RChg base w w := ⟨Below.refl _ _, KeepRe.refl _, Kt.refl _ _, KL.refl _⟩
theorem RChg.trans {base : Nat} {a b c : World} (h : RChg base a b) (k : RChg base b c) : RChg base a c := ⟨h.1.trans k.1, h.2.trans k.2, h.3.trans k.3, h.4.trans k.4⟩
theorem RChg.of_below {base : Nat} {w w' : World} (h : Below w.heap.size w w') (hb : base ≤ w.heap.size) : RChg base w w' := ⟨h.mono hb, KeepRe.of_below h, Kt.below h, KL.of_kt (Kt.below h)⟩
theorem TabOK.on {base : Nat} {w w' : World} (h : TabOK w) (hb : Below base w w') (h2 : 1 < base) : TabOK w' := (hb.cell (p := ⟨1, 2, none⟩) h2).trans h

theorem AreRules.keep {w w' : World} {vs : List (Bool × Value × Value)} {L : List (Bool × Rx × Rx)} (h : AreRules w vs L) (hk : KeepRe w w') : AreRules w' vs L := by
  refine ⟨h.1, fun i v x hv hx => ?_⟩
  obtain ⟨h1, ⟨d, h2⟩, e, h3⟩ := h.2 i v x hv hx
  exact ⟨h1, ⟨d, h2.keep hk⟩, e, h3.keep hk⟩
theorem ownsRow_chg {w w' : World} {base : Nat} {e : TypeId} {size : Nat} {v : Value} {n : Nat} {us : List Value} (h : w.ownsRow base e size v n us)
    (hk : ∀ (k : Nat) (cs : Array Value) (m : Nat × Nat), w.heap[k]? = some (.cells cs e m) → w'.heap[k]? = some (.cells cs e m)) : w'.ownsRow base e size v n us := by
  obtain ⟨h1, h2⟩ := h
  refine ⟨h1, ?_⟩
  rcases h2 with h2 | ⟨g, cap, cur, hv, hg, hh, r⟩
  · exact Or.inl h2
  · exact Or.inr ⟨g, cap, cur, hv, hg, hk _ _ _ hh, r⟩
/-- A change of the block of the Rules alone. -/
theorem kept_of_chg1 {w w' : World} {b : Nat} {cs0 : Array Value} {t0 t : TypeId} {m0 : Nat × Nat} (hb : w.heap[b]? = some (.cells cs0 t0 m0)) (hc : Chg (fun k => k = b) w w') (ht : t ≠ t0) :
    ∀ (k : Nat) (cs : Array Value) (m : Nat × Nat), w.heap[k]? = some (.cells cs t m) → w'.heap[k]? = some (.cells cs t m) := by
  intro k cs m hh
  rw [hc.block k (Array.getElem?_eq_some_iff.1 hh).1 (fun e => by subst e; rw [hb] at hh; simp at hh; exact ht hh.2.1.symm)]; exact hh
theorem keepRe_chg1 {w w' : World} {b : Nat} {T : ByteArray} {s : RS} {vN vS vL : Value} (h : Blk w b T s vN vS vL) (hc : Chg (fun k => k = b) w w') : KeepRe w w' := by
  intro k cs t m ht hh
  rcases ht with rfl | rfl
  · exact kept_of_chg1 h hc (by decide) k cs m hh
  · exact kept_of_chg1 h hc (by decide) k cs m hh
theorem rows_chg1 {w w' : World} {base b : Nat} {T : ByteArray} {s s' : RS} {vN vS vL : Value} (h : Blk w b T s vN vS vL) (hc : Chg (fun k => k = b) w w') (hr : Rows3 w base s vN vS vL)
    (h1 : s'.names = s.names) (h2 : s'.spans = s.spans) (h3 : s'.L = s.L) : Rows3 w' base s' vN vS vL := by
  obtain ⟨a, b', vs, c, d⟩ := hr
  unfold Rows3
  rw [h1, h2, h3]
  exact ⟨ownsRow_chg a (kept_of_chg1 h hc (by decide)), ownsRow_chg b' (kept_of_chg1 h hc (by decide)), vs, ownsRow_chg c (kept_of_chg1 h hc (by decide)), d.keep (keepRe_chg1 h hc)⟩
theorem rchg_chg1 {w w' : World} {base b : Nat} {T : ByteArray} {s s' : RS} {vN vS vL : Value} (h : Blk w b T s vN vS vL) (h' : Blk w' b T s' vN vS vL) (hc : Chg (fun k => k = b) w w') (hbb : base ≤ b) : RChg base w w' :=
  ⟨hc.below (Nat.le_trans hbb (Nat.le_of_lt (Array.getElem?_eq_some_iff.1 h).1)) (fun k hk e => by omega), keepRe_chg1 h hc, kept_of_chg1 h hc (by decide), fun k cs hh => by
    by_cases e : k = b
    · subst e
      refine ⟨_, h', ?_⟩
      have h2 := h
      unfold Blk at h2
      rw [h2] at hh
      simp at hh
      rw [← hh]; rfl
    · exact ⟨cs, by rw [hc.block k (Array.getElem?_eq_some_iff.1 hh).1 e]; exact hh, rfl⟩⟩
/-- A step that turns the numbers of the Rules alone. -/
theorem RSt.step {w w' : World} {base b : Nat} {T : ByteArray} {s s' : RS} {vN vS vL : Value} (h : RSt w base b T s) (hb : Blk w b T s vN vS vL) (hr : Rows3 w base s vN vS vL) (hb' : Blk w' b T s' vN vS vL) (hc : Chg (fun k => k = b) w w')
    (h1 : s'.names = s.names) (h2 : s'.spans = s.spans) (h3 : s'.L = s.L) (hok : s'.Ok T) : RSt w' base b T s' ∧ RChg base w w' := by
  obtain ⟨g, hbb, hT, _, ht, _⟩ := h
  have hrc := rchg_chg1 hb hb' hc hbb
  exact ⟨⟨g, hbb, hT, hok, ht.on hrc.1 g, vN, vS, vL, hb', rows_chg1 hb hc hr h1 h2 h3⟩, hrc⟩
/-- A step that makes new memory alone. -/
theorem RSt.below {w w' : World} {base b : Nat} {T : ByteArray} {s : RS} (h : RSt w base b T s) (hb : Below w.heap.size w w') : RSt w' base b T s ∧ RChg base w w' := by
  obtain ⟨g, hbb, hT, hok, ht, vN, vS, vL, hblk, a, b', vs, c, d⟩ := h
  have hbs : b < w.heap.size := (Array.getElem?_eq_some_iff.1 hblk).1
  have hrc : RChg base w w' := RChg.of_below hb (by omega)
  have hk : ∀ (t : TypeId) (k : Nat) (cs : Array Value) (m : Nat × Nat), w.heap[k]? = some (.cells cs t m) → w'.heap[k]? = some (.cells cs t m) := fun t k cs m hh => by
    rw [hb.block k (Array.getElem?_eq_some_iff.1 hh).1]; exact hh
  exact ⟨⟨g, hbb, hT, hok, ht.on hrc.1 g, vN, vS, vL, by unfold Blk; rw [hb.block b hbs]; exact hblk, ownsRow_chg a (hk _), ownsRow_chg b' (hk _), vs, ownsRow_chg c (hk _), d.keep hrc.2⟩, hrc⟩

theorem fail_same (s : RS) (e p : Int) : (s.fail e p).names = s.names ∧ (s.fail e p).spans = s.spans ∧ (s.fail e p).L = s.L ∧ (s.fail e p).at_ = s.at_ ∧ (s.fail e p).atoms = s.atoms ∧ (s.fail e p).nest = s.nest := by
  unfold RS.fail; split <;> simp
theorem fail_err (s : RS) (e p : Int) (he : e ≠ 0) : (s.fail e p).err ≠ 0 := by
  unfold RS.fail; split <;> simp_all
theorem RS.Ok.fail {T : ByteArray} {s : RS} (h : s.Ok T) (e p : Int) (he : e ≠ 0) : (s.fail e p).Ok T := by
  obtain ⟨f1, f2, f3, f4, f5, f6⟩ := fail_same s e p
  have := fail_err s e p he
  unfold RS.Ok at *
  rw [f1, f2, f3, f4, f5, f6]
  exact ⟨h.1, h.2.1, h.2.2.1, h.2.2.2.1, h.2.2.2.2.1, h.2.2.2.2.2.1, h.2.2.2.2.2.2.1, h.2.2.2.2.2.2.2.1, fun e0 => absurd e0 this⟩
theorem RS.Ok.at_ {T : ByteArray} {s : RS} (h : s.Ok T) (n : Nat) (h1 : s.at_ ≤ n) (h2 : n ≤ T.size) : ({ s with at_ := n } : RS).Ok T := by
  unfold RS.Ok at *
  obtain ⟨a, b, c, d, e, f, g, i, j⟩ := h
  refine ⟨h2, b, by show s.spans.length ≤ n + 1; omega, d, e, f, g, i, fun he => ?_⟩
  have := j he
  exact ⟨by show s.spans.length ≤ n; omega, this.2⟩
theorem RS.Ok.take {T : ByteArray} {s : RS} (h : s.Ok T) : (s.take T).Ok T := h.at_ _ (take_at T s h.1).2.1 (take_at T s h.1).1
theorem RS.Ok.peek {T : ByteArray} {s : RS} (h : s.Ok T) : (s.peek T).Ok T := h.at_ _ (peek_at T s h.1).2 (peek_at T s h.1).1
theorem want_same (T : ByteArray) (s : RS) (l : List UInt8) : (s.want T l).names = s.names ∧ (s.want T l).spans = s.spans ∧ (s.want T l).L = s.L ∧ (s.want T l).at_ = (s.take T).at_ ∧ (s.want T l).atoms = s.atoms ∧ (s.want T l).nest = s.nest := by
  unfold RS.want
  split
  · simp [RS.take]
  · exact fail_same (s.take T) _ _
theorem RS.Ok.want {T : ByteArray} {s : RS} (h : s.Ok T) (l : List UInt8) : (s.want T l).Ok T := by
  unfold RS.want
  split
  · exact h.take
  · exact h.take.fail _ _ (by omega)
theorem hex_same (T : ByteArray) (s : RS) : (s.hex T).names = s.names ∧ (s.hex T).spans = s.spans ∧ (s.hex T).L = s.L ∧ (s.hex T).at_ = (s.take T).at_ ∧ (s.hex T).atoms = s.atoms ∧ (s.hex T).nest = s.nest := by
  unfold RS.hex
  simp only
  split
  · exact fail_same (s.take T) _ _
  · split <;> split <;> simp [fail_same, RS.take]
theorem RS.Ok.hex {T : ByteArray} {s : RS} (h : s.Ok T) : (s.hex T).Ok T := by
  unfold RS.hex
  simp only
  split
  · exact h.take.fail _ _ (by omega)
  · split
    · split
      · exact h.take.fail _ _ (by omega)
      · exact (h.take.fail _ _ (by omega)).fail _ _ (by omega)
    · split
      · exact h.take
      · exact h.take.fail _ _ (by omega)

/- The steps, at a state. -/
theorem fail_rs (base b : Nat) (T : ByteArray) (s : RS) (e0 p0 : Int) (w : World) (h : RSt w base b T s) (he : e0 ≠ 0) :
    Calls Tryz.prog 46 #[.pointer (some ⟨b, 0, none⟩), .int .i64 e0, .int .i64 p0] w fun e w' => e = .returned (.tuple #[]) ∧ RSt w' base b T (s.fail e0 p0) ∧ RChg base w w' := by
  have h0 := h
  obtain ⟨g, hbb, hT, hok, ht, vN, vS, vL, hblk, hr⟩ := h
  refine (fail_st b T s vN vS vL e0 p0 w hblk).mono ?_
  rintro e w' ⟨rfl, hb', hc⟩
  have := fail_same s e0 p0
  exact ⟨rfl, h0.step hblk hr hb' hc this.1 this.2.1 this.2.2.1 (hok.fail _ _ he)⟩
theorem peek_rs (base b : Nat) (T : ByteArray) (s : RS) (w : World) (h : RSt w base b T s) :
    Calls Tryz.prog 47 #[.pointer (some ⟨b, 0, none⟩)] w fun e w' => e = .returned (.tuple #[.string (tok T s.at_), .int .i64 (s.pos T : Nat)]) ∧ RSt w' base b T (s.peek T) ∧ RChg base w w' := by
  have h0 := h
  obtain ⟨g, hbb, hT, hok, ht, vN, vS, vL, hblk, hr⟩ := h
  refine (peek_st b T s vN vS vL w hblk hT hok.1).mono ?_
  rintro e w' ⟨rfl, hb', hc⟩
  exact ⟨rfl, h0.step hblk hr hb' hc rfl rfl rfl hok.peek⟩
theorem take_rs (base b : Nat) (T : ByteArray) (s : RS) (w : World) (h : RSt w base b T s) :
    Calls Tryz.prog 91 #[.pointer (some ⟨b, 0, none⟩)] w fun e w' => e = .returned (.tuple #[.string (tok T s.at_), .int .i64 (s.pos T : Nat)]) ∧ RSt w' base b T (s.take T) ∧ RChg base w w' := by
  have h0 := h
  obtain ⟨g, hbb, hT, hok, ht, vN, vS, vL, hblk, hr⟩ := h
  refine (take_st b T s vN vS vL w hblk hT hok.1).mono ?_
  rintro e w' ⟨rfl, hb', hc⟩
  exact ⟨rfl, h0.step hblk hr hb' hc rfl rfl rfl hok.take⟩
theorem want_rs (base b : Nat) (T : ByteArray) (s : RS) (x : ByteArray) (w : World) (h : RSt w base b T s) :
    Calls Tryz.prog 94 #[.pointer (some ⟨b, 0, none⟩), .string x] w fun e w' => e = .returned (.tuple #[]) ∧ RSt w' base b T (s.want T x.toList) ∧ RChg base w w' := by
  have h0 := h
  obtain ⟨g, hbb, hT, hok, ht, vN, vS, vL, hblk, hr⟩ := h
  refine (want_st b T s vN vS vL x w hblk hT hok.1).mono ?_
  rintro e w' ⟨rfl, hb', hc⟩
  have := want_same T s x.toList
  exact ⟨rfl, h0.step hblk hr hb' hc this.1 this.2.1 this.2.2.1 (hok.want _)⟩
theorem hex_rs (base b : Nat) (T : ByteArray) (s : RS) (w : World) (h : RSt w base b T s) :
    Calls Tryz.prog 147 #[.pointer (some ⟨b, 0, none⟩)] w fun e w' => e = .returned (.tuple #[.int .i64 (RS.hexV (s.tk T)), .int .i64 (s.pos T : Nat)]) ∧ RSt w' base b T (s.hex T) ∧ RChg base w w' := by
  have h0 := h
  obtain ⟨g, hbb, hT, hok, ht, vN, vS, vL, hblk, hr⟩ := h
  refine (hex_st b T s vN vS vL w hblk hT hok.1).mono ?_
  rintro e w' ⟨rfl, hb', hc⟩
  have := hex_same T s
  exact ⟨rfl, h0.step hblk hr hb' hc this.1 this.2.1 this.2.2.1 hok.hex⟩
theorem class_rs (base b : Nat) (T : ByteArray) (s : RS) (x : ByteArray) (w : World) (h : RSt w base b T s) :
    Calls Tryz.prog 93 #[.pointer (some ⟨b, 0, none⟩), .string x] w fun e w' => e = .returned (.int .i64 (clsIx s.names x.toList)) ∧ w' = w := by
  obtain ⟨g, hbb, hT, hok, ht, vN, vS, vL, hblk, hr⟩ := h
  exact class_any b base T s.at_ s.err s.place vN vS vL s.atoms s.nest s.names x w hblk hr.1 (by have := hok.2.1; omega)
/-- The cells that a walk reads. -/
theorem RSt.cells {w : World} {base b : Nat} {T : ByteArray} {s : RS} (h : RSt w base b T s) : ∃ vN vS vL, Blk w b T s vN vS vL ∧ Rows3 w base s vN vS vL ∧
    w.cell? ⟨b, 0, none⟩ = some (.string T) ∧ w.cell? ⟨b, 1, none⟩ = some (.int .i64 s.at_) ∧ w.cell? ⟨b, 2, none⟩ = some (.int .i64 s.err) ∧ w.cell? ⟨b, 3, none⟩ = some (.int .i64 s.place) ∧
    w.cell? ⟨b, 4, none⟩ = some vN ∧ w.cell? ⟨b, 5, none⟩ = some vS ∧ w.cell? ⟨b, 6, none⟩ = some vL ∧ w.cell? ⟨b, 7, none⟩ = some (.int .i64 s.atoms) ∧ w.cell? ⟨b, 8, none⟩ = some (.int .i64 s.nest) ∧ (∀ o, w.frozen? ⟨b, o, none⟩ = false) := by
  obtain ⟨g, hbb, hT, hok, ht, vN, vS, vL, hblk, hr⟩ := h
  exact ⟨vN, vS, vL, hblk, hr, rcells hblk⟩
theorem Kt.setCell {t : TypeId} {w : World} {b o : Nat} {cs0 : Array Value} {t0 : TypeId} {m0 : Nat × Nat} (hb : w.heap[b]? = some (.cells cs0 t0 m0)) (ht : t ≠ t0) (u : Value) : Kt t w (w.setCell ⟨b, o, none⟩ u) := fun k cs m hh => by
  rw [Below.heap_setCell _ _ _ _ (fun e => by simp at e; subst e; rw [hb] at hh; simp at hh; exact ht hh.2.1.symm)]; exact hh
theorem Kt.grown {t e : TypeId} {base size n : Nat} {w w' : World} {v : Value} {us : List Value} (hown : w.ownsRow base e size v n us) (hg : w.grownBy w' v.ownBlock) (ht : t ≠ e) : Kt t w w' := fun k cs m hh => by
  rw [hg.block k (Array.getElem?_eq_some_iff.1 hh).1 (fun e' => by
    rcases hown.2 with ⟨hv, _⟩ | ⟨g, cap, cur, hv, _, hgg, _⟩
    · rw [hv] at e'; simp [Value.ownBlock] at e'
    · rw [hv] at e'; simp [Value.ownBlock] at e'; subst e'; rw [hgg] at hh; simp at hh; exact ht hh.2.1.symm)]; exact hh
theorem keepRe_kt {w w' : World} (h1 : Kt 204 w w') (h2 : Kt 178 w w') : KeepRe w w' := fun k cs t m ht hh => by
  rcases ht with rfl | rfl
  · exact h1 k cs m hh
  · exact h2 k cs m hh
theorem drewN_below {w : World} (n : Nat) : Below w.heap.size w (w.drewN n) := ⟨rfl, rfl, rfl, Nat.le_refl _, fun _ _ => rfl⟩

/-- A row of the Rules that has got one element more: the world behind the new array's making (w1), the append (w2) and the store (w3). -/
structure Pushed (e : TypeId) (o : Nat) (base b : Nat) (v v' : Value) (w w1 w2 w3 : World) : Prop where
  first : Below w.heap.size w w1
  grown : w1.grownBy w2 v.ownBlock
  last : w3.heap = (w2.setCell ⟨b, o, none⟩ v').heap ∧ w3.os = w2.os ∧ w3.tape = w2.tape ∧ w3.output = w2.output
theorem Pushed.kt {e t : TypeId} {o base b size n : Nat} {v v' : Value} {us : List Value} {w w1 w2 w3 : World} {cs0 : Array Value} (h : Pushed e o base b v v' w w1 w2 w3) (hown : w.ownsRow base e size v n us)
    (hb : w.heap[b]? = some (.cells cs0 35 (0, 0))) (hte : t ≠ e) (ht0 : t ≠ 35) (he0 : e ≠ 35) : Kt t w w3 := by
  have k1 : ∀ t', Kt t' w w1 := fun t' => Kt.below h.first
  have own1 : w1.ownsRow base e size v n us := ownsRow_chg hown (k1 e)
  have k2 : ∀ t', t' ≠ e → Kt t' w1 w2 := fun t' ht' => Kt.grown own1 h.grown ht'
  have hb2 := k2 _ (Ne.symm he0) _ _ _ (k1 _ _ _ _ hb)
  intro k cs m hh
  rw [h.last.1]
  exact Kt.setCell hb2 ht0 v' k cs m (k2 t hte k cs m (k1 t k cs m hh))
theorem Pushed.row {e : TypeId} {o base b size n : Nat} {v v' : Value} {us us' : List Value} {n' : Nat} {w w1 w2 w3 : World} {cs0 : Array Value} (h : Pushed e o base b v v' w w1 w2 w3) (hown : w.ownsRow base e size v n us)
    (hb : w.heap[b]? = some (.cells cs0 35 (0, 0))) (he0 : e ≠ 35) (hnew : w2.ownsRow base e size v' n' us') : w3.ownsRow base e size v' n' us' := by
  have k1 : ∀ t', Kt t' w w1 := fun t' => Kt.below h.first
  have own1 : w1.ownsRow base e size v n us := ownsRow_chg hown (k1 e)
  have hb2 := Kt.grown own1 h.grown (Ne.symm he0) _ _ _ (k1 _ _ _ _ hb)
  refine ownsRow_chg hnew ?_
  intro k cs m hh
  rw [h.last.1]
  exact Kt.setCell hb2 he0 v' k cs m hh
theorem Pushed.blk {e : TypeId} {o base b size n : Nat} {v v' : Value} {us : List Value} {w w1 w2 w3 : World} {cs0 : Array Value} (h : Pushed e o base b v v' w w1 w2 w3) (hown : w.ownsRow base e size v n us)
    (hb : w.heap[b]? = some (.cells cs0 35 (0, 0))) (he0 : e ≠ 35) : w3.heap[b]? = some (.cells (cs0.setIfInBounds o v') 35 (0, 0)) := by
  have k1 : ∀ t', Kt t' w w1 := fun t' => Kt.below h.first
  have own1 : w1.ownsRow base e size v n us := ownsRow_chg hown (k1 e)
  have hb2 := Kt.grown own1 h.grown (Ne.symm he0) _ _ _ (k1 _ _ _ _ hb)
  rw [h.last.1]; exact block_setCell hb2 o v'
theorem Pushed.rchg {e : TypeId} {o base b size n : Nat} {v v' : Value} {us : List Value} {w w1 w2 w3 : World} {cs0 : Array Value} (h : Pushed e o base b v v' w w1 w2 w3) (hown : w.ownsRow base e size v n us) (hbb : base ≤ b)
    (hb : w.heap[b]? = some (.cells cs0 35 (0, 0))) (he0 : e ≠ 35) (he1 : 204 ≠ e) (he2 : 178 ≠ e) (he3 : 181 ≠ e) (ho : o ≠ 6) : RChg base w w3 := by
  have k1 : ∀ t', Kt t' w w1 := fun t' => Kt.below h.first
  have own1 : w1.ownsRow base e size v n us := ownsRow_chg hown (k1 e)
  have hbs : b < w.heap.size := (Array.getElem?_eq_some_iff.1 hb).1
  have hs1 := h.first.size
  have b1 : Below base w w2 := (h.first.mono (by omega)).grown h.grown (by omega) (fun k hk => (own1.lt k hk).1)
  have b2 : Below base w (w2.setCell ⟨b, o, none⟩ v') := b1.setCell hbb v'
  refine ⟨⟨h.last.2.1.trans b1.os, h.last.2.2.1.trans b1.tape, h.last.2.2.2.trans b1.output, by rw [h.last.1]; exact b2.size, fun k hk => by rw [h.last.1]; exact b2.block k hk⟩,
    keepRe_kt (h.kt hown hb he1 (by decide) he0) (h.kt hown hb he2 (by decide) he0), h.kt hown hb he3 (by decide) he0, fun k cs hh => ?_⟩
  by_cases e' : k = b
  · subst e'
    refine ⟨_, h.blk hown hh he0, ?_⟩
    rw [Array.getElem?_setIfInBounds_ne (by omega)]
  · refine ⟨cs, ?_, rfl⟩
    rw [h.last.1, Below.heap_setCell _ _ _ _ (by simpa using e')]
    exact Kt.grown own1 h.grown (Ne.symm he0) _ _ _ (k1 _ _ _ _ hh)
theorem ownsRow_shape {w : World} {base : Nat} {e : TypeId} {size : Nat} {v : Value} {n : Nat} {us : List Value} (h : w.ownsRow base e size v n us) : ∃ ao cap, v = .slice ao n cap := by
  rcases h.2 with ⟨hv, hn⟩ | ⟨g, cap, cur, hv, _⟩
  · exact ⟨none, 0, by rw [hv, hn]⟩
  · exact ⟨_, cap, hv⟩
theorem pushed_free {w W w' : World} {b base size n : Nat} {e : TypeId} {cs0 : Array Value} {v : Value} {us : List Value} (hg : W.grownBy w' v.ownBlock) (hb : w.heap[b]? = some (.cells cs0 35 (0, 0))) (h1 : Below w.heap.size w W) (hown : W.ownsRow base e size v n us) (he : 35 ≠ e) :
    w'.heap[b]? = some (.cells cs0 35 (0, 0)) := Kt.grown hown hg he _ _ _ (Kt.below h1 _ _ _ hb)
end Go.Proofs.YtodagkkjfipbgaaGreatDoor
/- The program's plain reader and the reference's: they stand at the same word, or have the same fault. -/
namespace Go.Proofs.YtodagkkjfipbgaaGreatDoor
open Go.RowKit

/-- Both stand at the same word, without a fault. -/
def Okz (T : ByteArray) (s : RS) (p : PS) : Prop := s.err = 0 ∧ p.f = 0 ∧ p.p = skip T s.at_ ∧ s.at_ ≤ T.size ∧ s.place = 0
/-- Both have the same fault. -/
def Badz (T : ByteArray) (s : RS) (p : PS) : Prop := s.err ≠ 0 ∧ p.f = s.err ∧ p.pl = s.place ∧ p.p = T.size
/-- The reference has a fault; the program will have it as soon as it asks for something. -/
def Pendz (T : ByteArray) (s : RS) (p : PS) : Prop := s.err = 2 ∧ p.f = 0 ∧ s.place = (p.p : Int) ∧ p.p < T.size ∧ memL [wClass, wCut, wJoin] (p.tk T) = true

theorem okz_tk {T : ByteArray} {s : RS} {p : PS} (h : Okz T s p) : s.tk T = p.tk T := by
  unfold RS.tk PS.tk tok tokp; rw [h.2.2.1]
theorem okz_pos {T : ByteArray} {s : RS} {p : PS} (h : Okz T s p) : (s.pos T : Int) = (p.p : Int) := by unfold RS.pos; rw [h.2.2.1]
theorem okz_le {T : ByteArray} {s : RS} {p : PS} (h : Okz T s p) : p.p ≤ T.size := by rw [h.2.2.1]; exact (skip_le T s.at_).2 h.2.2.2.1
theorem okz_take {T : ByteArray} {s : RS} {p : PS} (h : Okz T s p) : Okz T (s.take T) (p.step T) := by
  refine ⟨h.1, h.2.1, ?_, ?_, h.2.2.2.2⟩
  · show nextp T p.p = skip T (tokEnd T (skip T s.at_)); unfold nextp; rw [h.2.2.1]
  · exact (tokEnd_le T _).2.1 ((skip_le T s.at_).2 h.2.2.2.1)
theorem okz_peek {T : ByteArray} {s : RS} {p : PS} (h : Okz T s p) : Okz T (s.peek T) p :=
  ⟨h.1, h.2.1, by show p.p = skip T (skip T s.at_); rw [skip_skip]; exact h.2.2.1, (skip_le T s.at_).2 h.2.2.2.1, h.2.2.2.2⟩
/-- A fault where there was none. -/
theorem badz_fail {T : ByteArray} {s : RS} {p : PS} (h1 : s.err = 0) (h2 : p.f = 0) (e : Int) (he : e ≠ 0) (q : Int) (hq : q = p.p) : Badz T (s.fail e q) (p.fail T e) := by
  have e1 : (s.fail e q).err = e := by unfold RS.fail; rw [if_pos h1]
  have e2 : (s.fail e q).place = q := by unfold RS.fail; rw [if_pos h1]
  refine ⟨by rw [e1]; exact he, ?_, ?_, rfl⟩
  · rw [e1]; show pf p.f e = e; unfold pf; rw [if_pos h2]
  · rw [e2, hq]; show pp p.f p.p p.pl = _; unfold pp; rw [if_pos h2]
theorem rs_fail_same {s : RS} (h : s.err ≠ 0) (e q : Int) : s.fail e q = s := by unfold RS.fail; rw [if_neg h]
theorem badz_keep {T : ByteArray} {s s' : RS} {p p' : PS} (h : Badz T s p) (h1 : s'.err = s.err) (h2 : s'.place = s.place) (hs : Stk p p') (hz : Fz T p') : Badz T s' p' := by
  have hf : p.f ≠ 0 := by rw [h.2.1]; exact h.1
  have := hs hf
  exact ⟨by rw [h1]; exact h.1, by rw [this.1, h1]; exact h.2.1, by rw [this.2, h2]; exact h.2.2.1, hz (by rw [this.1]; exact hf)⟩
theorem badz_fz {T : ByteArray} {s : RS} {p : PS} (h : Badz T s p) : Fz T p := fun _ => h.2.2.2
theorem okz_fz {T : ByteArray} {s : RS} {p : PS} (h : Okz T s p) : Fz T p := fun e => absurd h.2.1 e
theorem badz_tk {T : ByteArray} {s : RS} {p : PS} (h : Badz T s p) : p.tk T = [] := by unfold PS.tk; rw [h.2.2.2]; exact tokp_end T

/-- What must stand there. -/
theorem okz_want {T : ByteArray} {s : RS} {p : PS} (h : Okz T s p) (c : UInt8) : (p.tk T = [c] ∧ s.want T [c] = s.take T ∧ Okz T (s.want T [c]) (p.need T [sgn c])) ∨ (p.tk T ≠ [c] ∧ Badz T (s.want T [c]) (p.need T [sgn c])) := by
  by_cases e : p.tk T = [c]
  · left
    have e1 : s.want T [c] = s.take T := by unfold RS.want; rw [okz_tk h, if_pos e]
    have e2 : p.need T [sgn c] = p.step T := by unfold PS.need; rw [memL_sgn, e]; simp
    exact ⟨e, e1, by rw [e1, e2]; exact okz_take h⟩
  · right
    have e1 : s.want T [c] = (s.take T).fail 2 (s.pos T) := by unfold RS.want; rw [okz_tk h, if_neg e]
    have e2 : p.need T [sgn c] = p.fail T 2 := by unfold PS.need; rw [memL_sgn]; simp [e]
    exact ⟨e, by rw [e1, e2]; exact badz_fail (s := s.take T) h.1 h.2.1 2 (by decide) _ (okz_pos h)⟩
/-- A keyword that stands where a sign must. -/
theorem pendz_need {T : ByteArray} {s : RS} {p : PS} (h : Pendz T s p) (c : UInt8) : Badz T s (p.need T [sgn c]) ∧ p.tk T ≠ [c] := by
  have hk := h.2.2.2.2
  rw [memL_iff] at hk
  have hne : p.tk T ≠ [c] := by
    intro e
    obtain ⟨x, hx, hx2⟩ := hk
    rw [e] at hx2
    simp at hx
    rcases hx with rfl | rfl | rfl
    · unfold wClass at hx2; rw [ByteArray.toList_eq] at hx2; simp at hx2
    · unfold wCut at hx2; rw [ByteArray.toList_eq] at hx2; simp at hx2
    · unfold wJoin at hx2; rw [ByteArray.toList_eq] at hx2; simp at hx2
  have e2 : p.need T [sgn c] = p.fail T 2 := by unfold PS.need; rw [memL_sgn]; simp [hne]
  refine ⟨?_, hne⟩
  rw [e2]
  refine ⟨by rw [h.1]; decide, ?_, ?_, rfl⟩
  · rw [h.1]; show pf p.f 2 = 2; unfold pf; rw [if_pos h.2.1]
  · rw [h.2.2.1]; show pp p.f p.p p.pl = _; unfold pp; rw [if_pos h.2.1]

/- A HEX. -/
theorem okz_hex {T : ByteArray} {s : RS} {p : PS} (h : Okz T s p) : (hexErr (p.tk T) = 0 ∧ s.hex T = s.take T ∧ Okz T (s.hex T) (p.hex T) ∧ RS.hexV (s.tk T) = RS.hexN (p.tk T)) ∨ (Badz T (s.hex T) (p.hex T)) := by
  have ht := okz_tk h
  have hq := okz_pos h
  by_cases e : hexErr (p.tk T) = 0
  · left
    have hb : ¬ (6 < (p.tk T).length ∨ RS.hexOk (p.tk T) = false ∨ p.tk T = []) := by
      intro hb; unfold hexErr at e; rw [if_pos hb] at e; omega
    have hn : ¬ 1114111 < RS.hexN (p.tk T) := by
      intro hn; unfold hexErr at e; rw [if_neg hb, if_pos hn] at e; omega
    have h6 : ¬ 6 < (p.tk T).length := fun h => hb (Or.inl h)
    have hok : RS.hexOk (p.tk T) = true ∧ p.tk T ≠ [] := by
      constructor
      · cases hh : RS.hexOk (p.tk T) with
        | true => rfl
        | false => exact absurd (Or.inr (Or.inl hh)) hb
      · intro hh; exact hb (Or.inr (Or.inr hh))
    have e1 : s.hex T = s.take T := by unfold RS.hex; simp only; rw [ht, if_neg h6, if_pos hok, if_neg hn]
    have e2 : p.hex T = p.step T := by unfold PS.hex; rw [if_pos e]
    refine ⟨e, e1, by rw [e1, e2]; exact okz_take h, ?_⟩
    unfold RS.hexV; rw [ht, if_neg h6]
  · right
    have e2 : p.hex T = p.fail T (hexErr (p.tk T)) := by unfold PS.hex; rw [if_neg e]
    have e1 : s.hex T = (s.take T).fail (hexErr (p.tk T)) (s.pos T) := by
      have hto : (s.take T).err = 0 := h.1
      unfold RS.hex hexErr
      simp only
      rw [ht]
      by_cases h6 : 6 < (p.tk T).length
      · rw [if_pos h6, if_pos (Or.inl h6)]
      · rw [if_neg h6]
        by_cases hk : RS.hexOk (p.tk T) = true ∧ p.tk T ≠ []
        · have hb : ¬ (6 < (p.tk T).length ∨ RS.hexOk (p.tk T) = false ∨ p.tk T = []) := by
            rintro (h | h | h)
            · exact h6 h
            · rw [hk.1] at h; cases h
            · exact hk.2 h
          rw [if_pos hk, if_neg hb]
          by_cases hn : 1114111 < RS.hexN (p.tk T)
          · rw [if_pos hn, if_pos hn]
          · exfalso; apply e; unfold hexErr; rw [if_neg hb, if_neg hn]
        · have hb : 6 < (p.tk T).length ∨ RS.hexOk (p.tk T) = false ∨ p.tk T = [] := by
            cases hh : RS.hexOk (p.tk T) with
            | false => exact Or.inr (Or.inl rfl)
            | true =>
              right; right
              rcases Classical.em (p.tk T = []) with h | h
              · exact h
              · exact absurd ⟨hh, h⟩ hk
          rw [if_neg hk, if_pos hb]
          split
          · exact rs_fail_same (by unfold RS.fail; rw [if_pos hto]; show (2 : Int) ≠ 0; decide) _ _
          · rfl
    rw [e1, e2]
    exact badz_fail (s := s.take T) h.1 h.2.1 _ e _ hq

/- A RANGE. -/
theorem badz_addSpan {T : ByteArray} {s : RS} {p : PS} (h : Badz T s p) (a b q : Int) : (s.addSpan a b q).err = s.err ∧ (s.addSpan a b q).place = s.place := by
  unfold RS.addSpan
  simp only
  split
  · rw [rs_fail_same h.1]; exact ⟨rfl, rfl⟩
  · exact ⟨rfl, rfl⟩
theorem addSpan_z {T : ByteArray} {s : RS} {p : PS} {l : List (Int × Int × Nat)} {k : Nat} (h : Okz T s p) (a b q : Int) (hs : s.spans = spI l) (hn : s.names.length = k + 1) :
    (RS.badSpan a b (spI l) = false ∧ Okz T (s.addSpan a b q) p ∧ (s.addSpan a b q).spans = spI (l ++ [(a, b, k)]) ∧ (s.addSpan a b q).names = s.names) ∨ (RS.badSpan a b (spI l) = true ∧ Badz T (s.addSpan a b q) (p.failAt T 5 q)) := by
  cases hb : RS.badSpan a b (spI l)
  · left
    have e : s.addSpan a b q = { s with spans := s.spans ++ [(a, b, (s.names.length : Int) - 1)] } := by unfold RS.addSpan; simp only; rw [hs, hb]; simp [hs]
    refine ⟨rfl, ?_, ?_, ?_⟩
    · rw [e]; exact h
    · rw [e]; show s.spans ++ _ = _; rw [hs]; unfold spI; rw [List.map_append, hn]; simp
    · rw [e]
  · right
    refine ⟨rfl, ?_⟩
    have e1 : (s.addSpan a b q).err = 5 ∧ (s.addSpan a b q).place = q := by unfold RS.addSpan; simp only; rw [hs, hb]; simp [RS.fail, h.1]
    refine ⟨by rw [e1.1]; decide, ?_, ?_, rfl⟩
    · rw [e1.1]; show pf p.f 5 = 5; unfold pf; rw [if_pos h.2.1]
    · rw [e1.2]; show pp p.f q p.pl = q; unfold pp; rw [if_pos h.2.1]
theorem hex_names (T : ByteArray) (s : RS) : (s.hex T).names = s.names ∧ (s.hex T).spans = s.spans ∧ (s.hex T).L = s.L := by
  have := hex_same T s; exact ⟨this.1, this.2.1, this.2.2.1⟩

theorem span_z {T : ByteArray} {s : RS} {p : PS} {l : List (Int × Int × Nat)} {k : Nat} (h : Okz T s p) (hs : s.spans = spI l) (hn : s.names.length = k + 1) :
    (Okz T (s.span T) (p.span T l) ∧ (s.span T).spans = spI (l ++ [(p.spanX T, p.spanY T, k)]) ∧ (s.span T).names = s.names) ∨ Badz T (s.span T) (p.span T l) := by
  have hle := okz_le h
  have hfz := okz_fz h
  rcases okz_hex h with ⟨e0, eh, h1, hv⟩ | hbad
  · have h1' := okz_peek h1
    have ht1 : ((s.hex T).peek T).tk T = (p.hex T).tk T := okz_tk h1'
    by_cases hd : (p.hex T).tk T = [45]
    · have hdash : p.dash T = true := by unfold PS.dash; rw [memL_sgn]; simp [hd]
      have es : s.span T = ((((s.hex T).peek T).take T).hex T).addSpan (RS.hexV (s.tk T)) (RS.hexV ((((s.hex T).peek T).take T).tk T)) ((((s.hex T).peek T).take T).pos T) := by
        unfold RS.span; simp only; rw [if_pos ⟨h1'.1, by rw [ht1]; exact hd⟩]
      have h2 := okz_take h1'
      have et : p.spanTo T = ((p.hex T).step T).hex T := by unfold PS.spanTo; rw [hdash]; rfl
      have ea : p.spanAt T = (((p.hex T).step T).p : Int) := by unfold PS.spanAt; rw [hdash]; rfl
      have ey : p.spanY T = RS.hexN (((p.hex T).step T).tk T) := by unfold PS.spanY; rw [hdash]; rfl
      rcases okz_hex h2 with ⟨e0', eh', h3, hv'⟩ | hbad
      · have hp0 : (p.spanTo T).f = 0 := by rw [et]; exact h3.2.1
        have hpos := okz_pos h2
        rw [es, hv, hv', hpos]
        have ex : p.spanX T = RS.hexN (p.tk T) := rfl
        have hsp : (((((s.hex T).peek T).take T).hex T)).spans = spI l := by rw [(hex_names T _).2.1]; show (s.hex T).spans = _; rw [(hex_names T s).2.1]; exact hs
        have hnm : (((((s.hex T).peek T).take T).hex T)).names = s.names := by rw [(hex_names T _).1]; show (s.hex T).names = _; exact (hex_names T s).1
        have hps : p.span T l = if RS.badSpan (p.spanX T) (p.spanY T) (spI l) = true then (p.spanTo T).failAt T 5 (p.spanAt T) else p.spanTo T := by
          unfold PS.span; rw [if_neg (by simpa using hp0)]
        have := addSpan_z (k := k) h3 (RS.hexN (p.tk T)) (RS.hexN (((p.hex T).step T).tk T)) (((p.hex T).step T).p : Int) hsp (by rw [hnm]; exact hn)
        rw [← ex, ← ey] at this ⊢
        rcases this with ⟨hb, a1, a2, a3⟩ | ⟨hb, a1⟩
        · left
          rw [hps, hb]
          refine ⟨?_, a2, by rw [a3, hnm]⟩
          simp only [Bool.false_eq_true, if_false]
          rw [et]; exact a1
        · right
          rw [hps, hb]
          simp only [if_true]
          rw [et, ea]; exact a1
      · right
        have hf : (p.spanTo T).f ≠ 0 := by rw [et, hbad.2.1]; exact hbad.1
        have hps : p.span T l = p.spanTo T := by unfold PS.span; rw [if_pos hf]
        rw [hps, et, es]
        have := badz_addSpan hbad (RS.hexV (s.tk T)) (RS.hexV ((((s.hex T).peek T).take T).tk T)) ((((s.hex T).peek T).take T).pos T)
        exact badz_keep hbad this.1 this.2 (Stk.refl _) (badz_fz hbad)
    · have hdash : p.dash T = false := by unfold PS.dash; rw [memL_sgn]; simp [hd]
      have es : s.span T = ((s.hex T).peek T).addSpan (RS.hexV (s.tk T)) (RS.hexV (s.tk T)) (s.pos T) := by
        unfold RS.span; simp only; rw [if_neg (fun hh => hd (by rw [← ht1]; exact hh.2))]
      have et : p.spanTo T = p.hex T := by unfold PS.spanTo; rw [hdash]; rfl
      have ea : p.spanAt T = (p.p : Int) := by unfold PS.spanAt; rw [hdash]; rfl
      have ey : p.spanY T = RS.hexN (p.tk T) := by unfold PS.spanY; rw [hdash]; rfl
      have ex : p.spanX T = RS.hexN (p.tk T) := rfl
      have hp0 : (p.spanTo T).f = 0 := by rw [et]; exact h1.2.1
      have hps : p.span T l = if RS.badSpan (p.spanX T) (p.spanY T) (spI l) = true then (p.spanTo T).failAt T 5 (p.spanAt T) else p.spanTo T := by
        unfold PS.span; rw [if_neg (by simpa using hp0)]
      have hsp : (((s.hex T).peek T)).spans = spI l := by show (s.hex T).spans = _; rw [(hex_names T s).2.1]; exact hs
      have hnm : (((s.hex T).peek T)).names = s.names := (hex_names T s).1
      have := addSpan_z (k := k) h1' (RS.hexN (p.tk T)) (RS.hexN (p.tk T)) (p.p : Int) hsp (by rw [hnm]; exact hn)
      rw [es, hv, okz_pos h]
      rw [hps, ex, ey, et, ea]
      rcases this with ⟨hb, a1, a2, a3⟩ | ⟨hb, a1⟩
      · left
        rw [hb]
        exact ⟨a1, a2, by rw [a3, hnm]⟩
      · right
        rw [hb]
        exact a1
  · right
    have hf : (p.hex T).f ≠ 0 := by rw [hbad.2.1]; exact hbad.1
    have hd : p.dash T = false := by unfold PS.dash; rw [badz_tk hbad, memL_sgn]; simp
    have et : p.spanTo T = p.hex T := by unfold PS.spanTo; rw [hd]; rfl
    have hps : p.span T l = p.hex T := by unfold PS.span; rw [et, if_pos hf]
    have es : s.span T = ((s.hex T).peek T).addSpan (RS.hexV (s.tk T)) (RS.hexV (s.tk T)) (s.pos T) := by
      unfold RS.span; simp only; rw [if_neg (fun hh => hbad.1 hh.1)]
    have hb2 : Badz T ((s.hex T).peek T) (p.hex T) := hbad
    have := badz_addSpan hb2 (RS.hexV (s.tk T)) (RS.hexV (s.tk T)) (s.pos T)
    rw [hps, es]
    exact badz_keep hb2 this.1 this.2 (Stk.refl _) (badz_fz hb2)
end Go.Proofs.YtodagkkjfipbgaaGreatDoor
