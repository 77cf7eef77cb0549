/- A reference Rules in memory, in a state; what each step keeps. -/
import Derived.Test.YtonooajnjgnmnaaGreatDoorW4toW5
import Derived.Test.YtonooajnjgnmnaaGreatDoorW9
namespace Go.Proofs.YtonooajnjgnmnaaGreatDoor
open Go.RowKit

/-- The one cell of the table of tens that is read. -/
def TabOK (w : World) : Prop := w.cell? ⟨2, 2, none⟩ = some (.int .u64 100)

def RS.Ok (T : ByteArray) (s : RS) : Prop :=
  s.at_ ≤ T.size ∧ s.names.length ≤ 6 ∧ s.spans.length ≤ s.at_ + 1 ∧ s.L.length ≤ 4 ∧ 0 ≤ s.atoms ∧ s.atoms ≤ 5 ∧ 0 ≤ s.nest ∧ s.nest ≤ 4 ∧ (s.err = 0 → s.spans.length ≤ s.at_ ∧ s.atoms ≤ 4 ∧ ∀ x ∈ s.names, x.toList ≠ [])

def spanCells (l : List (Int × Int × Int)) : List Value := l.flatMap fun o => [.int .i64 o.1, .int .i64 o.2.1, .int .i64 o.2.2]
def ruleCells (l : List (Bool × Value × Value)) : List Value := l.flatMap fun o => [.bool o.1, o.2.1, o.2.2]
def AreRules (w : World) (vs : List (Bool × Value × Value)) (L : List (Bool × Rx × Rx)) : Prop :=
  vs.length = L.length ∧ ∀ (i : Nat) (v : Bool × Value × Value) (x : Bool × Rx × Rx), vs[i]? = some v → L[i]? = some x → v.1 = x.1 ∧ (∃ d, IsRe d w v.2.1 x.2.1) ∧ ∃ d, IsRe d w v.2.2 x.2.2

/-- The rows of a reference Rules. -/
def Rows3 (w : World) (base : Nat) (s : RS) (vN vS vL : Value) : Prop :=
  w.ownsRow base 9 1 vN s.names.length (s.names.map .string) ∧ w.ownsRow base 81 3 vS s.spans.length (spanCells s.spans) ∧
  ∃ vs, w.ownsRow base 60 3 vL s.L.length (ruleCells vs) ∧ AreRules w vs s.L

def RSt (w : World) (base b : Nat) (T : ByteArray) (s : RS) : Prop :=
  2 < base ∧ base ≤ b ∧ T.size ≤ 1000 ∧ s.Ok T ∧ TabOK w ∧ ∃ vN vS vL, Blk w b T s vN vS vL ∧ Rows3 w base s vN vS vL

/-- All blocks of a type are as they were. -/
def Kt (t : TypeId) (w w' : World) : Prop := ∀ (k : Nat) (cs : Array Value) (m : Nat × Nat), w.heap[k]? = some (.cells cs t m) → w'.heap[k]? = some (.cells cs t m)
theorem Kt.refl (t : TypeId) (w : World) : Kt t w w := fun _ _ _ h => h
theorem Kt.trans {t : TypeId} {a b c : World} (h : Kt t a b) (k : Kt t b c) : Kt t a c := fun i cs m hh => k i cs m (h i cs m hh)
theorem Kt.below {t : TypeId} {w w' : World} (h : Below w.heap.size w w') : Kt t w w' := fun k cs m hh => by rw [h.block k (Array.getElem?_eq_some_iff.1 hh).1]; exact hh
/-- The list of rules of each Rules is the same slice. -/
def KL (w w' : World) : Prop := ∀ (k : Nat) (cs : Array Value), w.heap[k]? = some (.cells cs 35 (0, 0)) → ∃ cs' : Array Value, w'.heap[k]? = some (.cells cs' 35 (0, 0)) ∧ cs'[6]? = cs[6]?
theorem KL.refl (w : World) : KL w w := fun _ cs h => ⟨cs, h, rfl⟩
theorem KL.trans {a b c : World} (h : KL a b) (k : KL b c) : KL a c := fun i cs hh => by
  obtain ⟨c1, h1, e1⟩ := h i cs hh
  obtain ⟨c2, h2, e2⟩ := k i c1 h1
  exact ⟨c2, h2, e2.trans e1⟩
theorem KL.of_kt {w w' : World} (h : Kt 35 w w') : KL w w' := fun k cs hh => ⟨cs, h k cs _ hh, rfl⟩
/-- Nothing below base has turned, nor a tree, nor a rule, nor which rules there are. -/
structure RChg (base : Nat) (w w' : World) : Prop where
  b : Below base w w'
  k : KeepRe w w'
  r : Kt 60 w w'
  l : KL w w'
theorem RChg.refl (base : Nat) (w : World) : RChg base w w := ⟨Below.refl _ _, KeepRe.refl _, Kt.refl _ _, KL.refl _⟩
theorem RChg.trans {base : Nat} {a b c : World} (h : RChg base a b) (k : RChg base b c) : RChg base a c := ⟨h.1.trans k.1, h.2.trans k.2, h.3.trans k.3, h.4.trans k.4⟩
theorem RChg.of_below {base : Nat} {w w' : World} (h : Below w.heap.size w w') (hb : base ≤ w.heap.size) : RChg base w w' := ⟨h.mono hb, KeepRe.of_below h, Kt.below h, KL.of_kt (Kt.below h)⟩
theorem TabOK.on {base : Nat} {w w' : World} (h : TabOK w) (hb : Below base w w') (h2 : 2 < base) : TabOK w' := (hb.cell (p := ⟨2, 2, none⟩) h2).trans h

theorem AreRules.keep {w w' : World} {vs : List (Bool × Value × Value)} {L : List (Bool × Rx × Rx)} (h : AreRules w vs L) (hk : KeepRe w w') : AreRules w' vs L := by
  refine ⟨h.1, fun i v x hv hx => ?_⟩
  obtain ⟨h1, ⟨d, h2⟩, e, h3⟩ := h.2 i v x hv hx
  exact ⟨h1, ⟨d, h2.keep hk⟩, e, h3.keep hk⟩
theorem ownsRow_chg {w w' : World} {base : Nat} {e : TypeId} {size : Nat} {v : Value} {n : Nat} {us : List Value} (h : w.ownsRow base e size v n us)
    (hk : ∀ (k : Nat) (cs : Array Value) (m : Nat × Nat), w.heap[k]? = some (.cells cs e m) → w'.heap[k]? = some (.cells cs e m)) : w'.ownsRow base e size v n us := by
  obtain ⟨h1, h2⟩ := h
  refine ⟨h1, ?_⟩
  rcases h2 with h2 | ⟨g, cap, cur, hv, hg, hh, r⟩
  · exact Or.inl h2
  · exact Or.inr ⟨g, cap, cur, hv, hg, hk _ _ _ hh, r⟩
/-- A change of the block of the Rules alone. -/
theorem kept_of_chg1 {w w' : World} {b : Nat} {cs0 : Array Value} {t0 t : TypeId} {m0 : Nat × Nat} (hb : w.heap[b]? = some (.cells cs0 t0 m0)) (hc : Chg (fun k => k = b) w w') (ht : t ≠ t0) :
    ∀ (k : Nat) (cs : Array Value) (m : Nat × Nat), w.heap[k]? = some (.cells cs t m) → w'.heap[k]? = some (.cells cs t m) := by
  intro k cs m hh
  rw [hc.block k (Array.getElem?_eq_some_iff.1 hh).1 (fun e => by subst e; rw [hb] at hh; simp at hh; exact ht hh.2.1.symm)]; exact hh
theorem keepRe_chg1 {w w' : World} {b : Nat} {T : ByteArray} {s : RS} {vN vS vL : Value} (h : Blk w b T s vN vS vL) (hc : Chg (fun k => k = b) w w') : KeepRe w w' := by
  intro k cs t m ht hh
  rcases ht with rfl | rfl
  · exact kept_of_chg1 h hc (by decide) k cs m hh
  · exact kept_of_chg1 h hc (by decide) k cs m hh
theorem rows_chg1 {w w' : World} {base b : Nat} {T : ByteArray} {s s' : RS} {vN vS vL : Value} (h : Blk w b T s vN vS vL) (hc : Chg (fun k => k = b) w w') (hr : Rows3 w base s vN vS vL)
    (h1 : s'.names = s.names) (h2 : s'.spans = s.spans) (h3 : s'.L = s.L) : Rows3 w' base s' vN vS vL := by
  obtain ⟨a, b', vs, c, d⟩ := hr
  unfold Rows3
  rw [h1, h2, h3]
  exact ⟨ownsRow_chg a (kept_of_chg1 h hc (by decide)), ownsRow_chg b' (kept_of_chg1 h hc (by decide)), vs, ownsRow_chg c (kept_of_chg1 h hc (by decide)), d.keep (keepRe_chg1 h hc)⟩
theorem rchg_chg1 {w w' : World} {base b : Nat} {T : ByteArray} {s s' : RS} {vN vS vL : Value} (h : Blk w b T s vN vS vL) (h' : Blk w' b T s' vN vS vL) (hc : Chg (fun k => k = b) w w') (hbb : base ≤ b) : RChg base w w' :=
  ⟨hc.below (Nat.le_trans hbb (Nat.le_of_lt (Array.getElem?_eq_some_iff.1 h).1)) (fun k hk e => by omega), keepRe_chg1 h hc, kept_of_chg1 h hc (by decide), fun k cs hh => by
    by_cases e : k = b
    · subst e
      refine ⟨_, h', ?_⟩
      have h2 := h
      unfold Blk at h2
      rw [h2] at hh
      simp at hh
      rw [← hh]; rfl
    · exact ⟨cs, by rw [hc.block k (Array.getElem?_eq_some_iff.1 hh).1 e]; exact hh, rfl⟩⟩
/-- A step that turns the numbers of the Rules alone. -/
theorem RSt.step {w w' : World} {base b : Nat} {T : ByteArray} {s s' : RS} {vN vS vL : Value} (h : RSt w base b T s) (hb : Blk w b T s vN vS vL) (hr : Rows3 w base s vN vS vL) (hb' : Blk w' b T s' vN vS vL) (hc : Chg (fun k => k = b) w w')
    (h1 : s'.names = s.names) (h2 : s'.spans = s.spans) (h3 : s'.L = s.L) (hok : s'.Ok T) : RSt w' base b T s' ∧ RChg base w w' := by
  obtain ⟨g, hbb, hT, _, ht, _⟩ := h
  have hrc := rchg_chg1 hb hb' hc hbb
  exact ⟨⟨g, hbb, hT, hok, ht.on hrc.1 g, vN, vS, vL, hb', rows_chg1 hb hc hr h1 h2 h3⟩, hrc⟩
/-- A step that makes new memory alone. -/
theorem RSt.below {w w' : World} {base b : Nat} {T : ByteArray} {s : RS} (h : RSt w base b T s) (hb : Below w.heap.size w w') : RSt w' base b T s ∧ RChg base w w' := by
  obtain ⟨g, hbb, hT, hok, ht, vN, vS, vL, hblk, a, b', vs, c, d⟩ := h
  have hbs : b < w.heap.size := (Array.getElem?_eq_some_iff.1 hblk).1
  have hrc : RChg base w w' := RChg.of_below hb (by omega)
  have hk : ∀ (t : TypeId) (k : Nat) (cs : Array Value) (m : Nat × Nat), w.heap[k]? = some (.cells cs t m) → w'.heap[k]? = some (.cells cs t m) := fun t k cs m hh => by
    rw [hb.block k (Array.getElem?_eq_some_iff.1 hh).1]; exact hh
  exact ⟨⟨g, hbb, hT, hok, ht.on hrc.1 g, vN, vS, vL, by unfold Blk; rw [hb.block b hbs]; exact hblk, ownsRow_chg a (hk _), ownsRow_chg b' (hk _), vs, ownsRow_chg c (hk _), d.keep hrc.2⟩, hrc⟩

theorem fail_same (s : RS) (e p : Int) : (s.fail e p).names = s.names ∧ (s.fail e p).spans = s.spans ∧ (s.fail e p).L = s.L ∧ (s.fail e p).at_ = s.at_ ∧ (s.fail e p).atoms = s.atoms ∧ (s.fail e p).nest = s.nest := by
  unfold RS.fail; split <;> simp
theorem fail_err (s : RS) (e p : Int) (he : e ≠ 0) : (s.fail e p).err ≠ 0 := by
  unfold RS.fail; split <;> simp_all
theorem RS.Ok.fail {T : ByteArray} {s : RS} (h : s.Ok T) (e p : Int) (he : e ≠ 0) : (s.fail e p).Ok T := by
  obtain ⟨f1, f2, f3, f4, f5, f6⟩ := fail_same s e p
  have := fail_err s e p he
  unfold RS.Ok at *
  rw [f1, f2, f3, f4, f5, f6]
  exact ⟨h.1, h.2.1, h.2.2.1, h.2.2.2.1, h.2.2.2.2.1, h.2.2.2.2.2.1, h.2.2.2.2.2.2.1, h.2.2.2.2.2.2.2.1, fun e0 => absurd e0 this⟩
theorem RS.Ok.at_ {T : ByteArray} {s : RS} (h : s.Ok T) (n : Nat) (h1 : s.at_ ≤ n) (h2 : n ≤ T.size) : ({ s with at_ := n } : RS).Ok T := by
  unfold RS.Ok at *
  obtain ⟨a, b, c, d, e, f, g, i, j⟩ := h
  refine ⟨h2, b, by show s.spans.length ≤ n + 1; omega, d, e, f, g, i, fun he => ?_⟩
  have := j he
  exact ⟨by show s.spans.length ≤ n; omega, this.2⟩
theorem RS.Ok.take {T : ByteArray} {s : RS} (h : s.Ok T) : (s.take T).Ok T := h.at_ _ (take_at T s h.1).2.1 (take_at T s h.1).1
theorem RS.Ok.peek {T : ByteArray} {s : RS} (h : s.Ok T) : (s.peek T).Ok T := h.at_ _ (peek_at T s h.1).2 (peek_at T s h.1).1
theorem want_same (T : ByteArray) (s : RS) (l : List UInt8) : (s.want T l).names = s.names ∧ (s.want T l).spans = s.spans ∧ (s.want T l).L = s.L ∧ (s.want T l).at_ = (s.take T).at_ ∧ (s.want T l).atoms = s.atoms ∧ (s.want T l).nest = s.nest := by
  unfold RS.want
  split
  · simp [RS.take]
  · exact fail_same (s.take T) _ _
theorem RS.Ok.want {T : ByteArray} {s : RS} (h : s.Ok T) (l : List UInt8) : (s.want T l).Ok T := by
  unfold RS.want
  split
  · exact h.take
  · exact h.take.fail _ _ (by omega)
theorem hex_same (T : ByteArray) (s : RS) : (s.hex T).names = s.names ∧ (s.hex T).spans = s.spans ∧ (s.hex T).L = s.L ∧ (s.hex T).at_ = (s.take T).at_ ∧ (s.hex T).atoms = s.atoms ∧ (s.hex T).nest = s.nest := by
  unfold RS.hex
  simp only
  split
  · exact fail_same (s.take T) _ _
  · split <;> split <;> simp [fail_same, RS.take]
theorem RS.Ok.hex {T : ByteArray} {s : RS} (h : s.Ok T) : (s.hex T).Ok T := by
  unfold RS.hex
  simp only
  split
  · exact h.take.fail _ _ (by omega)
  · split
    · split
      · exact h.take.fail _ _ (by omega)
      · exact (h.take.fail _ _ (by omega)).fail _ _ (by omega)
    · split
      · exact h.take
      · exact h.take.fail _ _ (by omega)

/- The steps, at a state. -/
theorem fail_rs (base b : Nat) (T : ByteArray) (s : RS) (e0 p0 : Int) (w : World) (h : RSt w base b T s) (he : e0 ≠ 0) :
    Calls Tryz.prog 9 #[.pointer (some ⟨b, 0, none⟩), .int .i64 e0, .int .i64 p0] w fun e w' => e = .returned (.tuple #[]) ∧ RSt w' base b T (s.fail e0 p0) ∧ RChg base w w' := by
  have h0 := h
  obtain ⟨g, hbb, hT, hok, ht, vN, vS, vL, hblk, hr⟩ := h
  refine (fail_st b T s vN vS vL e0 p0 w hblk).mono ?_
  rintro e w' ⟨rfl, hb', hc⟩
  have := fail_same s e0 p0
  exact ⟨rfl, h0.step hblk hr hb' hc this.1 this.2.1 this.2.2.1 (hok.fail _ _ he)⟩
theorem peek_rs (base b : Nat) (T : ByteArray) (s : RS) (w : World) (h : RSt w base b T s) :
    Calls Tryz.prog 10 #[.pointer (some ⟨b, 0, none⟩)] w fun e w' => e = .returned (.tuple #[.string (tok T s.at_), .int .i64 (s.pos T : Nat)]) ∧ RSt w' base b T (s.peek T) ∧ RChg base w w' := by
  have h0 := h
  obtain ⟨g, hbb, hT, hok, ht, vN, vS, vL, hblk, hr⟩ := h
  refine (peek_st b T s vN vS vL w hblk hT hok.1).mono ?_
  rintro e w' ⟨rfl, hb', hc⟩
  exact ⟨rfl, h0.step hblk hr hb' hc rfl rfl rfl hok.peek⟩
theorem take_rs (base b : Nat) (T : ByteArray) (s : RS) (w : World) (h : RSt w base b T s) :
    Calls Tryz.prog 20 #[.pointer (some ⟨b, 0, none⟩)] w fun e w' => e = .returned (.tuple #[.string (tok T s.at_), .int .i64 (s.pos T : Nat)]) ∧ RSt w' base b T (s.take T) ∧ RChg base w w' := by
  have h0 := h
  obtain ⟨g, hbb, hT, hok, ht, vN, vS, vL, hblk, hr⟩ := h
  refine (take_st b T s vN vS vL w hblk hT hok.1).mono ?_
  rintro e w' ⟨rfl, hb', hc⟩
  exact ⟨rfl, h0.step hblk hr hb' hc rfl rfl rfl hok.take⟩
theorem want_rs (base b : Nat) (T : ByteArray) (s : RS) (x : ByteArray) (w : World) (h : RSt w base b T s) :
    Calls Tryz.prog 23 #[.pointer (some ⟨b, 0, none⟩), .string x] w fun e w' => e = .returned (.tuple #[]) ∧ RSt w' base b T (s.want T x.toList) ∧ RChg base w w' := by
  have h0 := h
  obtain ⟨g, hbb, hT, hok, ht, vN, vS, vL, hblk, hr⟩ := h
  refine (want_st b T s vN vS vL x w hblk hT hok.1).mono ?_
  rintro e w' ⟨rfl, hb', hc⟩
  have := want_same T s x.toList
  exact ⟨rfl, h0.step hblk hr hb' hc this.1 this.2.1 this.2.2.1 (hok.want _)⟩
theorem hex_rs (base b : Nat) (T : ByteArray) (s : RS) (w : World) (h : RSt w base b T s) :
    Calls Tryz.prog 38 #[.pointer (some ⟨b, 0, none⟩)] w fun e w' => e = .returned (.tuple #[.int .i64 (RS.hexV (s.tk T)), .int .i64 (s.pos T : Nat)]) ∧ RSt w' base b T (s.hex T) ∧ RChg base w w' := by
  have h0 := h
  obtain ⟨g, hbb, hT, hok, ht, vN, vS, vL, hblk, hr⟩ := h
  refine (hex_st b T s vN vS vL w hblk hT hok.1).mono ?_
  rintro e w' ⟨rfl, hb', hc⟩
  have := hex_same T s
  exact ⟨rfl, h0.step hblk hr hb' hc this.1 this.2.1 this.2.2.1 hok.hex⟩
theorem class_rs (base b : Nat) (T : ByteArray) (s : RS) (x : ByteArray) (w : World) (h : RSt w base b T s) :
    Calls Tryz.prog 22 #[.pointer (some ⟨b, 0, none⟩), .string x] w fun e w' => e = .returned (.int .i64 (clsIx s.names x.toList)) ∧ w' = w := by
  obtain ⟨g, hbb, hT, hok, ht, vN, vS, vL, hblk, hr⟩ := h
  exact class_any b base T s.at_ s.err s.place vN vS vL s.atoms s.nest s.names x w hblk hr.1 (by have := hok.2.1; omega)
/-- The cells that a walk reads. -/
theorem RSt.cells {w : World} {base b : Nat} {T : ByteArray} {s : RS} (h : RSt w base b T s) : ∃ vN vS vL, Blk w b T s vN vS vL ∧ Rows3 w base s vN vS vL ∧
    w.cell? ⟨b, 0, none⟩ = some (.string T) ∧ w.cell? ⟨b, 1, none⟩ = some (.int .i64 s.at_) ∧ w.cell? ⟨b, 2, none⟩ = some (.int .i64 s.err) ∧ w.cell? ⟨b, 3, none⟩ = some (.int .i64 s.place) ∧
    w.cell? ⟨b, 4, none⟩ = some vN ∧ w.cell? ⟨b, 5, none⟩ = some vS ∧ w.cell? ⟨b, 6, none⟩ = some vL ∧ w.cell? ⟨b, 7, none⟩ = some (.int .i64 s.atoms) ∧ w.cell? ⟨b, 8, none⟩ = some (.int .i64 s.nest) ∧ (∀ o, w.frozen? ⟨b, o, none⟩ = false) := by
  obtain ⟨g, hbb, hT, hok, ht, vN, vS, vL, hblk, hr⟩ := h
  exact ⟨vN, vS, vL, hblk, hr, rcells hblk⟩
theorem Kt.setCell {t : TypeId} {w : World} {b o : Nat} {cs0 : Array Value} {t0 : TypeId} {m0 : Nat × Nat} (hb : w.heap[b]? = some (.cells cs0 t0 m0)) (ht : t ≠ t0) (u : Value) : Kt t w (w.setCell ⟨b, o, none⟩ u) := fun k cs m hh => by
  rw [Below.heap_setCell _ _ _ _ (fun e => by simp at e; subst e; rw [hb] at hh; simp at hh; exact ht hh.2.1.symm)]; exact hh
theorem Kt.grown {t e : TypeId} {base size n : Nat} {w w' : World} {v : Value} {us : List Value} (hown : w.ownsRow base e size v n us) (hg : w.grownBy w' v.ownBlock) (ht : t ≠ e) : Kt t w w' := fun k cs m hh => by
  rw [hg.block k (Array.getElem?_eq_some_iff.1 hh).1 (fun e' => by
    rcases hown.2 with ⟨hv, _⟩ | ⟨g, cap, cur, hv, _, hgg, _⟩
    · rw [hv] at e'; simp [Value.ownBlock] at e'
    · rw [hv] at e'; simp [Value.ownBlock] at e'; subst e'; rw [hgg] at hh; simp at hh; exact ht hh.2.1.symm)]; exact hh
theorem keepRe_kt {w w' : World} (h1 : Kt 84 w w') (h2 : Kt 57 w w') : KeepRe w w' := fun k cs t m ht hh => by
  rcases ht with rfl | rfl
  · exact h1 k cs m hh
  · exact h2 k cs m hh
theorem drewN_below {w : World} (n : Nat) : Below w.heap.size w (w.drewN n) := ⟨rfl, rfl, rfl, Nat.le_refl _, fun _ _ => rfl⟩

/-- A row of the Rules that has got one element more: the world behind the new array's making (w1), the append (w2) and the store (w3). -/
structure Pushed (e : TypeId) (o : Nat) (base b : Nat) (v v' : Value) (w w1 w2 w3 : World) : Prop where
  first : Below w.heap.size w w1
  grown : w1.grownBy w2 v.ownBlock
  last : w3.heap = (w2.setCell ⟨b, o, none⟩ v').heap ∧ w3.os = w2.os ∧ w3.tape = w2.tape ∧ w3.output = w2.output
theorem Pushed.kt {e t : TypeId} {o base b size n : Nat} {v v' : Value} {us : List Value} {w w1 w2 w3 : World} {cs0 : Array Value} (h : Pushed e o base b v v' w w1 w2 w3) (hown : w.ownsRow base e size v n us)
    (hb : w.heap[b]? = some (.cells cs0 35 (0, 0))) (hte : t ≠ e) (ht0 : t ≠ 35) (he0 : e ≠ 35) : Kt t w w3 := by
  have k1 : ∀ t', Kt t' w w1 := fun t' => Kt.below h.first
  have own1 : w1.ownsRow base e size v n us := ownsRow_chg hown (k1 e)
  have k2 : ∀ t', t' ≠ e → Kt t' w1 w2 := fun t' ht' => Kt.grown own1 h.grown ht'
  have hb2 := k2 _ (Ne.symm he0) _ _ _ (k1 _ _ _ _ hb)
  intro k cs m hh
  rw [h.last.1]
  exact Kt.setCell hb2 ht0 v' k cs m (k2 t hte k cs m (k1 t k cs m hh))
theorem Pushed.row {e : TypeId} {o base b size n : Nat} {v v' : Value} {us us' : List Value} {n' : Nat} {w w1 w2 w3 : World} {cs0 : Array Value} (h : Pushed e o base b v v' w w1 w2 w3) (hown : w.ownsRow base e size v n us)
    (hb : w.heap[b]? = some (.cells cs0 35 (0, 0))) (he0 : e ≠ 35) (hnew : w2.ownsRow base e size v' n' us') : w3.ownsRow base e size v' n' us' := by
  have k1 : ∀ t', Kt t' w w1 := fun t' => Kt.below h.first
  have own1 : w1.ownsRow base e size v n us := ownsRow_chg hown (k1 e)
  have hb2 := Kt.grown own1 h.grown (Ne.symm he0) _ _ _ (k1 _ _ _ _ hb)
  refine ownsRow_chg hnew ?_
  intro k cs m hh
  rw [h.last.1]
  exact Kt.setCell hb2 he0 v' k cs m hh
theorem Pushed.blk {e : TypeId} {o base b size n : Nat} {v v' : Value} {us : List Value} {w w1 w2 w3 : World} {cs0 : Array Value} (h : Pushed e o base b v v' w w1 w2 w3) (hown : w.ownsRow base e size v n us)
    (hb : w.heap[b]? = some (.cells cs0 35 (0, 0))) (he0 : e ≠ 35) : w3.heap[b]? = some (.cells (cs0.setIfInBounds o v') 35 (0, 0)) := by
  have k1 : ∀ t', Kt t' w w1 := fun t' => Kt.below h.first
  have own1 : w1.ownsRow base e size v n us := ownsRow_chg hown (k1 e)
  have hb2 := Kt.grown own1 h.grown (Ne.symm he0) _ _ _ (k1 _ _ _ _ hb)
  rw [h.last.1]; exact block_setCell hb2 o v'
theorem Pushed.rchg {e : TypeId} {o base b size n : Nat} {v v' : Value} {us : List Value} {w w1 w2 w3 : World} {cs0 : Array Value} (h : Pushed e o base b v v' w w1 w2 w3) (hown : w.ownsRow base e size v n us) (hbb : base ≤ b)
    (hb : w.heap[b]? = some (.cells cs0 35 (0, 0))) (he0 : e ≠ 35) (he1 : 84 ≠ e) (he2 : 57 ≠ e) (he3 : 60 ≠ e) (ho : o ≠ 6) : RChg base w w3 := by
  have k1 : ∀ t', Kt t' w w1 := fun t' => Kt.below h.first
  have own1 : w1.ownsRow base e size v n us := ownsRow_chg hown (k1 e)
  have hbs : b < w.heap.size := (Array.getElem?_eq_some_iff.1 hb).1
  have hs1 := h.first.size
  have b1 : Below base w w2 := (h.first.mono (by omega)).grown h.grown (by omega) (fun k hk => (own1.lt k hk).1)
  have b2 : Below base w (w2.setCell ⟨b, o, none⟩ v') := b1.setCell hbb v'
  refine ⟨⟨h.last.2.1.trans b1.os, h.last.2.2.1.trans b1.tape, h.last.2.2.2.trans b1.output, by rw [h.last.1]; exact b2.size, fun k hk => by rw [h.last.1]; exact b2.block k hk⟩,
    keepRe_kt (h.kt hown hb he1 (by decide) he0) (h.kt hown hb he2 (by decide) he0), h.kt hown hb he3 (by decide) he0, fun k cs hh => ?_⟩
  by_cases e' : k = b
  · subst e'
    refine ⟨_, h.blk hown hh he0, ?_⟩
    rw [Array.getElem?_setIfInBounds_ne (by omega)]
  · refine ⟨cs, ?_, rfl⟩
    rw [h.last.1, Below.heap_setCell _ _ _ _ (by simpa using e')]
    exact Kt.grown own1 h.grown (Ne.symm he0) _ _ _ (k1 _ _ _ _ hh)
theorem ownsRow_shape {w : World} {base : Nat} {e : TypeId} {size : Nat} {v : Value} {n : Nat} {us : List Value} (h : w.ownsRow base e size v n us) : ∃ ao cap, v = .slice ao n cap := by
  rcases h.2 with ⟨hv, hn⟩ | ⟨g, cap, cur, hv, _⟩
  · exact ⟨none, 0, by rw [hv, hn]⟩
  · exact ⟨_, cap, hv⟩
theorem pushed_free {w W w' : World} {b base size n : Nat} {e : TypeId} {cs0 : Array Value} {v : Value} {us : List Value} (hg : W.grownBy w' v.ownBlock) (hb : w.heap[b]? = some (.cells cs0 35 (0, 0))) (h1 : Below w.heap.size w W) (hown : W.ownsRow base e size v n us) (he : 35 ≠ e) :
    w'.heap[b]? = some (.cells cs0 35 (0, 0)) := Kt.grown hown hg he _ _ _ (Kt.below h1 _ _ _ hb)
end Go.Proofs.YtonooajnjgnmnaaGreatDoor
