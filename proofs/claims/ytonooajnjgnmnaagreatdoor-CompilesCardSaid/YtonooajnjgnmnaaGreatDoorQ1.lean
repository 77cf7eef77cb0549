/- Parts and machines: what they are, as plain trees and rows, and where they lie. -/
import Derived.Test.YtonooajnjgnmnaaGreatDoorP3toP4
import Derived.Test.YtonooajnjgnmnaaGreatDoorL2
namespace Go.Proofs.YtonooajnjgnmnaaGreatDoor
open Go.RowKit

/-- A part: 0 one character, 1 a row, 2 either, 3 star, 4 plus. -/
structure Px where
  what : Nat
  k : Nat
  l : List Px
def oneP (k : Nat) : Px := ⟨0, k, []⟩
def rowP (l : List Px) : Px := ⟨1, 0, l⟩
def eitherP (l : List Px) : Px := match l with
  | [x] => x
  | l => ⟨2, 0, l⟩
def starP (x : Px) : Px := ⟨3, 0, [x]⟩
def plusP (x : Px) : Px := ⟨4, 0, [x]⟩
def maybeP (x : Px) : Px := ⟨2, 0, [x, rowP []]⟩

abbrev St := Nat × List Nat
def leadS (S : List St) (f t : Nat) : List St := S.modify f fun s => (s.1, s.2 ++ [t])
/-- The states that a part makes, given those that are there and the one behind it; where it begins. -/
def mk : Nat → Px → List St → Nat → List St × Nat
  | 0, _, S, b => (S, b)
  | d + 1, x, S, b =>
    if x.what = 0 then (S ++ [(x.k, [b])], S.length)
    else if x.what = 1 then x.l.foldr (fun y r => mk d y r.1 r.2) (S, b)
    else if x.what = 2 then (x.l.foldl (fun Z y => leadS (mk d y Z b).1 S.length (mk d y Z b).2) (S ++ [(0, [])]), S.length)
    else match x.l with
      | [y] => (leadS (mk d y (S ++ [(0, [b])]) S.length).1 S.length (mk d y (S ++ [(0, [b])]) S.length).2, if x.what = 3 then S.length else (mk d y (S ++ [(0, [b])]) S.length).2)
      | _ => (S, b)
/-- How many states, and ways on, it makes at most. -/
def wtx : Nat → Px → Nat
  | 0, _ => 0
  | d + 1, x =>
    if x.what = 0 then 1
    else if x.what = 1 then (x.l.map (wtx d)).sum
    else if x.what = 2 then 1 + (x.l.map fun y => 1 + wtx d y).sum
    else 2 + (x.l.map (wtx d)).sum
def tot (S : List St) : Nat := (S.map fun s => s.2.length).sum
theorem leadS_len (S : List St) (f t : Nat) : (leadS S f t).length = S.length := by unfold leadS; simp
theorem tot_app (S R : List St) : tot (S ++ R) = tot S + tot R := by unfold tot; simp
theorem leadS_tot (S : List St) (f t : Nat) : tot (leadS S f t) ≤ tot S + 1 := by
  unfold leadS
  induction S generalizing f with
  | nil => simp [tot]
  | cons a S ih =>
    cases f with
    | zero => simp [tot]; omega
    | succ f => have := ih f; simp [tot] at *; omega
theorem tot_mem {S : List St} {s : St} (h : s ∈ S) : s.2.length ≤ tot S := by
  induction S with
  | nil => simp at h
  | cons a S ih =>
    simp only [tot, List.map_cons, List.sum_cons] at *
    rcases List.mem_cons.1 h with rfl | h
    · omega
    · have := ih h; omega
/-- What a part adds. -/
def Adds (n : Nat) (S R : List St) : Prop := S.length ≤ R.length ∧ R.length ≤ S.length + n ∧ tot R ≤ tot S + n
theorem Adds.trans {n m k : Nat} {S R Q : List St} (h : Adds n S R) (h' : Adds m R Q) (hk : n + m ≤ k) : Adds k S Q := by
  unfold Adds at *; omega
theorem mk_adds (d : Nat) : ∀ (x : Px) (S : List St) (b : Nat), Adds (wtx d x) S (mk d x S b).1 := by
  induction d with
  | zero => intro x S b; simp [mk, wtx, Adds]
  | succ d ih =>
    intro x S b
    rw [mk, wtx]
    split
    · simp [Adds, tot]
    · split
      · have key : ∀ (l : List Px), Adds (l.map (wtx d)).sum S (l.foldr (fun y r => mk d y r.1 r.2) (S, b)).1 := by
          intro l
          induction l with
          | nil => simp [Adds]
          | cons y l ihl =>
            rw [List.foldr_cons, List.map_cons, List.sum_cons]
            exact ihl.trans (ih y _ _) (by omega)
        exact key x.l
      · split
        · have key : ∀ (l : List Px) (Z : List St), Adds (l.map fun y => 1 + wtx d y).sum Z (l.foldl (fun Z y => leadS (mk d y Z b).1 S.length (mk d y Z b).2) Z) := by
            intro l
            induction l with
            | nil => simp [Adds]
            | cons y l ihl =>
              intro Z
              rw [List.foldl_cons, List.map_cons, List.sum_cons]
              have h1 := ih y Z b
              have h2 : Adds 1 (mk d y Z b).1 (leadS (mk d y Z b).1 S.length (mk d y Z b).2) := ⟨by rw [leadS_len]; omega, by rw [leadS_len]; omega, leadS_tot _ _ _⟩
              exact (h1.trans h2 (Nat.le_refl _)).trans (ihl _) (by omega)
          have h0 : Adds 1 S (S ++ [(0, [])]) := by simp [Adds, tot]
          exact h0.trans (key x.l (S ++ [(0, [])])) (by omega)
        · split
          · rename_i y hy
            have h0 : Adds 1 S (S ++ [(0, [b])]) := by simp [Adds, tot]
            have h1 := ih y (S ++ [(0, [b])]) S.length
            have h2 : Adds 1 (mk d y (S ++ [(0, [b])]) S.length).1 (leadS (mk d y (S ++ [(0, [b])]) S.length).1 S.length (mk d y (S ++ [(0, [b])]) S.length).2) := ⟨by rw [leadS_len]; omega, by rw [leadS_len]; omega, leadS_tot _ _ _⟩
            simp only [hy, List.map_cons, List.map_nil, List.sum_cons, List.sum_nil]
            exact (h0.trans h1 (Nat.le_refl _)).trans h2 (by omega)
          · simp [Adds]

/- WHERE PARTS LIE. -/
def fnv (f q : Nat) : Value := .func (.func f) #[] #[.pointer (some ⟨q, 0, none⟩)]
def PtRow (R : Value → Px → Prop) (A : Nat → Prop) (w : World) (v : Value) (l : List Px) : Prop :=
  ∃ us : List Value, us.length = l.length ∧ l.length ≤ 9000 ∧ w.ownsRow 0 70 1 v l.length us ∧ (∀ k, v.ownBlock = some k → A k) ∧ ∀ (i : Nat) (u : Value) (x : Px), us[i]? = some u → l[i]? = some x → R u x
/-- The value is the part x, of depth at most d; the blocks in which it lies are among A. -/
def PIn : Nat → (Nat → Prop) → World → Value → Px → Prop
  | 0, _, _, _, _ => False
  | d + 1, A, w, v, x => ∃ q, A q ∧
    ((x.what = 0 ∧ v = fnv 95 q ∧ w.heap[q]? = some (.cells #[.int .u8 x.k] 97 (0, 0)) ∧ x.k < 256) ∨
     (x.what = 1 ∧ v = fnv 52 q ∧ ∃ vR, w.heap[q]? = some (.cells #[vR] 111 (0, 0)) ∧ PtRow (PIn d A w) A w vR x.l) ∨
     (x.what = 2 ∧ v = fnv 65 q ∧ ∃ vR, w.heap[q]? = some (.cells #[vR] 111 (0, 0)) ∧ PtRow (PIn d A w) A w vR x.l) ∨
     (x.what = 3 ∧ v = fnv 87 q ∧ ∃ u y, x.l = [y] ∧ w.heap[q]? = some (.cells #[u] 70 (0, 0)) ∧ PIn d A w u y) ∨
     (x.what = 4 ∧ v = fnv 89 q ∧ ∃ u y, x.l = [y] ∧ w.heap[q]? = some (.cells #[u] 70 (0, 0)) ∧ PIn d A w u y))

def PtType (t : TypeId) : Prop := t = 97 ∨ t = 111 ∨ t = 70
/-- The blocks among A in which parts may lie are as they were. -/
def KeepPt (A : Nat → Prop) (w w' : World) : Prop := ∀ (k : Nat) (cs : Array Value) (t : TypeId) (m : Nat × Nat), A k → PtType t → w.heap[k]? = some (.cells cs t m) → w'.heap[k]? = some (.cells cs t m)

theorem PtRow.turn {R R' : Value → Px → Prop} {A A' : Nat → Prop} {w w' : World} {v : Value} {l : List Px} (h : PtRow R A w v l) (hk : KeepPt A w w') (hA : ∀ k, k < w.heap.size → A k → A' k) (hR : ∀ u x, R u x → R' u x) : PtRow R' A' w' v l := by
  obtain ⟨us, h1, h0, h2, h3, h4⟩ := h
  refine ⟨us, h1, h0, ⟨h2.1, ?_⟩, fun k e => hA k (h2.lt k e).2 (h3 k e), fun i u x hu hx => hR _ _ (h4 i u x hu hx)⟩
  rcases h2.2 with h | ⟨g, cap, cur, hv, hg, hh, r⟩
  · exact Or.inl h
  · exact Or.inr ⟨g, cap, cur, hv, hg, hk _ _ _ _ (h3 g (by rw [hv]; rfl)) (Or.inr (Or.inr rfl)) hh, r⟩
theorem PtRow.len {R : Value → Px → Prop} {A : Nat → Prop} {w : World} {v : Value} {l : List Px} (h : PtRow R A w v l) : l.length ≤ 9000 := by
  obtain ⟨us, h1, h0, h2, h3, h4⟩ := h
  exact h0
theorem heap_lt {w : World} {k : Nat} {o : Obj} (h : w.heap[k]? = some o) : k < w.heap.size := (Array.getElem?_eq_some_iff.1 h).1
theorem PIn.turn {A A' : Nat → Prop} {w w' : World} (hk : KeepPt A w w') (hA : ∀ k, k < w.heap.size → A k → A' k) : ∀ {d v x}, PIn d A w v x → PIn d A' w' v x := by
  intro d
  induction d with
  | zero => intro v x h; exact h.elim
  | succ d ih =>
    intro v x h
    obtain ⟨q, hq, h⟩ := h
    rcases h with ⟨h1, h2, h3, h4⟩ | ⟨h1, h2, vR, h3, h4⟩ | ⟨h1, h2, vR, h3, h4⟩ | ⟨h1, h2, u, y, h3, h4, h5⟩ | ⟨h1, h2, u, y, h3, h4, h5⟩
    · exact ⟨q, hA q (heap_lt h3) hq, Or.inl ⟨h1, h2, hk _ _ _ _ hq (Or.inl rfl) h3, h4⟩⟩
    · exact ⟨q, hA q (heap_lt h3) hq, Or.inr (Or.inl ⟨h1, h2, vR, hk _ _ _ _ hq (Or.inr (Or.inl rfl)) h3, h4.turn hk hA (fun u x hu => ih hu)⟩)⟩
    · exact ⟨q, hA q (heap_lt h3) hq, Or.inr (Or.inr (Or.inl ⟨h1, h2, vR, hk _ _ _ _ hq (Or.inr (Or.inl rfl)) h3, h4.turn hk hA (fun u x hu => ih hu)⟩))⟩
    · exact ⟨q, hA q (heap_lt h4) hq, Or.inr (Or.inr (Or.inr (Or.inl ⟨h1, h2, u, y, h3, hk _ _ _ _ hq (Or.inr (Or.inr rfl)) h4, ih h5⟩)))⟩
    · exact ⟨q, hA q (heap_lt h4) hq, Or.inr (Or.inr (Or.inr (Or.inr ⟨h1, h2, u, y, h3, hk _ _ _ _ hq (Or.inr (Or.inr rfl)) h4, ih h5⟩)))⟩
theorem KeepPt.refl (A : Nat → Prop) (w : World) : KeepPt A w w := fun _ _ _ _ _ _ h => h
theorem KeepPt.below {B : Nat} {w w' : World} (h : Below B w w') {A : Nat → Prop} (hA : ∀ k, k < w.heap.size → A k → k < B) : KeepPt A w w' := fun k cs t m ha _ hh => by
  rw [h.block k (hA k (heap_lt hh) ha)]; exact hh
theorem PIn.later {B d : Nat} {w w' : World} {v : Value} {x : Px} (h : PIn d (fun k => k < B) w v x) (hb : Below B w w') : PIn d (fun k => k < B) w' v x := h.turn (KeepPt.below hb fun _ _ h => h) fun _ _ h => h
theorem PIn.deeper {A : Nat → Prop} {w : World} : ∀ {d e v x}, d ≤ e → PIn d A w v x → PIn e A w v x := by
  intro d
  induction d with
  | zero => intro e v x _ h; exact h.elim
  | succ d ih =>
    intro e v x he h
    cases e with
    | zero => omega
    | succ e =>
      obtain ⟨q, hq, h⟩ := h
      have he' : d ≤ e := by omega
      have row : ∀ {vR l}, PtRow (PIn d A w) A w vR l → PtRow (PIn e A w) A w vR l := fun h => h.turn (KeepPt.refl _ _) (fun _ _ h => h) (fun _ _ h => ih he' h)
      rcases h with ⟨h1, h2, h3, h4⟩ | ⟨h1, h2, vR, h3, h4⟩ | ⟨h1, h2, vR, h3, h4⟩ | ⟨h1, h2, u, y, h3, h4, h5⟩ | ⟨h1, h2, u, y, h3, h4, h5⟩
      · exact ⟨q, hq, Or.inl ⟨h1, h2, h3, h4⟩⟩
      · exact ⟨q, hq, Or.inr (Or.inl ⟨h1, h2, vR, h3, row h4⟩)⟩
      · exact ⟨q, hq, Or.inr (Or.inr (Or.inl ⟨h1, h2, vR, h3, row h4⟩))⟩
      · exact ⟨q, hq, Or.inr (Or.inr (Or.inr (Or.inl ⟨h1, h2, u, y, h3, h4, ih he' h5⟩)))⟩
      · exact ⟨q, hq, Or.inr (Or.inr (Or.inr (Or.inr ⟨h1, h2, u, y, h3, h4, ih he' h5⟩)))⟩

/- WHERE A MACHINE LIES. -/
def stCells (S : List St) (tv : List Value) : List Value := (S.zip tv).flatMap fun o => [.int .u8 o.1.1, o.2]
def intCells (l : List Nat) : List Value := l.map fun (n : Nat) => Value.int .i64 (n : Int)
structure MRow (w : World) (base : Nat) (vS : Value) (S : List St) (tv : List Value) : Prop where
  len : tv.length = S.length
  row : w.ownsRow base 99 2 vS S.length (stCells S tv)
  to_ : ∀ (i : Nat) (v : Value) (s : St), tv[i]? = some v → S[i]? = some s → w.ownsRow base 3 1 v s.2.length (intCells s.2)
  apart : ∀ (i j : Nat) (v u : Value) (k : Nat), i ≠ j → tv[i]? = some v → tv[j]? = some u → v.ownBlock = some k → u.ownBlock ≠ some k
/-- The machine at block m; all that is its own lies from base on. -/
def MIn (w : World) (base m : Nat) (S : List St) (first : Int) : Prop :=
  base ≤ m ∧ ∃ vS tv, w.heap[m]? = some (.cells #[vS, .int .i64 first] 74 (0, 0)) ∧ MRow w base vS S tv

theorem stCells_len (S : List St) (tv : List Value) (h : tv.length = S.length) : (stCells S tv).length = S.length * 2 := by
  induction S generalizing tv with
  | nil => rfl
  | cons a S ih =>
    cases tv with
    | nil => simp at h
    | cons u tv =>
      have := ih tv (by simpa using h)
      simp only [stCells, List.zip_cons_cons, List.flatMap_cons, List.length_append, List.length_cons, List.length_nil] at *
      omega
theorem stCells_at : ∀ (S : List St) (tv : List Value) (i : Nat) (s : St) (v : Value), S[i]? = some s → tv[i]? = some v → (stCells S tv)[i * 2]? = some (.int .u8 s.1) ∧ (stCells S tv)[i * 2 + 1]? = some v := by
  intro S
  induction S with
  | nil => intro tv i s v h; simp at h
  | cons a S ih =>
    intro tv i s v h1 h2
    cases tv with
    | nil => simp at h2
    | cons u tv =>
      cases i with
      | zero => simp at h1 h2; subst h1; subst h2; simp [stCells]
      | succ i =>
        simp at h1 h2
        have := ih tv i s v h1 h2
        have e : ∀ k, (stCells (a :: S) (u :: tv))[(i + 1) * 2 + k]? = (stCells S tv)[i * 2 + k]? := by
          intro k; rw [show (i + 1) * 2 + k = (i * 2 + k) + 2 from by omega]; rfl
        have e0 := e 0; have e1 := e 1
        simp only [Nat.add_zero] at e0
        rw [e0, e1]; exact this
theorem stCells_snoc (S : List St) (tv : List Value) (s : St) (v : Value) (h : tv.length = S.length) : stCells (S ++ [s]) (tv ++ [v]) = stCells S tv ++ [.int .u8 s.1, v] := by
  unfold stCells; rw [List.zip_append h.symm]; simp
end Go.Proofs.YtonooajnjgnmnaaGreatDoor
