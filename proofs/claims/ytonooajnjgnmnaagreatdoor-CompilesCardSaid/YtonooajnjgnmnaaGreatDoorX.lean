/- The reference's Exprs: what they are, as plain trees, and where they lie. -/
import Derived.Test.YtonooajnjgnmnaaGreatDoorB
namespace Go.Proofs.YtonooajnjgnmnaaGreatDoor
open Go.RowKit

structure Rx where
  what : Nat
  kinds : Int
  l : List Rx
  form : ByteArray

def lit (l : List UInt8) : ByteArray := ⟨l.toArray⟩
def neverX : Rx := ⟨122, 0, [], lit [48]⟩
def emptyX : Rx := ⟨101, 0, [], lit [49]⟩
def seqX (a b : Rx) : Rx := ⟨115, 0, [a, b], ⟨#[40]⟩ ++ a.form ++ b.form ++ ⟨#[41]⟩⟩
def rowX : Nat → Rx → Rx → Rx
  | 0, _, _ => neverX
  | n + 1, a, b =>
    if a.what = 122 ∨ b.what = 122 then neverX
    else if a.what = 101 then b
    else if b.what = 101 then a
    else if a.what = 115 then rowX n (a.l.getD 0 neverX) (rowX n (a.l.getD 1 neverX) b)
    else seqX a b
def leF (a b : ByteArray) : Bool := Op.bytesLess a.toList b.toList || a.toList == b.toList
def amongX : List Rx → Rx → List Rx
  | [], a => [a]
  | x :: r, a => if leF a.form x.form = true then (if (a.form.toList == x.form.toList) = true then x :: r else a :: x :: r) else x :: amongX r a
def gatherX (l : List Rx) (x : Rx) : List Rx := if x.what = 97 then x.l.foldl amongX l else if x.what = 122 then l else amongX l x
def formsX (l : List Rx) : ByteArray := l.foldl (fun s x => s ++ ⟨#[47]⟩ ++ x.form) ⟨#[]⟩
def eitherX (a b : Rx) : Rx :=
  let l := gatherX (gatherX [] a) b
  match l with
  | [] => neverX
  | [x] => x
  | l => ⟨97, 0, l, ⟨#[123]⟩ ++ formsX l ++ ⟨#[125]⟩⟩
def manyX (a : Rx) : Rx :=
  if a.what = 122 ∨ a.what = 101 then emptyX else if a.what = 109 then a else ⟨109, 0, [a], ⟨#[60]⟩ ++ a.form ++ ⟨#[62]⟩⟩
/-- The decimal form of a number below 1000. -/
def itoaB (n : Nat) : ByteArray :=
  if n < 10 then lit [UInt8.ofNat (48 + n)] else if n < 100 then lit [UInt8.ofNat (48 + n / 10), UInt8.ofNat (48 + n % 10)] else lit [UInt8.ofNat (48 + n / 100), UInt8.ofNat (48 + n / 10 % 10), UInt8.ofNat (48 + n % 10)]
def charX (k : Nat) : Rx := ⟨99, k, [], ⟨#[91]⟩ ++ itoaB k ++ ⟨#[93]⟩⟩
def rowR (a b : Rx) : Rx := rowX (a.form.size + 1) a b
def sizesX (l : List Rx) : Nat := (l.map fun x => x.form.size + 1).sum

theorem size1 (c : UInt8) : (⟨#[c]⟩ : ByteArray).size = 1 := rfl
theorem size0 : (⟨#[]⟩ : ByteArray).size = 0 := rfl
theorem sizeApp (a b : ByteArray) : (a ++ b).size = a.size + b.size := ByteArray.size_append
theorem run_add (P : Program) (a b : ByteArray) (h : a.size + b.size ≤ 4000000000) (W : World) : (Op.stringOp .add a b).run P W = .ok (.string (a ++ b)) W := run_string_add_sum (P := P) W a b (by omega)
/-- A slice that holds values of which R holds, at each of the trees. -/
def ReRow (R : Value → Rx → Prop) (base : Nat) (w : World) (v : Value) (l : List Rx) : Prop :=
  ∃ us : List Value, us.length = l.length ∧ w.ownsRow base 57 1 v l.length us ∧ ∀ (i : Nat) (u : Value) (x : Rx), us[i]? = some u → l[i]? = some x → R u x

/-- The value points to the tree x, of depth at most d. -/
def IsRe : Nat → World → Value → Rx → Prop
  | 0, _, _, _ => False
  | d + 1, w, v, x => ∃ p vL, v = .pointer (some ⟨p, 0, none⟩) ∧ w.heap[p]? = some (.cells #[.int .u8 x.what, .int .i64 x.kinds, vL, .string x.form] 84 (0, 0)) ∧
      ReRow (IsRe d w) 0 w vL x.l ∧ x.what < 256 ∧ (x.what = 115 → x.l.length = 2) ∧ (x.what = 115 ∨ x.what = 97 → sizesX x.l ≤ x.form.size)

/-- The blocks in which trees lie are as they were. -/
def KeepRe (w w' : World) : Prop := ∀ (k : Nat) (cs : Array Value) (t : TypeId) (m : Nat × Nat), (t = 84 ∨ t = 57) → w.heap[k]? = some (.cells cs t m) → w'.heap[k]? = some (.cells cs t m)
theorem KeepRe.refl (w : World) : KeepRe w w := fun _ _ _ _ _ h => h
theorem KeepRe.trans {a b c : World} (h : KeepRe a b) (k : KeepRe b c) : KeepRe a c := fun i cs t m ht hh => k i cs t m ht (h i cs t m ht hh)
theorem KeepRe.drew (w : World) : KeepRe w w.drew := fun _ _ _ _ _ h => h
theorem KeepRe.drewN (w : World) (n : Nat) : KeepRe w (w.drewN n) := fun _ _ _ _ _ h => h
theorem KeepRe.of_below {w w' : World} (h : Below w.heap.size w w') : KeepRe w w' := fun k cs t m _ hh => by
  rw [h.block k (Array.getElem?_eq_some_iff.1 hh).1]; exact hh
theorem KeepRe.of_chg {p : Nat → Prop} {w w' : World} (h : Chg p w w') (hp : ∀ k cs t m, p k → w.heap[k]? = some (.cells cs t m) → t ≠ 84 ∧ t ≠ 57) : KeepRe w w' := fun k cs t m ht hh => by
  rw [h.block k (Array.getElem?_eq_some_iff.1 hh).1 (fun hpk => by have := hp k cs t m hpk hh; rcases ht with rfl | rfl <;> simp at this)]; exact hh

theorem ownsRow_keep {w w' : World} {base : Nat} {v : Value} {n : Nat} {us : List Value} (h : w.ownsRow base 57 1 v n us) (hk : KeepRe w w') : w'.ownsRow base 57 1 v n us := by
  obtain ⟨h1, h2⟩ := h
  refine ⟨h1, ?_⟩
  rcases h2 with h2 | ⟨g, cap, cur, hv, hg, hh, r⟩
  · exact Or.inl h2
  · exact Or.inr ⟨g, cap, cur, hv, hg, hk _ _ _ _ (Or.inr rfl) hh, r⟩
theorem ownsRow_base {w : World} {base base' : Nat} {e : TypeId} {size : Nat} {v : Value} {n : Nat} {us : List Value} (h : w.ownsRow base e size v n us) (hb : base' ≤ base) : w.ownsRow base' e size v n us := by
  obtain ⟨h1, h2⟩ := h
  refine ⟨h1, ?_⟩
  rcases h2 with h2 | ⟨g, cap, cur, hv, hg, r⟩
  · exact Or.inl h2
  · exact Or.inr ⟨g, cap, cur, hv, Nat.le_trans hb hg, r⟩
theorem ReRow.keep {R R' : Value → Rx → Prop} {base : Nat} {w w' : World} {v : Value} {l : List Rx} (h : ReRow R base w v l) (hk : KeepRe w w') (hR : ∀ u x, R u x → R' u x) : ReRow R' base w' v l := by
  obtain ⟨us, h1, h2, h3⟩ := h
  exact ⟨us, h1, ownsRow_keep h2 hk, fun i u x hu hx => hR _ _ (h3 i u x hu hx)⟩
theorem ReRow.mono {R R' : Value → Rx → Prop} {base base' : Nat} {w : World} {v : Value} {l : List Rx} (h : ReRow R base w v l) (hb : base' ≤ base) (hR : ∀ u x, R u x → R' u x) : ReRow R' base' w v l := by
  obtain ⟨us, h1, h2, h3⟩ := h
  exact ⟨us, h1, ownsRow_base h2 hb, fun i u x hu hx => hR _ _ (h3 i u x hu hx)⟩
theorem IsRe.keep {d : Nat} {w w' : World} (hk : KeepRe w w') : ∀ {v x}, IsRe d w v x → IsRe d w' v x := by
  induction d with
  | zero => intro v x h; exact h.elim
  | succ d ih =>
    intro v x h
    obtain ⟨p, vL, hv, hp, hr, h4, h5, h6⟩ := h
    exact ⟨p, vL, hv, hk _ _ _ _ (Or.inl rfl) hp, hr.keep hk (fun u x hu => ih hu), h4, h5, h6⟩
theorem IsRe.mono {d e : Nat} {w : World} (hde : d ≤ e) : ∀ {v x}, IsRe d w v x → IsRe e w v x := by
  induction d generalizing e with
  | zero => intro v x h; exact h.elim
  | succ d ih =>
    intro v x h
    obtain ⟨p, vL, hv, hp, hr, h4, h5, h6⟩ := h
    cases e with
    | zero => omega
    | succ e => exact ⟨p, vL, hv, hp, hr.mono (Nat.le_refl _) (fun u x hu => ih (by omega) hu), h4, h5, h6⟩
/-- What a walk wants of a tree. -/
theorem IsRe.open {d : Nat} {w : World} {v : Value} {x : Rx} (h : IsRe d w v x) : ∃ p vL e, d = e + 1 ∧ v = .pointer (some ⟨p, 0, none⟩) ∧ w.cell? ⟨p, 0, none⟩ = some (.int .u8 x.what) ∧ w.cell? ⟨p, 1, none⟩ = some (.int .i64 x.kinds) ∧
    w.cell? ⟨p, 2, none⟩ = some vL ∧ w.cell? ⟨p, 3, none⟩ = some (.string x.form) ∧ p < w.heap.size ∧ ReRow (IsRe e w) 0 w vL x.l ∧ x.what < 256 ∧ (x.what = 115 → x.l.length = 2) ∧ (x.what = 115 ∨ x.what = 97 → sizesX x.l ≤ x.form.size) := by
  cases d with
  | zero => exact h.elim
  | succ d =>
    obtain ⟨p, vL, hv, hp, hr, h4, h5, h6⟩ := h
    exact ⟨p, vL, d, rfl, hv, cell_of_block hp _ _ rfl, cell_of_block hp _ _ rfl, cell_of_block hp _ _ rfl, cell_of_block hp _ _ rfl, (Array.getElem?_eq_some_iff.1 hp).1, hr, h4, h5, h6⟩
/-- The cells of a row, for a walk. -/
theorem ReRow.form {R : Value → Rx → Prop} {base : Nat} {w : World} {v : Value} {l : List Rx} (h : ReRow R base w v l) :
    ∃ ao cap, v = .slice ao l.length cap ∧ ∀ i (hi : i < l.length), ∃ g u, ao = some ⟨g, 0, none⟩ ∧ w.cell? ⟨g, i, none⟩ = some u ∧ R u l[i] := by
  obtain ⟨us, h1, ⟨h2, h3⟩, h4⟩ := h
  rcases h3 with ⟨hv, hn⟩ | ⟨g, cap, cur, hv, hg, hh, hcap, hmx, hsz, hcur⟩
  · exact ⟨none, 0, by rw [hv, hn], fun i hi => by omega⟩
  · refine ⟨some ⟨g, 0, none⟩, cap, hv, fun i hi => ?_⟩
    obtain ⟨u, hu⟩ : ∃ u, us[i]? = some u := ⟨us[i]'(by omega), List.getElem?_eq_getElem (by omega)⟩
    refine ⟨g, u, rfl, ?_, h4 i _ _ hu (List.getElem?_eq_getElem hi)⟩
    refine cell_of_block hh i _ ?_
    rw [← hcur, List.getElem?_take, if_pos (by omega)] at hu
    simpa using hu
/-- A tree that has just been laid. -/
theorem mkRe {d q : Nat} {W : World} {vL : Value} {x : Rx} (hq : q = W.heap.size) (hr : ReRow (IsRe d W) 0 W vL x.l) (h4 : x.what < 256) (h5 : x.what = 115 → x.l.length = 2) (h6 : x.what = 115 ∨ x.what = 97 → sizesX x.l ≤ x.form.size) :
    IsRe (d + 1) (W.alloc (.cells #[.int .u8 x.what, .int .i64 x.kinds, vL, .string x.form] 84)) (.pointer (some ⟨q, 0, none⟩)) x := by
  subst hq
  have hk : KeepRe W (W.alloc (.cells #[.int .u8 x.what, .int .i64 x.kinds, vL, .string x.form] 84)) := KeepRe.of_below ((Below.refl _ _).alloc (Nat.le_refl _) _)
  exact ⟨_, vL, rfl, heap_alloc_new _ _, hr.keep hk (fun u y hu => hu.keep hk), h4, h5, h6⟩
theorem mkRe' {d q : Nat} {W : World} {vL : Value} {wI kI : Int} {f : ByteArray} (x : Rx) (hq : q = W.heap.size) (h1 : wI = x.what) (h2 : kI = x.kinds) (h3 : f = x.form) (hr : ReRow (IsRe d W) 0 W vL x.l) (h4 : x.what < 256) (h5 : x.what = 115 → x.l.length = 2) (h6 : x.what = 115 ∨ x.what = 97 → sizesX x.l ≤ x.form.size) :
    IsRe (d + 1) (W.alloc (.cells #[.int .u8 wI, .int .i64 kI, vL, .string f] 84)) (.pointer (some ⟨q, 0, none⟩)) x := by
  subst h1; subst h2; subst h3; exact mkRe hq hr h4 h5 h6
theorem row1 {d : Nat} {w : World} {v : Value} {x : Rx} (h : IsRe d w v x) :
    ReRow (IsRe d (w.alloc (.cells #[v] 57))) 0 (w.alloc (.cells #[v] 57)) (.slice (some ⟨w.heap.size, 0, none⟩) 1 1) [x] := by
  refine ⟨[v], rfl, World.ownsRow_lit w #[v] 1 (Nat.zero_le _) (by decide) rfl, ?_⟩
  intro i u y hu hy
  match i, hu, hy with
  | 0, hu, hy => simp at hu hy; subst hu; subst hy; exact h.keep (KeepRe.of_below ((Below.refl _ _).alloc (Nat.le_refl _) _))
theorem row2 {d : Nat} {w : World} {v v' : Value} {x x' : Rx} (h : IsRe d w v x) (h' : IsRe d w v' x') :
    ReRow (IsRe d (w.alloc (.cells #[v, v'] 57))) 0 (w.alloc (.cells #[v, v'] 57)) (.slice (some ⟨w.heap.size, 0, none⟩) 2 2) [x, x'] := by
  have hk : KeepRe w (w.alloc (.cells #[v, v'] 57)) := KeepRe.of_below ((Below.refl _ _).alloc (Nat.le_refl _) _)
  refine ⟨[v, v'], rfl, World.ownsRow_lit w #[v, v'] 2 (Nat.zero_le _) (by decide) rfl, ?_⟩
  intro i u y hu hy
  match i, hu, hy with
  | 0, hu, hy => simp at hu hy; subst hu; subst hy; exact h.keep hk
  | 1, hu, hy => simp at hu hy; subst hu; subst hy; exact h'.keep hk
end Go.Proofs.YtonooajnjgnmnaaGreatDoor
