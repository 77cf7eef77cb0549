/- Plain facts: worlds that part only in some blocks; how a text of rules is cut into words and signs. -/
import Derived.WalkKit
import Derived.WalkSpells
import Derived.WalkLawsBesides
import Derived.BigQuiet
import Derived.Deep.QuietTactic
import Derived.Deep.LoopGhost
namespace Go.Proofs.YtonooajnjgnmnaaGreatDoor
open Go.RowKit

/-- w' is w but for new blocks and the blocks of which p holds. -/
structure Chg (p : Nat → Prop) (w w' : World) : Prop where
  os : w'.os = w.os
  tape : w'.tape = w.tape
  output : w'.output = w.output
  size : w.heap.size ≤ w'.heap.size
  block : ∀ k, k < w.heap.size → ¬ p k → w'.heap[k]? = w.heap[k]?

theorem Chg.refl (p : Nat → Prop) (w : World) : Chg p w w := ⟨rfl, rfl, rfl, Nat.le_refl _, fun _ _ _ => rfl⟩
theorem Chg.trans {p : Nat → Prop} {a b c : World} (h : Chg p a b) (k : Chg p b c) : Chg p a c :=
  ⟨k.os.trans h.os, k.tape.trans h.tape, k.output.trans h.output, Nat.le_trans h.size k.size,
   fun i hi hp => (k.block i (Nat.lt_of_lt_of_le hi h.size) hp).trans (h.block i hi hp)⟩
theorem Chg.mono {p q : Nat → Prop} {a b : World} (h : Chg p a b) (hpq : ∀ k, k < a.heap.size → p k → q k) : Chg q a b :=
  ⟨h.os, h.tape, h.output, h.size, fun i hi hq => h.block i hi (fun hp => hq (hpq i hi hp))⟩
theorem Chg.drew {p : Nat → Prop} {a w : World} (h : Chg p a w) : Chg p a w.drew := ⟨h.os, h.tape, h.output, h.size, h.block⟩
theorem drewN_heap (w : World) (n : Nat) : (w.drewN n).heap = w.heap ∧ (w.drewN n).os = w.os ∧ (w.drewN n).tape = w.tape ∧ (w.drewN n).output = w.output := ⟨rfl, rfl, rfl, rfl⟩
theorem Chg.drewN {p : Nat → Prop} {a w : World} (h : Chg p a w) (n : Nat) : Chg p a (w.drewN n) := ⟨h.os, h.tape, h.output, h.size, h.block⟩
theorem Chg.alloc {p : Nat → Prop} {a w : World} (h : Chg p a w) (o : Obj) : Chg p a (w.alloc o) :=
  h.trans ⟨rfl, rfl, rfl, by simp, fun k hk _ => Below.heap_alloc _ _ _ hk⟩
theorem Chg.setCell {p : Nat → Prop} {a w : World} (h : Chg p a w) {q : Addr} (hq : a.heap.size ≤ q.block ∨ p q.block) (u : Value) : Chg p a (w.setCell q u) :=
  ⟨h.os, h.tape, h.output, by have := h.size; simpa [World.setCell] using this, fun k hk hp => by
    have hne : k ≠ q.block := by
      intro e
      rcases hq with hq | hq
      · omega
      · exact hp (e ▸ hq)
    rw [Below.heap_setCell _ _ _ _ hne]; exact h.block k hk hp⟩
theorem Chg.set1 {b o : Nat} {a w : World} (h : Chg (fun k => k = b) a w) (u : Value) : Chg (fun k => k = b) a (w.setCell ⟨b, o, none⟩ u) := h.setCell (q := ⟨b, o, none⟩) (Or.inr rfl) u
theorem Chg.below {p : Nat → Prop} {a w : World} (h : Chg p a w) {B : Nat} (hB : B ≤ a.heap.size) (hp : ∀ k, k < B → ¬ p k) : Below B a w :=
  ⟨h.os, h.tape, h.output, h.size, fun k hk => h.block k (Nat.lt_of_lt_of_le hk hB) (hp k hk)⟩
theorem Chg.of_below {p : Nat → Prop} {a w : World} (h : Below a.heap.size a w) : Chg p a w := ⟨h.os, h.tape, h.output, h.size, fun k hk _ => h.block k hk⟩
theorem Chg.grown {p : Nat → Prop} {a w w' : World} {row : Option Nat} (h : Chg p a w) (hg : w.grownBy w' row) (hr : ∀ k, row = some k → a.heap.size ≤ k ∨ p k) : Chg p a w' :=
  ⟨hg.os.trans h.os, hg.tape.trans h.tape, hg.output.trans h.output, Nat.le_trans h.size hg.size, fun k hk hp => by
    rw [hg.block k (Nat.lt_of_lt_of_le hk h.size) (fun e => by
      rcases hr k e.symm with h1 | h1
      · omega
      · exact hp h1)]; exact h.block k hk hp⟩

theorem bcell {W w1 : World} (hb : Below W.heap.size W w1) : (∀ b o, b < W.heap.size → w1.cell? ⟨b, o, none⟩ = W.cell? ⟨b, o, none⟩) ∧ (∀ b o, b < W.heap.size → w1.frozen? ⟨b, o, none⟩ = W.frozen? ⟨b, o, none⟩) :=
  ⟨fun b o h => hb.cell (p := ⟨b, o, none⟩) h, fun b o h => hb.frozen (p := ⟨b, o, none⟩) h⟩
theorem cell_of_block {w : World} {b : Nat} {cs : Array Value} {t : TypeId} (h : w.heap[b]? = some (.cells cs t (0, 0))) (o : Nat) (v : Value) (hv : cs[o]? = some v) : w.cell? ⟨b, o, none⟩ = some v := by
  simp [World.cell?, h, hv]
theorem free_of_block {w : World} {b : Nat} {cs : Array Value} {t : TypeId} (h : w.heap[b]? = some (.cells cs t (0, 0))) (o : Nat) : w.frozen? ⟨b, o, none⟩ = false := by
  simp [World.frozen?, h]
theorem block_setCell {w : World} {b : Nat} {cs : Array Value} {t : TypeId} (h : w.heap[b]? = some (.cells cs t (0, 0))) (o : Nat) (u : Value) :
    (w.setCell ⟨b, o, none⟩ u).heap[b]? = some (.cells (cs.setIfInBounds o u) t (0, 0)) := by
  simp [World.setCell, Array.getElem?_modify, h]

theorem ret_bool {a b : Bool} (h : a = b) : Ending.returned (.bool a) = .returned (.bool b) := by rw [h]
theorem ret_ii {a b : Int} {v : Value} (h : a = b) : Ending.returned (.tuple #[.int .i64 a, v]) = .returned (.tuple #[.int .i64 b, v]) := by rw [h]
theorem ret_int {k : IntKind} {a b : Int} (h : a = b) : Ending.returned (.int k a) = .returned (.int k b) := by rw [h]

/- THE TEXT: words and signs. -/
def letterN (c : Nat) : Bool := decide (97 ≤ c ∧ c ≤ 122) || decide (65 ≤ c ∧ c ≤ 90) || decide (48 ≤ c ∧ c ≤ 57)
def blankN (c : Nat) : Bool := decide (c = 32) || decide (c = 10)
def at0 (T : ByteArray) (i : Nat) : Nat := if h : i < T.size then (T[i]'h).toNat else 0
def skipF (T : ByteArray) : Nat → Nat → Nat
  | 0, i => i
  | n + 1, i => if blankN (at0 T i) = true then skipF T n (i + 1) else i
def skip (T : ByteArray) (i : Nat) : Nat := skipF T (T.size - i) i
def wordF (T : ByteArray) : Nat → Nat → Nat
  | 0, i => i
  | n + 1, i => if letterN (at0 T i) = true then wordF T n (i + 1) else i
def wordEnd (T : ByteArray) (i : Nat) : Nat := wordF T (T.size - i) i
def tokEnd (T : ByteArray) (i : Nat) : Nat := if wordEnd T i = i ∧ i < T.size then i + 1 else wordEnd T i
def tok (T : ByteArray) (i : Nat) : ByteArray := T.extract (skip T i) (tokEnd T (skip T i))

theorem skip_go {T : ByteArray} {i : Nat} (h : i < T.size) (hb : blankN (at0 T i) = true) : skip T i = skip T (i + 1) := by
  unfold skip; rw [show T.size - i = (T.size - (i + 1)) + 1 from by omega, skipF, if_pos hb]
theorem skip_stop {T : ByteArray} {i : Nat} (h : T.size ≤ i ∨ blankN (at0 T i) = false) : skip T i = i := by
  unfold skip
  by_cases hi : i < T.size
  · have hb : blankN (at0 T i) = false := by
      rcases h with h | h
      · omega
      · exact h
    rw [show T.size - i = (T.size - (i + 1)) + 1 from by omega, skipF, if_neg (by simp [hb])]
  · rw [show T.size - i = 0 from by omega, skipF]
theorem skipF_le (T : ByteArray) (n i : Nat) : i ≤ skipF T n i ∧ skipF T n i ≤ i + n := by
  induction n generalizing i with
  | zero => simp [skipF]
  | succ n ih => rw [skipF]; split
                 · have := ih (i + 1); omega
                 · omega
theorem skip_le (T : ByteArray) (i : Nat) : i ≤ skip T i ∧ (i ≤ T.size → skip T i ≤ T.size) := by
  have := skipF_le T (T.size - i) i; unfold skip; omega
theorem word_go {T : ByteArray} {i : Nat} (h : i < T.size) (hb : letterN (at0 T i) = true) : wordEnd T i = wordEnd T (i + 1) := by
  unfold wordEnd; rw [show T.size - i = (T.size - (i + 1)) + 1 from by omega, wordF, if_pos hb]
theorem word_stop {T : ByteArray} {i : Nat} (h : T.size ≤ i ∨ letterN (at0 T i) = false) : wordEnd T i = i := by
  unfold wordEnd
  by_cases hi : i < T.size
  · have hb : letterN (at0 T i) = false := by
      rcases h with h | h
      · omega
      · exact h
    rw [show T.size - i = (T.size - (i + 1)) + 1 from by omega, wordF, if_neg (by simp [hb])]
  · rw [show T.size - i = 0 from by omega, wordF]
theorem wordF_le (T : ByteArray) (n i : Nat) : i ≤ wordF T n i ∧ wordF T n i ≤ i + n := by
  induction n generalizing i with
  | zero => simp [wordF]
  | succ n ih => rw [wordF]; split
                 · have := ih (i + 1); omega
                 · omega
theorem word_le (T : ByteArray) (i : Nat) : i ≤ wordEnd T i ∧ (i ≤ T.size → wordEnd T i ≤ T.size) := by
  have := wordF_le T (T.size - i) i; unfold wordEnd; omega
theorem tokEnd_le (T : ByteArray) (i : Nat) : i ≤ tokEnd T i ∧ (i ≤ T.size → tokEnd T i ≤ T.size) ∧ (i < T.size → i < tokEnd T i) := by
  have := word_le T i; unfold tokEnd; split <;> omega
theorem skip_skip (T : ByteArray) (i : Nat) : skip T (skip T i) = skip T i := by
  have key : ∀ n i, T.size - i = n → skip T (skip T i) = skip T i := by
    intro n; induction n with
    | zero => intro i h; rw [skip_stop (i := i) (by omega)]; exact skip_stop (by omega)
    | succ n ih =>
      intro i h
      by_cases hb : blankN (at0 T i) = true
      · rw [skip_go (by omega) hb]; exact ih _ (by omega)
      · rw [skip_stop (i := i) (Or.inr (by simpa using hb))]; exact skip_stop (Or.inr (by simpa using hb))
  exact key _ i rfl
end Go.Proofs.YtonooajnjgnmnaaGreatDoor
