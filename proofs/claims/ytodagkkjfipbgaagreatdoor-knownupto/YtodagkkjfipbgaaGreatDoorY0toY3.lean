/- Segments of texts of one byte a character; lines and runs of them. -/
import Derived.Deep.CutBlock
import Derived.Test.YtodagkkjfipbgaaGreatDoorProg
import Derived.Laws.IdiomStrings
import Derived.Test.YtodagkkjfipbgaaGreatDoorV10toN19
import Derived.Test.YtodagkkjfipbgaaGreatDoorSh4lone
import Derived.Test.YtodagkkjfipbgaaGreatDoorD6toV9
import Derived.Test.YtodagkkjfipbgaaGreatDoorV7toW5
import Derived.Test.YtodagkkjfipbgaaGreatDoorD1toD5
import Derived.Test.YtodagkkjfipbgaaGreatDoorH1toC2
import Derived.Test.YtodagkkjfipbgaaGreatDoorK4toK6
import Derived.Test.YtodagkkjfipbgaaGreatDoorJ6toK3
import Derived.Test.YtodagkkjfipbgaaGreatDoorQ5toK2
import Derived.Test.YtodagkkjfipbgaaGreatDoorP2toQ1
import Derived.Test.YtodagkkjfipbgaaGreatDoorJ8toQ4
import Derived.Test.YtodagkkjfipbgaaGreatDoorQ2toQ3
import Derived.Test.YtodagkkjfipbgaaGreatDoorBtoP1
import Derived.Test.YtodagkkjfipbgaaGreatDoorUlone
import Derived.Test.YtodagkkjfipbgaaGreatDoorShlone
import Derived.Test.YtodagkkjfipbgaaGreatDoorSh2lone
import Derived.Test.YtodagkkjfipbgaaGreatDoorN17toV1
import Derived.Test.YtodagkkjfipbgaaGreatDoorN15toN16
import Derived.Test.YtodagkkjfipbgaaGreatDoorN13toN14
import Derived.Test.YtodagkkjfipbgaaGreatDoorN12lone
import Derived.Test.YtodagkkjfipbgaaGreatDoorN10toN11
import Derived.Test.YtodagkkjfipbgaaGreatDoorN9lone
import Derived.Test.YtodagkkjfipbgaaGreatDoorN1toN5
import Derived.Test.YtodagkkjfipbgaaGreatDoorJ10toJ11
import Derived.Test.YtodagkkjfipbgaaGreatDoorK9toJ9
import Derived.Test.YtodagkkjfipbgaaGreatDoorK7toL3
import Derived.Test.YtodagkkjfipbgaaGreatDoorJ3toJ5
import Derived.Test.YtodagkkjfipbgaaGreatDoorJ2toJ7
import Derived.Test.YtodagkkjfipbgaaGreatDoorN8lone
import Derived.Test.YtodagkkjfipbgaaGreatDoorN6toN0
import Derived.Test.YtodagkkjfipbgaaGreatDoorG2toVa
import Derived.Test.YtodagkkjfipbgaaGreatDoorV6lone
import Derived.Test.YtodagkkjfipbgaaGreatDoorN20toD7
import Derived.Test.YtodagkkjfipbgaaGreatDoorN21lone
import Derived.Test.YtodagkkjfipbgaaGreatDoorJ12lone
import Derived.Test.YtodagkkjfipbgaaGreatDoorZ5toM2
import Derived.Test.YtodagkkjfipbgaaGreatDoorZ3toW17
import Derived.Test.YtodagkkjfipbgaaGreatDoorZ1toZ2
import Derived.Test.YtodagkkjfipbgaaGreatDoorC5toS
import Derived.Test.YtodagkkjfipbgaaGreatDoorC3toC4
import Derived.Test.YtodagkkjfipbgaaGreatDoorV4toV5
import Derived.Test.YtodagkkjfipbgaaGreatDoorSh3lone
import Derived.Test.YtodagkkjfipbgaaGreatDoorV2toV3
namespace Go.Proofs.YtodagkkjfipbgaaGreatDoor
open Go.RowKit Go.Maps Go.Lib

def byte (s : ByteArray) (i : Nat) : Nat := (s.get! i).toNat
/-! ### Segments of such texts -/
def segA (s : ByteArray) (c : Nat → Bool) : Nat → Nat × List ByteArray
  | 0 => (0, [])
  | i + 1 => if c i then (i + 1, (segA s c i).2 ++ [s.extract (segA s c i).1 (i + 1)]) else segA s c i
theorem segA_le (s : ByteArray) (c : Nat → Bool) : ∀ i, (segA s c i).1 ≤ i := by
  intro i
  induction i with
  | zero => exact Nat.le_refl _
  | succ i ih => rw [segA]; split
                 · exact Nat.le_refl _
                 · omega
theorem segA_len (s : ByteArray) (c : Nat → Bool) : ∀ i, (segA s c i).2.length ≤ i := by
  intro i
  induction i with
  | zero => exact Nat.le_refl _
  | succ i ih => rw [segA]; split
                 · show ((segA s c i).2 ++ [_]).length ≤ _; rw [List.length_append, List.length_singleton]; omega
                 · omega
theorem segA_congr (s : ByteArray) {c d : Nat → Bool} : ∀ i, (∀ j, j < i → c j = d j) → segA s c i = segA s d i := by
  intro i
  induction i with
  | zero => intro _; rfl
  | succ i ih => intro h; rw [segA, segA, h i (by omega), ih fun j hj => h j (by omega)]
theorem seg_ones (s : ByteArray) {n : Nat} {cs : List Bool} {c : Nat → Bool} (hc : ∀ i, i < n → cs[i + 1]? = some (c i)) : ∀ i, i ≤ n → segSt s (List.replicate n 1) cs i = ((segA s c i).1, i, (segA s c i).2) := by
  intro i
  induction i with
  | zero => intro _; rfl
  | succ i ih =>
    intro hi
    have hn : (List.replicate n 1)[i]? = some 1 := by rw [List.getElem?_replicate, if_pos (by omega)]
    rw [segSt_succ hn (hc i (by omega)), ih (by omega), segA]
    unfold segStep
    cases c i <;> rfl
/-! ### Lines and runs -/
def lineAt (s : ByteArray) (i : Nat) : Bool := byte s i == 10 || byte s i == 13 && (i + 1 == s.size || byte s (i + 1) != 10)
def linesP (s : ByteArray) : List ByteArray := if (segA s (lineAt s) s.size).1 < s.size then (segA s (lineAt s) s.size).2 ++ [s.extract (segA s (lineAt s) s.size).1 s.size] else (segA s (lineAt s) s.size).2
theorem lines_told (s : ByteArray) {c : Nat → Bool} (h1 : ∀ i, i + 1 < s.size → c i = lineAt s i) (h2 : ∀ i, i + 1 = s.size → c i = true) : (segA s c s.size).2 = linesP s := by
  unfold linesP
  cases hn : s.size with
  | zero => rfl
  | succ m =>
    have e : segA s c m = segA s (lineAt s) m := segA_congr s m fun j hj => h1 j (by omega)
    have hle := segA_le s (lineAt s) m
    rw [segA, segA, h2 m hn.symm, e]
    rw [if_pos rfl]
    cases hl : lineAt s m with
    | true => simp
    | false =>
      simp only [Bool.false_eq_true, if_false]
      rw [if_pos (by omega)]
def isW (c : Nat) : Bool := decide (97 ≤ c) && decide (c ≤ 122) || decide (48 ≤ c) && decide (c ≤ 57)
def partAt (s : ByteArray) (i : Nat) : Bool := !(isW (byte s (i + 1)) && isW (byte s i))
/-- What runs has put down of the first i bytes. -/
def runsTo (s : ByteArray) : Nat → List ByteArray
  | 0 => []
  | i + 1 => (segA s (partAt s) i).2 ++ [s.extract (segA s (partAt s) i).1 (i + 1)]
theorem runs_told (s : ByteArray) {c : Nat → Bool} (h1 : ∀ i, i + 1 < s.size → c i = partAt s i) (h2 : ∀ i, i + 1 = s.size → c i = true) : (segA s c s.size).2 = runsTo s s.size := by
  cases hn : s.size with
  | zero => rfl
  | succ m =>
    have e : segA s c m = segA s (partAt s) m := segA_congr s m fun j hj => h1 j (by omega)
    rw [segA, h2 m hn.symm, e, if_pos rfl]
    rfl
theorem runs_join (s : ByteArray) (i : Nat) (h : partAt s i = false) : runsTo s (i + 2) = (segA s (partAt s) i).2 ++ [s.extract (segA s (partAt s) i).1 (i + 1) ++ s.extract (i + 1) (i + 2)] := by
  show (segA s (partAt s) (i + 1)).2 ++ [s.extract (segA s (partAt s) (i + 1)).1 (i + 2)] = _
  rw [segA, h, if_neg (by simp), ByteArray.extract_append_extract]
  have := segA_le s (partAt s) i
  rw [Nat.min_eq_left (by omega), Nat.max_eq_right (by omega)]
theorem runs_part (s : ByteArray) (i : Nat) (h : partAt s i = true) : runsTo s (i + 2) = runsTo s (i + 1) ++ [s.extract (i + 1) (i + 2)] := by
  show (segA s (partAt s) (i + 1)).2 ++ [s.extract (segA s (partAt s) (i + 1)).1 (i + 2)] = _
  rw [segA, h, if_pos rfl]
  rfl
end Go.Proofs.YtodagkkjfipbgaaGreatDoor
/- What closed rules mean: machines whose matching looks at the last kind alone; texts of one byte a character; segments of such texts. -/
namespace Go.Proofs.YtodagkkjfipbgaaGreatDoor
open Go.RowKit Go.Maps Go.Lib

/-! ### A machine's sets as lists -/
def geL (g : List (List (Nat × Nat))) (l : List Nat) : List Nat := l.flatMap fun x => (grow g x).filterMap fun e => if e.1 = 0 then some e.2 else none
def normL (n : Nat) (l : List Nat) : List Nat := (List.range n).filter fun x => l.contains x
def cloL (g : List (List (Nat × Nat))) : Nat → List Nat → List Nat
  | 0, l => l
  | f + 1, l => cloL g f (normL g.length (l ++ geL g l))
def seedsK (g : List (List (Nat × Nat))) (l : List Nat) (k : Nat) : List Nat := l.flatMap fun x => (grow g x).filterMap fun e => if e.1.testBit k then some e.2 else none
def nxL (g : List (List (Nat × Nat))) (first : Nat) (l : List Nat) (k : Nat) : List Nat := cloL g g.length (first :: seedsK g l k)
def fullB (g : List (List (Nat × Nat))) (from_ l : List Nat) : Bool := (geL g l).all (l.contains ·) && from_.all (l.contains ·)
theorem mem_geL {g : List (List (Nat × Nat))} {l : List Nat} {y : Nat} : y ∈ geL g l ↔ ∃ x ∈ l, geps g x y := by
  unfold geL geps
  simp only [List.mem_flatMap, List.mem_filterMap]
  constructor
  · rintro ⟨x, hx, ⟨t, z⟩, he, h⟩
    split at h
    · rename_i h0
      simp only at h0
      subst h0
      cases h
      exact ⟨x, hx, he⟩
    · cases h
  · rintro ⟨x, hx, he⟩
    exact ⟨x, hx, (0, y), he, by simp⟩
theorem mem_seedsK {g : List (List (Nat × Nat))} {l : List Nat} {k y : Nat} : y ∈ seedsK g l k ↔ ∃ x ∈ l, ∃ t, (t, y) ∈ grow g x ∧ t.testBit k = true := by
  unfold seedsK
  simp only [List.mem_flatMap, List.mem_filterMap]
  constructor
  · rintro ⟨x, hx, ⟨t, z⟩, he, h⟩
    split at h
    · rename_i h0
      cases h
      exact ⟨x, hx, t, he, h0⟩
    · cases h
  · rintro ⟨x, hx, t, he, h0⟩
    exact ⟨x, hx, (t, y), he, by simp [h0]⟩
theorem cloL_sound (g : List (List (Nat × Nat))) : ∀ (f : Nat) (l : List Nat) (x : Nat), x ∈ cloL g f l → ∃ y ∈ l, reach g y x := by
  intro f
  induction f with
  | zero => intro l x hx; exact ⟨x, hx, reach_refl g x⟩
  | succ f ih =>
    intro l x hx
    obtain ⟨y, hy, h⟩ := ih _ x hx
    unfold normL at hy
    simp only [List.mem_filter, List.contains_eq_mem, decide_eq_true_eq, List.mem_append] at hy
    rcases hy.2 with h1 | h1
    · exact ⟨y, h1, h⟩
    · obtain ⟨z, hz, he⟩ := mem_geL.1 h1
      exact ⟨z, hz, reach_eps he h⟩
theorem full_closed {g : List (List (Nat × Nat))} {a l : List Nat} (h : fullB g a l = true) : closedS g (· ∈ l) ∧ ∀ x ∈ a, x ∈ l := by
  unfold fullB at h
  simp only [Bool.and_eq_true, List.all_eq_true, List.contains_eq_mem, decide_eq_true_eq] at h
  exact ⟨fun x hx y hy => h.1 y (mem_geL.2 ⟨x, hx, hy⟩), h.2⟩
theorem cloL_is {g : List (List (Nat × Nat))} {a : List Nat} {f : Nat} (h : fullB g a (cloL g f a) = true) (x : Nat) : (∃ y ∈ a, reach g y x) ↔ x ∈ cloL g f a := by
  obtain ⟨h1, h2⟩ := full_closed h
  exact ⟨fun ⟨y, hy, hr⟩ => closed_reach h1 (h2 y hy) hr, cloL_sound g f a x⟩
theorem nxL_is {g : List (List (Nat × Nat))} {first : Nat} {l : List Nat} {k : Nat} (h : fullB g (first :: seedsK g l k) (nxL g first l k) = true) : nxA g first (· ∈ l) k = (· ∈ nxL g first l k) := by
  funext x
  apply propext
  refine Iff.trans ?_ (cloL_is h x)
  unfold nxA stepS
  constructor
  · rintro (⟨a, t, y, ha, he, ht, hr⟩ | hr)
    · exact ⟨y, List.mem_cons_of_mem _ (mem_seedsK.2 ⟨a, ha, t, he, ht⟩), hr⟩
    · exact ⟨first, List.mem_cons_self .., hr⟩
  · rintro ⟨y, hy, hr⟩
    rcases List.mem_cons.1 hy with rfl | hy
    · exact Or.inr hr
    · obtain ⟨a, ha, t, he, ht⟩ := mem_seedsK.1 hy
      exact Or.inl ⟨a, t, y, ha, he, ht, hr⟩
/-- All sets that some kinds lead to. -/
def famL (g : List (List (Nat × Nat))) (first : Nat) (Ks : List Nat) : Nat → List (List Nat) → List (List Nat)
  | 0, F => F
  | n + 1, F => famL g first Ks n (F ++ (F.flatMap fun l => Ks.map (nxL g first l)).filter fun l => !F.contains l)
def famOk (g : List (List (Nat × Nat))) (first goal : Nat) (Ks : List Nat) (F : List (List Nat)) (p : Nat → Bool) : Bool :=
  fullB g [first] (cloL g g.length [first]) && F.contains (cloL g g.length [first]) && F.all fun l => Ks.all fun k => fullB g (first :: seedsK g l k) (nxL g first l k) && F.contains (nxL g first l k) && ((nxL g first l k).contains goal == p k)
theorem fam_step {g : List (List (Nat × Nat))} {first goal : Nat} {Ks : List Nat} {F : List (List Nat)} {p : Nat → Bool} (h : famOk g first goal Ks F p = true) {l : List Nat} (hl : l ∈ F) {k : Nat} (hk : k ∈ Ks) :
    nxA g first (· ∈ l) k = (· ∈ nxL g first l k) ∧ nxL g first l k ∈ F ∧ (goal ∈ nxL g first l k ↔ p k = true) := by
  unfold famOk at h
  simp only [Bool.and_eq_true, List.all_eq_true] at h
  obtain ⟨⟨h1, h2⟩, h3⟩ := h.2 l hl k hk
  refine ⟨nxL_is h1, by simpa using h2, ?_⟩
  rw [← eq_of_beq h3]
  simp
theorem fam_start {g : List (List (Nat × Nat))} {first goal : Nat} {Ks : List Nat} {F : List (List Nat)} {p : Nat → Bool} (h : famOk g first goal Ks F p = true) : ∃ l ∈ F, reach g first = (· ∈ l) := by
  unfold famOk at h
  simp only [Bool.and_eq_true] at h
  refine ⟨_, by simpa using h.1.2, ?_⟩
  funext x
  apply propext
  rw [← cloL_is h.1.1 x]
  simp
theorem fam_row {g : List (List (Nat × Nat))} {first goal : Nat} {Ks : List Nat} {F : List (List Nat)} {p : Nat → Bool} (h : famOk g first goal Ks F p = true) : ∀ row : List Nat, (∀ k ∈ row, k ∈ Ks) → ∃ l ∈ F, row.foldl (nxA g first) (reach g first) = (· ∈ l) := by
  apply snoc_ind
  · intro _; exact fam_start h
  · intro row k ih hk
    obtain ⟨l, hl, e⟩ := ih fun k' h' => hk k' (List.mem_append_left _ h')
    obtain ⟨h1, h2, _⟩ := fam_step h hl (hk k (by simp))
    refine ⟨_, h2, ?_⟩
    rw [List.foldl_append, e]
    exact h1
/-- A table that looks at the last kind alone. -/
theorem fam_last {g : List (List (Nat × Nat))} {first goal : Nat} {Ks : List Nat} {F : List (List Nat)} {p : Nat → Bool} {tab : Tab} (h : famOk g first goal Ks F p = true) (ht : SideT (nxA g first) goal [reach g first] tab) (row : List Nat) (k : Nat) (hk : ∀ x ∈ row ++ [k], x ∈ Ks ∧ x < 8) :
    tmatch tab ((row ++ [k]).foldl (fun a k => tnext tab a k) 0) = p k := by
  obtain ⟨Ss, h1, h2, _, h4⟩ := ht
  have h0 : Ss[0]? = some (reach g first) := at_prefix h2 rfl
  have hm := spot_match h4 h1 (spot_row h4 h1 (row ++ [k]) (fun x hx => (hk x hx).2) 0 _ h0)
  obtain ⟨l, hl, e⟩ := fam_row h row fun x hx => (hk x (List.mem_append_left _ hx)).1
  obtain ⟨e1, _, e2⟩ := fam_step h hl (hk k (by simp)).1
  have hm2 : tmatch tab ((row ++ [k]).foldl (fun a k => tnext tab a k) 0) = true ↔ p k = true := by
    rw [hm, ← e2, List.foldl_append, e]
    show nxA g first (· ∈ l) k goal ↔ _
    rw [e1]
  cases hp : p k with
  | true => exact hm2.2 hp
  | false =>
    cases ht : tmatch tab ((row ++ [k]).foldl (fun a k => tnext tab a k) 0) with
    | false => rfl
    | true => rw [hm2.1 ht] at hp; cases hp
/-! ### What a rule says -/
/-- Both sides look at one kind alone. -/
def plainB (Ks : List Nat) (L : RuleM) (pl pr : Nat → Bool) : Bool :=
  famOk (graphOf true L.SL) L.fL 0 Ks (famL (graphOf true L.SL) L.fL Ks 6 [cloL (graphOf true L.SL) (graphOf true L.SL).length [L.fL]]) pl && famOk (graphOf false L.SR) 0 L.fR Ks (famL (graphOf false L.SR) 0 Ks 6 [cloL (graphOf false L.SR) (graphOf false L.SR).length [0]]) pr
theorem take_last {row : List Nat} {i k : Nat} (h : row[i]? = some k) : row.take (i + 1) = row.take i ++ [k] := by rw [List.take_add_one, h]; rfl
theorem drop_head {row : List Nat} {i k : Nat} (h : row[i]? = some k) : row.drop i = k :: row.drop (i + 1) := by
  obtain ⟨hl, e⟩ := List.getElem?_eq_some_iff.1 h
  rw [List.drop_eq_getElem_cons hl, e]
theorem plain_says {Ks : List Nat} {L : RuleM} {pl pr : Nat → Bool} (h : plainB Ks L pl pr = true) {r : PR} (hr : r.1 = L.cut ∧ LeftT L.SL L.fL r.2.1 ∧ RightT L.SR L.fR r.2.2) {row : List Nat} (hk : ∀ x ∈ row, x ∈ Ks ∧ x < 8) {i a b : Nat} (ha : row[i]? = some a) (hb : row[i + 1]? = some b) (cs : List Bool) :
    (ruleSays row r cs)[i + 1]? = (cs[i + 1]?).map fun x => if pl a && pr b then L.cut else x := by
  unfold plainB at h
  rw [Bool.and_eq_true] at h
  have h1 : tmatch r.2.1 (leftAt r.2.1 row (i + 1)) = pl a := by
    unfold leftAt
    rw [take_last ha]
    refine fam_last h.1 hr.2.1 _ _ fun x hx => hk x ?_
    rw [← take_last ha] at hx
    exact List.mem_of_mem_take hx
  have h2 : tmatch r.2.2 (rightAt r.2.2 row (i + 1)) = pr b := by
    unfold rightAt
    rw [drop_head hb, List.reverse_cons]
    refine fam_last h.2 hr.2.2 _ _ fun x hx => hk x ?_
    rw [← List.reverse_cons, ← drop_head hb] at hx
    exact List.mem_of_mem_drop (List.mem_reverse.1 hx)
  have hl := (List.getElem?_eq_some_iff.1 hb).1
  unfold ruleSays judgedTo
  rw [List.getElem?_mapIdx]
  congr 1
  funext x
  simp only [h1, h2, hr.1, Bool.and_eq_true]
  by_cases e : pl a = true ∧ pr b = true
  · rw [if_pos ⟨by omega, hl, e.1, e.2⟩, if_pos e]
  · rw [if_neg (fun h => e h.2.2), if_neg e]
/-- A rule that cuts leaves what is cut. -/
theorem cut_says {row : List Nat} {r : PR} (hr : r.1 = true) {i : Nat} {cs : List Bool} (h : cs[i]? = some true) : (ruleSays row r cs)[i]? = some true := by
  unfold ruleSays judgedTo
  rw [List.getElem?_mapIdx, h, Option.map_some, hr]
  split <;> rfl
/-! ### Texts of one byte a character -/
def Ascii (s : ByteArray) : Prop := ∀ i, i < s.size → byte s i < 128
theorem get_extract (s : ByteArray) (p : Nat) (h : p < s.size) : (s.extract p s.size).get! 0 = s.get! p := by
  rw [Utf8W.get!_of_lt s p h, Utf8W.get!_of_lt (s.extract p s.size) 0 (by rw [ByteArray.size_extract]; omega)]
  simp [ByteArray.getElem_extract]
theorem decode_ascii {s : ByteArray} (h1 : 1 ≤ s.size) (h : byte s 0 < 128) : decodeGo s = (byte s 0, 1) := by
  unfold decodeGo
  rw [if_neg (by omega), decode_at]
  have h' : (s.get! 0).toNat < 128 := h
  unfold decodeN
  rw [if_pos h']
  rfl
/-- The kind of each of the first 128 characters. -/
def kindB (l : List (Int × Int × Nat)) (c : Nat) : Nat := match l.find? fun o => decide (o.1 ≤ (c : Int)) && decide ((c : Int) ≤ o.2.1) with
  | some o => o.2.2
  | none => 6
def kindsB (l : List (Int × Int × Nat)) (kf : Nat → Nat) : Bool := (List.range 128).all fun c => (l.all fun o => !(decide (o.1 ≤ (c : Int)) && decide ((c : Int) ≤ o.2.1)) || o.2.2 == kf c) && (l.any (fun o => decide (o.1 ≤ (c : Int)) && decide ((c : Int) ≤ o.2.1)) || kf c == 6)
theorem kinds_is {L l : List (Int × Int × Nat)} {kf : Nat → Nat} (hp : L.Perm l) (h : kindsB l kf = true) {c : Nat} (hc : c < 128) {k : Nat} (hk : KindOf L (c : Int) k) : k = kf c := by
  unfold kindsB at h
  simp only [List.all_eq_true, List.mem_range, Bool.and_eq_true] at h
  obtain ⟨h1, h2⟩ := h c hc
  rcases hk with ⟨o, ho, a, b, e⟩ | ⟨hn, e⟩
  · have h3 := h1 o (hp.mem_iff.1 ho)
    rw [decide_eq_true a, decide_eq_true b] at h3
    simp at h3
    rw [← e, h3]
  · have h4 : (l.any fun o => decide (o.1 ≤ (c : Int)) && decide ((c : Int) ≤ o.2.1)) = false := by
      rw [List.any_eq_false]
      intro o ho
      have := hn o (hp.mem_iff.2 ho)
      simp only [Bool.and_eq_true, decide_eq_true_eq]
      exact this
    rw [h4] at h2
    simp at h2
    rw [e, h2]
theorem chars_ascii {L l : List (Int × Int × Nat)} {kf : Nat → Nat} (hp : L.Perm l) (h : kindsB l kf = true) {s : ByteArray} (hs : Ascii s) {p : Nat} {ks ns : List Nat} (hc : CharsTo L s p ks ns) : ks = (List.range p).map (fun i => kf (byte s i)) ∧ ns = List.replicate p 1 := by
  induction hc with
  | nil => exact ⟨rfl, rfl⟩
  | @snoc p ks ns k n hc hp2 hch ih =>
    have hb : byte (s.extract p s.size) 0 = byte s p := by unfold byte; rw [get_extract s p hp2]
    have hlt := hs p hp2
    have hd : decodeGo (s.extract p s.size) = (byte s p, 1) := by rw [decode_ascii (by rw [ByteArray.size_extract]; omega) (by rw [hb]; exact hlt), hb]
    unfold CharIs at hch
    rw [hd] at hch
    rcases hch with ⟨e, _⟩ | ⟨_, rfl, hk⟩
    · simp only at e; omega
    · have e := kinds_is hp h hlt hk
      refine ⟨?_, ?_⟩
      · show _ = (List.range (p + 1)).map _
        rw [ih.1, List.range_succ, List.map_append, e]; rfl
      · show _ = List.replicate (p + 1) 1
        rw [ih.2, List.replicate_succ']
/-- What is cut of a text of one byte a character, told by two bytes. -/
def cutB2 (f : Nat → Nat → Bool) (s : ByteArray) (i : Nat) : Bool := if i + 1 < s.size then f (byte s i) (byte s (i + 1)) else true
theorem told_ascii {T s : ByteArray} {L : List (Int × Int × Nat)} {told : List ByteArray} {kf : Nat → Nat} (hp : L.Perm (read1 T).l) (hkb : kindsB (read1 T).l kf = true) (hs : Ascii s) (h : CutTold T s L told) (f : Nat → Nat → Bool)
    (hf : ∀ J : List PR, PJOk (read2 T).2 J → ∀ (ks : List Nat) (i a b : Nat), (∀ k ∈ ks, ∃ c, c < 128 ∧ k = kf c) → ks[i]? = some a → ks[i + 1]? = some b → (cutsOf J ks)[i + 1]? = some (f a b)) :
    told = (segA s (cutB2 (fun x y => f (kf x) (kf y)) s) s.size).2 := by
  obtain ⟨J, ks, ns, hj, hc, rfl⟩ := h
  obtain ⟨rfl, rfl⟩ := chars_ascii hp hkb hs hc
  rw [List.length_replicate, seg_ones s (c := cutB2 (fun x y => f (kf x) (kf y)) s) (n := s.size) ?_ s.size (Nat.le_refl _)]
  intro i hi
  have hat : ∀ j, j < s.size → ((List.range s.size).map fun i => kf (byte s i))[j]? = some (kf (byte s j)) := fun j hj => told_at (fun _ => true) hj |> fun _ => by rw [List.getElem?_map, List.getElem?_range hj]; rfl
  unfold cutB2
  by_cases e : i + 1 < s.size
  · rw [if_pos e]
    refine hf J hj _ i _ _ (fun k hk => ?_) (hat i hi) (hat (i + 1) e)
    obtain ⟨j, hj, rfl⟩ := List.mem_map.1 hk
    exact ⟨_, hs j (List.mem_range.1 hj), rfl⟩
  · rw [if_neg e]
    have := cutsOf_end J ((List.range s.size).map fun i => kf (byte s i))
    rw [List.length_map, List.length_range] at this
    rw [show i + 1 = s.size from by omega]
    exact this
end Go.Proofs.YtodagkkjfipbgaaGreatDoor
/- The rules of Known: what they tell of a text of one byte a character. -/
namespace Go.Proofs.YtodagkkjfipbgaaGreatDoor
open Go.RowKit Go.Maps Go.Lib

abbrev kTa0 : ByteArray := ⟨#[99, 108, 97, 115, 115, 32, 82, 32, 61, 32, 68, 59, 99, 108, 97, 115, 115, 32, 78, 32, 61, 65, 59, 32, 106, 111, 105, 110, 32, 82, 32, 124, 32, 78, 59, 32, 99, 117, 116, 32, 82, 32, 47, 32, 78, 124, 32, 59, 32, 106, 111, 105, 110, 32, 124, 32, 59]⟩
abbrev kTb0 : ByteArray := ⟨#[99, 108, 97, 115, 115, 32, 68, 61, 51, 48, 45, 51, 57, 59, 99, 108, 97, 115, 115, 32, 76, 61, 54, 49, 45, 55, 97, 59, 106, 111, 105, 110, 32, 76, 47, 68, 124, 76, 47, 68, 59]⟩
abbrev kTc0 : ByteArray := ⟨#[99, 108, 97, 115, 115, 32, 87, 32, 61, 32, 54, 49, 45, 54, 68, 32, 44, 32, 51, 48, 45, 51, 57, 32, 59, 32, 99, 108, 97, 115, 115, 32, 86, 32, 61, 32, 54, 69, 45, 55, 65, 59, 99, 117, 116, 32, 98, 97, 100, 32, 97, 110, 121, 42, 32, 98, 97, 100, 32, 124, 32, 98, 97, 100, 43, 32, 111, 116, 104, 101, 114, 32, 59, 32, 106, 111, 105, 110, 32, 40, 87, 47, 86, 41, 43, 32, 124, 32, 40, 87, 32, 47, 32, 86, 41, 32, 97, 110, 121, 42, 32, 59, 32, 99, 117, 116, 32, 87, 32, 86, 32, 124, 32, 87, 59, 32, 99, 117, 116, 32, 97, 110, 121, 32, 124, 32, 97, 110, 121, 59]⟩
abbrev kTa1 : ByteArray := ⟨#[99, 108, 97, 115, 115, 32, 82, 32, 61, 32, 68, 59, 32, 10, 32, 99, 108, 97, 115, 115, 32, 78, 32, 61, 32, 10, 32, 65, 59, 32, 106, 111, 105, 110, 32, 82, 32, 124, 32, 78, 59, 32, 99, 117, 116, 32, 82, 32, 47, 32, 78, 32, 10, 32, 124, 32, 59, 32, 106, 111, 105, 110, 32, 124, 32, 59]⟩
abbrev kTb1 : ByteArray := ⟨#[99, 108, 97, 115, 115, 32, 68, 61, 51, 48, 45, 51, 57, 59, 99, 108, 97, 115, 115, 32, 76, 61, 54, 49, 45, 55, 97, 59, 106, 111, 105, 110, 32, 76, 47, 68, 124, 76, 47, 68, 32, 10, 32, 59]⟩
abbrev kTc1 : ByteArray := ⟨#[99, 108, 97, 115, 115, 32, 87, 32, 61, 32, 54, 49, 45, 54, 68, 32, 44, 32, 51, 48, 45, 51, 57, 32, 59, 32, 99, 108, 97, 115, 115, 32, 86, 32, 61, 32, 54, 69, 45, 55, 65, 59, 32, 10, 32, 99, 117, 116, 32, 98, 97, 100, 32, 97, 110, 121, 42, 32, 98, 97, 100, 32, 124, 32, 98, 97, 100, 43, 32, 111, 116, 104, 101, 114, 32, 59, 32, 106, 111, 105, 110, 32, 40, 87, 47, 86, 41, 43, 32, 124, 32, 40, 87, 32, 47, 32, 86, 41, 32, 97, 110, 121, 42, 32, 59, 32, 99, 117, 116, 32, 87, 32, 86, 32, 124, 32, 87, 59, 32, 99, 117, 116, 32, 97, 110, 121, 32, 124, 32, 97, 110, 121, 59]⟩
abbrev kTd : ByteArray := ⟨#[106, 111, 105, 110, 32, 97, 110, 121, 124, 97, 110, 121, 59]⟩
def kfA (c : Nat) : Nat := if c = 13 then 0 else if c = 10 then 1 else 6
def kfB (c : Nat) : Nat := if 48 ≤ c ∧ c ≤ 57 then 0 else if 97 ≤ c ∧ c ≤ 122 then 1 else 6
def kfC (c : Nat) : Nat := if 48 ≤ c ∧ c ≤ 57 ∨ 97 ≤ c ∧ c ≤ 109 then 0 else if 110 ≤ c ∧ c ≤ 122 then 1 else 6
def yes (_ : Nat) : Bool := true
def no (_ : Nat) : Bool := false
def two (k : Nat) : Bool := k == 0 || k == 1
def KsA : List Nat := [0, 1, 6]
/-- What is asked of a text's rules. -/
def rulesB (T : ByteArray) (want : List (Bool × Option ((Nat → Bool) × (Nat → Bool)))) : Bool :=
  (read2 T).2.length == want.length && ((read2 T).2.zip want).all fun x => x.1.cut == x.2.1 && match x.2.2 with
    | some p => plainB KsA x.1 p.1 p.2
    | none => true
/-- What the rules say of a place, of these two kinds. -/
def saysB (a b : Nat) : List (Bool × Option ((Nat → Bool) × (Nat → Bool))) → Bool
  | [] => true
  | (c, some p) :: r => if p.1 a && p.2 b then c else saysB a b r
  | (_, none) :: r => saysB a b r
/-- Rules of which nothing is known cut, and stand ahead of no rule that joins. -/
def fineB : List (Bool × Option ((Nat → Bool) × (Nat → Bool))) → Bool
  | [] => true
  | (_, some _) :: r => fineB r
  | (c, none) :: r => c && r.all (·.1)
theorem says_cut (a b : Nat) : ∀ want : List (Bool × Option ((Nat → Bool) × (Nat → Bool))), want.all (·.1) = true → saysB a b want = true := by
  intro want
  induction want with
  | nil => intro _; rfl
  | cons x r ih =>
    intro h
    obtain ⟨c, o⟩ := x
    simp only [List.all_cons, Bool.and_eq_true] at h
    cases o with
    | none => exact ih h.2
    | some p =>
      unfold saysB
      rw [h.1, ih h.2]
      split <;> rfl
theorem cuts_says : ∀ (want : List (Bool × Option ((Nat → Bool) × (Nat → Bool)))) (Ls : List RuleM) (J : List PR), fineB want = true → Ls.length = want.length → (∀ x ∈ Ls.zip want, (x.1.cut == x.2.1 && match x.2.2 with
    | some p => plainB KsA x.1 p.1 p.2
    | none => true) = true) → PJOk Ls J → ∀ (ks : List Nat) (i a b : Nat), (∀ k ∈ ks, k ∈ KsA ∧ k < 8) → ks[i]? = some a → ks[i + 1]? = some b → (cutsOf J ks)[i + 1]? = some (saysB a b want) := by
  intro want
  induction want with
  | nil =>
    intro Ls J _ hl _ hJ ks i a b hk ha hb
    have hl0 : Ls = [] := List.eq_nil_of_length_eq_zero hl
    subst hl0
    have hj0 : J = [] := List.eq_nil_of_length_eq_zero hJ.1
    subst hj0
    have := (List.getElem?_eq_some_iff.1 hb).1
    show (List.replicate (ks.length + 1) true)[i + 1]? = _
    rw [List.getElem?_replicate, if_pos (by omega)]
    rfl
  | cons x want ih =>
    intro Ls J hf hl hz hJ ks i a b hk ha hb
    cases Ls with
    | nil => simp at hl
    | cons R Ls =>
      obtain ⟨hj1, hj2⟩ := hJ
      cases J with
      | nil => simp at hj1
      | cons r J =>
        obtain ⟨c, o⟩ := x
        have hr := hj2 0 R r rfl rfl
        have hz0 := hz (R, (c, o)) (by simp)
        simp only [Bool.and_eq_true] at hz0
        have hc : R.cut = c := eq_of_beq hz0.1
        have hJ' : PJOk Ls J := ⟨by simpa using hj1, fun i L r h1 h2 => hj2 (i + 1) L r (by simpa using h1) (by simpa using h2)⟩
        have hz' := fun y hy => hz y (by rw [List.zip_cons_cons]; exact List.mem_cons_of_mem _ hy)
        have hl' : Ls.length = want.length := by simpa using hl
        cases o with
        | some p =>
          have h := ih Ls J hf hl' hz' hJ' ks i a b hk ha hb
          show (ruleSays ks r (cutsOf J ks))[i + 1]? = _
          rw [plain_says hz0.2 hr hk ha hb, h, Option.map_some, hc]
          rfl
        | none =>
          unfold fineB at hf
          rw [Bool.and_eq_true] at hf
          have hf' : fineB want = true := by
            have h := hf.2
            clear hl hz hz' hl' hf ih
            induction want with
            | nil => rfl
            | cons y want ih2 =>
              obtain ⟨d, q⟩ := y
              simp only [List.all_cons, Bool.and_eq_true] at h
              cases q with
              | none => unfold fineB; rw [h.1, h.2]; rfl
              | some q => exact ih2 h.2
          have h := ih Ls J hf' hl' hz' hJ' ks i a b hk ha hb
          rw [says_cut a b want hf.2] at h
          show (ruleSays ks r (cutsOf J ks))[i + 1]? = _
          rw [cut_says (by rw [hr.1, hc, hf.1]) h]
          show some true = some (saysB a b want)
          rw [says_cut a b want hf.2]
theorem told_rules {T s : ByteArray} {L : List (Int × Int × Nat)} {told : List ByteArray} {kf : Nat → Nat} {want : List (Bool × Option ((Nat → Bool) × (Nat → Bool)))} (hp : L.Perm (read1 T).l) (hkb : kindsB (read1 T).l kf = true) (hkf : ∀ c, kf c ∈ KsA ∧ kf c < 8) (hr : rulesB T want = true) (hfine : fineB want = true) (hs : Ascii s) (h : CutTold T s L told) :
    told = (segA s (cutB2 (fun x y => saysB (kf x) (kf y) want) s) s.size).2 := by
  unfold rulesB at hr
  simp only [Bool.and_eq_true, List.all_eq_true] at hr
  refine told_ascii hp hkb hs h (fun a b => saysB a b want) fun J hJ ks i a b hk ha hb => ?_
  refine cuts_says want (read2 T).2 J hfine (eq_of_beq hr.1) (fun x hx => ?_) hJ ks i a b (fun k hk' => ?_) ha hb
  · have := hr.2 x hx
    rw [Bool.and_eq_true]
    exact this
  · obtain ⟨c, _, rfl⟩ := hk k hk'
    exact hkf c
def wantA : List (Bool × Option ((Nat → Bool) × (Nat → Bool))) := [(false, some ((· == 0), (· == 1))), (true, some (two, yes)), (false, some (yes, yes))]
def wantB : List (Bool × Option ((Nat → Bool) × (Nat → Bool))) := [(false, some (two, two))]
def wantC : List (Bool × Option ((Nat → Bool) × (Nat → Bool))) := [(true, some (no, no)), (false, some (two, two)), (true, none), (true, none)]
def wantD : List (Bool × Option ((Nat → Bool) × (Nat → Bool))) := [(false, some (yes, yes))]
theorem kTa0_read : (RS.read kTa0).err = 0 := by kernel_rfl
theorem kTa0_kinds : kindsB (read1 kTa0).l kfA = true := by kernel_rfl
theorem kTa0_rules : rulesB kTa0 wantA = true := by kernel_rfl
theorem kTa1_read : (RS.read kTa1).err = 0 := by kernel_rfl
theorem kTa1_kinds : kindsB (read1 kTa1).l kfA = true := by kernel_rfl
theorem kTa1_rules : rulesB kTa1 wantA = true := by kernel_rfl
theorem kTb0_read : (RS.read kTb0).err = 0 := by kernel_rfl
theorem kTb0_kinds : kindsB (read1 kTb0).l kfB = true := by kernel_rfl
theorem kTb0_rules : rulesB kTb0 wantB = true := by kernel_rfl
theorem kTb1_read : (RS.read kTb1).err = 0 := by kernel_rfl
theorem kTb1_kinds : kindsB (read1 kTb1).l kfB = true := by kernel_rfl
theorem kTb1_rules : rulesB kTb1 wantB = true := by kernel_rfl
theorem kTc0_read : (RS.read kTc0).err = 0 := by kernel_rfl
theorem kTc0_kinds : kindsB (read1 kTc0).l kfC = true := by kernel_rfl
theorem kTc0_rules : rulesB kTc0 wantC = true := by kernel_rfl
theorem kTc1_read : (RS.read kTc1).err = 0 := by kernel_rfl
theorem kTc1_kinds : kindsB (read1 kTc1).l kfC = true := by kernel_rfl
theorem kTc1_rules : rulesB kTc1 wantC = true := by kernel_rfl
theorem kTd_read : (RS.read kTd).err = 0 := by kernel_rfl
theorem kTd_kinds : kindsB (read1 kTd).l (fun _ => 6) = true := by kernel_rfl
theorem kTd_rules : rulesB kTd wantD = true := by kernel_rfl
theorem kfA_in (c : Nat) : kfA c ∈ KsA ∧ kfA c < 8 := by
  unfold kfA KsA
  split
  · simp
  · split <;> simp
theorem kfB_in (c : Nat) : kfB c ∈ KsA ∧ kfB c < 8 := by
  unfold kfB KsA
  split
  · simp
  · split <;> simp
theorem kfC_in (c : Nat) : kfC c ∈ KsA ∧ kfC c < 8 := by
  unfold kfC KsA
  split
  · simp
  · split <;> simp
theorem kfB_two (c : Nat) : two (kfB c) = isW c := by
  unfold kfB two isW
  by_cases h1 : 48 ≤ c ∧ c ≤ 57
  · rw [if_pos h1]; simp [h1.1, h1.2]
  · rw [if_neg h1]
    by_cases h2 : 97 ≤ c ∧ c ≤ 122
    · rw [if_pos h2]; simp [h2.1, h2.2]
    · rw [if_neg h2]
      simp
      omega
theorem kfC_two (c : Nat) : two (kfC c) = isW c := by
  unfold kfC two isW
  by_cases h1 : 48 ≤ c ∧ c ≤ 57 ∨ 97 ≤ c ∧ c ≤ 109
  · rw [if_pos h1]; simp; omega
  · rw [if_neg h1]
    by_cases h2 : 110 ≤ c ∧ c ≤ 122
    · rw [if_pos h2]; simp; omega
    · rw [if_neg h2]
      simp
      omega
theorem says_runs (kf : Nat → Nat) (hkf : ∀ c, two (kf c) = isW c) (x y : Nat) : saysB (kf x) (kf y) wantB = !(isW y && isW x) := by
  show (if two (kf x) && two (kf y) then false else true) = _
  rw [hkf, hkf]
  cases isW x <;> cases isW y <;> rfl
theorem says_runsC (kf : Nat → Nat) (hkf : ∀ c, two (kf c) = isW c) (x y : Nat) : saysB (kf x) (kf y) wantC = !(isW y && isW x) := by
  show (if (false && false) = true then true else if two (kf x) && two (kf y) then false else true) = _
  rw [hkf, hkf]
  cases isW x <;> cases isW y <;> rfl
theorem says_lines (x y : Nat) : saysB (kfA x) (kfA y) wantA = (x == 10 || x == 13 && y != 10) := by
  show (if (kfA x == 0 && kfA y == 1) = true then false else if (two (kfA x) && true) = true then true else if (true && true) = true then false else true) = _
  unfold kfA two
  by_cases h1 : x = 13
  · subst h1
    by_cases h2 : y = 13
    · subst h2; rfl
    · by_cases h3 : y = 10
      · subst h3; rfl
      · simp [h2, h3]
  · by_cases h4 : x = 10
    · subst h4; simp
    · simp [h1, h4]
theorem told_lines {T s : ByteArray} {L : List (Int × Int × Nat)} {told : List ByteArray} (hp : L.Perm (read1 T).l) (hk : kindsB (read1 T).l kfA = true) (hr : rulesB T wantA = true) (hs : Ascii s) (h : CutTold T s L told) : told = linesP s := by
  rw [told_rules hp hk kfA_in hr rfl hs h]
  refine lines_told s (fun i hi => ?_) (fun i hi => ?_)
  · unfold cutB2 lineAt
    rw [if_pos hi]
    show saysB (kfA (byte s i)) (kfA (byte s (i + 1))) wantA = _
    rw [says_lines]
    rw [show (i + 1 == s.size) = false from by simp; omega]
    rfl
  · unfold cutB2
    rw [if_neg (by omega)]
theorem told_runsB {T s : ByteArray} {L : List (Int × Int × Nat)} {told : List ByteArray} (hp : L.Perm (read1 T).l) (hk : kindsB (read1 T).l kfB = true) (hr : rulesB T wantB = true) (hs : Ascii s) (h : CutTold T s L told) : told = runsTo s s.size := by
  rw [told_rules hp hk kfB_in hr rfl hs h]
  refine runs_told s (fun i hi => ?_) (fun i hi => ?_)
  · unfold cutB2 partAt
    rw [if_pos hi]
    exact says_runs kfB kfB_two _ _
  · unfold cutB2
    rw [if_neg (by omega)]
theorem told_runsC {T s : ByteArray} {L : List (Int × Int × Nat)} {told : List ByteArray} (hp : L.Perm (read1 T).l) (hk : kindsB (read1 T).l kfC = true) (hr : rulesB T wantC = true) (hs : Ascii s) (h : CutTold T s L told) : told = runsTo s s.size := by
  rw [told_rules hp hk kfC_in hr rfl hs h]
  refine runs_told s (fun i hi => ?_) (fun i hi => ?_)
  · unfold cutB2 partAt
    rw [if_pos hi]
    exact says_runsC kfC kfC_two _ _
  · unfold cutB2
    rw [if_neg (by omega)]
theorem segA_none (s : ByteArray) (c : Nat → Bool) : ∀ i, (∀ j, j < i → c j = false) → segA s c i = (0, []) := by
  intro i
  induction i with
  | zero => intro _; rfl
  | succ i ih => intro h; rw [segA, h i (by omega), if_neg (by simp), ih fun j hj => h j (by omega)]
theorem told_one {s : ByteArray} {L : List (Int × Int × Nat)} {told : List ByteArray} (hp : L.Perm (read1 kTd).l) (hs : Ascii s) (h : CutTold kTd s L told) : told = if s.size = 0 then [] else [s] := by
  rw [told_rules hp kTd_kinds (fun _ => by unfold KsA; simp) kTd_rules rfl hs h]
  cases hn : s.size with
  | zero => rfl
  | succ m =>
    rw [segA, segA_none s _ m fun j hj => by unfold cutB2; rw [if_pos (by omega)]; rfl]
    rw [show cutB2 (fun x y => saysB ((fun _ => 6) x) ((fun _ => 6) y) wantD) s m = true from by unfold cutB2; rw [if_neg (by omega)], if_pos rfl, if_neg (by omega)]
    show [s.extract 0 (m + 1)] = _
    rw [← hn, extract_all]
end Go.Proofs.YtodagkkjfipbgaaGreatDoor
/- The keep's ascii. -/
namespace Go.Proofs.YtodagkkjfipbgaaGreatDoor
open Go.RowKit Go.Maps

def asciiP (s : ByteArray) : ByteArray := ⟨s.data.map (· &&& 127)⟩
theorem asciiP_size (s : ByteArray) : (asciiP s).size = s.size := by show (s.data.map _).size = s.data.size; simp
theorem cell_of_mark {w : World} {b : Nat} {cs : Array Value} {t : TypeId} {m : Nat × Nat} (h : w.heap[b]? = some (.cells cs t m)) (o : Nat) (v : Value) (hv : cs[o]? = some v) : w.cell? ⟨b, o, none⟩ = some v := by
  simp [World.cell?, h, hv]
theorem free_of_mark {w : World} {b : Nat} {cs : Array Value} {t : TypeId} {m n : Nat} (h : w.heap[b]? = some (.cells cs t (m, n))) (o : Nat) (ho : o < m) : w.frozen? ⟨b, o, none⟩ = false := by
  simp [World.frozen?, h]
  omega
theorem mark_setCell {w : World} {b : Nat} {cs : Array Value} {t : TypeId} {m : Nat × Nat} (h : w.heap[b]? = some (.cells cs t m)) (o : Nat) (u : Value) :
    (w.setCell ⟨b, o, none⟩ u).heap[b]? = some (.cells (cs.setIfInBounds o u) t m) := by
  simp [World.setCell, Array.getElem?_modify, h]
theorem alloc_mark (w : World) (o : Obj) : (w.drew.alloc o).heap[w.heap.size]? = some o := by
  show (w.heap.push o)[w.heap.size]? = _
  simp
/-- The bytes of which the first i have been masked. -/
def half (s : ByteArray) (i j : Nat) : Nat := if j < i then (s.get! j).toNat % 128 else (s.get! j).toNat
structure HalfIn (w0 w : World) (s : ByteArray) (i m : Nat) : Prop where
  blk : ∃ C, w.heap[w0.heap.size]? = some (.cells C 5 (m, m + 1)) ∧ ∀ j, j < s.size → C[j]? = some (.int .u8 (half s i j : Nat))
  fits : s.size ≤ m
  bel : Below w0.heap.size w0 w
theorem HalfIn.next {w0 w : World} {s : ByteArray} {i m : Nat} (h : HalfIn w0 w s i m) (hi : i < s.size) : HalfIn w0 (w.setCell ⟨w0.heap.size, i, none⟩ (.int .u8 ((s.get! i).toNat % 128 : Nat))) s (i + 1) m := by
  obtain ⟨⟨C, h1, h2⟩, h3, h4⟩ := h
  refine ⟨⟨_, mark_setCell h1 i _, fun j hj => ?_⟩, h3, h4.setCell (Nat.le_refl _) _⟩
  have hiC : i < C.size := by
    rcases Nat.lt_or_ge i C.size with h | h
    · exact h
    · have := h2 i hi; rw [Array.getElem?_eq_none h] at this; cases this
  rw [Array.getElem?_setIfInBounds]
  by_cases e : i = j
  · subst e
    rw [if_pos rfl, if_pos hiC]
    unfold half
    rw [if_pos (by omega)]
  · rw [if_neg e, h2 j hj]
    unfold half
    by_cases e2 : j < i
    · rw [if_pos e2, if_pos (by omega)]
    · rw [if_neg e2, if_neg (by omega)]
theorem HalfIn.cell {w0 w : World} {s : ByteArray} {i m : Nat} (h : HalfIn w0 w s i m) {j : Nat} (hj : j < s.size) : w.cell? ⟨w0.heap.size, j, none⟩ = some (.int .u8 (half s i j : Nat)) ∧ w.frozen? ⟨w0.heap.size, j, none⟩ = false := by
  obtain ⟨⟨C, h1, h2⟩, h3, h4⟩ := h
  exact ⟨cell_of_mark h1 j _ (h2 j hj), free_of_mark h1 j (by omega)⟩
theorem get_data (s : ByteArray) (j : Nat) (hj : j < s.size) : s.get! j = s.data[j]'hj := by
  have : s.get! j = s.data[j]! := rfl
  rw [this, getElem!_pos s.data j hj]

theorem and127_all : ((List.range 256).all fun b => bits BinOp.and IntKind.u8 (b : Int) 127 == ((b % 128 : Nat) : Int)) = true := by kernel_rfl
theorem and127 {b : Nat} (h : b < 256) : bits BinOp.and IntKind.u8 (b : Int) 127 = ((b % 128 : Nat) : Int) := by
  have := and127_all
  rw [List.all_eq_true] at this
  exact eq_of_beq (this b (List.mem_range.2 h))

set_option maxRecDepth 100000 in
set_option maxHeartbeats 2000000 in
theorem ascii_any (s : ByteArray) (w : World) (hs : s.size ≤ 1500000) :
    Calls Tryz.prog 26 #[.string s] w fun r w' => r = .returned (.string (asciiP s)) ∧ Below w.heap.size w w' := by
  have kc := fun (W : World) (x : ByteArray) => run_bytes_of_string (P := Tryz.prog) W 9 63 5 x Tryz.underlying9 Tryz.underlying63 Tryz.underlying5
  obtain ⟨m, hm⟩ : ∃ m, m = (bytesRow s (grownCap w s.size 0 5)).size := ⟨_, rfl⟩
  have H0 : Hid (HalfIn w (w.drew.alloc (.cells (bytesRow s (grownCap w s.size 0 5)) 5 (m, m + 1))) s 0 m) := by
    refine ⟨⟨_, alloc_mark w _, fun j hj => ?_⟩, ?_, ?_⟩
    · rw [bytesRow_at s _ j hj]
      unfold half
      rw [if_neg (by omega), get_data s j hj]
    · rw [hm]
      unfold bytesRow
      simp
    · exact ((Below.refl _ _).drew).alloc (Nat.le_refl _) _
  go_enter Tryz.func26, Tryz.ntmps26
  go_wp2_with fail
  generalize grownCap w s.size 0 5 = cap at *
  go_loopg [4] s.size (fun gh iv wx => ∃ i : Nat, i ≤ s.size ∧ gh = s.size - i ∧ iv = .int .i64 i ∧ Hid (HalfIn w wx s i m))
  case atStart => exact ⟨0, Nat.zero_le _, rfl, rfl, by rw [← hm]; exact H0⟩
  case round =>
    obtain ⟨i, hi, rfl, rfl, hH⟩ := hrel
    obtain ⟨w1, hw1⟩ : ∃ w1, w1 = wr := ⟨wr, rfl⟩
    subst hw1
    by_cases hlt : i < s.size
    · obtain ⟨hc, hfr⟩ := hH.out.cell hlt
      have NX : Hid (HalfIn w (w1.setCell ⟨w.heap.size, i, none⟩ (.int .u8 ((s.get! i).toNat % 128 : Nat))) s (i + 1) m) := hH.out.next hlt
      rw [show half s i i = (s.get! i).toNat from by unfold half; rw [if_neg (by omega)]] at hc
      have hb := (s.get! i).toNat_lt
      generalize (s.get! i).toNat = b at hc NX hb
      go_wp2_with fail
      go_roundg (s.size - (i + 1))
      case measure => omega
      case rel =>
        refine ⟨i + 1, by omega, rfl, by go_num, ?_⟩
        rw [and127 hb]
        exact NX
    · obtain rfl : i = s.size := by omega
      have kb := run_convert_bytes_back (P := Tryz.prog) w1 63 9 5 ⟨w.heap.size, 0, none⟩ cap (asciiP s).data.toList Tryz.underlying63 Tryz.underlying5 Tryz.underlying9 fun j hj => by
        have hj' : j < s.size := by simpa [asciiP] using hj
        have h1 := (hH.out.cell hj').1
        rw [show (⟨w.heap.size, 0, none⟩ : Addr).add j = ⟨w.heap.size, j, none⟩ from by unfold Addr.add; split <;> simp_all, h1]
        unfold half
        rw [if_pos hj', get_data s j hj']
        simp [asciiP]
        rw [show s.data[j].toNat &&& 127 = s.data[j].toNat % 128 from Nat.and_two_pow_sub_one_eq_mod _ 7]
        simp
      have hl : (asciiP s).data.toList.length = s.size := by simp [asciiP]
      rw [hl] at kb
      go_wp2_with fail
      go_ret
      exact ⟨by simp, hH.out.bel⟩
end Go.Proofs.YtodagkkjfipbgaaGreatDoor
