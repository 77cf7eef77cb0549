import Derived.Test.YtodagkkjfipbgaaGreatDoorT31lone
namespace Go.Proofs.YtodagkkjfipbgaaGreatDoor
open Go.RowKit Go.Maps Go.Lib
theorem BadLen.det {s : ByteArray} {n m : Nat} (h : BadLen s n) (k : BadLen s m) : n = m := by
 have no : ∀ {a b : Nat}, BadLen s a → BadLen s b → a < b → False := fun {a b} ha hb hlt => by
  rcases ha.shut with h1 | h1
  ·have := hb.fits; omega
  ·have := hb.open_ (a + 1) (by have := ha.pos; omega) (by omega)
   rw [h1] at this
   cases this
 rcases Nat.lt_trichotomy n m with h1 | h1 | h1
 ·exact (no h k h1).elim
 ·exact h1
 ·exact (no k h h1).elim
theorem KindOf.det {L : List (Int × Int × Nat)} (hL : InRow L) {c : Int} {k m : Nat} (h : KindOf L c k) (h' : KindOf L c m) : k = m := by
 rcases h with ⟨o, ho, h1, h2, rfl⟩ | ⟨hn, rfl⟩
 ·rcases h' with ⟨u, hu, g1, g2, rfl⟩ | ⟨gn, rfl⟩
  ·obtain ⟨i, hi⟩ := List.mem_iff_getElem?.1 ho
   obtain ⟨j, hj⟩ := List.mem_iff_getElem?.1 hu
   rcases Nat.lt_trichotomy i j with e | e | e
   ·have := hL.2 i j o u e hi hj; omega
   ·subst e; rw [hi] at hj; cases hj; rfl
   ·have := hL.2 j i u o e hj hi; omega
  ·exact absurd ⟨h1, h2⟩ (gn o ho)
 ·rcases h' with ⟨u, hu, g1, g2, rfl⟩ | ⟨gn, rfl⟩
  ·exact absurd ⟨g1, g2⟩ (hn u hu)
  ·rfl
theorem CharIs.det {L : List (Int × Int × Nat)} (hL : InRow L) {s : ByteArray} {k n k' n' : Nat} (h : CharIs L s k n) (h' : CharIs L s k' n') : k = k' ∧ n = n' := by
 rcases h with ⟨a1, a2, rfl, a3⟩ | ⟨a1, rfl, a2⟩
 ·rcases h' with ⟨_, _, rfl, b3⟩ | ⟨b1, _⟩
  ·exact ⟨rfl, a3.det b3⟩
  ·exact absurd ⟨a1, a2⟩ b1
 ·rcases h' with ⟨b1, b2, _⟩ | ⟨_, rfl, b2⟩
  ·exact absurd ⟨b1, b2⟩ a1
  ·exact ⟨a2.det hL b2, rfl⟩
theorem pairs_eq : ∀ {C D : List (Nat × Nat)}, (C.map fun c => c.1) = (D.map fun c => c.1) → (C.map fun c => c.2) = (D.map fun c => c.2) → C = D := by
 intro C
 induction C with
 | nil => intro D h _; cases D with
  | nil => rfl
  | cons d D => simp at h
 | cons c C ih =>
  intro D h1 h2
  cases D with
  | nil => simp at h1
  | cons d D =>
   simp only [List.map_cons, List.cons.injEq] at h1 h2
   rw [ih h1.2 h2.2, Prod.ext h1.1 h2.1]
theorem CharsTo.same {L : List (Int × Int × Nat)} (hL : InRow L) {s : ByteArray} {p : Nat} {ks ns : List Nat} (h : CharsTo L s p ks ns) : ∀ {q : Nat} {ks' ns' : List Nat}, CharsTo L s q ks' ns' → ks.length = ks'.length → p = q ∧ ks = ks' ∧ ns = ns' := by
 induction h with
 | nil =>
  intro q ks' ns' h' hl
  cases h' with
  | nil => exact ⟨rfl, rfl, rfl⟩
  | snoc h2 _ _ => simp at hl
 | @snoc p ks ns k n h hp hc ih =>
  intro q ks' ns' h' hl
  cases h' with
  | nil => simp at hl
  | @snoc p' ks' ns' k' n' h2 hp2 hc2 =>
   obtain ⟨rfl, rfl, rfl⟩ := ih h2 (by simpa using hl)
   obtain ⟨rfl, rfl⟩ := hc.det hL hc2
   exact ⟨rfl, rfl, rfl⟩
theorem CharsTo.cut_to {L : List (Int × Int × Nat)} {s : ByteArray} {p : Nat} {ks ns : List Nat} (h : CharsTo L s p ks ns) : ∀ i, i ≤ ks.length → CharsTo L s ((ns.take i).sum) (ks.take i) (ns.take i) := by
 induction h with
 | nil => intro i _; simp; exact .nil
 | @snoc p ks ns k n h hp hc ih =>
  intro i hi
  have hln : ks.length = ns.length := by
   clear ih hi hc hp
   induction h with
   | nil => rfl
   | snoc _ _ _ ih => simp [ih]
  have hs : ns.sum = p := by
   clear ih hi hc hp hln
   induction h with
   | nil => rfl
   | snoc _ _ _ ih => simp [ih]
  rcases Nat.lt_or_ge ks.length i with h1 | h1
  ·simp at hi
   rw [List.take_of_length_le (by simp; omega), List.take_of_length_le (by simp; omega), List.sum_append, hs]
   simp only [List.sum_cons, List.sum_nil, Nat.add_zero]
   exact .snoc h hp hc
  ·rw [List.take_append_of_le_length (by omega), List.take_append_of_le_length h1]
   exact ih i h1
theorem chars_pre {L : List (Int × Int × Nat)} (hL : InRow L) (hk : ∀ o ∈ L, o.2.2 < 8) {T : ByteArray} {p q : Nat} {C D : List (Nat × Nat)} (h : CharsTo L T p (C.map fun c => c.1) (C.map fun c => c.2)) (k : CharsTo L T q (D.map fun c => c.1) (D.map fun c => c.2)) (hpq : p ≤ q) : ∃ E, D = C ++ E := by
 have o1 := h.ok hk
 have o2 := k.ok hk
 have hl : C.length ≤ D.length := by
  rcases Nat.lt_or_ge D.length C.length with h1 | h1
  ·exfalso
   obtain ⟨e1, e2, e3⟩ := (h.cut_to D.length (by simp; omega)).same hL k (by simp; omega)
   have h2 : (C.map fun c => c.2) = (C.map fun c => c.2).take D.length ++ (C.map fun c => c.2).drop D.length := (List.take_append_drop _ _).symm
   have h3 : ∃ n r, (C.map fun c => c.2).drop D.length = n :: r := by
    cases hd : (C.map fun c => c.2).drop D.length with
    | nil => have := congrArg List.length hd; simp at this; omega
    | cons n r => exact ⟨n, r, rfl⟩
   obtain ⟨n, r, h4⟩ := h3
   have h5 := o1.sum
   rw [h2, List.sum_append, e1, h4, List.sum_cons] at h5
   have h6 := (o1.sizes n (by rw [h2, h4]; simp)).1
   omega
  ·exact h1
 obtain ⟨_, e2, e3⟩ := (k.cut_to C.length (by simp; omega)).same hL h (by simp; omega)
 refine ⟨D.drop C.length, ?_⟩
 have e : D.take C.length = C := pairs_eq (by rw [List.map_take]; exact e2) (by rw [List.map_take]; exact e3)
 conv => lhs; rw [← List.take_append_drop C.length D]
 rw [e]
theorem chars_one {L : List (Int × Int × Nat)} (hL : InRow L) (hk : ∀ o ∈ L, o.2.2 < 8) {T : ByteArray} {p : Nat} {C D : List (Nat × Nat)} (h : CharsTo L T p (C.map fun c => c.1) (C.map fun c => c.2)) (k : CharsTo L T p (D.map fun c => c.1) (D.map fun c => c.2)) : D = C := by
 obtain ⟨E, e⟩ := chars_pre hL hk h k (Nat.le_refl _)
 obtain ⟨F, f⟩ := chars_pre hL hk k h (Nat.le_refl _)
 have := congrArg List.length e
 have h2 := congrArg List.length f
 simp at this h2
 have : E = [] := List.eq_nil_of_length_eq_zero (by omega)
 rw [e, this, List.append_nil]
def FullC (T : ByteArray) (C : List (Nat × Nat)) : Prop := ∀ C' c D, C = C' ++ c :: D → fullS (T.extract (sumC C') T.size) = true
theorem FullC.nil (T : ByteArray) : FullC T [] := fun C' c D h => by simp at h
theorem begins_right (T x : ByteArray) {p : Nat} (hp : p ≤ T.size) : Begins (T.extract p T.size) ((T ++ x).extract p (T ++ x).size) := by
 rw [extract_right T x p hp]
 exact begins_app _ _
theorem FullC.more {T : ByteArray} {C : List (Nat × Nat)} (h : FullC T C) (hC : sumC C ≤ T.size) (x : ByteArray) : FullC (T ++ x) C := fun C' c D e => by
 have : sumC C' ≤ sumC C := by rw [e]; unfold sumC; simp
 exact begins_full (begins_right T x (by omega)) (h C' c D e)
theorem FullC.step {T : ByteArray} {C : List (Nat × Nat)} (h : FullC T C) (c : Nat × Nat) (hf : fullS (T.extract (sumC C) T.size) = true) : FullC T (C ++ [c]) := fun C' d D e => by
 rcases List.eq_nil_or_concat D with rfl | ⟨D', d', rfl⟩
 ·have := List.append_inj' e rfl
  rw [← this.1]
  exact hf
 ·have : C ++ [c] = (C' ++ d :: D') ++ [d'] := by rw [e]; simp
  exact h C' d D' (List.append_inj' this rfl).1
theorem Flows.takes {H : List Hd} {V : List Vw} {L : List (Int × Int × Nat)} (hL : ∀ o ∈ L, o.2.2 < 8) {T : ByteArray} {l0 : List ByteArray} {s s2 : FS} (ht : TakeR H V L s s2) : ∀ C, Flows H V L T C l0 s → FullC T C → ∃ C2, Flows H V L T C2 l0 s2 ∧ fullS s2.rest = false ∧ FullC T C2 := by
 induction ht with
 | stop h => intro C hF hC; exact ⟨C, hF, h, hC⟩
 | step h hc _ ih => intro C hF hC; exact ih _ (hF.step hL h hc) (hC.step _ (by rw [← hF.rest.1]; exact h))
structure Rests (H : List Hd) (V : List Vw) (L : List (Int × Int × Nat)) (T : ByteArray) (C : List (Nat × Nat)) (l : List ByteArray) (s : FS) : Prop where
 fl : Flows H V L T C l s
 told : s.told = []
 shut : fullS s.rest = false
 full : FullC T C
theorem Rests.new (H : List Hd) (V : List Vw) (L : List (Int × Int × Nat)) : Rests H V L ⟨#[]⟩ [] [] FS.new := ⟨Flows.new H V L, rfl, rfl, FullC.nil _⟩
theorem Rests.take {H : List Hd} {V : List Vw} {L : List (Int × Int × Nat)} (hL : ∀ o ∈ L, o.2.2 < 8) {T : ByteArray} {C : List (Nat × Nat)} {l : List ByteArray} {s s2 : FS} (h : Rests H V L T C l s) (x : ByteArray) (ht : TakeR H V L { s with txt := s.txt ++ x } s2) : ∃ C2, Rests H V L (T ++ x) C2 (l ++ s2.told) { s2 with told := [] } := by
 obtain ⟨C2, h1, h2, h3⟩ := Flows.takes hL ht C (h.fl.more x) (h.full.more h.fl.known.1 x)
 exact ⟨C2, h1.aside, rfl, h2, h3⟩
theorem Rests.size {H : List Hd} {V : List Vw} {L : List (Int × Int × Nat)} {T : ByteArray} {C : List (Nat × Nat)} {l : List ByteArray} {s : FS} (h : Rests H V L T C l s) : joinB l ++ s.txt = T ∧ (joinB l).size + s.txt.size = T.size := by
 have h0 : sumA (runC H V C).1 + 0 ≤ T.size := by rw [sumA_run]; exact h.fl.known.1
 have h1 := (tellF_join (runC H V C).1 0 T [] h0).1
 rw [h.fl.hist.tel, h.told, List.append_nil] at h1
 simp only at h1
 have e0 : joinB [] ++ T = T := by
  apply ba_ext
  rw [ByteArray.toList_eq, ByteArray.toList_eq]
  unfold joinB
  simp
 rw [e0] at h1
 exact ⟨h1, by rw [← h1, ByteArray.size_append]⟩
theorem Rests.one {H : List Hd} {V : List Vw} {L : List (Int × Int × Nat)} (hR : InRow L) (hL : ∀ o ∈ L, o.2.2 < 8) {T : ByteArray} {C C2 : List (Nat × Nat)} {l l2 : List ByteArray} {s s2 : FS} (h : Rests H V L T C l s) (k : Rests H V L T C2 l2 s2) : l = l2 := by
 have no : ∀ {C D : List (Nat × Nat)} {l l2 : List ByteArray} {s s2 : FS}, Rests H V L T C l s → Rests H V L T D l2 s2 → sumC C ≤ sumC D → D = C := fun {C D l l2 s s2} h k hle => by
  have c1 := h.fl.known.2 ⟨#[]⟩
  have c2 := k.fl.known.2 ⟨#[]⟩
  rw [app_nil] at c1 c2
  obtain ⟨E, e⟩ := chars_pre hR hL c1 c2 hle
  cases E with
  | nil => rw [e, List.append_nil]
  | cons c E =>
   have := k.full C c E e
   rw [← h.fl.rest.1, h.shut] at this
   cases this
 have e : C = C2 := by
  rcases Nat.le_total (sumC C) (sumC C2) with h1 | h1
  ·exact (no h k h1).symm
  ·exact no k h h1
 subst e
 have t1 := h.fl.hist.tel
 have t2 := k.fl.hist.tel
 rw [h.told, List.append_nil] at t1
 rw [k.told, List.append_nil] at t2
 rw [t1] at t2
 injection t2 with _ t2
 injection t2 with _ t2
 injection t2
structure RulP (Ls : List RuleM) (L : List (Int × Int × Nat)) (ks : List Nat) (H : List Hd) (V : List Vw) : Prop where
 out : ∃ J X K V0 MC MJ, OutS Ls ks J X K H V0 MC MJ ∧ V = setTo V0.length (setF MC MJ) V0
 few : Ls.length ≤ 4
 ok : ∀ x ∈ Ls, RuleOk x
 lt8 : ∀ k ∈ ks, k < 8
 row : InRow L
 kinds : ∀ o ∈ L, o.2.2 < 8
 pos : ∀ (s : ByteArray) (k n : Nat), 1 ≤ s.size → CharIs L s k n → k ∈ ks
theorem chars_in {L : List (Int × Int × Nat)} {ks : List Nat} (hp : ∀ (s : ByteArray) (k n : Nat), 1 ≤ s.size → CharIs L s k n → k ∈ ks) {T : ByteArray} {p : Nat} {ks' ns : List Nat} (h : CharsTo L T p ks' ns) : ∀ k ∈ ks', k ∈ ks := by
 induction h with
 | nil => intro k hk; simp at hk
 | @snoc p ks' ns k n h hp' hc ih =>
  intro c hc'
  rcases List.mem_append.1 hc' with h1 | h1
  ·exact ih c h1
  ·simp at h1
   subst h1
   exact hp _ _ _ (by rw [ByteArray.size_extract]; omega) hc
theorem RulP.stays {Ls : List RuleM} {L : List (Int × Int × Nat)} {ks : List Nat} {H : List Hd} {V : List Vw} (h : RulP Ls L ks H V) : StaysV V ks := by
 obtain ⟨J, X, K, V0, MC, MJ, h1, rfl⟩ := h.out
 exact stays_of h1
theorem RulP.segs {Ls : List RuleM} {L : List (Int × Int × Nat)} {ks : List Nat} {H : List Hd} {V : List Vw} (h : RulP Ls L ks H V) {J' : List PR} (hJ' : PJOk Ls J') {T : ByteArray} {C : List (Nat × Nat)} (hC : CharsTo L T T.size (C.map fun c => c.1) (C.map fun c => c.2)) :
  (tellF ((runC H V C).1.map (endA V)) 0 T []).2.2.2 = (segSt T (C.map fun c => c.2) (cutsOf J' (C.map fun c => c.1)) (C.map fun c => c.2).length).2.2 := by
 have hin := chars_in h.pos hC
 have hok := hC.ok h.kinds
 rw [end_segs H h.stays T C (fun c hc => hin c.1 (List.mem_map.2 ⟨c, hc, rfl⟩)) (by rw [hok.sum]; exact Nat.le_refl _), List.length_map]
 obtain ⟨J, X, K, V0, MC, MJ, h1, rfl⟩ := h.out
 rw [views_cuts h1 h.few h.ok _ _ hJ' hin h.lt8]
 unfold segSt
 rw [List.drop_one, List.tail_cons]
theorem unzip_pairs : ∀ (ks ns : List Nat), ks.length = ns.length → ((ks.zip ns).map fun c => c.1) = ks ∧ ((ks.zip ns).map fun c => c.2) = ns := fun ks ns h => ⟨List.map_fst_zip (by omega), List.map_snd_zip (by omega)⟩
theorem CutTold.pairs {Tr s : ByteArray} {L : List (Int × Int × Nat)} (hk : ∀ o ∈ L, o.2.2 < 8) {told : List ByteArray} (h : CutTold Tr s L told) : ∃ (J : List PR) (C : List (Nat × Nat)), PJOk (read2 Tr).2 J ∧ CharsTo L s s.size (C.map fun c => c.1) (C.map fun c => c.2) ∧ told = (segSt s (C.map fun c => c.2) (cutsOf J (C.map fun c => c.1)) (C.map fun c => c.2).length).2.2 := by
 obtain ⟨J, ks, ns, h1, h2, h3⟩ := h
 obtain ⟨e1, e2⟩ := unzip_pairs ks ns (h2.ok hk).len
 exact ⟨J, ks.zip ns, h1, by rw [e1, e2]; exact h2, by rw [e1, e2]; exact h3⟩
theorem runC_app (H : List Hd) (V : List Vw) (C : List (Nat × Nat)) : ∀ E : List (Nat × Nat), ∃ g R, (∀ (a : AP) c, a.2 = .inr c → g a = a) ∧ (runC H V (C ++ E)).1 = (runC H V C).1.map g ++ R := by
 apply snoc_ind
 ·exact ⟨id, [], fun _ _ _ => rfl, by rw [List.append_nil, List.append_nil, List.map_id]⟩
 ·intro E c ih
  obtain ⟨g, R, h1, h2⟩ := ih
  refine ⟨fun a => mvA V c.1 (g a), R.map (mvA V c.1) ++ [stA V c.2 (stH H (hdN H (runC H V (C ++ E)).2 c.1))], fun a b hb => ?_, ?_⟩
  ·show mvA V c.1 (g a) = a
   rw [h1 a b hb, mvA_fixed V c.1 a b hb]
  ·rw [← List.append_assoc, runC_snoc]
   show (runC H V (C ++ E)).1.map (mvA V c.1) ++ [_] = _
   rw [h2, List.map_append, List.map_map, List.append_assoc]
   rfl
theorem Rests.safe {Tr : ByteArray} {L : List (Int × Int × Nat)} {ks : List Nat} {H : List Hd} {V : List Vw} (hR : RulP (read2 Tr).2 L ks H V) {T : ByteArray} {C : List (Nat × Nat)} {l : List ByteArray} {s : FS} (h : Rests H V L T C l s) {x : ByteArray} {all : List ByteArray} (hc : CutTold Tr (T ++ x) L all) : l <+: all := by
 obtain ⟨J', D, hJ', hD, rfl⟩ := hc.pairs hR.kinds
 obtain ⟨E, rfl⟩ := chars_pre hR.row hR.kinds (h.fl.known.2 x) hD (by rw [ByteArray.size_append]; have := h.fl.known.1; omega)
 rw [← hR.segs hJ' hD]
 obtain ⟨g, R, g1, g2⟩ := runC_app H V C E
 rw [g2, List.map_append, List.map_map]
 have t := h.fl.hist.tel
 rw [h.told, List.append_nil] at t
 have tm := tellF_more (runC H V C).1 0 T x [] (by rw [sumA_run]; exact h.fl.known.1)
 rw [t] at tm
 have h1 := tellF_later (runC H V C).1 (endA V ∘ g) (fun a c ha => by show endA V (g a) = a; rw [g1 a c ha, endA_fixed V a c ha]) (R.map (endA V)) 0 (T ++ x) []
 rw [tm] at h1
 simp only at h1
 rw [← h1]
 have h3 := tellF_acc (s.A.map (endA V ∘ g) ++ R.map (endA V)) s.bg (s.txt ++ x) l []
 rw [List.append_nil] at h3
 rw [h3]
 exact List.prefix_append _ _
theorem Rests.whole {Tr : ByteArray} {L : List (Int × Int × Nat)} {ks : List Nat} {H : List Hd} {V : List Vw} (hR : RulP (read2 Tr).2 L ks H V) {T : ByteArray} {C : List (Nat × Nat)} {l : List ByteArray} {s : FS} (h : Rests H V L T C l s) {all : List ByteArray} (hc : CutTold Tr T L all) : l ++ (endS H V s).told = all := by
 obtain ⟨J', D, hJ', hD, rfl⟩ := hc.pairs hR.kinds
 obtain ⟨C2, hC2, e⟩ := h.fl.end h.shut
 rw [h.told, List.append_nil] at e
 rw [e, ← chars_one hR.row hR.kinds hC2 hD]
 exact hR.segs hJ' hD
def SpanV (o : Int × Int × Nat) : Prop := 0 ≤ o.1 ∧ o.1 ≤ o.2.1 ∧ o.2.1 ≤ 1114111 ∧ (o.2.1 < 55296 ∨ 57343 < o.1)
theorem dig_pos {c : Nat} {d : Int} (h : RS.dig c = some d) : 0 ≤ d := by
 unfold RS.dig at h
 split at h
 ·injection h with h; omega
 ·split at h
  ·injection h with h; omega
  ·split at h
   ·injection h with h; omega
   ·cases h
theorem hexN_pos (l : List UInt8) : 0 ≤ RS.hexN l := by
 unfold RS.hexN
 have key : ∀ (l : List UInt8) (n : Int), 0 ≤ n → 0 ≤ l.foldl (fun n c => match RS.dig c.toNat with | some d => 16 * n + d | none => n) n := by
  intro l
  induction l with
  | nil => intro n h; exact h
  | cons c l ih =>
   intro n h
   rw [List.foldl_cons]
   apply ih
   cases hd : RS.dig c.toNat with
   | none => exact h
   | some d => have := dig_pos hd; show 0 ≤ 16 * n + d; omega
 exact key l 0 (Int.le_refl 0)
theorem hex_range {l : List UInt8} (h : hexErr l = 0) : 0 ≤ RS.hexN l ∧ RS.hexN l ≤ 1114111 := by
 refine ⟨hexN_pos l, ?_⟩
 unfold hexErr at h
 split at h
 ·cases h
 ·split at h
  ·cases h
  ·omega
theorem failAt_f (T : ByteArray) (s : PS) (at_ : Int) : (s.failAt T 5 at_).f ≠ 0 := by
 unfold PS.failAt pf
 simp only
 split
 ·decide
 ·assumption
theorem span_valid {T : ByteArray} {l : List (Int × Int × Nat)} {s : PS} (k : Nat) (h : (s.span T l).f = 0) : SpanV (s.spanX T, s.spanY T, k) := by
 unfold PS.span at h
 split at h
 ·rename_i h9; exact absurd h h9
 ·rename_i h0
  split at h
  ·exact absurd h (failAt_f T _ _)
  ·rename_i hb
   have h0' : (s.spanTo T).f = 0 := Classical.not_not.1 h0
   have hr : (0 ≤ s.spanX T ∧ s.spanX T ≤ 1114111) ∧ (0 ≤ s.spanY T ∧ s.spanY T ≤ 1114111) := by
    unfold PS.spanTo at h0'
    unfold PS.spanX PS.spanY
    by_cases hd : s.dash T = true
    ·rw [if_pos hd] at h0' ⊢
     obtain ⟨h1, h2⟩ := hex_f h0'
     have h3 : (s.hex T).f = 0 := h1
     exact ⟨hex_range (hex_f h3).2, hex_range h2⟩
    ·rw [if_neg hd] at h0' ⊢
     exact ⟨hex_range (hex_f h0').2, hex_range (hex_f h0').2⟩
   unfold RS.badSpan at hb
   simp only [Bool.or_eq_true, Bool.and_eq_true, decide_eq_true_eq, not_or, not_and] at hb
   obtain ⟨⟨b1, b2⟩, _⟩ := hb
   refine ⟨hr.1.1, ?_, hr.2.2, ?_⟩
   ·show s.spanX T ≤ s.spanY T
    omega
   ·show s.spanY T < 55296 ∨ 57343 < s.spanX T
    rcases Int.lt_or_le 57343 (s.spanX T) with h1 | h1
    ·exact Or.inr h1
    ·have := b2 h1; left; omega
theorem spansL_valid (T : ByteArray) (k : Nat) : ∀ (g : Nat) (s : PS) (l : List (Int × Int × Nat)), (PS.spansL T k g s l).1.f = 0 → (∀ o ∈ l, SpanV o) → ∀ o ∈ (PS.spansL T k g s l).2, SpanV o := by
 intro g
 induction g with
 | zero => intro s l _ h; exact h
 | succ g ih =>
  intro s l hf h
  rw [PS.spansL] at hf ⊢
  split
  ·rename_i hc
   rw [if_pos hc] at hf
   refine ih _ _ hf fun o ho => ?_
   rcases List.mem_append.1 ho with h1 | h1
   ·exact h o h1
   ·simp at h1
    subst h1
    exact span_valid k ((stk_spansL T k g _ _).back hf)
  ·exact h
theorem readC_valid (T : ByteArray) : ∀ (g : Nat) (r : RD), r.s.p ≤ T.size → Fz T r.s → (readC T g r).s.f = 0 → (∀ o ∈ r.l, SpanV o) → ∀ o ∈ (readC T g r).l, SpanV o := by
 intro g
 induction g with
 | zero => intro r _ _ _ h; exact h
 | succ g ih =>
  intro r hp hz hf h
  rw [readC] at hf ⊢
  split at hf
  ·rename_i hm
   rw [if_pos hm]
   have hp' := (class_p T r.names r.l r.s hz hp).1
   have hz' := klass_fz T r.names r.l r.s hz hp
   have hc := readC_few T g ⟨r.s.klass T r.names r.l, r.names ++ [nameTok T r.names r.s], (r.s.classB T r.names r.l).2⟩ hp' hz'
   have hk : (r.s.klass T r.names r.l).f = 0 := hc.2.2.1.back hf
   have hb : (r.s.classB T r.names r.l).1.f = 0 := (stk_need T [sgn 59] _).back hk
   refine ih _ hp' hz' hf ?_
   unfold PS.classB at hb ⊢
   refine spansL_valid T _ _ _ _ hb fun o ho => ?_
   rcases List.mem_append.1 ho with h1 | h1
   ·exact h o h1
   ·simp at h1
    subst h1
    exact span_valid _ ((stk_spansL T _ _ _ _).back hb)
  ·rename_i hm; rw [if_neg hm]; exact h
theorem read_valid (T : ByteArray) (h0 : (rdT T).err = 0) : ∀ o ∈ (read1 T).l, SpanV o := by
 obtain ⟨hT, hf, _⟩ := rd_zero h0
 have h2 : (read2 T).1.f = 0 := readEnd_f hf
 have hp : (read0 T).s.p ≤ T.size := (skip_le T 0).2 (Nat.zero_le _)
 have hz : Fz T (read0 T).s := fun e => absurd rfl e
 have h1 := readC_few T (T.size + 1) (read0 T) hp hz
 have hs := readR_stk T (read1 T).names (T.size + 1) (read1 T).s [] h1.2.1 h1.1
 have hf1 := hs.back h2
 exact readC_valid T (T.size + 1) (read0 T) hp hz hf1 (fun o ho => by have : o ∈ ([] : List (Int × Int × Nat)) := ho; simp at this)
def sizesL (L : List (Int × Int × Nat)) : Int := (L.map fun o => o.2.1 - o.1 + 1).sum
def belowN (c x : Int) : Int := x - (if x ≤ 55296 then 0 else if x ≤ 57344 then x - 55296 else 2048) - (if c < x then 1 else 0)
theorem belowN_mono {c x y : Int} (h : x ≤ y) (hc : c < 55296 ∨ 57343 < c) : belowN c x ≤ belowN c y := by
 unfold belowN
 split <;> split <;> split <;> (try split) <;> (try split) <;> (try split) <;> omega
theorem belowN_span {c : Int} {o : Int × Int × Nat} (h : SpanV o) (hc : ¬ (o.1 ≤ c ∧ c ≤ o.2.1)) : belowN c (o.2.1 + 1) = belowN c o.1 + (o.2.1 - o.1 + 1) := by
 obtain ⟨h1, h2, h3, h4⟩ := h
 unfold belowN
 split <;> split <;> split <;> (try split) <;> (try split) <;> (try split) <;> omega
theorem InRow.tail {o : Int × Int × Nat} {L : List (Int × Int × Nat)} (h : InRow (o :: L)) : InRow L ∧ ∀ u ∈ L, o.2.1 < u.1 := by
 refine ⟨⟨fun u hu => h.1 u (List.mem_cons_of_mem _ hu), fun i j a b hij ha hb => h.2 (i + 1) (j + 1) a b (by omega) (by simpa using ha) (by simpa using hb)⟩, fun u hu => ?_⟩
 obtain ⟨j, hj⟩ := List.mem_iff_getElem?.1 hu
 exact h.2 0 (j + 1) o u (by omega) rfl (by simpa using hj)
theorem sizes_few {c : Int} (hc : c < 55296 ∨ 57343 < c) : ∀ (L : List (Int × Int × Nat)) (x : Int), InRow L → (∀ o ∈ L, SpanV o) → (∀ o ∈ L, ¬ (o.1 ≤ c ∧ c ≤ o.2.1)) → (∀ o ∈ L, x ≤ o.1) → x ≤ 1114112 → sizesL L ≤ belowN c 1114112 - belowN c x := by
 intro L
 induction L with
 | nil => intro x _ _ _ _ h; have := belowN_mono (c := c) h hc; show (0 : Int) ≤ _; omega
 | cons o L ih =>
  intro x hr hv hn hx _
  obtain ⟨hr', hlt⟩ := hr.tail
  have h1 := hv o (List.mem_cons_self ..)
  have h2 := ih (o.2.1 + 1) hr' (fun u hu => hv u (List.mem_cons_of_mem _ hu)) (fun u hu => hn u (List.mem_cons_of_mem _ hu)) (fun u hu => by have := hlt u hu; omega) (by have := h1.2.2.1; omega)
  rw [belowN_span h1 (hn o (List.mem_cons_self ..))] at h2
  have h3 := belowN_mono (c := c) (hx o (List.mem_cons_self ..)) hc
  have e : sizesL (o :: L) = (o.2.1 - o.1 + 1) + sizesL L := by unfold sizesL; simp
  omega
theorem sizeP_is {o : Int × Int × Nat} (h : SpanV o) : sizeP o.1 o.2.1 = o.2.1 - o.1 + 1 := by
 obtain ⟨h1, h2, h3, _⟩ := h
 unfold sizeP wrap64 wrap32
 omega
theorem leftN_is : ∀ (L : List (Int × Int × Nat)) (z : Int), (∀ o ∈ L, SpanV o) → z ≤ 1112064 → -1000000000000000 ≤ z - (L.length : Int) * 1114112 → leftN L z = z - sizesL L := by
 intro L
 induction L with
 | nil => intro z _ _ _; show z = z - 0; omega
 | cons o L ih =>
  intro z hv hz hb
  have h1 := hv o (List.mem_cons_self ..)
  have hs := sizeP_is h1
  obtain ⟨g1, g2, g3, _⟩ := h1
  have e0 : leftN (o :: L) z = leftN L (wrap64 (z - sizeP o.1 o.2.1)) := rfl
  have hb' : -1000000000000000 ≤ z - ((L.length : Int) + 1) * 1114112 := by simpa using hb
  have e1 : wrap64 (z - sizeP o.1 o.2.1) = z - (o.2.1 - o.1 + 1) := by
   rw [hs]
   have : (0 : Int) ≤ (L.length : Int) := Int.natCast_nonneg _
   unfold wrap64
   omega
  have e : sizesL (o :: L) = (o.2.1 - o.1 + 1) + sizesL L := by unfold sizesL; simp
  rw [e0, e1, ih _ (fun u hu => hv u (List.mem_cons_of_mem _ hu)) (by omega) (by omega), e]
  omega
theorem decodeN_scalar (n b0 b1 b2 b3 : Nat) : (decodeN n b0 b1 b2 b3).1 < 55296 ∨ (57343 < (decodeN n b0 b1 b2 b3).1 ∧ (decodeN n b0 b1 b2 b3).1 ≤ 1114111) := by
 unfold decodeN
 repeat' split
 all_goals simp only
 all_goals omega
theorem mask_bit (k : Nat) : ∀ (L : List (Int × Int × Nat)) (m : Nat), (m.testBit k = true ∨ ∃ o ∈ L, o.2.2 = k) → (maskN L m).testBit k = true := by
 intro L
 induction L with
 | nil => intro m h; rcases h with h | ⟨o, ho, _⟩
          ·exact h
          ·simp at ho
 | cons o L ih =>
  intro m h
  show (maskN L (m ||| 2 ^ o.2.2)).testBit k = true
  apply ih
  rcases h with h | ⟨u, hu, e⟩
  ·left; rw [Nat.testBit_or, h]; rfl
  ·rcases List.mem_cons.1 hu with rfl | hu
   ·left; rw [Nat.testBit_or, ← e, Nat.testBit_two_pow_self]; simp
   ·exact Or.inr ⟨u, hu, e⟩
theorem poss_of {L : List (Int × Int × Nat)} {k : Nat} (hk : k < 8) (h : (maskN L 128).testBit k = true ∨ (0 < leftN L 1112064 ∧ k = 6)) : k ∈ possOf L := by
 unfold possOf
 rw [List.mem_filter, List.mem_range]
 refine ⟨hk, ?_⟩
 unfold possMask
 rcases h with h | ⟨h1, rfl⟩
 ·split
  ·rw [Nat.testBit_or, h]; rfl
  ·exact h
 ·rw [if_pos h1, Nat.testBit_or, Nat.testBit_two_pow_self]; simp
theorem char_poss {L : List (Int × Int × Nat)} (hr : InRow L) (hv : ∀ o ∈ L, SpanV o) (hk : ∀ o ∈ L, o.2.2 < 8) (hl : L.length ≤ 100000) {s : ByteArray} {k n : Nat} (h1 : 1 ≤ s.size) (h : CharIs L s k n) : k ∈ possOf L := by
 rcases h with ⟨_, _, rfl, _⟩ | ⟨_, _, ⟨o, ho, _, _, rfl⟩ | ⟨hn, rfl⟩⟩
 ·exact poss_of (by omega) (Or.inl (mask_bit 7 L 128 (Or.inl (by decide))))
 ·exact poss_of (hk o ho) (Or.inl (mask_bit _ L 128 (Or.inr ⟨o, ho, rfl⟩)))
 ·refine poss_of (by omega) (Or.inr ⟨?_, rfl⟩)
  have hc : (decodeGo s).1 < 55296 ∨ (57343 < (decodeGo s).1 ∧ (decodeGo s).1 ≤ 1114111) := by rw [decodeGo_is h1]; exact decodeN_scalar ..
  have hf := sizes_few (c := ((decodeGo s).1 : Int)) (by omega) L 0 hr hv hn (fun o ho => (hv o ho).1) (by omega)
  rw [leftN_is L 1112064 hv (by omega) (by omega)]
  have e : belowN ((decodeGo s).1 : Int) 1114112 - belowN ((decodeGo s).1 : Int) 0 = 1112063 := by
   unfold belowN
   rw [if_neg (by omega), if_neg (by omega), if_pos (by omega), if_pos (by omega), if_neg (by omega)]
   omega
  omega
theorem rules_stream {w : World} {g : Nat} {T : ByteArray} {vE vJ vP vH vV : Value} {L : List (Int × Int × Nat)} (hI : RulesIn w g T vE vJ vP vH vV L) (h0 : (rdT T).err = 0) (hV : VarsOk w) : ∃ H V, FEnv w g H V L (possOf L) ∧ RulP (read2 T).2 L (possOf L) H V := by
 obtain ⟨J, X, K, H, V0, MC, MJ, hO, hP, hH, hW⟩ := hI.out
 have hv : ∀ o ∈ L, SpanV o := fun o ho => read_valid T h0 o (hI.perm.mem_iff.1 ho)
 have hpos : ∀ (s : ByteArray) (k n : Nat), 1 ≤ s.size → CharIs L s k n → k ∈ possOf L := fun s k n h1 h => char_poss hI.row hv hI.spans.2 hI.spans.1 h1 h
 have hKl := hO.few
 have hlen := hO.vlen
 have hhl := hO.hlen
 refine ⟨H, setTo V0.length (setF MC MJ) V0, ⟨hV, ⟨?_, ⟨⟨vH, cell_of_block hI.blk 3 _ rfl, hH⟩, by omega, fun h hh => ?_⟩, _, hI.blk⟩, ⟨vE, cell_of_block hI.blk 0 _ rfl, hI.tab⟩, hI.spans.1, hI.row, hI.spans.2, hpos, possOf_lt L, ?_, ?_, ?_, ?_⟩, ⟨⟨J, X, K, V0, MC, MJ, hO, rfl⟩, hI.few, hI.ok, possOf_lt L, hI.row, hI.spans.2, hpos⟩⟩
 ·refine ⟨⟨vV, cell_of_block hI.blk 4 _ rfl, by rw [setTo_len]; exact hW⟩, by rw [setTo_len]; omega, setTo_eight fun v hv9 => ?_⟩
  obtain ⟨i, hi⟩ := List.mem_iff_getElem?.1 hv9
  obtain ⟨x, _, h1, _⟩ := hO.views i v hi
  exact h1
 ·obtain ⟨i, hi⟩ := List.mem_iff_getElem?.1 hh
  obtain ⟨x, _, h1, _⟩ := hO.heads i h hi
  exact h1
 ·exact poss_of (by omega) (Or.inl (mask_bit 7 L 128 (Or.inl (by decide))))
 ·have := (List.getElem?_eq_some_iff.1 hO.first).1
  exact ⟨H[0]'(by omega), List.getElem?_eq_getElem _⟩
 ·intro k hk v hvl
  rw [setTo_len] at hvl ⊢
  rw [nxV_set]
  obtain ⟨x, _, _, _, hy⟩ := hO.views v _ (List.getElem?_eq_getElem hvl)
  obtain ⟨q, hq1, hq2⟩ := hy k hk
  unfold nxV
  rw [List.getElem?_eq_getElem hvl, Option.bind_some, hq1]
  show q < V0.length
  rw [hlen]
  exact (List.getElem?_eq_some_iff.1 hq2).1
 ·intro k hk hd h1 hh1
  obtain ⟨x, hx, _, hy, _⟩ := hO.heads hd h1 hh1
  obtain ⟨m, hm1, hm2⟩ := hy k hk
  have hml : m < H.length := by rw [hhl]; exact (List.getElem?_eq_some_iff.1 hm2).1
  obtain ⟨y, hy1, _, _, hy3⟩ := hO.heads m _ (List.getElem?_eq_getElem hml)
  rw [hm2] at hy1
  cases hy1
  refine ⟨m, _, hm1, List.getElem?_eq_getElem hml, ?_⟩
  rw [setTo_len, hlen]
  exact (List.getElem?_eq_some_iff.1 (hy3 rfl)).1
def byte (s : ByteArray) (i : Nat) : Nat := (s.get! i).toNat
def segA (s : ByteArray) (c : Nat → Bool) : Nat → Nat × List ByteArray
 | 0 => (0, [])
 | i + 1 => if c i then (i + 1, (segA s c i).2 ++ [s.extract (segA s c i).1 (i + 1)]) else segA s c i
def lineAt (s : ByteArray) (i : Nat) : Bool := byte s i == 10 || byte s i == 13 && (i + 1 == s.size || byte s (i + 1) != 10)
def linesP (s : ByteArray) : List ByteArray := if (segA s (lineAt s) s.size).1 < s.size then (segA s (lineAt s) s.size).2 ++ [s.extract (segA s (lineAt s) s.size).1 s.size] else (segA s (lineAt s) s.size).2
def isW (c : Nat) : Bool := decide (97 ≤ c) && decide (c ≤ 122) || decide (48 ≤ c) && decide (c ≤ 57)
def partAt (s : ByteArray) (i : Nat) : Bool := !(isW (byte s (i + 1)) && isW (byte s i))
def runsTo (s : ByteArray) : Nat → List ByteArray
 | 0 => []
 | i + 1 => (segA s (partAt s) i).2 ++ [s.extract (segA s (partAt s) i).1 (i + 1)]
def geL (g : List (List (Nat × Nat))) (l : List Nat) : List Nat := l.flatMap fun x => (grow g x).filterMap fun e => if e.1 = 0 then some e.2 else none
def normL (n : Nat) (l : List Nat) : List Nat := (List.range n).filter fun x => l.contains x
def cloL (g : List (List (Nat × Nat))) : Nat → List Nat → List Nat
 | 0, l => l
 | f + 1, l => cloL g f (normL g.length (l ++ geL g l))
def seedsK (g : List (List (Nat × Nat))) (l : List Nat) (k : Nat) : List Nat := l.flatMap fun x => (grow g x).filterMap fun e => if e.1.testBit k then some e.2 else none
def nxL (g : List (List (Nat × Nat))) (first : Nat) (l : List Nat) (k : Nat) : List Nat := cloL g g.length (first :: seedsK g l k)
def fullB (g : List (List (Nat × Nat))) (from_ l : List Nat) : Bool := (geL g l).all (l.contains ·) && from_.all (l.contains ·)
def famL (g : List (List (Nat × Nat))) (first : Nat) (Ks : List Nat) : Nat → List (List Nat) → List (List Nat)
 | 0, F => F
 | n + 1, F => famL g first Ks n (F ++ (F.flatMap fun l => Ks.map (nxL g first l)).filter fun l => !F.contains l)
def famOk (g : List (List (Nat × Nat))) (first goal : Nat) (Ks : List Nat) (F : List (List Nat)) (p : Nat → Bool) : Bool :=
 fullB g [first] (cloL g g.length [first]) && F.contains (cloL g g.length [first]) && F.all fun l => Ks.all fun k => fullB g (first :: seedsK g l k) (nxL g first l k) && F.contains (nxL g first l k) && ((nxL g first l k).contains goal == p k)
def plainB (Ks : List Nat) (L : RuleM) (pl pr : Nat → Bool) : Bool :=
 famOk (graphOf true L.SL) L.fL 0 Ks (famL (graphOf true L.SL) L.fL Ks 6 [cloL (graphOf true L.SL) (graphOf true L.SL).length [L.fL]]) pl && famOk (graphOf false L.SR) 0 L.fR Ks (famL (graphOf false L.SR) 0 Ks 6 [cloL (graphOf false L.SR) (graphOf false L.SR).length [0]]) pr
def Ascii (s : ByteArray) : Prop := ∀ i, i < s.size → byte s i < 128
theorem get_extract (s : ByteArray) (p : Nat) (h : p < s.size) : (s.extract p s.size).get! 0 = s.get! p := by
 rw [Utf8W.get!_of_lt s p h, Utf8W.get!_of_lt (s.extract p s.size) 0 (by rw [ByteArray.size_extract]; omega)]
 simp [ByteArray.getElem_extract]
theorem decode_ascii {s : ByteArray} (h1 : 1 ≤ s.size) (h : byte s 0 < 128) : decodeGo s = (byte s 0, 1) := by
 unfold decodeGo
 rw [if_neg (by omega), decode_at]
 have h' : (s.get! 0).toNat < 128 := h
 unfold decodeN
 rw [if_pos h']
 rfl
def kindB (l : List (Int × Int × Nat)) (c : Nat) : Nat := match l.find? fun o => decide (o.1 ≤ (c : Int)) && decide ((c : Int) ≤ o.2.1) with
 | some o => o.2.2
 | none => 6
def kindsB (l : List (Int × Int × Nat)) (kf : Nat → Nat) : Bool := (List.range 128).all fun c => (l.all fun o => !(decide (o.1 ≤ (c : Int)) && decide ((c : Int) ≤ o.2.1)) || o.2.2 == kf c) && (l.any (fun o => decide (o.1 ≤ (c : Int)) && decide ((c : Int) ≤ o.2.1)) || kf c == 6)
def cutB2 (f : Nat → Nat → Bool) (s : ByteArray) (i : Nat) : Bool := if i + 1 < s.size then f (byte s i) (byte s (i + 1)) else true
theorem joinT_l : (read1 joinT).l = [] := by kernel_rfl
theorem chars_six {s : ByteArray} (hs : Ascii s) : ∀ n, n ≤ s.size → CharsTo [] s n (List.replicate n 6) (List.replicate n 1) := by
 intro n
 induction n with
 | zero => intro _; exact .nil
 | succ n ih =>
  intro hn
  rw [List.replicate_succ', List.replicate_succ']
  refine .snoc (ih (by omega)) (by omega) ?_
  have hz : (s.extract n s.size).size = s.size - n := by rw [ByteArray.size_extract]; omega
  have hb : byte (s.extract n s.size) 0 = byte s n := by unfold byte; rw [get_extract s n (by omega)]
  have hlt := hs n (by omega)
  have hd : decodeGo (s.extract n s.size) = (byte s n, 1) := by rw [decode_ascii (by omega) (by rw [hb]; exact hlt), hb]
  refine Or.inr ⟨?_, by rw [hd], Or.inr ⟨fun o ho => by simp at ho, rfl⟩⟩
  rw [hd]
  rintro ⟨h1, _⟩
  simp at h1
  omega
theorem join_cut {w : World} {g : Nat} {vE vJ vP vH vV : Value} {L : List (Int × Int × Nat)} (hI : RulesIn w g joinT vE vJ vP vH vV L) {s : ByteArray} (hs : Ascii s) : ∃ all, CutTold joinT s L all := by
 have hl : L = [] := by
  have := hI.perm
  rw [joinT_l] at this
  exact this.eq_nil
 obtain ⟨J, vs, _, hJ⟩ := hI.judge.pr (by have := hI.few; omega)
 exact ⟨_, J, _, _, hJ, by rw [hl]; exact chars_six hs s.size (Nat.le_refl _), rfl⟩
theorem join_waits {w : World} {g : Nat} {vE vJ vP vH vV : Value} {L : List (Int × Int × Nat)} (hI : RulesIn w g joinT vE vJ vP vH vV L) {ks : List Nat} {H : List Hd} {V : List Vw} (hR : RulP (read2 joinT).2 L ks H V) {T : ByteArray} {C : List (Nat × Nat)} {l : List ByteArray} {s : FS} (h : Rests H V L T C l s) (hs : Ascii (T ++ ⟨#[97]⟩)) : l = [] ∧ s.txt = T := by
 obtain ⟨all, ha⟩ := join_cut hI hs
 have hz : (T ++ ⟨#[97]⟩ : ByteArray).size = T.size + 1 := by rw [ByteArray.size_append]; rfl
 have h1 := h.safe hR ha
 rw [told_joined hR.kinds ha (by omega)] at h1
 have h2 := h.size
 have hl : l = [] := by
  cases l with
  | nil => rfl
  | cons x l =>
   exfalso
   obtain ⟨t, ht⟩ := h1
   simp only [List.cons_append, List.cons.injEq, List.append_eq_nil_iff] at ht
   obtain ⟨e1, e2, _⟩ := ht
   subst e2
   have e3 : joinB [x] = ⟨#[]⟩ ++ x := rfl
   have e4 : (joinB [x]).size = x.size := by rw [e3, ByteArray.size_append]; show 0 + x.size = _; omega
   have h5 := h2.2
   rw [e4, e1] at h5
   omega
 refine ⟨hl, ?_⟩
 have h3 := h2.1
 rw [hl] at h3
 rw [← h3]
 show _ = ⟨#[]⟩ ++ s.txt
 apply ba_ext
 rw [ByteArray.toList_eq, ByteArray.toList_eq]
 simp
theorem join_ends {w : World} {g : Nat} {vE vJ vP vH vV : Value} {L : List (Int × Int × Nat)} (hI : RulesIn w g joinT vE vJ vP vH vV L) {ks : List Nat} {H : List Hd} {V : List Vw} (hR : RulP (read2 joinT).2 L ks H V) {T : ByteArray} {C : List (Nat × Nat)} {s : FS} (h : Rests H V L T C [] s) (hs : Ascii T) (h1 : 1 ≤ T.size) : (endS H V s).told = [T] := by
 obtain ⟨all, ha⟩ := join_cut hI hs
 have h2 := h.whole hR ha
 rw [told_joined hR.kinds ha h1, List.nil_append] at h2
 exact h2
theorem WOk.at_ {w w' : World} {b gO oO : Nat} {H : List Hd} {V : List Vw} {hd : Nat} {ns : List Nd} {g : Nat → List Nat} {bg m1 m2 : Nat} (h : WOk w b gO oO H V hd ns g bg m1 m2) (hl : Look w' gO oO H V) (hk : ∀ k, (k = b ∨ k = m1 ∨ k = m2 ∨ ∃ x ∈ ns, x.p = k) → w'.heap[k]? = w.heap[k]?) : WOk w' b gO oO H V hd ns g bg m1 m2 := by
 obtain ⟨⟨la, h1, h2⟩, h3, h4, ⟨D, h5⟩, ⟨D2, h6⟩, h7, h8, h9⟩ := h
 exact ⟨⟨la, (hk b (Or.inl rfl)).trans h1, h2⟩, fun i x hx => (hk x.p (Or.inr (Or.inr (Or.inr ⟨x, List.mem_of_getElem? hx, rfl⟩)))).trans (h3 i x hx), h4, ⟨D, h5.keep (hk m1 (Or.inr (Or.inl rfl)))⟩, ⟨D2, h6.keep (hk m2 (Or.inr (Or.inr (Or.inl rfl))))⟩, h7, hl, h9⟩
theorem row_same {w w' : World} {base : Nat} {e : TypeId} {size : Nat} {v : Value} {n : Nat} {us : List Value} (h : w.ownsRow base e size v n us) (hk : ∀ k, v.ownBlock = some k → w'.heap[k]? = w.heap[k]?) : w'.ownsRow base e size v n us := by
 obtain ⟨h1, h2⟩ := h
 refine ⟨h1, ?_⟩
 rcases h2 with h2 | ⟨q, cap, cur, hv, hg, hh, r⟩
 ·exact Or.inl h2
 ·exact Or.inr ⟨q, cap, cur, hv, hg, (hk q (by rw [hv]; rfl)).trans hh, r⟩
theorem FRest.apart {w0 w w' : World} {S S' p : Nat → Prop} {f gR : Nat} {H : List Hd} {V : List Vw} {L : List (Int × Int × Nat)} {ks : List Nat} {s : FS} (hE : FEnv w0 gR H V L ks) (h : FRest w0 S w f gR H V s) (hc : Chg p w w') (hp : ∀ k, k < w.heap.size → p k → S k) (hp0 : ∀ k, p k → w0.heap.size ≤ k) (hS : ∀ k, S' k → S k ∨ w.heap.size ≤ k) (hK : Kept S' w0 w') : FRest w0 S' w' f gR H V s := by
 obtain ⟨⟨b, m1, m2, vT, hP, hrow, hown⟩, hs1, hs2⟩ := h
 have kb : ∀ k, k < w.heap.size → ¬ S k → w'.heap[k]? = w.heap[k]? := fun k hk hn => hc.block k hk fun h9 => hn (hp k hk h9)
 have kn : ∀ k, k < w.heap.size → ¬ S k → ¬ S' k := fun k hk hn h9 => by
  rcases hS k h9 with h | h
  ·exact hn h
  ·omega
 have bel : Below w0.heap.size w0 w' := hP.bel.trans (hc.low hP.bel.size hp0)
 have lk : Look w' gR 2 H V := hE.lk.keepS (KeepS.below bel)
 obtain ⟨l1, l2, l3, l4⟩ := hP.lo
 have hf := heap_lt hP.hf
 obtain ⟨ns, g, hW, hA, hns⟩ := hP.hw
 obtain ⟨la, hb1, _⟩ := hW.blk
 obtain ⟨D, hD⟩ := hW.gd
 obtain ⟨D2, hD2⟩ := hW.sp
 obtain ⟨_, _, hm1⟩ := hD.blk
 obtain ⟨_, _, hm2⟩ := hD2.blk
 have hbl := heap_lt hb1
 have hm1l := heap_lt hm1
 have hm2l := heap_lt hm2
 have hnl : ∀ x ∈ ns, x.p < w.heap.size := fun x hx => by
  obtain ⟨i, hi⟩ := List.mem_iff_getElem?.1 hx
  exact heap_lt (hW.seq i x hi)
 refine ⟨⟨b, m1, m2, vT, ⟨(kb f hf l1).trans hP.hf, ?_, ⟨ns, g, hW.at_ lk ?_, hA, fun x hx => kn _ (hnl x hx) (hns x hx)⟩, ⟨kn f hf l1, kn b hbl l2, kn m1 hm1l l3, kn m2 hm2l l4⟩, bel, hP.hdl, hP.fits, hK⟩, row_same hrow fun k e => kb k (hrow.lt k e).2 (hown k e), fun k e => kn k (hrow.lt k e).2 (hown k e)⟩, hs1, hs2⟩
 ·rcases hP.ht with h9 | ⟨q, o, cap, h1, h2, h3, h4, cs, m, h5⟩
  ·exact Or.inl h9
  ·have hq := heap_lt h5
   have e := kb q hq h2
   refine Or.inr ⟨q, o, cap, h1, kn q hq h2, fun j hj => ?_, h4, cs, m, e.trans h5⟩
   have h6 := h3 j hj
   unfold World.cell? at h6 ⊢
   rw [e]
   exact h6
 ·rintro k (rfl | rfl | rfl | ⟨x, hx, rfl⟩)
  ·exact kb _ hbl l2
  ·exact kb _ hm1l l3
  ·exact kb _ hm2l l4
  ·exact kb _ (hnl x hx) (hns x hx)
theorem FRest.base {w00 w0 w : World} {S : Nat → Prop} {f gR : Nat} {H : List Hd} {V : List Vw} {s : FS} (h : FRest w0 S w f gR H V s) (hb : Below w00.heap.size w00 w0) : FRest w00 S w f gR H V s := by
 obtain ⟨⟨b, m1, m2, vT, hP, hrow⟩, hs⟩ := h
 exact ⟨⟨b, m1, m2, vT, ⟨hP.hf, hP.ht, hP.hw, hP.lo, hb.trans (hP.bel.mono hb.size), hP.hdl, hP.fits, ⟨fun k hk => hP.kept.lo k (Nat.lt_of_lt_of_le hk hb.size), hP.kept.hi⟩⟩, hrow⟩, hs⟩
theorem FRest.told {w0 w : World} {S : Nat → Prop} {f gR : Nat} {H : List Hd} {V : List Vw} {s : FS} (h : FRest w0 S w f gR H V s) : FRest w0 S w f gR H V { s with told := [] } := h
theorem FEnv.below {w w' : World} {gR : Nat} {H : List Hd} {V : List Vw} {L : List (Int × Int × Nat)} {ks : List Nat} (h : FEnv w gR H V L ks) (hb : Below w.heap.size w w') : FEnv w' gR H V L ks := by
 obtain ⟨vE, t1, t2⟩ := h.tab
 exact ⟨h.vars.below hb, h.lk.keepS (KeepS.below hb), ⟨vE, (hb.cell (p := ⟨gR, 0, none⟩) (cell_ltT t1)).trans t1, row_kp t2 (Kp.below hb)⟩, h.few, h.row, h.kinds, h.pos, h.lt8, h.bad, h.h0, h.nxt, h.hds⟩
theorem FRest.size {w0 w : World} {S : Nat → Prop} {f gR : Nat} {H : List Hd} {V : List Vw} {s : FS} (h : FRest w0 S w f gR H V s) : w0.heap.size ≤ w.heap.size ∧ Kept S w0 w ∧ Below w0.heap.size w0 w ∧ s.txt.size ≤ 1500000 := by
 obtain ⟨⟨b, m1, m2, vT, hP, _⟩, _⟩ := h
 exact ⟨hP.bel.size, hP.kept, hP.bel, hP.fits.2⟩
end Go.Proofs.YtodagkkjfipbgaaGreatDoor
