/- Rows and Exprs. -/
import Derived.Test.YtodagkkjfipbgaaGreatDoorK3toK4
namespace Go.Proofs.YtodagkkjfipbgaaGreatDoor
open Go.RowKit

theorem Tryz.infoPart : (Tryz.prog.info? 224).map (fun i => (i.zero, i.size, i.bytes)) = some (some .nilFunc, 1, 8) := by kernel_rfl
theorem Tryz.undPart : Tryz.prog.underlying 337 = some (.slice 224) := by kernel_rfl

/-- What a plain reader keeps. -/
def PGood (T : ByteArray) (P : PS → PS × Px) : Prop := ∀ s : PS, s.p ≤ T.size → (P s).1.k = s.k ∧ s.p ≤ (P s).1.p ∧ (P s).1.p ≤ T.size ∧ (s.p < T.size → s.p < (P s).1.p)
/-- n more brackets may be open here. -/
def okN (n : Nat) (T : ByteArray) (s : PS) : Prop := s.p = T.size ∨ (s.k + n = 5 ∧ 0 ≤ s.k ∧ s.k ≤ 4)
theorem okN.on {n : Nat} {T : ByteArray} {s s' : PS} (h : okN n T s) (hk : s'.k = s.k) (h1 : s.p ≤ s'.p) (h2 : s'.p ≤ T.size) : okN n T s' := by
  rcases h with h | h
  · left; omega
  · right; rw [hk]; exact h
theorem tokp_end (T : ByteArray) : (tokp T T.size).toList = [] := by
  unfold tokp
  rw [tokEnd_size, ByteArray.toList_eq]
  simp
theorem isAtom_lt {T : ByteArray} {s : PS} (hp : s.p ≤ T.size) (h : s.isAtom T = true) : s.p < T.size := by
  rcases Nat.lt_or_ge s.p T.size with h1 | h1
  · exact h1
  · have e : s.p = T.size := by omega
    unfold PS.isAtom PS.tk wordp at h
    rw [e, tokp_end, memL_sgn] at h
    simp at h
theorem tk_lt {T : ByteArray} {s : PS} {c : UInt8} (hp : s.p ≤ T.size) (h : s.tk T = [c]) : s.p < T.size := by
  rcases Nat.lt_or_ge s.p T.size with h1 | h1
  · exact h1
  · have e : s.p = T.size := by omega
    unfold PS.tk at h
    rw [e, tokp_end] at h
    simp at h

namespace PS
def rowL (T : ByteArray) (P : PS → PS × Px) : Nat → PS → List Px → PS × List Px
  | 0, s, l => (s, l)
  | g + 1, s, l => if s.isAtom T = true then rowL T P g (P s).1 (l ++ [(P s).2]) else (s, l)
def rowR (T : ByteArray) (P : PS → PS × Px) (s : PS) : PS × Px := ((rowL T P (T.size + 1) (P s).1 [(P s).2]).1, rowP (rowL T P (T.size + 1) (P s).1 [(P s).2]).2)
def exprL (T : ByteArray) (R : PS → PS × Px) : Nat → PS → List Px → PS × List Px
  | 0, s, l => (s, l)
  | g + 1, s, l => if s.tk T = [47] then exprL T R g (R (s.step T)).1 (l ++ [(R (s.step T)).2]) else (s, l)
def exprR (T : ByteArray) (R : PS → PS × Px) (s : PS) : PS × Px := ((exprL T R (T.size + 1) (R s).1 [(R s).2]).1, eitherP (exprL T R (T.size + 1) (R s).1 [(R s).2]).2)
end PS

/-- A row of parts that is being made: none of them lies where the row does. -/
def Making (D N : Nat) (w : World) (v : Value) (l : List Px) : Prop :=
  ∃ us : List Value, us.length = l.length ∧ w.ownsRow N 224 1 v l.length us ∧ ∀ (i : Nat) (u : Value) (x : Px), us[i]? = some u → l[i]? = some x → PIn D (fun k => N ≤ k ∧ v.ownBlock ≠ some k) w u x
theorem Making.keep {D N b c : Nat} {w w' : World} {v : Value} {l : List Px} (h : Making D N w v l) (hc : EChg b c w w') (hb : b < N) (hcN : c < N) : Making D N w' v l := by
  obtain ⟨us, h1, h2, h3⟩ := h
  have hk : ∀ k, k < w.heap.size → N ≤ k → w'.heap[k]? = w.heap[k]? := fun k hk hn => Chg.block hc k hk (fun e => by rcases e with e | e <;> omega)
  refine ⟨us, h1, row_on h2 fun k e => hk k (h2.lt k e).2 (h2.lt k e).1, fun i u x hu hx => (h3 i u x hu hx).turn (fun k cs t m ha _ hh => ?_) fun _ _ h => h⟩
  rw [hk k (heap_lt hh) ha.1]; exact hh
theorem Making.later {D N : Nat} {w w' : World} {v : Value} {l : List Px} (h : Making D N w v l) (hb : Below w.heap.size w w') : Making D N w' v l := by
  obtain ⟨us, h1, h2, h3⟩ := h
  exact ⟨us, h1, row_kp h2 (Kp.below hb), fun i u x hu hx => (h3 i u x hu hx).turn (KeepPt.below hb fun _ hk _ => hk) fun _ _ h => h⟩
theorem Making.new {D N : Nat} {w : World} {u : Value} {x : Px} (h : PIn D (From N) w u x) (hN : N ≤ w.heap.size) : Making D N (w.alloc (.cells #[u] 224)) (.slice (some ⟨w.heap.size, 0, none⟩) 1 1) [x] := by
  refine ⟨[u], rfl, ⟨rfl, Or.inr ⟨w.heap.size, 1, #[u], rfl, hN, heap_alloc_new _ _, Nat.le_refl _, by decide, rfl, rfl⟩⟩, fun i y z hy hz => ?_⟩
  cases i with
  | zero =>
    simp at hy hz
    subst hy; subst hz
    exact h.turn (KeepPt.below (below_alloc w _) fun _ hk _ => hk) fun k hk ha => ⟨ha, by simp [Value.ownBlock]; omega⟩
  | succ i => simp at hy
theorem Making.push {D N : Nat} {w w' : World} {v v' u : Value} {l : List Px} {x : Px} {us : List Value} (h1 : us.length = l.length)
    (h3 : ∀ (i : Nat) (u : Value) (x : Px), us[i]? = some u → l[i]? = some x → PIn D (fun k => N ≤ k ∧ v.ownBlock ≠ some k) w u x) (hu : PIn D (fun k => N ≤ k ∧ v.ownBlock ≠ some k) w u x)
    (hown : w'.ownsRow N 224 1 v' (l.length + 1) (us ++ [u])) (hg : w.grownBy w' v.ownBlock) (hsn : SameOrNew w v v') : Making D N w' v' (l ++ [x]) := by
  have turn : ∀ y z, PIn D (fun k => N ≤ k ∧ v.ownBlock ≠ some k) w y z → PIn D (fun k => N ≤ k ∧ v'.ownBlock ≠ some k) w' y z := by
    intro y z h
    refine h.turn (fun k cs t m ha _ hh => ?_) fun k hk ha => ⟨ha.1, ?_⟩
    · rw [hg.block k (heap_lt hh) (fun e => ha.2 e.symm)]; exact hh
    · rcases hsn with e | e
      · rw [e]; exact ha.2
      · rw [e]; simp; omega
  refine ⟨us ++ [u], by simp [h1], by rw [List.length_append]; exact hown, fun i y z hy hz => ?_⟩
  rcases snoc_at hy with ⟨a1, a2⟩ | ⟨a1, rfl⟩
  · rcases snoc_at hz with ⟨b1, b2⟩ | ⟨b1, rfl⟩
    · exact turn _ _ (h3 i y z a1 b1)
    · omega
  · rcases snoc_at hz with ⟨b1, b2⟩ | ⟨b1, rfl⟩
    · omega
    · exact turn _ _ hu
theorem Making.row {D N : Nat} {w : World} {v : Value} {l : List Px} (h : Making D N w v l) (hl : l.length ≤ 9000) : PtRow (PIn D (From N) w) (From N) w v l := by
  obtain ⟨us, h1, h2, h3⟩ := h
  exact ⟨us, h1, hl, row_base h2 (Nat.zero_le _), fun k e => (h2.lt k e).1, fun i u x hu hx => (h3 i u x hu hx).turn (KeepPt.refl _ _) fun _ _ h => h.1⟩
theorem EAt.kp {w w' : World} {b c : Nat} {T : ByteArray} {names : List ByteArray} {vN vE vL : Value} {s : PS} (h : EAt w b c T names vN vE vL s) (k1 : Kp 141 w w') (k2 : Kp 289 w w') (k3 : Kp 9 w w') : EAt w' b c T names vN vE vL s :=
  ⟨⟨k1 _ _ _ h.rd.blk, h.rd.le, h.rd.short⟩, k2 _ _ _ h.cnt, row_kp h.row k3, h.few⟩
theorem EAt.grown {w w' : World} {b c base n : Nat} {T : ByteArray} {names : List ByteArray} {vN vE vL v : Value} {us : List Value} {s : PS} (h : EAt w b c T names vN vE vL s) (hown : w.ownsRow base 224 1 v n us) (hg : w.grownBy w' v.ownBlock) : EAt w' b c T names vN vE vL s :=
  h.kp ((Kp.refl _ _).grown hown hg (by decide)) ((Kp.refl _ _).grown hown hg (by decide)) ((Kp.refl _ _).grown hown hg (by decide))
theorem cell_new1 (w : World) (v : Value) (t : TypeId) : ∀ (j : Nat) (u : Value), [v][j]? = some u → (w.alloc (.cells #[v] t)).cell? ⟨w.heap.size, j, none⟩ = some u := fun j u hu => cell_of_block (heap_alloc_new w _) j u (by simpa using hu)
theorem one_fn (f q : Nat) : ∀ u ∈ [fnv f q], u.oneCell' = true := by intro u hu; simp at hu; subst hu; rfl

set_option maxRecDepth 100000 in
set_option maxHeartbeats 4000000 in
theorem row_e (b c : Nat) (T : ByteArray) (names : List ByteArray) (vN vE vL : Value) (n D : Nat) (P : PS → PS × Px) (hP : PGood T P)
    (hpart : ∀ (s : PS) (w : World), EAt w b c T names vN vE vL s → okN n T s → Calls Tryz.prog 223 #[.pointer (some ⟨b, 0, none⟩), .pointer (some ⟨c, 0, none⟩)] w (Ret b c T names vN vE vL D (P s) w))
    (s : PS) (w : World) (h : EAt w b c T names vN vE vL s) (hok : okN n T s) :
    Calls Tryz.prog 207 #[.pointer (some ⟨b, 0, none⟩), .pointer (some ⟨c, 0, none⟩)] w (Ret b c T names vN vE vL (D + 1) (PS.rowR T P s) w) := by
  have HH : Hid (EAt w b c T names vN vE vL s) := h
  have HO : Hid (okN n T s) := hok
  have hle := h.rd.le
  have hT := h.rd.short
  have hbN := h.rd.lt
  have hcN := heap_lt h.cnt
  have HPG : Hid (PGood T P) := hP
  have HPT : Hid (∀ (s : PS) (w : World), EAt w b c T names vN vE vL s → okN n T s → Calls Tryz.prog 223 #[.pointer (some ⟨b, 0, none⟩), .pointer (some ⟨c, 0, none⟩)] w (Ret b c T names vN vE vL D (P s) w)) := hpart
  clear h hok hP hpart
  go_enter Tryz.func207, Tryz.ntmps207
  go_wp2_with fail
  refine (HPT.out s w HH.out HO.out).mono ?_
  rintro r w1 hr
  obtain ⟨v, rfl, h1, p1, c1⟩ := hr
  obtain ⟨f, q, rfl⟩ := p1.fn
  have H1 : Hid (EAt (w1.alloc (.cells #[fnv f q] 224)) b c T names vN vE vL (P s).1) := h1.later (below_alloc _ _)
  have M1 : Hid (Making D w.heap.size (w1.alloc (.cells #[fnv f q] 224)) (.slice (some ⟨w1.heap.size, 0, none⟩) 1 1) [(P s).2]) := Making.new p1 c1.size
  have C1 : Hid (EChg b c w (w1.alloc (.cells #[fnv f q] 224))) := Chg.alloc c1 _
  have HPS := HPG.out s hle
  have O1 : Hid (okN n T (P s).1) := HO.out.on HPS.1 HPS.2.1 HPS.2.2.1
  have HR : Hid (PS.rowL T P (T.size + 1) (P s).1 [(P s).2] = PS.rowL T P (T.size + 1) (P s).1 [(P s).2]) := rfl
  clear h1 p1 c1 HPS
  unfold fnv
  go_wp2_with fail
  go_loopg [5] (T.size + 1) (fun g v5 wx => ∃ (s' : PS) (l : List Px), Hid (EAt wx b c T names vN vE vL s') ∧ Hid (okN n T s') ∧ Hid (Making D w.heap.size wx v5 l) ∧ Hid (EChg b c w wx) ∧ Hid (PS.rowL T P g s' l = PS.rowL T P (T.size + 1) (P s).1 [(P s).2]) ∧ T.size < s'.p + g ∧ l.length ≤ s'.p + 1)
  case atStart => exact ⟨_, _, H1, O1, M1, C1, rfl, by omega, by simp⟩
  case round =>
    obtain ⟨s', l, hE, hO, hM, hC, hL, hg, hl⟩ := hrel
    obtain ⟨w2, hw2⟩ : ∃ w2, w2 = wr := ⟨wr, rfl⟩
    subst hw2
    have hle' := hE.out.rd.le
    obtain ⟨g', hg'⟩ : ∃ g', gk = g' + 1 := ⟨gk - 1, by omega⟩
    subst hg'
    clear H1 M1 C1 O1 HR
    go_wp2_with fail
    refine (isAtom_any b T vN vE vL s' w2 hE.out.rd).mono ?_
    rintro r w3 ⟨rfl, hb3⟩
    have H3 : Hid (EAt w3 b c T names vN vE vL s') := hE.out.later hb3
    have M3 : Hid (Making D w.heap.size w3 u5 l) := hM.out.later hb3
    have C3 : Hid (EChg b c w w3) := EChg.trans hC.out (EChg.below hb3)
    clear hE hM hC hb3
    cases hm : s'.isAtom T
    · have e : Hid (PS.rowL T P (T.size + 1) (P s).1 [(P s).2] = (s', l)) := by show _ = _; rw [← hL.out, PS.rowL, hm]; rfl
      go_wp2_with fail
      have hs3 : w.heap.size ≤ w3.heap.size := C3.out.size
      refine (rowp_any w.heap.size D l u5 w3 (M3.out.row (by omega)) hs3).mono ?_
      rintro r w4 ⟨u, rfl, p4, b4⟩
      have P4 : Hid (PIn (D + 1) (From w.heap.size) w4 u (rowP l)) := p4
      clear p4
      go_wp2_with fail
      go_ret
      refine ⟨u, rfl, ?_, ?_, EChg.trans C3.out (EChg.below b4)⟩
      · show EAt w4 b c T names vN vE vL (PS.rowL T P (T.size + 1) (P s).1 [(P s).2]).1
        rw [e.out]; exact H3.out.later b4
      · show PIn (D + 1) _ _ _ (rowP (PS.rowL T P (T.size + 1) (P s).1 [(P s).2]).2)
        rw [e.out]; exact P4.out
    · have hlt := isAtom_lt hle' hm
      have e : Hid (PS.rowL T P g' (P s').1 (l ++ [(P s').2]) = PS.rowL T P (T.size + 1) (P s).1 [(P s).2]) := by show _ = _; rw [← hL.out, PS.rowL, hm]; rfl
      have HPS := HPG.out s' hle'
      have O4 : Hid (okN n T (P s').1) := hO.out.on HPS.1 HPS.2.1 HPS.2.2.1
      have hadv := HPS.2.2.2 hlt
      clear HPS
      go_wp2_with fail
      refine (HPT.out s' w3 H3.out hO.out).mono ?_
      rintro r w4 hr
      obtain ⟨v4, rfl, h4, p4, c4⟩ := hr
      obtain ⟨f4, q4, rfl⟩ := p4.fn
      have hs3 : w.heap.size ≤ w3.heap.size := C3.out.size
      have hM4 := (M3.out.keep c4 hbN hcN).later (below_alloc w4 (.cells #[fnv f4 q4] 224))
      obtain ⟨us, m1, m2, m3⟩ := hM4
      have hown3 : ∀ k, u5.ownBlock = some k → k < w3.heap.size := by
        obtain ⟨_, _, n2, _⟩ := M3.out
        exact fun k e => (n2.lt k e).2
      have p5 : PIn D (fun k => w.heap.size ≤ k ∧ u5.ownBlock ≠ some k) (w4.alloc (.cells #[fnv f4 q4] 224)) (fnv f4 q4) (P s').2 :=
        p4.turn (KeepPt.below (below_alloc w4 _) fun _ hk _ => hk) fun k _ ha => ⟨Nat.le_trans hs3 ha, fun e => by have := hown3 k e; have ha' : w3.heap.size ≤ k := ha; omega⟩
      have H4 : Hid (EAt (w4.alloc (.cells #[fnv f4 q4] 224)) b c T names vN vE vL (P s').1) := h4.later (below_alloc _ _)
      have C4 : Hid (EChg b c w (w4.alloc (.cells #[fnv f4 q4] 224))) := Chg.alloc (EChg.trans C3.out c4) _
      have M2 : Hid ((w4.alloc (.cells #[fnv f4 q4] 224)).ownsRow w.heap.size 224 1 u5 l.length us) := m2
      have MR : Hid (us.length = l.length ∧ (∀ (i : Nat) (u : Value) (x : Px), us[i]? = some u → l[i]? = some x → PIn D (fun k => w.heap.size ≤ k ∧ u5.ownBlock ≠ some k) (w4.alloc (.cells #[fnv f4 q4] 224)) u x) ∧ PIn D (fun k => w.heap.size ≤ k ∧ u5.ownBlock ≠ some k) (w4.alloc (.cells #[fnv f4 q4] 224)) (fnv f4 q4) (P s').2) := ⟨m1, m3, p5⟩
      have Z4 : Hid (w.heap.size ≤ w4.heap.size) := (EChg.trans C3.out c4).size
      obtain ⟨ao, cap, rfl⟩ := row_shape m2
      clear h4 p4 c4 m1 m2 m3 p5 hown3 H3 M3 C3
      unfold fnv
      go_wp2_with (at_builtin; go_loud (refine wpList_push2 rfl (.tmp 12) (.tmp 16) 337 rfl w.heap.size 224 .nilFunc 1 8 Tryz.infoPart Tryz.undPart rfl (by decide) (.slice ao l.length cap) l.length us rfl (by exact M2.out) w4.heap.size 1 [fnv f4 q4] rfl rfl (by exact cell_new1 w4 (fnv f4 q4) _) (one_fn _ _) (by omega) (by omega) (by have := Z4.out; simp; omega) ?_); intro v' w5 hown hg5 hsn; obtain ⟨ao', cap', rfl⟩ := row_shape hown)
      go_roundg g'
      case measure => omega
      case rel =>
        refine ⟨(P s').1, l ++ [(P s').2], H4.out.grown M2.out hg5, O4, ?_, ?_, e, by omega, by rw [List.length_append]; simp; omega⟩
        · exact Making.push MR.out.1 MR.out.2.1 MR.out.2.2 hown hg5 hsn
        · exact Chg.grown C4.out hg5 fun k e => Or.inl (M2.out.lt k e).1
end Go.Proofs.YtodagkkjfipbgaaGreatDoor
/- Exprs. -/
namespace Go.Proofs.YtodagkkjfipbgaaGreatDoor
open Go.RowKit

set_option maxRecDepth 100000 in
set_option maxHeartbeats 4000000 in
theorem expr_e (b c : Nat) (T : ByteArray) (names : List ByteArray) (vN vE vL : Value) (n D : Nat) (R : PS → PS × Px) (hP : PGood T R)
    (hpart : ∀ (s : PS) (w : World), EAt w b c T names vN vE vL s → okN n T s → Calls Tryz.prog 207 #[.pointer (some ⟨b, 0, none⟩), .pointer (some ⟨c, 0, none⟩)] w (Ret b c T names vN vE vL D (R s) w))
    (s : PS) (w : World) (h : EAt w b c T names vN vE vL s) (hok : okN n T s) :
    Calls Tryz.prog 175 #[.pointer (some ⟨b, 0, none⟩), .pointer (some ⟨c, 0, none⟩)] w (Ret b c T names vN vE vL (D + 1) (PS.exprR T R s) w) := by
  have HH : Hid (EAt w b c T names vN vE vL s) := h
  have HO : Hid (okN n T s) := hok
  have hle := h.rd.le
  have hT := h.rd.short
  have hbN := h.rd.lt
  have hcN := heap_lt h.cnt
  have HPG : Hid (PGood T R) := hP
  have HPT : Hid (∀ (s : PS) (w : World), EAt w b c T names vN vE vL s → okN n T s → Calls Tryz.prog 207 #[.pointer (some ⟨b, 0, none⟩), .pointer (some ⟨c, 0, none⟩)] w (Ret b c T names vN vE vL D (R s) w)) := hpart
  clear h hok hP hpart
  go_enter Tryz.func175, Tryz.ntmps175
  go_wp2_with fail
  refine (HPT.out s w HH.out HO.out).mono ?_
  rintro r w1 hr
  obtain ⟨v, rfl, h1, p1, c1⟩ := hr
  obtain ⟨f, q, rfl⟩ := p1.fn
  have H1 : Hid (EAt (w1.alloc (.cells #[fnv f q] 224)) b c T names vN vE vL (R s).1) := h1.later (below_alloc _ _)
  have M1 : Hid (Making D w.heap.size (w1.alloc (.cells #[fnv f q] 224)) (.slice (some ⟨w1.heap.size, 0, none⟩) 1 1) [(R s).2]) := Making.new p1 c1.size
  have C1 : Hid (EChg b c w (w1.alloc (.cells #[fnv f q] 224))) := Chg.alloc c1 _
  have HPS := HPG.out s hle
  have O1 : Hid (okN n T (R s).1) := HO.out.on HPS.1 HPS.2.1 HPS.2.2.1
  have HR : Hid (PS.exprL T R (T.size + 1) (R s).1 [(R s).2] = PS.exprL T R (T.size + 1) (R s).1 [(R s).2]) := rfl
  clear h1 p1 c1 HPS
  unfold fnv
  go_wp2_with fail
  go_loopg [5] (T.size + 1) (fun g v5 wx => ∃ (s' : PS) (l : List Px), Hid (EAt wx b c T names vN vE vL s') ∧ Hid (okN n T s') ∧ Hid (Making D w.heap.size wx v5 l) ∧ Hid (EChg b c w wx) ∧ Hid (PS.exprL T R g s' l = PS.exprL T R (T.size + 1) (R s).1 [(R s).2]) ∧ T.size < s'.p + g ∧ l.length ≤ s'.p + 1)
  case atStart => exact ⟨_, _, H1, O1, M1, C1, rfl, by omega, by simp⟩
  case round =>
    obtain ⟨s', l, hE, hO, hM, hC, hL, hg, hl⟩ := hrel
    obtain ⟨w2, hw2⟩ : ∃ w2, w2 = wr := ⟨wr, rfl⟩
    subst hw2
    have hle' := hE.out.rd.le
    obtain ⟨g', hg'⟩ : ∃ g', gk = g' + 1 := ⟨gk - 1, by omega⟩
    subst hg'
    clear H1 M1 C1 O1 HR
    go_wp2_with fail
    refine (take_e b c T names vN vE vL s' [sgn 47] w2 hE.out (by decide) (by decide)).mono ?_
    rintro r w3 ⟨rfl, h3, c3⟩
    have M3 : Hid (Making D w.heap.size w3 u5 l) := hM.out.keep c3 hbN hcN
    have C3 : Hid (EChg b c w w3) := EChg.trans hC.out c3
    clear hE hM hC c3
    by_cases hm : s'.tk T = [47]
    · have hmm : memL [sgn 47] (s'.tk T) = true := by rw [memL_sgn]; simp [hm]
      have e1 : takenOf T [sgn 47] s'.p = tokp T s'.p := by unfold takenOf; rw [show memL _ (tokp T s'.p).toList = true from hmm]; rfl
      have e2 : s'.take T [sgn 47] = s'.step T := by unfold PS.take; rw [hmm]; rfl
      rw [e2] at h3
      rw [e1]
      have H3 : Hid (EAt w3 b c T names vN vE vL (s'.step T)) := h3
      have hlt := tk_lt hle' hm
      have hnx := nextp_le T s'.p hle'
      have e : Hid (PS.exprL T R g' (R (s'.step T)).1 (l ++ [(R (s'.step T)).2]) = PS.exprL T R (T.size + 1) (R s).1 [(R s).2]) := by show _ = _; rw [← hL.out, PS.exprL, if_pos hm]
      have k1 : (tokp T s'.p).toList.isEmpty = false := by rw [show (tokp T s'.p).toList = [47] from hm]; rfl
      have O3 : Hid (okN n T (s'.step T)) := hO.out.on rfl hnx.2.1 hnx.1
      have HPS := HPG.out (s'.step T) hnx.1
      have O4 : Hid (okN n T (R (s'.step T)).1) := O3.out.on HPS.1 HPS.2.1 HPS.2.2.1
      have hadv : s'.p < (R (s'.step T)).1.p := by have := HPS.2.1; have := hnx.2.2 hlt; have e : (s'.step T).p = nextp T s'.p := rfl; omega
      clear HPS hm hmm e1 e2 h3
      obtain ⟨s3, hs3'⟩ : ∃ s3, s3 = s'.step T := ⟨_, rfl⟩
      rw [← hs3'] at H3 e O3 O4 hadv
      clear hs3'
      go_wp2_with fail
      refine (HPT.out s3 w3 H3.out O3.out).mono ?_
      rintro r w4 hr
      obtain ⟨v4, rfl, h4, p4, c4⟩ := hr
      obtain ⟨f4, q4, rfl⟩ := p4.fn
      have hs3 : w.heap.size ≤ w3.heap.size := C3.out.size
      have hM4 := (M3.out.keep c4 hbN hcN).later (below_alloc w4 (.cells #[fnv f4 q4] 224))
      obtain ⟨us, m1, m2, m3⟩ := hM4
      have hown3 : ∀ k, u5.ownBlock = some k → k < w3.heap.size := by
        obtain ⟨_, _, n2, _⟩ := M3.out
        exact fun k e => (n2.lt k e).2
      have p5 : PIn D (fun k => w.heap.size ≤ k ∧ u5.ownBlock ≠ some k) (w4.alloc (.cells #[fnv f4 q4] 224)) (fnv f4 q4) (R s3).2 :=
        p4.turn (KeepPt.below (below_alloc w4 _) fun _ hk _ => hk) fun k _ ha => ⟨Nat.le_trans hs3 ha, fun e => by have := hown3 k e; have ha' : w3.heap.size ≤ k := ha; omega⟩
      have H4 : Hid (EAt (w4.alloc (.cells #[fnv f4 q4] 224)) b c T names vN vE vL (R s3).1) := h4.later (below_alloc _ _)
      have C4 : Hid (EChg b c w (w4.alloc (.cells #[fnv f4 q4] 224))) := Chg.alloc (EChg.trans C3.out c4) _
      have M2 : Hid ((w4.alloc (.cells #[fnv f4 q4] 224)).ownsRow w.heap.size 224 1 u5 l.length us) := m2
      have MR : Hid (us.length = l.length ∧ (∀ (i : Nat) (u : Value) (x : Px), us[i]? = some u → l[i]? = some x → PIn D (fun k => w.heap.size ≤ k ∧ u5.ownBlock ≠ some k) (w4.alloc (.cells #[fnv f4 q4] 224)) u x) ∧ PIn D (fun k => w.heap.size ≤ k ∧ u5.ownBlock ≠ some k) (w4.alloc (.cells #[fnv f4 q4] 224)) (fnv f4 q4) (R s3).2) := ⟨m1, m3, p5⟩
      have Z4 : Hid (w.heap.size ≤ w4.heap.size) := (EChg.trans C3.out c4).size
      obtain ⟨ao, cap, rfl⟩ := row_shape m2
      clear h4 p4 c4 m1 m2 m3 p5 hown3 H3 M3 C3
      unfold fnv
      go_wp2_with (at_builtin; go_loud (refine wpList_push2 rfl (.tmp 14) (.tmp 18) 337 rfl w.heap.size 224 .nilFunc 1 8 Tryz.infoPart Tryz.undPart rfl (by decide) (.slice ao l.length cap) l.length us rfl (by exact M2.out) w4.heap.size 1 [fnv f4 q4] rfl rfl (by exact cell_new1 w4 (fnv f4 q4) _) (one_fn _ _) (by omega) (by omega) (by have := Z4.out; simp; omega) ?_); intro v' w5 hown hg5 hsn; obtain ⟨ao', cap', rfl⟩ := row_shape hown)
      go_roundg g'
      case measure => omega
      case rel =>
        refine ⟨(R s3).1, l ++ [(R s3).2], H4.out.grown M2.out hg5, O4, ?_, ?_, e, by omega, by rw [List.length_append]; simp; omega⟩
        · exact Making.push MR.out.1 MR.out.2.1 MR.out.2.2 hown hg5 hsn
        · exact Chg.grown C4.out hg5 fun k e => Or.inl (M2.out.lt k e).1
    · have hmm : memL [sgn 47] (s'.tk T) = false := by rw [memL_sgn]; simp [hm]
      have e1 : takenOf T [sgn 47] s'.p = ⟨#[]⟩ := by unfold takenOf; rw [show memL _ (tokp T s'.p).toList = false from hmm]; rfl
      have e2 : s'.take T [sgn 47] = s' := by unfold PS.take; rw [hmm]; rfl
      rw [e2] at h3
      rw [e1]
      have H3 : Hid (EAt w3 b c T names vN vE vL s') := h3
      have e : Hid (PS.exprL T R (T.size + 1) (R s).1 [(R s).2] = (s', l)) := by show _ = _; rw [← hL.out, PS.exprL, if_neg hm]
      clear hm hmm e1 e2 h3
      go_wp2_with fail
      have hs3 : w.heap.size ≤ w3.heap.size := C3.out.size
      refine (eitherp_any w.heap.size D l u5 w3 (M3.out.row (by omega)) hs3).mono ?_
      rintro r w4 ⟨u, rfl, p4, b4⟩
      have P4 : Hid (PIn (D + 1) (From w.heap.size) w4 u (eitherP l)) := p4
      clear p4
      go_wp2_with fail
      go_ret
      refine ⟨u, rfl, ?_, ?_, EChg.trans C3.out (EChg.below b4)⟩
      · show EAt w4 b c T names vN vE vL (PS.exprL T R (T.size + 1) (R s).1 [(R s).2]).1
        rw [e.out]; exact H3.out.later b4
      · show PIn (D + 1) _ _ _ (eitherP (PS.exprL T R (T.size + 1) (R s).1 [(R s).2]).2)
        rw [e.out]; exact P4.out
end Go.Proofs.YtodagkkjfipbgaaGreatDoor
/- Exprs within brackets, all of them. -/
namespace Go.Proofs.YtodagkkjfipbgaaGreatDoor
open Go.RowKit

namespace PS
def partP (T : ByteArray) (names : List ByteArray) (sub : PS → PS × Px) (s : PS) : PS × Px := partF T (s.atom T names sub)
def exprAt (T : ByteArray) (names : List ByteArray) (sub : PS → PS × Px) (s : PS) : PS × Px := exprR T (rowR T (partP T names sub)) s
/-- An Expr within which n brackets more may be open. -/
def expr (T : ByteArray) (names : List ByteArray) : Nat → PS → PS × Px
  | 0, s => exprAt T names (fun s => (s, rowP [])) s
  | n + 1, s => exprAt T names (expr T names n) s
end PS

/-- Goes on, or not: the place. -/
def Goes (T : ByteArray) (s s' : PS) : Prop := s'.k = s.k ∧ s.p ≤ s'.p ∧ s'.p ≤ T.size
def Adv (T : ByteArray) (s s' : PS) : Prop := Goes T s s' ∧ (s.p < T.size → s.p < s'.p)
theorem Goes.refl {T : ByteArray} {s : PS} (h : s.p ≤ T.size) : Goes T s s := ⟨rfl, Nat.le_refl _, h⟩
theorem Goes.trans {T : ByteArray} {a b c : PS} (h : Goes T a b) (k : Goes T b c) : Goes T a c := ⟨k.1.trans h.1, Nat.le_trans h.2.1 k.2.1, k.2.2⟩
theorem Adv.trans {T : ByteArray} {a b c : PS} (h : Adv T a b) (k : Goes T b c) : Adv T a c := ⟨h.1.trans k, fun e => Nat.lt_of_lt_of_le (h.2 e) k.2.1⟩
theorem Goes.adv {T : ByteArray} {a b c : PS} (h : Goes T a b) (k : Adv T b c) : Adv T a c := ⟨h.trans k.1, fun e => by
  have h1 := h.2.1; have h2 := k.1.2.1; have h3 := k.1.2.2; have h4 := h.2.2
  rcases Nat.lt_or_ge b.p T.size with h5 | h5
  · have := k.2 h5; omega
  · omega⟩
theorem adv_fail (T : ByteArray) (s : PS) (no : Int) (h : s.p ≤ T.size) : Adv T s (s.fail T no) := ⟨⟨rfl, h, Nat.le_refl _⟩, fun e => e⟩
theorem adv_step (T : ByteArray) (s : PS) (h : s.p ≤ T.size) : Adv T s (s.step T) := ⟨⟨rfl, (nextp_le T s.p h).2.1, (nextp_le T s.p h).1⟩, (nextp_le T s.p h).2.2⟩
theorem adv_need (T : ByteArray) (L : List ByteArray) (s : PS) (h : s.p ≤ T.size) : Adv T s (s.need T L) := by
  unfold PS.need; split
  · exact adv_step T s h
  · exact adv_fail T s 2 h
theorem goes_if {T : ByteArray} {s : PS} {c : Prop} [Decidable c] (no : Int) (h : s.p ≤ T.size) : Goes T s (if c then s.fail T no else s) := by
  split
  · exact (adv_fail T s no h).1
  · exact Goes.refl h
theorem goes_if' {T : ByteArray} {s : PS} {c : Prop} [Decidable c] (no : Int) (h : s.p ≤ T.size) : Goes T s (if c then s else s.fail T no) := by
  split
  · exact Goes.refl h
  · exact (adv_fail T s no h).1
theorem adv_one (T : ByteArray) (names : List ByteArray) (s : PS) (h : s.p ≤ T.size) : Adv T s (s.one T names).1 := by
  have h1 : Goes T s (s.known T names) := goes_if' 3 h
  have h2 : Goes T (s.known T names) ((s.known T names).many T) := goes_if 6 h1.2.2
  have h3 : Goes T ((s.known T names).many T) ((s.known T names).many T).more := ⟨rfl, Nat.le_refl _, h2.2.2⟩
  exact ((h1.trans h2).trans h3).adv (adv_step T _ h2.2.2)
theorem adv_bracket (T : ByteArray) (sub : PS → PS × Px) (hs : PGood T sub) (s : PS) (h : s.p ≤ T.size) : Adv T s (s.bracket T sub).1 := by
  have h1 : Goes T s (s.nest T) := goes_if 6 h
  have h2 := adv_need T [sgn 40] (s.nest T) h1.2.2
  have h3 := hs (((s.nest T).need T [sgn 40]).inK) h2.1.2.2
  have h4 : ((sub (((s.nest T).need T [sgn 40]).inK)).1.outK).p ≤ T.size := h3.2.2.1
  have h5 := adv_need T [sgn 41] _ h4
  have h12 := h1.adv h2
  have e1 : (((s.nest T).need T [sgn 40]).inK).p = ((s.nest T).need T [sgn 40]).p := rfl
  have e2 : ((sub (((s.nest T).need T [sgn 40]).inK)).1.outK).p = (sub (((s.nest T).need T [sgn 40]).inK)).1.p := rfl
  have e3 : ((sub (((s.nest T).need T [sgn 40]).inK)).1.outK).k = s.k := by
    show (sub (((s.nest T).need T [sgn 40]).inK)).1.k - 1 = s.k
    rw [h3.1]
    show ((s.nest T).need T [sgn 40]).k + 1 - 1 = s.k
    rw [h12.1.1]; omega
  have a1 := h5.1.2.1; have a2 := h3.2.1; have a3 := h12.1.2.1; have a4 := h5.1.2.2
  refine ⟨⟨?_, ?_, a4⟩, fun e => ?_⟩
  · show ((sub (((s.nest T).need T [sgn 40]).inK)).1.outK.need T [sgn 41]).k = s.k
    rw [h5.1.1, e3]
  · show s.p ≤ ((sub (((s.nest T).need T [sgn 40]).inK)).1.outK.need T [sgn 41]).p
    omega
  · show s.p < ((sub (((s.nest T).need T [sgn 40]).inK)).1.outK.need T [sgn 41]).p
    have := h12.2 e; omega
theorem adv_atom (T : ByteArray) (names : List ByteArray) (sub : PS → PS × Px) (hs : PGood T sub) (s : PS) (h : s.p ≤ T.size) : Adv T s (s.atom T names sub).1 := by
  have h1 : Goes T s (s.atomOk T) := goes_if' 2 h
  unfold PS.atom
  split
  · exact h1.adv (adv_bracket T sub hs _ h1.2.2)
  · exact h1.adv (adv_one T names _ h1.2.2)
theorem adv_partF (T : ByteArray) (s : PS) (q : PS × Px) (h : Adv T s q.1) : Adv T s (PS.partF T q).1 := by
  have h1 := h.1.2.2
  unfold PS.partF
  split
  · exact h.trans (adv_step T _ h1).1
  · split
    · exact h.trans (adv_step T _ h1).1
    · split
      · exact h.trans (adv_step T _ h1).1
      · exact h
theorem good_adv {T : ByteArray} {P : PS → PS × Px} : PGood T P ↔ ∀ s : PS, s.p ≤ T.size → Adv T s (P s).1 :=
  ⟨fun h s hs => ⟨⟨(h s hs).1, (h s hs).2.1, (h s hs).2.2.1⟩, (h s hs).2.2.2⟩, fun h s hs => ⟨(h s hs).1.1, (h s hs).1.2.1, (h s hs).1.2.2, (h s hs).2⟩⟩
theorem good_part (T : ByteArray) (names : List ByteArray) (sub : PS → PS × Px) (hs : PGood T sub) : PGood T (PS.partP T names sub) :=
  good_adv.2 fun s h => adv_partF T s _ (adv_atom T names sub hs s h)
theorem goes_rowL (T : ByteArray) (P : PS → PS × Px) (hP : PGood T P) : ∀ (g : Nat) (s : PS) (l : List Px), s.p ≤ T.size → Goes T s (PS.rowL T P g s l).1 := by
  intro g
  induction g with
  | zero => intro s l h; exact Goes.refl h
  | succ g ih =>
    intro s l h
    rw [PS.rowL]
    split
    · have h1 := good_adv.1 hP s h
      exact h1.1.trans (ih _ _ h1.1.2.2)
    · exact Goes.refl h
theorem good_row (T : ByteArray) (P : PS → PS × Px) (hP : PGood T P) : PGood T (PS.rowR T P) :=
  good_adv.2 fun s h => (good_adv.1 hP s h).trans (goes_rowL T P hP _ _ _ (good_adv.1 hP s h).1.2.2)
theorem goes_exprL (T : ByteArray) (R : PS → PS × Px) (hR : PGood T R) : ∀ (g : Nat) (s : PS) (l : List Px), s.p ≤ T.size → Goes T s (PS.exprL T R g s l).1 := by
  intro g
  induction g with
  | zero => intro s l h; exact Goes.refl h
  | succ g ih =>
    intro s l h
    rw [PS.exprL]
    split
    · have h0 := adv_step T s h
      have h1 := good_adv.1 hR (s.step T) h0.1.2.2
      exact (h0.1.trans h1.1).trans (ih _ _ h1.1.2.2)
    · exact Goes.refl h
theorem good_expr' (T : ByteArray) (R : PS → PS × Px) (hR : PGood T R) : PGood T (PS.exprR T R) :=
  good_adv.2 fun s h => (good_adv.1 hR s h).trans (goes_exprL T R hR _ _ _ (good_adv.1 hR s h).1.2.2)
/-- One that is never asked, for it stays. -/
theorem adv_atom0 (T : ByteArray) (names : List ByteArray) (s : PS) (h : s.p ≤ T.size) : Adv T s (s.atom T names (fun s => (s, rowP []))).1 := by
  have h1 : Goes T s (s.atomOk T) := goes_if' 2 h
  unfold PS.atom
  split
  · have h2 : Goes T (s.atomOk T) ((s.atomOk T).nest T) := goes_if 6 h1.2.2
    have h3 := adv_need T [sgn 40] ((s.atomOk T).nest T) h2.2.2
    have h4 := adv_need T [sgn 41] (((((s.atomOk T).nest T).need T [sgn 40]).inK).outK) h3.1.2.2
    have h5 : Adv T ((s.atomOk T).nest T) ((((((s.atomOk T).nest T).need T [sgn 40]).inK).outK).need T [sgn 41]) := by
      have e : ((((((s.atomOk T).nest T).need T [sgn 40]).inK).outK)).p = (((s.atomOk T).nest T).need T [sgn 40]).p := rfl
      have e2 : ((((((s.atomOk T).nest T).need T [sgn 40]).inK).outK)).k = (((s.atomOk T).nest T).need T [sgn 40]).k := by
        show (((s.atomOk T).nest T).need T [sgn 40]).k + 1 - 1 = _
        omega
      have a1 := h4.1.2.1; have a2 := h3.1.2.1
      exact ⟨⟨by rw [h4.1.1, e2]; exact h3.1.1, by omega, h4.1.2.2⟩, fun e' => by have := h3.2 e'; omega⟩
    exact (h1.trans h2).adv h5
  · exact h1.adv (adv_one T names _ h1.2.2)
theorem good_expr (T : ByteArray) (names : List ByteArray) : ∀ n, PGood T (PS.expr T names n) := by
  intro n
  induction n with
  | zero => exact good_expr' T _ (good_row T _ (good_adv.2 fun s h => adv_partF T s _ (adv_atom0 T names s h)))
  | succ n ih => exact good_expr' T _ (good_row T _ (good_part T names _ ih))

theorem Ret.deeper {b c : Nat} {T : ByteArray} {names : List ByteArray} {vN vE vL : Value} {D E : Nat} {q : PS × Px} {w w' : World} {r : Ending} (h : Ret b c T names vN vE vL D q w r w') (he : D ≤ E) : Ret b c T names vN vE vL E q w r w' := by
  obtain ⟨v, h1, h2, h3, h4⟩ := h
  exact ⟨v, h1, h2, h3.deeper he, h4⟩
theorem atomOk_open {T : ByteArray} {s : PS} (h : memL [sgn 40] ((s.atomOk T).tk T) = true) : s.atomOk T = s ∧ s.tk T = [40] := by
  unfold PS.atomOk at h ⊢
  split at h
  · rename_i hm
    rw [if_pos hm]
    rw [memL_sgn] at h
    exact ⟨rfl, by simpa using h⟩
  · exfalso
    rw [memL_sgn] at h
    have : (s.fail T 2).tk T = [] := tokp_end T
    rw [this] at h
    simp at h
/-- The reader of Exprs does as the plain one. -/
theorem expr_ok (b c : Nat) (T : ByteArray) (names : List ByteArray) (vN vE vL : Value) : ∀ n, SubOk b c T names vN vE vL (4 * n + 4) (okN n T) (PS.expr T names n) := by
  intro n
  induction n with
  | zero =>
    intro s w h hok
    refine expr_e b c T names vN vE vL 0 3 _ (good_row T _ (good_adv.2 fun s h => adv_partF T s _ (adv_atom0 T names s h))) ?_ s w h hok
    intro s w h hok
    refine row_e b c T names vN vE vL 0 2 _ (good_adv.2 fun s h => adv_partF T s _ (adv_atom0 T names s h)) ?_ s w h hok
    intro s w h hok
    refine part_e b c T names vN vE vL 0 s _ w h ?_
    refine atom_e b c T names vN vE vL 1 _ s w h (by omega) (fun hm => ?_)
    exfalso
    obtain ⟨_, e⟩ := atomOk_open hm
    have := tk_lt h.rd.le e
    rcases hok with h1 | h1
    · omega
    · omega
  | succ n ih =>
    intro s w h hok
    refine expr_e b c T names vN vE vL (n + 1) (4 * n + 7) _ (good_row T _ (good_part T names _ (good_expr T names n))) ?_ s w h hok
    intro s w h hok
    refine row_e b c T names vN vE vL (n + 1) (4 * n + 6) _ (good_part T names _ (good_expr T names n)) ?_ s w h hok
    intro s w h hok
    refine part_e b c T names vN vE vL (4 * n + 4) s _ w h ?_
    refine atom_e b c T names vN vE vL (4 * n + 5) _ s w h (by omega) (fun hm w2 h2 => ?_)
    obtain ⟨e1, e⟩ := atomOk_open hm
    rw [e1] at h2 ⊢
    have hlt := tk_lt h.rd.le e
    have hk : s.k + (n + 1 : Nat) = 5 ∧ 0 ≤ s.k ∧ s.k ≤ 4 := by
      rcases hok with h1 | h1
      · omega
      · exact h1
    have hg : Goes T s (s.nest T) := goes_if 6 h.rd.le
    have hn := adv_need T [sgn 40] (s.nest T) hg.2.2
    have hkk : (((s.nest T).need T [sgn 40]).inK).k = s.k + 1 := by
      show ((s.nest T).need T [sgn 40]).k + 1 = s.k + 1
      rw [hn.1.1, hg.1]
    refine (bracket_e b c T names vN vE vL (4 * n + 4) (okN n T) _ ih s w2 h2 hk.2.1 hk.2.2 ?_ ?_).mono fun r w' hr => hr.deeper (by omega)
    · by_cases h4 : s.k = 4
      · left
        have e2 : s.nest T = s.fail T 6 := by unfold PS.nest; rw [if_pos h4]
        have : T.size ≤ ((s.nest T).need T [sgn 40]).p := by have := hn.1.2.1; rw [e2] at this ⊢; exact this
        have := hn.1.2.2
        show ((s.nest T).need T [sgn 40]).p = T.size
        omega
      · right
        rw [hkk]
        omega
    · rw [(good_expr T names n (((s.nest T).need T [sgn 40]).inK) hn.1.2.2).1, hkk]
end Go.Proofs.YtodagkkjfipbgaaGreatDoor
