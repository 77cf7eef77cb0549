/- A side of a rule; how many states it makes. -/
import Derived.Shelf.Abstract
import Derived.Deep.RegionLaw
import Derived.Test.YtodagkkjfipbgaaGreatDoorK5toK7
import Derived.Test.YtodagkkjfipbgaaGreatDoorL2toQ2
namespace Go.Proofs.YtodagkkjfipbgaaGreatDoor
open Go.RowKit

def endE (T : ByteArray) (p : Nat) : Nat := if p = T.size then 1 else 0
/-- Each word and sign makes three states and ways on at most. -/
def WB (T : ByteArray) (s : PS) (q : PS × Px) : Prop := ∀ d, wtx d q.2 ≤ 3 * (q.1.p - s.p) + endE T q.1.p
theorem endE_le (T : ByteArray) {p p' : Nat} (h : p ≤ p') (h' : p' ≤ T.size) : endE T p ≤ endE T p' := by
  unfold endE; split <;> split <;> omega
theorem endE_lt (T : ByteArray) {p : Nat} (h : p < T.size) : endE T p = 0 := by unfold endE; rw [if_neg (by omega)]
theorem wtx_one (d k : Nat) : wtx d (oneP k) ≤ 1 := by
  cases d with
  | zero => simp [wtx]
  | succ d => simp [wtx, oneP]
theorem wtx_row (d : Nat) (l : List Px) : wtx (d + 1) (rowP l) = (l.map (wtx d)).sum := by simp [wtx, rowP]
theorem wtx_row0 (d : Nat) : wtx d (rowP []) = 0 := by
  cases d with
  | zero => rfl
  | succ d => rw [wtx_row]; rfl
theorem wb_one (T : ByteArray) (names : List ByteArray) (s : PS) (h : s.p ≤ T.size) : WB T s (s.one T names) := by
  intro d
  have h1 := adv_one T names s h
  have h2 := wtx_one d (meaningP names (s.tk T)).1
  have h3 : wtx d (s.one T names).2 ≤ 1 := h2
  have h4 := h1.1.2.1; have h5 := h1.1.2.2
  rcases Nat.lt_or_ge s.p T.size with h6 | h6
  · have := h1.2 h6; omega
  · have e : (s.one T names).1.p = T.size := by omega
    unfold endE; rw [if_pos e]; omega
theorem wb_bracket (T : ByteArray) (sub : PS → PS × Px) (hs : PGood T sub) (hw : ∀ s : PS, s.p ≤ T.size → WB T s (sub s)) (s : PS) (h : s.p ≤ T.size) : WB T s (s.bracket T sub) := by
  intro d
  have h1 : Goes T s (s.nest T) := goes_if 6 h
  have h2 := adv_need T [sgn 40] (s.nest T) h1.2.2
  have h3 := hs (((s.nest T).need T [sgn 40]).inK) h2.1.2.2
  have h4 : ((sub (((s.nest T).need T [sgn 40]).inK)).1.outK).p ≤ T.size := h3.2.2.1
  have h5 := adv_need T [sgn 41] _ h4
  have h6 := hw (((s.nest T).need T [sgn 40]).inK) h2.1.2.2 d
  have e1 : (((s.nest T).need T [sgn 40]).inK).p = ((s.nest T).need T [sgn 40]).p := rfl
  have e2 : ((sub (((s.nest T).need T [sgn 40]).inK)).1.outK).p = (sub (((s.nest T).need T [sgn 40]).inK)).1.p := rfl
  have a1 := h5.1.2.1; have a2 := h3.2.1; have a3 := (h1.adv h2).1.2.1; have a4 := h5.1.2.2
  have e3 : (s.bracket T sub).1.p = ((sub (((s.nest T).need T [sgn 40]).inK)).1.outK.need T [sgn 41]).p := rfl
  have e4 : (s.bracket T sub).2 = (sub (((s.nest T).need T [sgn 40]).inK)).2 := rfl
  rw [e3, e4]
  have := endE_le T (p := (sub (((s.nest T).need T [sgn 40]).inK)).1.p) (p' := ((sub (((s.nest T).need T [sgn 40]).inK)).1.outK.need T [sgn 41]).p) (by omega) a4
  omega
theorem wb_goes {T : ByteArray} {s s1 : PS} {q : PS × Px} (h : WB T s1 q) (hg : Goes T s s1) : WB T s q := by
  intro d
  have := h d; have := hg.2.1; omega
theorem wb_atom (T : ByteArray) (names : List ByteArray) (sub : PS → PS × Px) (hs : PGood T sub) (hw : ∀ s : PS, s.p ≤ T.size → WB T s (sub s)) (s : PS) (h : s.p ≤ T.size) : WB T s (s.atom T names sub) := by
  have h1 : Goes T s (s.atomOk T) := goes_if' 2 h
  unfold PS.atom
  split
  · exact wb_goes (wb_bracket T sub hs hw _ h1.2.2) h1
  · exact wb_goes (wb_one T names _ h1.2.2) h1
theorem wb_suf (T : ByteArray) (s : PS) (q : PS × Px) (c : UInt8) (h : q.1.tk T = [c]) (ha : Adv T s q.1) (hw : WB T s q) (y : Px) (hy : ∀ d, wtx d y ≤ 3 + wtx (d - 1) q.2) : WB T s (q.1.step T, y) := by
  intro d
  have h1 := tk_lt ha.1.2.2 h
  have h2 := adv_step T q.1 ha.1.2.2
  have h3 := h2.2 h1
  have h4 := hw (d - 1)
  have h5 := hy d
  rw [endE_lt T h1] at h4
  have h6 := ha.1.2.1
  show wtx d y ≤ 3 * ((q.1.step T).p - s.p) + endE T (q.1.step T).p
  omega
theorem wb_partF (T : ByteArray) (s : PS) (q : PS × Px) (ha : Adv T s q.1) (hw : WB T s q) : WB T s (PS.partF T q) := by
  unfold PS.partF
  split
  · rename_i e
    refine wb_suf T s q 42 e ha hw _ fun d => ?_
    cases d with
    | zero => simp [wtx]
    | succ d => simp [wtx, starP]
  · split
    · rename_i e
      refine wb_suf T s q 43 e ha hw _ fun d => ?_
      cases d with
      | zero => simp [wtx]
      | succ d => simp [wtx, plusP]
    · split
      · rename_i e
        refine wb_suf T s q 63 e ha hw _ fun d => ?_
        cases d with
        | zero => simp [wtx]
        | succ d =>
          have := wtx_row0 d
          simp [wtx, maybeP]; omega
      · exact hw
theorem sum_snoc (f : Px → Nat) (l : List Px) (x : Px) : ((l ++ [x]).map f).sum = (l.map f).sum + f x := by simp
theorem wb_rowL (T : ByteArray) (P : PS → PS × Px) (hP : PGood T P) (hw : ∀ s : PS, s.p ≤ T.size → WB T s (P s)) (p0 d : Nat) : ∀ (g : Nat) (s : PS) (l : List Px), s.p ≤ T.size → p0 ≤ s.p →
    (l.map (wtx d)).sum ≤ 3 * (s.p - p0) + endE T s.p → ((PS.rowL T P g s l).2.map (wtx d)).sum ≤ 3 * ((PS.rowL T P g s l).1.p - p0) + endE T (PS.rowL T P g s l).1.p := by
  intro g
  induction g with
  | zero => intro s l _ _ h; exact h
  | succ g ih =>
    intro s l hs h0 h
    rw [PS.rowL]
    split
    · rename_i hm
      have h1 := isAtom_lt hs hm
      have h2 := good_adv.1 hP s hs
      have h3 := hw s hs d
      have h4 := h2.1.2.1
      rw [endE_lt T h1] at h
      refine ih _ _ h2.1.2.2 (by omega) ?_
      rw [sum_snoc]; omega
    · exact h
theorem wb_row (T : ByteArray) (P : PS → PS × Px) (hP : PGood T P) (hw : ∀ s : PS, s.p ≤ T.size → WB T s (P s)) (s : PS) (h : s.p ≤ T.size) : WB T s (PS.rowR T P s) := by
  intro d
  cases d with
  | zero => simp [wtx]
  | succ d =>
    have h2 := good_adv.1 hP s h
    have := wb_rowL T P hP hw s.p d (T.size + 1) (P s).1 [(P s).2] h2.1.2.2 h2.1.2.1 (by simpa using hw s h d)
    show wtx (d + 1) (rowP (PS.rowL T P (T.size + 1) (P s).1 [(P s).2]).2) ≤ _
    rw [wtx_row]; exact this
theorem exprL_len (T : ByteArray) (R : PS → PS × Px) : ∀ (g : Nat) (s : PS) (l : List Px), 1 ≤ l.length → 1 ≤ (PS.exprL T R g s l).2.length := by
  intro g
  induction g with
  | zero => intro s l h; exact h
  | succ g ih =>
    intro s l h
    rw [PS.exprL]
    split
    · exact ih _ _ (by simp)
    · exact h
theorem wb_exprL (T : ByteArray) (R : PS → PS × Px) (hR : PGood T R) (hw : ∀ s : PS, s.p ≤ T.size → WB T s (R s)) (p0 d : Nat) : ∀ (g : Nat) (s : PS) (l : List Px), s.p ≤ T.size → p0 ≤ s.p → 1 ≤ l.length →
    (l.map (wtx d)).sum + 3 * (l.length - 1) ≤ 3 * (s.p - p0) + endE T s.p → ((PS.exprL T R g s l).2.map (wtx d)).sum + 3 * ((PS.exprL T R g s l).2.length - 1) ≤ 3 * ((PS.exprL T R g s l).1.p - p0) + endE T (PS.exprL T R g s l).1.p := by
  intro g
  induction g with
  | zero => intro s l _ _ _ h; exact h
  | succ g ih =>
    intro s l hs h0 hl h
    rw [PS.exprL]
    split
    · rename_i hm
      have h1 := tk_lt hs hm
      have h2 := adv_step T s hs
      have h3 := good_adv.1 hR (s.step T) h2.1.2.2
      have h4 := hw (s.step T) h2.1.2.2 d
      have h5 := h2.2 h1
      have h6 := h3.1.2.1
      rw [endE_lt T h1] at h
      refine ih _ _ h3.1.2.2 (by omega) (by simp) ?_
      rw [sum_snoc, List.length_append]
      simp only [List.length_cons, List.length_nil]
      omega
    · exact h
theorem sum_plus (d : Nat) (l : List Px) : (l.map fun y => 1 + wtx d y).sum = l.length + (l.map (wtx d)).sum := by
  induction l with
  | nil => rfl
  | cons a l ih => rw [List.map_cons, List.sum_cons, ih, List.map_cons, List.sum_cons, List.length_cons]; omega
theorem wb_expr' (T : ByteArray) (R : PS → PS × Px) (hR : PGood T R) (hw : ∀ s : PS, s.p ≤ T.size → WB T s (R s)) (s : PS) (h : s.p ≤ T.size) : WB T s (PS.exprR T R s) := by
  intro d
  have h2 := good_adv.1 hR s h
  have key : ∀ d, _ := fun d => wb_exprL T R hR hw s.p d (T.size + 1) (R s).1 [(R s).2] h2.1.2.2 h2.1.2.1 (by simp) (by simpa using hw s h d)
  have hl := exprL_len T R (T.size + 1) (R s).1 [(R s).2] (by simp)
  show wtx d (eitherP (PS.exprL T R (T.size + 1) (R s).1 [(R s).2]).2) ≤ 3 * ((PS.exprL T R (T.size + 1) (R s).1 [(R s).2]).1.p - s.p) + endE T (PS.exprL T R (T.size + 1) (R s).1 [(R s).2]).1.p
  obtain ⟨q, hq⟩ : ∃ q, q = PS.exprL T R (T.size + 1) (R s).1 [(R s).2] := ⟨_, rfl⟩
  rw [← hq] at hl ⊢
  simp only [← hq] at key
  by_cases h1 : q.2.length = 1
  · obtain ⟨x, hx⟩ := List.length_eq_one_iff.1 h1
    rw [hx, eitherP_one]
    have := key d
    rw [hx] at this
    simpa using this
  · rw [eitherP_ne _ h1]
    cases d with
    | zero => simp [wtx]
    | succ d =>
      have := key d
      have e : wtx (d + 1) ⟨2, 0, q.2⟩ = 1 + (q.2.map fun y => 1 + wtx d y).sum := by rw [wtx]; simp
      rw [e, sum_plus]
      omega
theorem wb_atom0 (T : ByteArray) (names : List ByteArray) (s : PS) (h : s.p ≤ T.size) : WB T s (s.atom T names (fun s => (s, rowP []))) := by
  have h1 : Goes T s (s.atomOk T) := goes_if' 2 h
  unfold PS.atom
  split
  · intro d
    show wtx d (rowP []) ≤ _
    rw [wtx_row0]; omega
  · exact wb_goes (wb_one T names _ h1.2.2) h1
theorem wb_expr (T : ByteArray) (names : List ByteArray) : ∀ (n : Nat) (s : PS), s.p ≤ T.size → WB T s (PS.expr T names n s) := by
  intro n
  induction n with
  | zero =>
    have g0 : PGood T (PS.partP T names (fun s => (s, rowP []))) := good_adv.2 fun s h => adv_partF T s _ (adv_atom0 T names s h)
    exact fun s h => wb_expr' T _ (good_row T _ g0) (fun s h => wb_row T _ g0 (fun s h => wb_partF T s _ (adv_atom0 T names s h) (wb_atom0 T names s h)) s h) s h
  | succ n ih =>
    have g0 : PGood T (PS.partP T names (PS.expr T names n)) := good_part T names _ (good_expr T names n)
    exact fun s h => wb_expr' T _ (good_row T _ g0) (fun s h => wb_row T _ g0 (fun s h => wb_partF T s _ (adv_atom T names _ (good_expr T names n) s h) (wb_atom T names _ (good_expr T names n) ih s h)) s h) s h

/- A SIDE. -/
def PS.zero (s : PS) : PS := { s with a := 0, k := 0 }
def PS.side (T : ByteArray) (names : List ByteArray) (x : ByteArray) (s : PS) : PS × Px := if memL [x] (s.tk T) = true then (s, rowP []) else PS.expr T names 5 s.zero
theorem side_wt (T : ByteArray) (names : List ByteArray) (x : ByteArray) (s : PS) (h : s.p ≤ T.size) (hT : T.size ≤ 1000) (d : Nat) : wtx d (s.side T names x).2 ≤ 3001 := by
  unfold PS.side
  split
  · rw [wtx_row0]; omega
  · have h1 := wb_expr T names 5 s.zero h d
    have h2 := (good_expr T names 5 s.zero h).2.2.1
    have : endE T (PS.expr T names 5 s.zero).1.p ≤ 1 := by unfold endE; split <;> omega
    omega
theorem side_goes (T : ByteArray) (names : List ByteArray) (x : ByteArray) (s : PS) (h : s.p ≤ T.size) : s.p ≤ (s.side T names x).1.p ∧ (s.side T names x).1.p ≤ T.size := by
  unfold PS.side
  split
  · exact ⟨Nat.le_refl _, h⟩
  · have := good_expr T names 5 s.zero h
    exact ⟨this.2.1, this.2.2.1⟩

set_option maxRecDepth 100000 in
set_option maxHeartbeats 2000000 in
theorem side_any (b : Nat) (T : ByteArray) (names : List ByteArray) (vN vE vL : Value) (x : ByteArray) (s : PS) (w : World) (h : RAt w b T vN vE vL s) (hN : w.ownsRow 0 9 1 vN names.length (names.map .string)) (hl : names.length ≤ 7) :
    Calls Tryz.prog 132 #[.pointer (some ⟨b, 0, none⟩), .string x] w fun r w' => ∃ v, r = .returned v ∧ RAt w' b T vN vE vL (s.side T names x).1 ∧ PIn 24 (From w.heap.size) w' v (s.side T names x).2 ∧ Chg (fun k => k = b) w w' := by
  have HH : Hid (RAt w b T vN vE vL s) := h
  have HN : Hid (w.ownsRow 0 9 1 vN names.length (names.map .string)) := hN
  clear h hN
  go_enter Tryz.func132, Tryz.ntmps132
  go_wp2_with fail
  refine (is_new b T vN vE vL s [x] w HH.out (by simp) (by simp)).mono ?_
  rintro r w1 ⟨rfl, b1⟩
  have H1 : Hid (RAt w1 b T vN vE vL s) := HH.out.later b1
  have N1 : Hid (w1.ownsRow 0 9 1 vN names.length (names.map .string)) := row_kp HN.out (Kp.below b1)
  cases hm : memL [x] (s.tk T)
  · have e : Hid (s.side T names x = PS.expr T names 5 s.zero) := by show _ = _; unfold PS.side; rw [hm]; rfl
    go_wp2_with fail
    have b2 := below_alloc w1 (.cells #[.int .i64 0, .int .i64 0] 289)
    have hE : EAt (w1.alloc (.cells #[.int .i64 0, .int .i64 0] 289)) b w1.heap.size T names vN vE vL s.zero :=
      ⟨⟨(H1.out.later b2).blk, HH.out.le, HH.out.short⟩, heap_alloc_new _ _, row_kp N1.out (Kp.below b2), hl⟩
    refine (expr_ok b w1.heap.size T names vN vE vL 5 s.zero _ hE (Or.inr ⟨rfl, by show (0 : Int) ≤ 0; omega, by show (0 : Int) ≤ 4; omega⟩)).mono ?_
    rintro r w3 hr
    obtain ⟨v, rfl, h3, p3, c3⟩ := hr
    have H3 : Hid (RAt w3 b T vN vE vL (PS.expr T names 5 s.zero).1) := h3.rd
    have P3 : Hid (PIn 24 (From w.heap.size) w3 v (PS.expr T names 5 s.zero).2) := p3.from (Nat.le_trans b1.size b2.size)
    have C3 : Hid (Chg (fun k => k = b) w w3) := by
      have c2 : Chg (fun k => k = b) w (w1.alloc (.cells #[.int .i64 0, .int .i64 0] 289)) := (Chg.of_below b1).alloc _
      refine ⟨c3.os.trans c2.os, c3.tape.trans c2.tape, c3.output.trans c2.output, Nat.le_trans c2.size c3.size, fun k hk hp => ?_⟩
      have hs := b1.size
      rw [Chg.block c3 k (Nat.lt_of_lt_of_le hk c2.size) (fun e => by rcases e with e | e; exact hp e; omega)]
      exact c2.block k hk hp
    clear h3 p3 c3 hE b2
    go_wp2_with fail
    go_ret
    rw [e.out]
    exact ⟨v, rfl, H3.out, P3.out, C3.out⟩
  · have e : Hid (s.side T names x = (s, rowP [])) := by show _ = _; unfold PS.side; rw [hm]; rfl
    go_wp2_with fail
    refine (rowp_any w.heap.size 23 [] (.slice none 0 0) w1 (PtRow_nil _ _ _) b1.size).mono ?_
    rintro r w2 ⟨v, rfl, p2, b2⟩
    have P2 : Hid (PIn 24 (From w.heap.size) w2 v (rowP [])) := p2
    clear p2
    go_wp2_with fail
    go_ret
    rw [e.out]
    exact ⟨v, rfl, H1.out.later b2, P2.out, (Chg.of_below b1).trans (Chg.of_below b2)⟩
end Go.Proofs.YtodagkkjfipbgaaGreatDoor
/- A call of a Go function as one step of a region that draws. -/
namespace Go.Proofs.YtodagkkjfipbgaaGreatDoor
open Go.RowKit

theorem step_fn1 {P : Program} {w : World} {ops : Array Oper} {o : Oper} {a : Act} {K : Act → World → Prop} {Q : Exit → Act → World → Prop} {E : Prop} (hgd : o.guard = none) (f : Nat) (x : Operand) (ts : Array TypeId)
    (ho : o.op = .call { callee := .value (.func f), args := #[x], argTypes := ts }) (he : Go.Proofs.Enters P f) (v0 : Value) (hx : a.eval x = v0) (R : Ending → World → Prop) (hc : Calls P f #[v0] w R)
    (hK : ∀ e w', R e w' → ∃ v, e = .returned v ∧ K (a.put o.dst v) w') :
    if Region.wanted o (yielded ops a.tmps) = true then Oper.wp P o a w K Q else E := by
  have hw : Region.wanted o (yielded ops a.tmps) = true := by simp [Region.wanted, hgd]
  rw [if_pos hw]
  unfold Go.Proofs.Enters at he
  unfold Oper.wp execOp
  have hfe : a.eval (.func f) = .func (.func f) #[] #[] := rfl
  simp [ho, resolve, invoke, hx, hfe, Deferred.ofValue, he, Oper.upon_enter]
  refine hc.mono ?_
  intro e w' hr
  obtain ⟨v, rfl, hk⟩ := hK e w' hr
  exact hk
end Go.Proofs.YtodagkkjfipbgaaGreatDoor
/- A rule. -/
namespace Go.Proofs.YtodagkkjfipbgaaGreatDoor
open Go.RowKit

theorem Tryz.infoRul : (Tryz.prog.info? 148).map (fun i => (i.zero, i.size, i.bytes)) = some (some (.agg #[.bool false, .slice none 0 0, .int .i64 0, .slice none 0 0, .int .i64 0]), 5, 72) := by kernel_rfl
theorem Tryz.undRul : Tryz.prog.underlying 82 = some (.slice 148) := by kernel_rfl

/-- A rule: its two machines. -/
structure RuleM where
  cut : Bool
  SL : List St
  fL : Nat
  SR : List St
  fR : Nat
def ruleCellsP (Ls : List RuleM) (vs : List (Value × Value)) : List Value := (Ls.zip vs).flatMap fun o => [.bool o.1.cut, o.2.1, .int .i64 o.1.fL, o.2.2, .int .i64 o.1.fR]
/-- The list of rules, in memory. -/
def LIn (base : Nat) (w : World) (vL : Value) (Ls : List RuleM) : Prop :=
  ∃ vs : List (Value × Value), vs.length = Ls.length ∧ w.ownsRow base 148 5 vL Ls.length (ruleCellsP Ls vs) ∧ ∀ (i : Nat) (L : RuleM) (v : Value × Value), Ls[i]? = some L → vs[i]? = some v → (∃ tv, MRow w 0 v.1 L.SL tv) ∧ ∃ tv, MRow w 0 v.2 L.SR tv
theorem MRow.kp {w w' : World} {base : Nat} {vS : Value} {S : List St} {tv : List Value} (h : MRow w base vS S tv) (k1 : Kp 293 w w') (k2 : Kp 3 w w') : MRow w' base vS S tv :=
  ⟨h.len, row_kp h.row k1, fun i v s hv hs => row_kp (h.to_ i v s hv hs) k2, h.apart⟩
theorem MRow.base0 {w : World} {base : Nat} {vS : Value} {S : List St} {tv : List Value} (h : MRow w base vS S tv) : MRow w 0 vS S tv :=
  ⟨h.len, row_base h.row (Nat.zero_le _), fun i v s hv hs => row_base (h.to_ i v s hv hs) (Nat.zero_le _), h.apart⟩
theorem ruleCellsP_snoc (Ls : List RuleM) (vs : List (Value × Value)) (L : RuleM) (v : Value × Value) (h : vs.length = Ls.length) : ruleCellsP (Ls ++ [L]) (vs ++ [v]) = ruleCellsP Ls vs ++ [.bool L.cut, v.1, .int .i64 L.fL, v.2, .int .i64 L.fR] := by
  unfold ruleCellsP; rw [List.zip_append h.symm]; simp
theorem LIn.kp {base : Nat} {w w' : World} {vL : Value} {Ls : List RuleM} (h : LIn base w vL Ls) (k0 : Kp 148 w w') (k1 : Kp 293 w w') (k2 : Kp 3 w w') : LIn base w' vL Ls := by
  obtain ⟨vs, h1, h2, h3⟩ := h
  exact ⟨vs, h1, row_kp h2 k0, fun i L v hL hv => by
    obtain ⟨⟨a, ha⟩, c, hc⟩ := h3 i L v hL hv
    exact ⟨⟨a, ha.kp k1 k2⟩, c, hc.kp k1 k2⟩⟩
theorem LIn.below {base : Nat} {w w' : World} {vL : Value} {Ls : List RuleM} (h : LIn base w vL Ls) (hb : Below w.heap.size w w') : LIn base w' vL Ls := h.kp (Kp.below hb) (Kp.below hb) (Kp.below hb)
theorem LIn.chg1 {w w' : World} {base b : Nat} {vL : Value} {Ls : List RuleM} {cs : Array Value} {m : Nat × Nat} (h : LIn base w vL Ls) (hb : w.heap[b]? = some (.cells cs 141 m)) (hc : Chg (fun k => k = b) w w') : LIn base w' vL Ls :=
  h.kp (Kp.chg1 hb hc (by decide)) (Kp.chg1 hb hc (by decide)) (Kp.chg1 hb hc (by decide))

/-- A rule, read: the words, then what it says. -/
def PS.ruleN (T : ByteArray) (n : Nat) (s : PS) : PS := if n = 4 then s.fail T 6 else s
def PS.ruleA (T : ByteArray) (names : List ByteArray) (n : Nat) (s : PS) : PS × Px := ((s.ruleN T n).need T [wCut, wJoin]).side T names (sgn 124)
def PS.ruleB (T : ByteArray) (names : List ByteArray) (n : Nat) (s : PS) : PS × Px := ((s.ruleA T names n).1.need T [sgn 124]).side T names (sgn 59)
def PS.rule (T : ByteArray) (names : List ByteArray) (n : Nat) (s : PS) : PS := (s.ruleB T names n).1.need T [sgn 59]
def ruleOf (T : ByteArray) (names : List ByteArray) (n : Nat) (s : PS) : RuleM :=
  ⟨(takenOf T [wCut, wJoin] (s.ruleN T n).p).toList == [99, 117, 116], (mk 24 (s.ruleA T names n).2 startS 0).1, (mk 24 (s.ruleA T names n).2 startS 0).2, (mk 24 (s.ruleB T names n).2 startS 0).1, (mk 24 (s.ruleB T names n).2 startS 0).2⟩

/-- A part that is there: a machine can be made of it in whatever world is a later one. -/
theorem make_later (d : Nat) (x : Px) (v : Value) (w : World) (N : Nat) (h : PIn d (From N) w v x) (hw : wtx d x ≤ 8000) (W : World) (hb : Below w.heap.size w W) :
    Calls Tryz.prog 133 #[v] W fun e w' => ∃ vS tv, e = .returned (.agg #[vS, .int .i64 (mk d x startS 0).2]) ∧ MRow w' W.heap.size vS (mk d x startS 0).1 tv ∧ Below W.heap.size W w' :=
  make_any d x v W (h.turn (A' := fun k => k < W.heap.size) (KeepPt.below hb fun _ hk _ => hk) fun _ hk _ => Nat.lt_of_lt_of_le hk hb.size) hw
/-- What Make answers in the world W. -/
def MkPost (R : List St × Nat) (W : World) (e : Ending) (w' : World) : Prop := ∃ vS tv, e = .returned (.agg #[vS, .int .i64 R.2]) ∧ MRow w' W.heap.size vS R.1 tv ∧ Below W.heap.size W w'
theorem step_make {w : World} {ops : Array Oper} {o : Oper} {a : Act} {K : Act → World → Prop} {Q : Exit → Act → World → Prop} {E : Prop} (x : Operand)
    (ho : o.op = .call { callee := .value (.func 133), args := #[x], argTypes := #[224] }) (hgd : o.guard = none) (v0 : Value) (hx : a.eval x = v0) (R : List St × Nat) (hc : Calls Tryz.prog 133 #[v0] w (MkPost R w))
    (hK : ∀ vS tv w', MRow w' w.heap.size vS R.1 tv → Below w.heap.size w w' → K (a.put o.dst (.agg #[vS, .int .i64 R.2])) w') :
    if Region.wanted o (yielded ops a.tmps) = true then Oper.wp Tryz.prog o a w K Q else E :=
  step_fn1 hgd 133 x _ ho (enters_of Tryz.func133 (by kernel_rfl) rfl) v0 hx _ hc fun e w' h => by
    obtain ⟨vS, tv, rfl, h1, h2⟩ := h
    exact ⟨_, rfl, hK vS tv w' h1 h2⟩
theorem below_drew {w W : World} (h : Below w.drew.heap.size w.drew W) : Below w.heap.size w W := ⟨h.os, h.tape, h.output, h.size, h.block⟩
theorem five_cells (c : Bool) (a b : Value) (x y : Int) (ha : a.oneCell' = true) (hb : b.oneCell' = true) : ∀ u ∈ [Value.bool c, a, .int .i64 x, b, .int .i64 y], u.oneCell' = true := by
  intro u hu; simp at hu; rcases hu with rfl | rfl | rfl | rfl | rfl
  · rfl
  · exact ha
  · rfl
  · exact hb
  · rfl
theorem cell_newL (w : World) (l : List Value) (t : TypeId) : ∀ (j : Nat) (u : Value), l[j]? = some u → (w.alloc (.cells l.toArray t)).cell? ⟨w.heap.size, j, none⟩ = some u := fun j u hu => cell_of_block (heap_alloc_new w _) j u (by simpa using hu)
theorem cj_ne : ∀ x ∈ [wCut, wJoin], x.toList ≠ [] := by
  intro x hx; simp at hx; rcases hx with rfl | rfl
  · unfold wCut; rw [ByteArray.toList_eq]; simp
  · unfold wJoin; rw [ByteArray.toList_eq]; simp

theorem pset_ls {w : World} {b : Nat} {T : ByteArray} {a e : Int} {vN vE vL : Value} {fault place : Int} (h : PBlk w b T a e vN vE vL fault place) (x : Value) : PBlk (w.setCell ⟨b, 5, none⟩ x) b T a e vN vE x fault place := (block_setCell h 5 _).trans rfl
theorem rule_end {base b n cap cap1 cap2 cap' : Nat} {T : ByteArray} {vN vE : Value} {Ls : List RuleM} {s' : PS} {w w6 W1 W2 W3 : World} {ao ao1 ao2 ao' : Option Addr} {RA RB : List St × Nat} {cb : Bool} {vs : List (Value × Value)} {tv1 tv2 : List Value} (hn : n = Ls.length)
    (H6 : RAt w6 b T vN vE (.slice ao n cap) s') (C6 : Chg (fun k => k = b) w w6) (HV : w6.ownsRow base 148 5 (.slice ao n cap) n (ruleCellsP Ls vs)) (HV1 : vs.length = Ls.length)
    (HV3 : ∀ (i : Nat) (L : RuleM) (v : Value × Value), Ls[i]? = some L → vs[i]? = some v → (∃ tv, MRow w6 0 v.1 L.SL tv) ∧ ∃ tv, MRow w6 0 v.2 L.SR tv)
    (HM1 : MRow W1 w6.heap.size (.slice ao1 RA.1.length cap1) RA.1 tv1) (hC1 : Below w6.heap.size w6 W1) (HM2 : MRow W2 W1.heap.size (.slice ao2 RB.1.length cap2) RB.1 tv2) (hB2 : Below W1.heap.size W1 W2)
    (hg : (W2.alloc (.cells #[.bool cb, .slice ao1 RA.1.length cap1, .int .i64 RA.2, .slice ao2 RB.1.length cap2, .int .i64 RB.2] 148)).grownBy W3 (Value.ownBlock (.slice ao n cap)))
    (hown : W3.ownsRow base 148 5 (.slice ao' (n + 1) cap') (n + 1) (ruleCellsP Ls vs ++ [.bool cb, .slice ao1 RA.1.length cap1, .int .i64 RA.2, .slice ao2 RB.1.length cap2, .int .i64 RB.2]))
    (hbl : W3.heap[b]? = some (.cells (pcell T s'.p (tokEnd T s'.p) vN vE (.slice ao n cap) s'.f s'.pl) 141 (0, 0))) :
    RAt (W3.setCell ⟨b, 5, none⟩ (.slice ao' (n + 1) cap')) b T vN vE (.slice ao' (n + 1) cap') s' ∧ LIn base (W3.setCell ⟨b, 5, none⟩ (.slice ao' (n + 1) cap')) (.slice ao' (n + 1) cap') (Ls ++ [⟨cb, RA.1, RA.2, RB.1, RB.2⟩]) ∧
      Chg (fun k => k = b ∨ Value.ownBlock (.slice ao n cap) = some k) w (W3.setCell ⟨b, 5, none⟩ (.slice ao' (n + 1) cap')) := by
  subst hn
  have hC2 : Below w6.heap.size w6 W2 := hC1.trans (hB2.mono hC1.size)
  have hBa := below_alloc W2 (.cells #[.bool cb, .slice ao1 RA.1.length cap1, .int .i64 RA.2, .slice ao2 RB.1.length cap2, .int .i64 RB.2] 148)
  have hC3 := hC2.trans (hBa.mono hC2.size)
  have hrow := row_kp HV (Kp.below hC3)
  have kk : ∀ t, t ≠ 148 → t ≠ 141 → Kp t W2 (W3.setCell ⟨b, 5, none⟩ (.slice ao' (Ls.length + 1) cap')) := fun t h1 h2 =>
    ((Kp.below hBa).grown hrow hg h1).setCell hbl h2 _
  have kS := kk 293 (by decide) (by decide)
  have kI := kk 3 (by decide) (by decide)
  refine ⟨⟨pset_ls hbl _, H6.le, H6.short⟩, ⟨vs ++ [(.slice ao1 RA.1.length cap1, .slice ao2 RB.1.length cap2)], by simp [HV1], ?_, ?_⟩, ?_⟩
  · rw [ruleCellsP_snoc _ _ _ _ HV1, List.length_append]
    exact row_kp hown ((Kp.refl _ _).setCell hbl (by decide) _)
  · intro i L v hL hv
    rcases snoc_at hL with ⟨a1, a2⟩ | ⟨a1, rfl⟩
    · rcases snoc_at hv with ⟨b1, b2⟩ | ⟨b1, rfl⟩
      · obtain ⟨⟨t1, h1⟩, t2, h2⟩ := HV3 i L v a1 b1
        exact ⟨⟨t1, h1.kp ((Kp.below hC2).trans kS) ((Kp.below hC2).trans kI)⟩, t2, h2.kp ((Kp.below hC2).trans kS) ((Kp.below hC2).trans kI)⟩
      · omega
    · rcases snoc_at hv with ⟨b1, b2⟩ | ⟨b1, rfl⟩
      · omega
      · exact ⟨⟨tv1, (HM1.kp ((Kp.below hB2).trans kS) ((Kp.below hB2).trans kI)).base0⟩, tv2, (HM2.kp kS kI).base0⟩
  · have c1 : Chg (fun k => k = b ∨ Value.ownBlock (.slice ao Ls.length cap) = some k) w (W2.alloc (.cells #[.bool cb, .slice ao1 RA.1.length cap1, .int .i64 RA.2, .slice ao2 RB.1.length cap2, .int .i64 RB.2] 148)) :=
      (C6.mono fun _ _ e => Or.inl e).trans (Chg.of_below hC3)
    exact (c1.grown hg fun k e => Or.inr (Or.inr e)).setCell (q := ⟨b, 5, none⟩) (Or.inr (Or.inl rfl)) _

set_option maxRecDepth 100000 in
set_option maxHeartbeats 1500000 in
theorem rule_any (base b : Nat) (T : ByteArray) (names : List ByteArray) (vN vE vL : Value) (Ls : List RuleM) (s : PS) (w : World) (h : RAt w b T vN vE vL s) (hN : w.ownsRow 0 9 1 vN names.length (names.map .string)) (hl : names.length ≤ 7) (hL : LIn base w vL Ls) (hn : Ls.length ≤ 1000) (hbase : base ≤ w.heap.size) :
    Calls Tryz.prog 78 #[.pointer (some ⟨b, 0, none⟩)] w fun r w' => r = .returned (.tuple #[]) ∧ ∃ vL', RAt w' b T vN vE vL' (s.rule T names Ls.length) ∧ LIn base w' vL' (Ls ++ [ruleOf T names Ls.length s]) ∧ Chg (fun k => k = b ∨ vL.ownBlock = some k) w w' := by
  have HH : Hid (RAt w b T vN vE vL s) := h
  have HN : Hid (w.ownsRow 0 9 1 vN names.length (names.map .string)) := hN
  have HL : Hid (LIn base w vL Ls) := hL
  obtain ⟨ao, cap, rfl⟩ : ∃ ao cap, vL = .slice ao Ls.length cap := by obtain ⟨_, _, h2, _⟩ := hL; exact row_shape h2
  have c5 := (pcells h.blk).2.2.2.2.2.1
  clear h hN hL
  go_enter Tryz.func78, Tryz.ntmps78
  go_upto_if 11 with fail
  go_cut [] (fun wx => Hid (RAt wx b T vN vE (.slice ao Ls.length cap) (s.ruleN T Ls.length)) ∧ Hid (Chg (fun k => k = b) w wx))
  case first =>
    by_cases h4 : Ls.length = 4
    · have k4 : ((Ls.length : Int) == 4) = true := by rw [beq_iff_eq]; omega
      have e : Hid (s.ruleN T Ls.length = s.fail T 6) := by show _ = _; unfold PS.ruleN; rw [if_pos h4]
      clear h4
      go_wp2_with fail
      refine (fail_ps b T vN vE (.slice ao Ls.length cap) s 6 w HH.out).mono ?_
      rintro r w4 ⟨rfl, h4, c4⟩
      have H4 : Hid (RAt w4 b T vN vE (.slice ao Ls.length cap) (s.fail T 6)) := h4
      clear h4
      go_wp2_with fail
      go_meet
      exact ⟨by rw [e.out]; exact H4, c4⟩
    · have k4 : ((Ls.length : Int) == 4) = false := by rw [beq_eq_false_iff_ne]; omega
      have e : Hid (s.ruleN T Ls.length = s) := by show _ = _; unfold PS.ruleN; rw [if_neg h4]
      clear h4
      go_wp2_with fail
      go_meet
      exact ⟨by rw [e.out]; exact HH, Chg.refl _ _⟩
  case rest =>
    obtain ⟨h1, c1⟩ := hcut
    obtain ⟨w1, hw1⟩ : ∃ w1, w1 = wc := ⟨wc, rfl⟩
    subst hw1
    clear c5
    go_wp2_with fail
    refine (need_new b T vN vE (.slice ao Ls.length cap) (s.ruleN T Ls.length) [wCut, wJoin] w1 h1.out (by decide) (by decide) cj_ne).mono ?_
    rintro r w2 ⟨rfl, h2, c2⟩
    have H2 : Hid (RAt w2 b T vN vE (.slice ao Ls.length cap) ((s.ruleN T Ls.length).need T [wCut, wJoin])) := h2
    have C2 : Hid (Chg (fun k => k = b) w w2) := c1.out.trans c2
    have N2 : Hid (w2.ownsRow 0 9 1 vN names.length (names.map .string)) := row_kp HN.out (Kp.chg1 HH.out.blk C2.out (by decide))
    clear h2 c2 h1 c1
    go_wp2_with fail
    refine (side_any b T names vN vE (.slice ao Ls.length cap) (sgn 124) ((s.ruleN T Ls.length).need T [wCut, wJoin]) w2 H2.out N2.out hl).mono ?_
    rintro r w3 ⟨vA, rfl, h3, p3, c3⟩
    have H3 : Hid (RAt w3 b T vN vE (.slice ao Ls.length cap) (s.ruleA T names Ls.length).1) := h3
    have P3 : Hid (PIn 24 (From w2.heap.size) w3 vA (s.ruleA T names Ls.length).2) := p3
    have C3 : Hid (Chg (fun k => k = b) w w3) := C2.out.trans c3
    have WA : Hid (wtx 24 (s.ruleA T names Ls.length).2 ≤ 8000) := by have := side_wt T names (sgn 124) _ H2.out.le HH.out.short 24; exact Nat.le_trans this (by omega)
    have hb2 := H2.out.lt
    clear h3 p3 c3 H2 C2 N2
    go_wp2_with fail
    refine (need_new b T vN vE (.slice ao Ls.length cap) (s.ruleA T names Ls.length).1 [sgn 124] w3 H3.out (by decide) (by decide) (sgn_ne _)).mono ?_
    rintro r w4 ⟨rfl, h4, c4⟩
    have H4 : Hid (RAt w4 b T vN vE (.slice ao Ls.length cap) ((s.ruleA T names Ls.length).1.need T [sgn 124])) := h4
    have C4 : Hid (Chg (fun k => k = b) w w4) := C3.out.trans c4
    have N4 : Hid (w4.ownsRow 0 9 1 vN names.length (names.map .string)) := row_kp HN.out (Kp.chg1 HH.out.blk C4.out (by decide))
    have P4 : Hid (PIn 24 (From w2.heap.size) w4 vA (s.ruleA T names Ls.length).2) := P3.out.keep (EChg.of1 (c := b) c4) hb2 hb2
    clear h4 c4 H3 P3 C3
    go_wp2_with fail
    refine (side_any b T names vN vE (.slice ao Ls.length cap) (sgn 59) ((s.ruleA T names Ls.length).1.need T [sgn 124]) w4 H4.out N4.out hl).mono ?_
    rintro r w5 ⟨vB, rfl, h5, p5, c5⟩
    have H5 : Hid (RAt w5 b T vN vE (.slice ao Ls.length cap) (s.ruleB T names Ls.length).1) := h5
    have P5 : Hid (PIn 24 (From w4.heap.size) w5 vB (s.ruleB T names Ls.length).2) := p5
    have P5a : Hid (PIn 24 (From w2.heap.size) w5 vA (s.ruleA T names Ls.length).2) := P4.out.keep (EChg.of1 (c := b) c5) hb2 hb2
    have C5 : Hid (Chg (fun k => k = b) w w5) := C4.out.trans c5
    have WB' : Hid (wtx 24 (s.ruleB T names Ls.length).2 ≤ 8000) := by have := side_wt T names (sgn 59) _ H4.out.le HH.out.short 24; exact Nat.le_trans this (by omega)
    have hb4 := H4.out.lt
    clear h5 p5 c5 H4 C4 N4 P4
    go_wp2_with fail
    refine (need_new b T vN vE (.slice ao Ls.length cap) (s.ruleB T names Ls.length).1 [sgn 59] w5 H5.out (by decide) (by decide) (sgn_ne _)).mono ?_
    rintro r w6 ⟨rfl, h6, c6⟩
    have H6 : Hid (RAt w6 b T vN vE (.slice ao Ls.length cap) (s.rule T names Ls.length)) := h6
    have C6 : Hid (Chg (fun k => k = b) w w6) := C5.out.trans c6
    have P6b : Hid (PIn 24 (From w4.heap.size) w6 vB (s.ruleB T names Ls.length).2) := P5.out.keep (EChg.of1 (c := b) c6) hb4 hb4
    have P6a : Hid (PIn 24 (From w2.heap.size) w6 vA (s.ruleA T names Ls.length).2) := P5a.out.keep (EChg.of1 (c := b) c6) hb2 hb2
    have L6 : Hid (LIn base w6 (.slice ao Ls.length cap) Ls) := HL.out.chg1 HH.out.blk C6.out
    clear h6 c6 H5 C5 P5 P5a
    obtain ⟨fA, qA, hvA⟩ := P6a.out.fn
    obtain ⟨fB, qB, hvB⟩ := P6b.out.fn
    obtain ⟨RA, hRA⟩ : ∃ RA, RA = mk 24 (s.ruleA T names Ls.length).2 startS 0 := ⟨_, rfl⟩
    obtain ⟨RB, hRB⟩ : ∃ RB, RB = mk 24 (s.ruleB T names Ls.length).2 startS 0 := ⟨_, rfl⟩
    obtain ⟨tx, htx⟩ : ∃ tx, tx = takenOf T [wCut, wJoin] (s.ruleN T Ls.length).p := ⟨_, rfl⟩
    obtain ⟨cb, hcb⟩ : ∃ cb, cb = (tx.toList == [99, 117, 116]) := ⟨_, rfl⟩
    have HRO : Hid (ruleOf T names Ls.length s = ⟨cb, RA.1, RA.2, RB.1, RB.2⟩) := by show _ = _; unfold ruleOf; rw [hcb, htx, hRA, hRB]
    have MA : Hid (∀ W, Below w6.heap.size w6 W → Calls Tryz.prog 133 #[vA] W (MkPost RA W)) := by
      intro W hb
      have := make_later 24 _ vA w6 _ P6a.out WA.out W hb
      rw [← hRA] at this
      exact this
    have MB : Hid (∀ W, Below w6.heap.size w6 W → Calls Tryz.prog 133 #[vB] W (MkPost RB W)) := by
      intro W hb
      have := make_later 24 _ vB w6 _ P6b.out WB'.out W hb
      rw [← hRB] at this
      exact this
    rw [← htx]
    have hcb' : (tx.toList == [99, 117, 116]) = cb := hcb.symm
    clear htx hRA hRB WA WB' hcb
    have c5 := (pcells H6.out.blk).2.2.2.2.2.1
    have c5f := free_of_block H6.out.blk
    have hb6 := H6.out.lt
    clear P6a P6b hvA hvB
    go_wp2_with fail
    obtain ⟨vs, l1, l2, l3⟩ := L6.out
    have HV : Hid (w6.ownsRow base 148 5 (.slice ao Ls.length cap) Ls.length (ruleCellsP Ls vs)) := l2
    have HV1 : Hid (vs.length = Ls.length) := l1
    have HV3 : Hid (∀ (i : Nat) (L : RuleM) (v : Value × Value), Ls[i]? = some L → vs[i]? = some v → (∃ tv, MRow w6 0 v.1 L.SL tv) ∧ ∃ tv, MRow w6 0 v.2 L.SR tv) := l3
    clear l1 l2 l3
    go_region_law (first
      | (refine step_make (.tmp 35) ?_ ?_ vA ?_ RA ?_ ?_
         · exact rfl
         · exact rfl
         · simp [Act.eval, Act.put]
         · exact MA.out _ ((Below.refl _ _).drew)
         intro vS1 tv1 W1 hM1 hB1
         obtain ⟨ao1, cap1, rfl⟩ := row_shape hM1.row
         have HM1 : Hid (MRow W1 w6.heap.size (.slice ao1 RA.1.length cap1) RA.1 tv1) := hM1
         clear hM1
         have hC1 := below_drew hB1
         have f5 := (hC1.cell (p := ⟨b, 5, none⟩) hb6).trans c5)
      | (refine step_make (.tmp 37) ?_ ?_ vB ?_ RB ?_ ?_
         · exact rfl
         · exact rfl
         · simp [Act.eval]
         · exact MB.out _ hC1
         intro vS2 tv2 W2 hM2 hB2
         obtain ⟨ao2, cap2, rfl⟩ := row_shape hM2.row
         have HM2 : Hid (MRow W2 W1.heap.size (.slice ao2 RB.1.length cap2) RB.1 tv2) := hM2
         clear hM2
         have hC2 := hC1.trans (hB2.mono hC1.size)
         have g5 := (hC2.cell (p := ⟨b, 5, none⟩) hb6).trans c5
         have g5' := fun o => ((below_alloc W2 o).cell (p := ⟨b, 5, none⟩) (Nat.lt_of_lt_of_le hb6 hC2.size)).trans g5)
      | (refine step_push2 rfl (.tmp 32) (.tmp 40) 82 rfl base 148 (.agg #[.bool false, .slice none 0 0, .int .i64 0, .slice none 0 0, .int .i64 0]) 5 72 Tryz.infoRul Tryz.undRul rfl (by decide) (.slice ao Ls.length cap) Ls.length (ruleCellsP Ls vs) (by simp [Act.eval]) (row_kp HV.out (Kp.below (hC2.trans ((below_alloc W2 _).mono hC2.size)))) W2.heap.size 1 [.bool cb, .slice ao1 RA.1.length cap1, .int .i64 RA.2, .slice ao2 RB.1.length cap2, .int .i64 RB.2] (by simp [Act.eval]) rfl (cell_newL W2 [.bool cb, .slice ao1 RA.1.length cap1, .int .i64 RA.2, .slice ao2 RB.1.length cap2, .int .i64 RB.2] _) (five_cells _ _ _ _ _ rfl rfl) (by omega) (by omega) (Nat.le_trans hbase (Nat.le_trans C6.out.size (Nat.le_trans hC2.size (below_alloc W2 _).size))) ?_
         intro v' W3 hown hg hsn
         obtain ⟨ao', cap', rfl⟩ := row_shape hown
         have HO3 : Hid (W3.ownsRow base 148 5 (.slice ao' (Ls.length + 1) cap') (Ls.length + 1) _) := hown
         have hbl := kept_grown H6.out.blk (Kp.below (hC2.trans ((below_alloc W2 _).mono hC2.size))) (row_kp HV.out (Kp.below (hC2.trans ((below_alloc W2 _).mono hC2.size)))) hg (by decide)
         have i5 := (pcells hbl).2.2.2.2.2.1
         have i5f := free_of_block hbl))
    all_goals go_wp2_with fail
    all_goals go_end0
    all_goals
      have hfin := rule_end rfl H6.out C6.out HV.out HV1.out HV3.out HM1.out hC1 HM2.out hB2 hg HO3.out hbl
      refine ⟨rfl, _, hfin.1, ?_, hfin.2.2⟩
      rw [HRO.out]
      exact hfin.2.1
end Go.Proofs.YtodagkkjfipbgaaGreatDoor
