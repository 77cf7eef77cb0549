/- A text of rules, read. -/
import Derived.Test.YtodagkkjfipbgaaGreatDoorProg
import Derived.Test.YtodagkkjfipbgaaGreatDoorC3toC4
import Derived.Test.YtodagkkjfipbgaaGreatDoorK9toJ9
import Derived.Test.YtodagkkjfipbgaaGreatDoorK7toL3
import Derived.Test.YtodagkkjfipbgaaGreatDoorP2toQ1
import Derived.Test.YtodagkkjfipbgaaGreatDoorBtoP1
import Derived.Test.YtodagkkjfipbgaaGreatDoorK4toK6
import Derived.Test.YtodagkkjfipbgaaGreatDoorJ6toK3
import Derived.Test.YtodagkkjfipbgaaGreatDoorQ5toK2
import Derived.Test.YtodagkkjfipbgaaGreatDoorJ8toQ4
import Derived.Test.YtodagkkjfipbgaaGreatDoorQ2toQ3
import Derived.Test.YtodagkkjfipbgaaGreatDoorH1toC2
import Derived.Test.YtodagkkjfipbgaaGreatDoorUlone
import Derived.Test.YtodagkkjfipbgaaGreatDoorShlone
import Derived.Test.YtodagkkjfipbgaaGreatDoorV7toW5
namespace Go.Proofs.YtodagkkjfipbgaaGreatDoor
open Go.RowKit

structure RD where
  s : PS
  names : List ByteArray
  l : List (Int × Int × Nat)
def readC (T : ByteArray) : Nat → RD → RD
  | 0, r => r
  | g + 1, r => if memL [wClass] (r.s.tk T) = true then readC T g ⟨r.s.klass T r.names r.l, r.names ++ [nameTok T r.names r.s], (r.s.classB T r.names r.l).2⟩ else r
def readR (T : ByteArray) (names : List ByteArray) : Nat → PS → List RuleM → PS × List RuleM
  | 0, s, L => (s, L)
  | g + 1, s, L => if memL [wCut, wJoin] (s.tk T) = true then readR T names g (s.rule T names L.length) (L ++ [ruleOf T names L.length s]) else (s, L)
def readEnd (T : ByteArray) (s : PS) : PS := if s.p = T.size then s else s.fail T 2
def read0 (T : ByteArray) : RD := ⟨⟨skip T 0, 0, 0, 0, 0⟩, [], []⟩
def read1 (T : ByteArray) : RD := readC T (T.size + 1) (read0 T)
def read2 (T : ByteArray) : PS × List RuleM := readR T (read1 T).names (T.size + 1) (read1 T).s []
def readP (T : ByteArray) : PS := readEnd T (read2 T).1

theorem mem_lt {T : ByteArray} {s : PS} {L : List ByteArray} (hp : s.p ≤ T.size) (hne : ∀ x ∈ L, x.toList ≠ []) (h : memL L (s.tk T) = true) : s.p < T.size := by
  rcases Nat.lt_or_ge s.p T.size with h1 | h1
  · exact h1
  · exfalso
    have e : s.p = T.size := by omega
    unfold PS.tk at h
    rw [e, tokp_end, memL_iff] at h
    obtain ⟨x, hx, hx2⟩ := h
    exact hne x hx hx2
theorem Fr.below {base : Nat} {w w' : World} (h : Below w.heap.size w w') (hb : base ≤ w.heap.size) : Fr base w w' := ⟨h.mono hb, fun _ _ _ _ => Kp.below h⟩
theorem CAt.later {TR : World → Value → List (Int × Int × Nat) → Prop} {base b : Nat} {T : ByteArray} {names : List ByteArray} {vN vE vL : Value} {s : PS} {l : List (Int × Int × Nat)} {w w' : World} (hTR : AddOk base TR) (h : CAt TR base b T names vN vE vL s l w) (hb : Below w.heap.size w w') : CAt TR base b T names vN vE vL s l w' :=
  ⟨h.rd.later hb, row_kp h.row (Kp.below hb), hTR.keep _ _ _ _ h.tr (Kp.below hb), h.errs.below hb, h.fz, h.hb, h.hg⟩
/-- What lies below base, and all blocks but those that the reader writes, are as they were. -/
theorem rule_c {TR : World → Value → List (Int × Int × Nat) → Prop} {base : Nat} (hTR : AddOk base TR) (b : Nat) (T : ByteArray) (names : List ByteArray) (vN vE vL : Value) (s : PS) (l : List (Int × Int × Nat)) (Ls : List RuleM) (w : World) (h : CAt TR base b T names vN vE vL s l w) (hl : names.length ≤ 7) (hL : LIn base w vL Ls) (hn : Ls.length ≤ 1000) :
    Calls Tryz.prog 78 #[.pointer (some ⟨b, 0, none⟩)] w fun r w' => r = .returned (.tuple #[]) ∧ ∃ vL', CAt TR base b T names vN vE vL' (s.rule T names Ls.length) l w' ∧ LIn base w' vL' (Ls ++ [ruleOf T names Ls.length s]) ∧ Below base w w' := by
  refine (rule_any base b T names vN vE vL Ls s w h.rd (row_base h.row (Nat.zero_le _)) hl hL hn h.sz).mono ?_
  rintro r w' ⟨rfl, vL', h1, h2, h3⟩
  have own : ∀ k, vL.ownBlock = some k → base ≤ k ∧ ∃ cs, w.heap[k]? = some (.cells cs 148 (0, 0)) := by
    intro k e
    obtain ⟨_, _, g2, _⟩ := hL
    exact ⟨(g2.lt k e).1, row_type g2 k e⟩
  have hbl : Below base w w' := h3.below h.sz fun k hk e => by
    rcases e with rfl | e
    · have := h.hb; omega
    · have := (own k e).1; omega
  have kk : ∀ t, t ≠ 141 → t ≠ 148 → Kp t w w' := fun t a1 a2 k cs m hh => by
    rw [h3.block k (heap_lt hh) (fun e => ?_)]
    · exact hh
    · rcases e with rfl | e
      · exact type_ne hh h.rd.blk a1 rfl
      · obtain ⟨_, cs', hcs⟩ := own k e
        exact type_ne hh hcs a2 rfl
  have hE : ErrsOk w' := h.errs.on fun k o v hk hv => (hbl.cell (p := ⟨k, o, none⟩) (by simp only; have hg := h.hg; rcases hk with rfl | rfl | rfl <;> omega)).trans hv
  exact ⟨rfl, vL', ⟨h1, row_kp h.row (kk _ (by decide) (by decide)), hTR.keep _ _ _ _ h.tr (kk _ (by decide) (by decide)), hE, (rule_good T names Ls.length s h.rd.le h.fz).1, h.hb, h.hg⟩, h2, hbl⟩

/-- What Read answers: the fault and its place; without one, rules. -/
def ReadPost (TR : World → Value → List (Int × Int × Nat) → Prop) (base : Nat) (T : ByteArray) (w : World) (r : Ending) (w' : World) : Prop :=
  Below w.heap.size w w' ∧ ∃ vE vL, r = .returned (.tuple #[.agg #[vE, vL], .int .i64 (readP T).f, .int .i64 (if (readP T).f = 0 then 0 else (readP T).pl)]) ∧ ((readP T).f = 0 → TR w' vE (read1 T).l ∧ LIn base w' vL (read2 T).2) ∧ ((readP T).f ≠ 0 → vE = .slice none 0 0 ∧ vL = .slice none 0 0)
theorem results_ctt {P : Program} {fn : Func} {p u v : Tmp} {ty : TypeId} (h : fn.results = #[.cell p ty, .tmp u, .tmp v]) (tmps : Array Value) (w : World) (g : Nat) (t : TypeId) (cs : Array Value) (fr : Nat × Nat) (d : TypeDesc)
    (hp : tmps.getD p undef = .pointer (some ⟨g, 0, none⟩)) (hg : w.heap[g]? = some (.cells cs t fr)) (hu : P.underlying ty = some d) (hd : (match d with | .struct _ | .array _ _ => true | _ => false) = true) (hi : (P.info? ty).map (·.size) = some cs.size) :
    (results fn tmps).run P w = .ok (.tuple #[.agg cs, tmps.getD u undef, tmps.getD v undef]) w := by
  have hp' : tmps[p]?.getD undef = .pointer (some ⟨g, 0, none⟩) := by simpa using hp
  simp [results, h, hp', asAddr, run_loadVar_row w g t ty cs fr d hg hu hd hi]
theorem readR_stk (T : ByteArray) (names : List ByteArray) : ∀ (g : Nat) (s : PS) (L : List RuleM), s.p ≤ T.size → Fz T s → Stk s (readR T names g s L).1 := by
  intro g
  induction g with
  | zero => intro s L _ _; exact Stk.refl s
  | succ g ih =>
    intro s L hp hz
    rw [readR]
    split
    · have h := rule_good T names L.length s hp hz
      exact h.2.1.trans (ih _ _ h.2.2.1 h.1)
    · exact Stk.refl s
theorem readEnd_f {T : ByteArray} {s : PS} (h : (readEnd T s).f = 0) : s.f = 0 := by
  unfold readEnd at h
  split at h
  · exact h
  · unfold PS.fail PS.failAt pf at h
    simp only at h
    split at h
    · assumption
    · exact h
theorem set2 {w : World} {q : Nat} {a b x y : Value} {t : TypeId} (h : w.heap[q]? = some (.cells #[a, b] t (0, 0))) : ((w.setCell ⟨q, 0, none⟩ x).setCell ⟨q, 1, none⟩ y).heap[q]? = some (.cells #[x, y] t (0, 0)) := setCell1 (setCell0 h)

set_option maxRecDepth 100000 in
set_option maxHeartbeats 4000000 in
theorem read_pr (TR : World → Value → List (Int × Int × Nat) → Prop) (T : ByteArray) (w : World) (hTR : AddOk (w.heap.size + 1) TR) (hE : ErrsOk w) (hT : T.size ≤ 1000) :
    Calls Tryz.prog 42 #[.string T] w (ReadPost TR (w.heap.size + 1) T w) := by
  have HE : Hid (ErrsOk w) := hE
  have hgl : 6 < w.heap.size ∧ 7 < w.heap.size := by
    obtain ⟨⟨_, _, h1⟩, ⟨_, _, h2⟩, _⟩ := hE
    exact ⟨cell_lt h1, cell_lt h2⟩
  obtain ⟨W, hW⟩ : ∃ W, W = (w.alloc (.cells #[.slice none 0 0, .slice none 0 0] 84)).alloc (.cells #[.string T, .int .i64 0, .int .i64 0, .slice none 0 0, .slice none 0 0, .slice none 0 0, .int .i64 0, .int .i64 0] 141) := ⟨_, rfl⟩
  have HW : Hid (W = (w.alloc (.cells #[.slice none 0 0, .slice none 0 0] 84)).alloc (.cells #[.string T, .int .i64 0, .int .i64 0, .slice none 0 0, .slice none 0 0, .slice none 0 0, .int .i64 0, .int .i64 0] 141)) := hW
  have hb0 : W.heap[w.heap.size + 1]? = some (.cells (pcell T 0 0 (.slice none 0 0) (.slice none 0 0) (.slice none 0 0) 0 0) 141 (0, 0)) := by
    rw [hW]; exact (show ((w.alloc _).heap.size) = w.heap.size + 1 by simp) ▸ heap_alloc_new (w.alloc _) _
  have hr0 : W.heap[w.heap.size]? = some (.cells #[.slice none 0 0, .slice none 0 0] 84 (0, 0)) := by
    rw [hW, Below.heap_alloc _ _ _ (by simp)]; exact heap_alloc_new w _
  have hbw : Below w.heap.size w W := by rw [hW]; exact ((Below.refl _ _).alloc (Nat.le_refl _) _).alloc (by simp) _
  have hWs : W.heap.size = w.heap.size + 2 := by rw [hW]; simp
  have HB0 : Hid (PBlk W (w.heap.size + 1) T (0 : Nat) (0 : Nat) (.slice none 0 0) (.slice none 0 0) (.slice none 0 0) 0 0) := hb0
  have HR0 : Hid (W.heap[w.heap.size]? = some (.cells #[.slice none 0 0, .slice none 0 0] 84 (0, 0))) := hr0
  have HBW : Hid (Below w.heap.size w W) := hbw
  clear hE hW hb0 hr0 hbw
  go_enter Tryz.func42, Tryz.ntmps42
  go_wp2_with fail
  rw [← HW.out]
  refine (step_any (w.heap.size + 1) T 0 0 (.slice none 0 0) (.slice none 0 0) (.slice none 0 0) 0 0 W HB0.out (Nat.zero_le _) hT).mono ?_
  rintro r w1 ⟨rfl, h1, c1⟩
  have hsk := (skip_le T 0).2 (Nat.zero_le _)
  have H1 : Hid (CAt TR (w.heap.size + 1) (w.heap.size + 1) T [] (.slice none 0 0) (.slice none 0 0) (.slice none 0 0) (read0 T).s [] w1) := by
    refine ⟨⟨h1, hsk, hT⟩, World.ownsRow_nil _ _ _ _, hTR.nil w1, ?_, fun e => (e rfl).elim, Nat.le_refl _, by omega⟩
    refine (HE.out.below HBW.out).on fun k o v hk hv => ?_
    have : k ≠ w.heap.size + 1 := by rcases hk with rfl | rfl | rfl <;> omega
    exact (World.cell?_of_block (a := ⟨k, o, none⟩) (w := W) (c1.block k (cell_lt hv) this)).trans hv
  have F1 : Hid (Below (w.heap.size + 1) W w1) := c1.below (by omega) fun k hk e => by omega
  clear h1 c1
  obtain ⟨B, hB⟩ : ∃ B, B = w.heap.size + 1 := ⟨_, rfl⟩
  have HB : Hid (B = w.heap.size + 1) := hB
  rw [← hB] at hTR H1 F1 ⊢
  clear hB
  go_upto_block 0 with fail
  go_cut [] (fun wx => Hid (∃ vN vE lm, CAt TR B B T (read1 T).names vN vE (.slice none 0 0) (read1 T).s lm wx ∧ ((read1 T).s.f = 0 → lm = (read1 T).l) ∧ (read1 T).names.length ≤ 7) ∧ Hid (Below B W wx))
  case first =>
    go_wp2_with fail
    go_loopg [] (T.size + 1) (fun g wx => ∃ (r : RD) (vN vE : Value) (lm : List (Int × Int × Nat)), Hid (CAt TR B B T r.names vN vE (.slice none 0 0) r.s lm wx) ∧ Hid (Below B W wx) ∧ Hid (r.s.f = 0 → lm = r.l) ∧ Hid (readC T g r = read1 T) ∧ T.size < r.s.p + g ∧ lm.length ≤ r.s.p ∧ Hid (r.s.f = 0 → r.names.length ≤ 6) ∧ r.names.length ≤ 7)
    case atStart => exact ⟨read0 T, _, _, [], H1, F1, fun _ => rfl, rfl, by omega, Nat.zero_le _, fun _ => by show 0 ≤ 6; omega, by show 0 ≤ 7; omega⟩
    case round =>
      obtain ⟨r, vN, vE, lm, hC, hF, hL, hS, hg, hlm, hN6, hN7⟩ := hrel
      obtain ⟨w2, hw2⟩ : ∃ w2, w2 = wr := ⟨wr, rfl⟩
      subst hw2
      have hle' := hC.out.rd.le
      obtain ⟨g', hg'⟩ : ∃ g', gk = g' + 1 := ⟨gk - 1, by omega⟩
      subst hg'
      clear H1 F1
      go_wp2_with fail
      refine (is_new B T vN vE (.slice none 0 0) r.s [wClass] w2 hC.out.rd (by decide) (by decide)).mono ?_
      rintro e w3 ⟨rfl, b3⟩
      have H3 : Hid (CAt TR B B T r.names vN vE (.slice none 0 0) r.s lm w3) := hC.out.later hTR b3
      have F3 : Hid (Below B W w3) := hF.out.trans (b3.mono hC.out.sz)
      clear hC hF b3
      cases hm : memL [wClass] (r.s.tk T)
      · have e : Hid (read1 T = r) := by show _ = _; rw [← hS.out, readC, hm]; rfl
        go_wp2_with fail
        go_meet
        exact ⟨⟨vN, vE, lm, by rw [e.out]; exact H3.out, by rw [e.out]; exact hL.out, by rw [e.out]; exact hN7⟩, F3⟩
      · have hlt := mem_lt hle' cls_ne hm
        have h0 : r.s.f = 0 := by
          rcases Classical.em (r.s.f = 0) with h | h
          · exact h
          · have := H3.out.fz h; omega
        have hll := hL.out h0
        have hn6 := hN6.out h0
        have e : Hid (readC T g' ⟨r.s.klass T r.names r.l, r.names ++ [nameTok T r.names r.s], (r.s.classB T r.names r.l).2⟩ = read1 T) := by show _ = _; rw [← hS.out, readC, hm]; rfl
        have hcp := class_p T r.names lm r.s H3.out.fz hle'
        have hadv := hcp.2.2 hlt
        have HLL : Hid (lm = r.l) := hll
        clear h0 hll hL hS hN6
        go_wp2_with fail
        refine (pclass_any hTR B T r.names vN vE (.slice none 0 0) r.s lm w3 H3.out (by omega) hlm hlt).mono ?_
        rintro e4 w4 ⟨rfl, vN4, vE4, l4, h4, l4l, l4e, f4⟩
        have H4 : Hid (CAt TR B B T (r.names ++ [nameTok T r.names r.s]) vN4 vE4 (.slice none 0 0) (r.s.klass T r.names lm) l4 w4) := h4
        have L4 : Hid ((r.s.klass T r.names lm).f = 0 → l4 = (r.s.classB T r.names lm).2) := l4e
        have F4 : Hid (Below B W w4) := F3.out.trans f4.1
        clear h4 l4e f4
        go_wp2_with fail
        go_roundg g'
        case measure => omega
        case rel =>
          refine ⟨⟨r.s.klass T r.names lm, r.names ++ [nameTok T r.names r.s], (r.s.classB T r.names lm).2⟩, vN4, vE4, l4, H4, F4, L4, ?_, by show T.size < (r.s.klass T r.names lm).p + g'; omega, l4l, fun hf => ?_, ?_⟩
          · show _ = _
            rw [HLL.out]; exact e.out
          · have := class_six T r.names lm r.s hf
            show (r.names ++ [nameTok T r.names r.s]).length ≤ 6
            rw [List.length_append]; simp; omega
          · show (r.names ++ [nameTok T r.names r.s]).length ≤ 7
            rw [List.length_append]; simp; omega
  case rest =>
    obtain ⟨h2, f2⟩ := hcut
    obtain ⟨w2, hw2⟩ : ∃ w2, w2 = wc := ⟨wc, rfl⟩
    subst hw2
    clear H1 F1
    obtain ⟨vN, vE, lm, hC2, hL2, hN7⟩ := h2.out
    have HC2 : Hid (CAt TR B B T (read1 T).names vN vE (.slice none 0 0) (read1 T).s lm w2) := hC2
    have HL2 : Hid ((read1 T).s.f = 0 → lm = (read1 T).l) := hL2
    have hle2 := hC2.rd.le
    have HZ2 : Hid (Fz T (read1 T).s) := hC2.fz
    clear h2 hC2 hL2
    go_upto_block 2 with fail
    go_cut [] (fun wx => Hid (∃ vL, CAt TR B B T (read1 T).names vN vE vL (read2 T).1 lm wx ∧ LIn B wx vL (read2 T).2) ∧ Hid (Below B W wx))
    case first =>
      go_wp2_with fail
      go_loopg [] (T.size + 1) (fun g wx => ∃ (s' : PS) (vL : Value) (Ls : List RuleM), Hid (CAt TR B B T (read1 T).names vN vE vL s' lm wx) ∧ Hid (LIn B wx vL Ls) ∧ Hid (Below B W wx) ∧ Hid (readR T (read1 T).names g s' Ls = read2 T) ∧ T.size < s'.p + g ∧ Ls.length ≤ s'.p)
      case atStart => exact ⟨_, _, [], HC2, ⟨[], rfl, World.ownsRow_nil _ _ _ _, fun i L v hL => by simp at hL⟩, f2, rfl, by omega, Nat.zero_le _⟩
      case round =>
        obtain ⟨s', vL, Ls, hC, hLI, hF, hS, hg, hll⟩ := hrel
        obtain ⟨w3, hw3⟩ : ∃ w3, w3 = wr := ⟨wr, rfl⟩
        subst hw3
        have hle' := hC.out.rd.le
        obtain ⟨g', hg'⟩ : ∃ g', gk = g' + 1 := ⟨gk - 1, by omega⟩
        subst hg'
        clear HC2 f2
        go_wp2_with fail
        refine (is_new B T vN vE vL s' [wCut, wJoin] w3 hC.out.rd (by decide) (by decide)).mono ?_
        rintro e w4 ⟨rfl, b4⟩
        have H4 : Hid (CAt TR B B T (read1 T).names vN vE vL s' lm w4) := hC.out.later hTR b4
        have L4 : Hid (LIn B w4 vL Ls) := hLI.out.below b4
        have F4 : Hid (Below B W w4) := hF.out.trans (b4.mono hC.out.sz)
        clear hC hF b4 hLI
        cases hm : memL [wCut, wJoin] (s'.tk T)
        · have e : Hid (read2 T = (s', Ls)) := by show _ = _; rw [← hS.out, readR, hm]; rfl
          go_wp2_with fail
          go_meet
          exact ⟨⟨vL, by rw [e.out]; exact H4.out, by rw [e.out]; exact L4.out⟩, F4⟩
        · have hlt := mem_lt hle' cj_ne hm
          have hrg := rule_good T (read1 T).names Ls.length s' hle' H4.out.fz
          have hadv := hrg.2.2.2.2 hlt
          have e : Hid (readR T (read1 T).names g' (s'.rule T (read1 T).names Ls.length) (Ls ++ [ruleOf T (read1 T).names Ls.length s']) = read2 T) := by show _ = _; rw [← hS.out, readR, hm]; rfl
          clear hS hrg
          go_wp2_with fail
          refine (rule_c hTR B T (read1 T).names vN vE vL s' lm Ls w4 H4.out hN7 L4.out (by omega)).mono ?_
          rintro e5 w5 ⟨rfl, vL5, h5, l5, b5⟩
          have H5 : Hid (CAt TR B B T (read1 T).names vN vE vL5 (s'.rule T (read1 T).names Ls.length) lm w5) := h5
          have L5 : Hid (LIn B w5 vL5 (Ls ++ [ruleOf T (read1 T).names Ls.length s'])) := l5
          have F5 : Hid (Below B W w5) := F4.out.trans b5
          clear h5 l5 b5
          go_wp2_with fail
          go_roundg g'
          case measure => omega
          case rel => exact ⟨_, vL5, _, H5, L5, F5, e, by omega, by rw [List.length_append]; simp; omega⟩
    case rest =>
      obtain ⟨h3, f3⟩ := hcut
      obtain ⟨w3, hw3⟩ : ∃ w3, w3 = wc := ⟨wc, rfl⟩
      subst hw3
      clear HC2 f2
      obtain ⟨vL, hC3, hL3⟩ := h3.out
      have HC3 : Hid (CAt TR B B T (read1 T).names vN vE vL (read2 T).1 lm w3) := hC3
      have HL3 : Hid (LIn B w3 vL (read2 T).2) := hL3
      clear h3 hC3 hL3
      obtain ⟨s3, hs3⟩ : ∃ s3, s3 = (read2 T).1 := ⟨_, rfl⟩
      rw [← hs3] at HC3
      have HP : Hid (readP T = readEnd T s3) := by show _ = _; unfold readP; rw [hs3]
      have HS1 : Hid (Stk (read1 T).s s3) := by rw [hs3]; exact readR_stk T _ _ _ _ hle2 HZ2.out
      clear hs3
      go_wp2_with fail
      refine (ended_any B T s3.p (tokEnd T s3.p) vN vE vL s3.f s3.pl w3 HC3.out.rd.blk).mono ?_
      rintro r w4 ⟨rfl, n, hw4⟩
      have b4 : Below w3.heap.size w3 w4 := by rw [hw4]; exact bdrew (Below.refl _ _) n
      clear hw4
      have H4 : Hid (CAt TR B B T (read1 T).names vN vE vL s3 lm w4) := HC3.out.later hTR b4
      have L4 : Hid (LIn B w4 vL (read2 T).2) := HL3.out.below b4
      have F4 : Hid (Below B W w4) := f3.out.trans (b4.mono HC3.out.sz)
      clear HC3 HL3 f3 b4
      go_upto_if 20 with fail
      go_cut [] (fun wx => Hid (CAt TR B B T (read1 T).names vN vE vL (readEnd T s3) lm wx) ∧ Hid (LIn B wx vL (read2 T).2) ∧ Hid (Below B W wx))
      case first =>
        by_cases hp : s3.p = T.size
        · have k1 : decide (s3.p = T.size) = true := by simpa using hp
          have e : Hid (readEnd T s3 = s3) := by show _ = _; unfold readEnd; rw [if_pos hp]
          rw [k1]
          clear hp k1
          go_wp2_with fail
          go_meet
          exact ⟨by rw [e.out]; exact H4, L4, F4⟩
        · have k1 : decide (s3.p = T.size) = false := by simpa using hp
          have e : Hid (readEnd T s3 = s3.fail T 2) := by show _ = _; unfold readEnd; rw [if_neg hp]
          rw [k1]
          clear hp k1
          go_wp2_with fail
          refine (fail_ps B T vN vE vL s3 2 w4 H4.out.rd).mono ?_
          rintro r w5 ⟨rfl, h5, c5⟩
          have H5 : Hid (CAt TR B B T (read1 T).names vN vE vL (s3.fail T 2) lm w5 ∧ Fr B w4 w5) := H4.out.on hTR h5 c5 (Fz.fail' s3 2)
          have L5 : Hid (LIn B w5 vL (read2 T).2) := L4.out.chg1 H4.out.rd.blk c5
          clear h5 c5
          go_wp2_with fail
          go_meet
          exact ⟨by rw [e.out]; exact H5.out.1, L5, F4.out.trans H5.out.2.1⟩
      case rest =>
        obtain ⟨h5, l5, f5⟩ := hcut
        obtain ⟨w5, hw5⟩ : ∃ w5, w5 = wc := ⟨wc, rfl⟩
        subst hw5
        clear H4 L4 F4
        have H5 : Hid (CAt TR B B T (read1 T).names vN vE vL (readP T) lm w5) := by rw [HP.out]; exact h5
        have HF : Hid ((readP T).f = 0 → (read1 T).s.f = 0) := by
          intro h0
          rw [HP.out] at h0
          have h1 := readEnd_f h0
          rcases Classical.em ((read1 T).s.f = 0) with h | h
          · exact h
          · have := (HS1.out h).1; rw [h1] at this; exact absurd this.symm h
        have q5 : w5.heap[w.heap.size]? = some (.cells #[.slice none 0 0, .slice none 0 0] 84 (0, 0)) := by
          rw [f5.out.block _ (by have := HB.out; omega)]; exact HR0.out
        have QQ : Hid (w5.heap[w.heap.size]? = some (.cells #[.slice none 0 0, .slice none 0 0] 84 (0, 0))) := q5
        have hqB : w.heap.size ≠ B := by have := HB.out; omega
        obtain ⟨ff, hff⟩ : ∃ ff, ff = (readP T).f := ⟨_, rfl⟩
        obtain ⟨pp', hpp⟩ : ∃ pp', pp' = (readP T).pl := ⟨_, rfl⟩
        have hcs := pcells H5.out.rd.blk
        rw [← hff, ← hpp] at hcs
        obtain ⟨c0, c1, c2, c3, c4, c5, c6, c7, cf⟩ := hcs
        have d0 := cell_of_block q5 0 _ rfl
        have d1 := cell_of_block q5 1 _ rfl
        have df := free_of_block q5
        have HFF : Hid (ff = (readP T).f) := hff
        have HPP : Hid (pp' = (readP T).pl) := hpp
        clear h5 hff hpp q5 c0 c1 c2 c3
        obtain ⟨aoE, nE, capE, rfl⟩ := hTR.shape _ _ _ H5.out.tr
        obtain ⟨aoL, capL, rfl⟩ : ∃ ao cap, vL = .slice ao (read2 T).2.length cap := by obtain ⟨_, _, h2, _⟩ := l5.out; exact row_shape h2
        by_cases h0 : ff = 0
        · have k0 : (ff == 0) = true := by rw [beq_iff_eq]; exact h0
          have K0 : Hid ((readP T).f = 0) := by rw [← HFF.out]; exact h0
          clear h0
          go_wp2_with fail
          refine bodyPost_ret (results_ctt rfl _ _ w.heap.size 84 _ (0, 0) _ rfl (set2 QQ.out) Tryz.underlying84 rfl (by kernel_rfl)) rfl ?_
          have kp : ∀ t, t ≠ 84 → Kp t w5 ((w5.setCell ⟨w.heap.size, 0, none⟩ (.slice aoE nE capE)).setCell ⟨w.heap.size, 1, none⟩ (.slice aoL (read2 T).2.length capL)) := fun t ht => ((Kp.refl _ _).setCell QQ.out ht _).setCell (setCell0 QQ.out) ht _
          refine ⟨?_, .slice aoE nE capE, .slice aoL (read2 T).2.length capL, by rw [K0.out]; rfl, fun _ => ⟨?_, ?_⟩, fun h => absurd K0.out h⟩
          · have b1 : Below w.heap.size w w5 := HBW.out.trans (f5.out.mono (by have := HB.out; omega))
            exact (b1.setCell (Nat.le_refl _) _).setCell (Nat.le_refl _) _
          · have e := HL2.out (HF.out K0.out)
            rw [← e]
            exact hTR.keep _ _ _ _ H5.out.tr (kp _ (by decide))
          · rw [← HB.out]
            exact l5.out.kp (kp _ (by decide)) (kp _ (by decide)) (kp _ (by decide))
        · have k0 : (ff == 0) = false := by rw [beq_eq_false_iff_ne]; exact h0
          have K0 : Hid ((readP T).f ≠ 0) := by rw [← HFF.out]; exact h0
          clear h0
          go_wp2_with fail
          go_region
          all_goals (try go_wp2_with fail)
          all_goals
            refine bodyPost_ret (results_ctt rfl _ _ w.heap.size 84 #[.slice none 0 0, .slice none 0 0] (0, 0) _ rfl (set2 QQ.out) Tryz.underlying84 rfl (by kernel_rfl)) rfl ?_
            refine ⟨?_, .slice none 0 0, .slice none 0 0, ?_, fun h => absurd h K0.out, fun _ => ⟨rfl, rfl⟩⟩
            · have b1 : Below w.heap.size w w5 := HBW.out.trans (f5.out.mono (by have := HB.out; omega))
              exact ((b1.setCell (Nat.le_refl _) _).setCell (Nat.le_refl _) _).drew
            · rw [if_neg K0.out, ← HFF.out, ← HPP.out]; rfl
end Go.Proofs.YtodagkkjfipbgaaGreatDoor
namespace Go.Proofs.YtodagkkjfipbgaaGreatDoor
open Go.RowKit

/-- One element more at the end of a row of the call's own. -/
theorem ReRow.push {R : Value → Rx → Prop} {B : Nat} {w' : World} {v' u : Value} {x : Rx} {O : List Rx} {us : List Value}
    (hlen : us.length = O.length) (hR : ∀ (i : Nat) (u : Value) (x : Rx), us[i]? = some u → O[i]? = some x → R u x) (hu : R u x)
    (hown : w'.ownsRow B 178 1 v' (O.length + 1) (us ++ [u])) : ReRow R B w' v' (O ++ [x]) := by
  refine ⟨us ++ [u], by simp [hlen], by simpa using hown, ?_⟩
  intro i u' x' h1 h2
  by_cases hi : i < O.length
  · rw [List.getElem?_append_left (by omega)] at h1
    rw [List.getElem?_append_left hi] at h2
    exact hR i _ _ h1 h2
  · have hi' : i = O.length := by
      have := (List.getElem?_eq_some_iff.1 h2).1
      simp at this; omega
    subst hi'
    rw [List.getElem?_append_right (by omega)] at h1
    rw [List.getElem?_append_right (by omega)] at h2
    simp [hlen] at h1 h2
    subst h1; subst h2
    exact hu
/-- What has been gathered when k elements are done. -/
def amongAt (L : List Rx) (x : Rx) (k : Nat) (inn : Bool) (O : List Rx) : Prop := O ++ (if inn = true then L.drop k else amongX (L.drop k) x) = amongX L x
end Go.Proofs.YtodagkkjfipbgaaGreatDoor
namespace Go.Proofs.YtodagkkjfipbgaaGreatDoor
open Go.RowKit

/-- What stands behind either's first loop. -/
def gAt (x y : Rx) (k : Nat) : List Rx := if k = 0 then [] else if k = 1 then gatherX [] x else gatherX (gatherX [] x) y
def pk (x y : Rx) (k : Nat) : Rx := if k = 0 then x else y
end Go.Proofs.YtodagkkjfipbgaaGreatDoor
/- A reference Rules in memory, in a state; what each step keeps. -/
namespace Go.Proofs.YtodagkkjfipbgaaGreatDoor
open Go.RowKit

/-- The one cell of the table of tens that is read. -/
def TabOK (w : World) : Prop := w.cell? ⟨1, 2, none⟩ = some (.int .u64 100)

def RS.Ok (T : ByteArray) (s : RS) : Prop :=
  s.at_ ≤ T.size ∧ s.names.length ≤ 6 ∧ s.spans.length ≤ s.at_ + 1 ∧ s.L.length ≤ 4 ∧ 0 ≤ s.atoms ∧ s.atoms ≤ 5 ∧ 0 ≤ s.nest ∧ s.nest ≤ 4 ∧ (s.err = 0 → s.spans.length ≤ s.at_ ∧ s.atoms ≤ 4 ∧ ∀ x ∈ s.names, x.toList ≠ [])

def spanCells (l : List (Int × Int × Int)) : List Value := l.flatMap fun o => [.int .i64 o.1, .int .i64 o.2.1, .int .i64 o.2.2]
def ruleCells (l : List (Bool × Value × Value)) : List Value := l.flatMap fun o => [.bool o.1, o.2.1, o.2.2]
def AreRules (w : World) (vs : List (Bool × Value × Value)) (L : List (Bool × Rx × Rx)) : Prop :=
  vs.length = L.length ∧ ∀ (i : Nat) (v : Bool × Value × Value) (x : Bool × Rx × Rx), vs[i]? = some v → L[i]? = some x → v.1 = x.1 ∧ (∃ d, IsRe d w v.2.1 x.2.1) ∧ ∃ d, IsRe d w v.2.2 x.2.2

/-- The rows of a reference Rules. -/
def Rows3 (w : World) (base : Nat) (s : RS) (vN vS vL : Value) : Prop :=
  w.ownsRow base 9 1 vN s.names.length (s.names.map .string) ∧ w.ownsRow base 197 3 vS s.spans.length (spanCells s.spans) ∧
  ∃ vs, w.ownsRow base 181 3 vL s.L.length (ruleCells vs) ∧ AreRules w vs s.L

def RSt (w : World) (base b : Nat) (T : ByteArray) (s : RS) : Prop :=
  1 < base ∧ base ≤ b ∧ T.size ≤ 1000 ∧ s.Ok T ∧ TabOK w ∧ ∃ vN vS vL, Blk w b T s vN vS vL ∧ Rows3 w base s vN vS vL

/-- All blocks of a type are as they were. -/
def Kt (t : TypeId) (w w' : World) : Prop := ∀ (k : Nat) (cs : Array Value) (m : Nat × Nat), w.heap[k]? = some (.cells cs t m) → w'.heap[k]? = some (.cells cs t m)
theorem Kt.refl (t : TypeId) (w : World) : Kt t w w := fun _ _ _ h => h
theorem Kt.trans {t : TypeId} {a b c : World} (h : Kt t a b) (k : Kt t b c) : Kt t a c := fun i cs m hh => k i cs m (h i cs m hh)
theorem Kt.below {t : TypeId} {w w' : World} (h : Below w.heap.size w w') : Kt t w w' := fun k cs m hh => by rw [h.block k (Array.getElem?_eq_some_iff.1 hh).1]; exact hh
/-- The list of rules of each Rules is the same slice. -/
def KL (w w' : World) : Prop := ∀ (k : Nat) (cs : Array Value), w.heap[k]? = some (.cells cs 35 (0, 0)) → ∃ cs' : Array Value, w'.heap[k]? = some (.cells cs' 35 (0, 0)) ∧ cs'[6]? = cs[6]?
theorem KL.refl (w : World) : KL w w := fun _ cs h => ⟨cs, h, rfl⟩
theorem KL.trans {a b c : World} (h : KL a b) (k : KL b c) : KL a c := fun i cs hh => by
  obtain ⟨c1, h1, e1⟩ := h i cs hh
  obtain ⟨c2, h2, e2⟩ := k i c1 h1
  exact ⟨c2, h2, e2.trans e1⟩
theorem KL.of_kt {w w' : World} (h : Kt 35 w w') : KL w w' := fun k cs hh => ⟨cs, h k cs _ hh, rfl⟩
/-- Nothing below base has turned, nor a tree, nor a rule, nor which rules there are. -/
structure RChg (base : Nat) (w w' : World) : Prop where
  b : Below base w w'
  k : KeepRe w w'
  r : Kt 181 w w'
  l : KL w w'
theorem RChg.refl (base : Nat) (w : World) : RChg base w w := ⟨Below.refl _ _, KeepRe.refl _, Kt.refl _ _, KL.refl _⟩
theorem RChg.trans {base : Nat} {a b c : World} (h : RChg base a b) (k : RChg base b c) : RChg base a c := ⟨h.1.trans k.1, h.2.trans k.2, h.3.trans k.3, h.4.trans k.4⟩
theorem RChg.of_below {base : Nat} {w w' : World} (h : Below w.heap.size w w') (hb : base ≤ w.heap.size) : RChg base w w' := ⟨h.mono hb, KeepRe.of_below h, Kt.below h, KL.of_kt (Kt.below h)⟩
theorem TabOK.on {base : Nat} {w w' : World} (h : TabOK w) (hb : Below base w w') (h2 : 1 < base) : TabOK w' := (hb.cell (p := ⟨1, 2, none⟩) h2).trans h

theorem AreRules.keep {w w' : World} {vs : List (Bool × Value × Value)} {L : List (Bool × Rx × Rx)} (h : AreRules w vs L) (hk : KeepRe w w') : AreRules w' vs L := by
  refine ⟨h.1, fun i v x hv hx => ?_⟩
  obtain ⟨h1, ⟨d, h2⟩, e, h3⟩ := h.2 i v x hv hx
  exact ⟨h1, ⟨d, h2.keep hk⟩, e, h3.keep hk⟩
theorem ownsRow_chg {w w' : World} {base : Nat} {e : TypeId} {size : Nat} {v : Value} {n : Nat} {us : List Value} (h : w.ownsRow base e size v n us)
    (hk : ∀ (k : Nat) (cs : Array Value) (m : Nat × Nat), w.heap[k]? = some (.cells cs e m) → w'.heap[k]? = some (.cells cs e m)) : w'.ownsRow base e size v n us := by
  obtain ⟨h1, h2⟩ := h
  refine ⟨h1, ?_⟩
  rcases h2 with h2 | ⟨g, cap, cur, hv, hg, hh, r⟩
  · exact Or.inl h2
  · exact Or.inr ⟨g, cap, cur, hv, hg, hk _ _ _ hh, r⟩
/-- A change of the block of the Rules alone. -/
theorem kept_of_chg1 {w w' : World} {b : Nat} {cs0 : Array Value} {t0 t : TypeId} {m0 : Nat × Nat} (hb : w.heap[b]? = some (.cells cs0 t0 m0)) (hc : Chg (fun k => k = b) w w') (ht : t ≠ t0) :
    ∀ (k : Nat) (cs : Array Value) (m : Nat × Nat), w.heap[k]? = some (.cells cs t m) → w'.heap[k]? = some (.cells cs t m) := by
  intro k cs m hh
  rw [hc.block k (Array.getElem?_eq_some_iff.1 hh).1 (fun e => by subst e; rw [hb] at hh; simp at hh; exact ht hh.2.1.symm)]; exact hh
theorem keepRe_chg1 {w w' : World} {b : Nat} {T : ByteArray} {s : RS} {vN vS vL : Value} (h : Blk w b T s vN vS vL) (hc : Chg (fun k => k = b) w w') : KeepRe w w' := by
  intro k cs t m ht hh
  rcases ht with rfl | rfl
  · exact kept_of_chg1 h hc (by decide) k cs m hh
  · exact kept_of_chg1 h hc (by decide) k cs m hh
theorem rows_chg1 {w w' : World} {base b : Nat} {T : ByteArray} {s s' : RS} {vN vS vL : Value} (h : Blk w b T s vN vS vL) (hc : Chg (fun k => k = b) w w') (hr : Rows3 w base s vN vS vL)
    (h1 : s'.names = s.names) (h2 : s'.spans = s.spans) (h3 : s'.L = s.L) : Rows3 w' base s' vN vS vL := by
  obtain ⟨a, b', vs, c, d⟩ := hr
  unfold Rows3
  rw [h1, h2, h3]
  exact ⟨ownsRow_chg a (kept_of_chg1 h hc (by decide)), ownsRow_chg b' (kept_of_chg1 h hc (by decide)), vs, ownsRow_chg c (kept_of_chg1 h hc (by decide)), d.keep (keepRe_chg1 h hc)⟩
theorem rchg_chg1 {w w' : World} {base b : Nat} {T : ByteArray} {s s' : RS} {vN vS vL : Value} (h : Blk w b T s vN vS vL) (h' : Blk w' b T s' vN vS vL) (hc : Chg (fun k => k = b) w w') (hbb : base ≤ b) : RChg base w w' :=
  ⟨hc.below (Nat.le_trans hbb (Nat.le_of_lt (Array.getElem?_eq_some_iff.1 h).1)) (fun k hk e => by omega), keepRe_chg1 h hc, kept_of_chg1 h hc (by decide), fun k cs hh => by
    by_cases e : k = b
    · subst e
      refine ⟨_, h', ?_⟩
      have h2 := h
      unfold Blk at h2
      rw [h2] at hh
      simp at hh
      rw [← hh]; rfl
    · exact ⟨cs, by rw [hc.block k (Array.getElem?_eq_some_iff.1 hh).1 e]; exact hh, rfl⟩⟩
/-- A step that turns the numbers of the Rules alone. -/
theorem RSt.step {w w' : World} {base b : Nat} {T : ByteArray} {s s' : RS} {vN vS vL : Value} (h : RSt w base b T s) (hb : Blk w b T s vN vS vL) (hr : Rows3 w base s vN vS vL) (hb' : Blk w' b T s' vN vS vL) (hc : Chg (fun k => k = b) w w')
    (h1 : s'.names = s.names) (h2 : s'.spans = s.spans) (h3 : s'.L = s.L) (hok : s'.Ok T) : RSt w' base b T s' ∧ RChg base w w' := by
  obtain ⟨g, hbb, hT, _, ht, _⟩ := h
  have hrc := rchg_chg1 hb hb' hc hbb
  exact ⟨⟨g, hbb, hT, hok, ht.on hrc.1 g, vN, vS, vL, hb', rows_chg1 hb hc hr h1 h2 h3⟩, hrc⟩
/-- A step that makes new memory alone. -/
theorem RSt.below {w w' : World} {base b : Nat} {T : ByteArray} {s : RS} (h : RSt w base b T s) (hb : Below w.heap.size w w') : RSt w' base b T s ∧ RChg base w w' := by
  obtain ⟨g, hbb, hT, hok, ht, vN, vS, vL, hblk, a, b', vs, c, d⟩ := h
  have hbs : b < w.heap.size := (Array.getElem?_eq_some_iff.1 hblk).1
  have hrc : RChg base w w' := RChg.of_below hb (by omega)
  have hk : ∀ (t : TypeId) (k : Nat) (cs : Array Value) (m : Nat × Nat), w.heap[k]? = some (.cells cs t m) → w'.heap[k]? = some (.cells cs t m) := fun t k cs m hh => by
    rw [hb.block k (Array.getElem?_eq_some_iff.1 hh).1]; exact hh
  exact ⟨⟨g, hbb, hT, hok, ht.on hrc.1 g, vN, vS, vL, by unfold Blk; rw [hb.block b hbs]; exact hblk, ownsRow_chg a (hk _), ownsRow_chg b' (hk _), vs, ownsRow_chg c (hk _), d.keep hrc.2⟩, hrc⟩

theorem fail_same (s : RS) (e p : Int) : (s.fail e p).names = s.names ∧ (s.fail e p).spans = s.spans ∧ (s.fail e p).L = s.L ∧ (s.fail e p).at_ = s.at_ ∧ (s.fail e p).atoms = s.atoms ∧ (s.fail e p).nest = s.nest := by
  unfold RS.fail; split <;> simp
theorem fail_err (s : RS) (e p : Int) (he : e ≠ 0) : (s.fail e p).err ≠ 0 := by
  unfold RS.fail; split <;> simp_all
theorem RS.Ok.fail {T : ByteArray} {s : RS} (h : s.Ok T) (e p : Int) (he : e ≠ 0) : (s.fail e p).Ok T := by
  obtain ⟨f1, f2, f3, f4, f5, f6⟩ := fail_same s e p
  have := fail_err s e p he
  unfold RS.Ok at *
  rw [f1, f2, f3, f4, f5, f6]
  exact ⟨h.1, h.2.1, h.2.2.1, h.2.2.2.1, h.2.2.2.2.1, h.2.2.2.2.2.1, h.2.2.2.2.2.2.1, h.2.2.2.2.2.2.2.1, fun e0 => absurd e0 this⟩
theorem RS.Ok.at_ {T : ByteArray} {s : RS} (h : s.Ok T) (n : Nat) (h1 : s.at_ ≤ n) (h2 : n ≤ T.size) : ({ s with at_ := n } : RS).Ok T := by
  unfold RS.Ok at *
  obtain ⟨a, b, c, d, e, f, g, i, j⟩ := h
  refine ⟨h2, b, by show s.spans.length ≤ n + 1; omega, d, e, f, g, i, fun he => ?_⟩
  have := j he
  exact ⟨by show s.spans.length ≤ n; omega, this.2⟩
theorem RS.Ok.take {T : ByteArray} {s : RS} (h : s.Ok T) : (s.take T).Ok T := h.at_ _ (take_at T s h.1).2.1 (take_at T s h.1).1
theorem RS.Ok.peek {T : ByteArray} {s : RS} (h : s.Ok T) : (s.peek T).Ok T := h.at_ _ (peek_at T s h.1).2 (peek_at T s h.1).1
theorem want_same (T : ByteArray) (s : RS) (l : List UInt8) : (s.want T l).names = s.names ∧ (s.want T l).spans = s.spans ∧ (s.want T l).L = s.L ∧ (s.want T l).at_ = (s.take T).at_ ∧ (s.want T l).atoms = s.atoms ∧ (s.want T l).nest = s.nest := by
  unfold RS.want
  split
  · simp [RS.take]
  · exact fail_same (s.take T) _ _
theorem RS.Ok.want {T : ByteArray} {s : RS} (h : s.Ok T) (l : List UInt8) : (s.want T l).Ok T := by
  unfold RS.want
  split
  · exact h.take
  · exact h.take.fail _ _ (by omega)
theorem hex_same (T : ByteArray) (s : RS) : (s.hex T).names = s.names ∧ (s.hex T).spans = s.spans ∧ (s.hex T).L = s.L ∧ (s.hex T).at_ = (s.take T).at_ ∧ (s.hex T).atoms = s.atoms ∧ (s.hex T).nest = s.nest := by
  unfold RS.hex
  simp only
  split
  · exact fail_same (s.take T) _ _
  · split <;> split <;> simp [fail_same, RS.take]
theorem RS.Ok.hex {T : ByteArray} {s : RS} (h : s.Ok T) : (s.hex T).Ok T := by
  unfold RS.hex
  simp only
  split
  · exact h.take.fail _ _ (by omega)
  · split
    · split
      · exact h.take.fail _ _ (by omega)
      · exact (h.take.fail _ _ (by omega)).fail _ _ (by omega)
    · split
      · exact h.take
      · exact h.take.fail _ _ (by omega)

/- The steps, at a state. -/
/-- The cells that a walk reads. -/
theorem RSt.cells {w : World} {base b : Nat} {T : ByteArray} {s : RS} (h : RSt w base b T s) : ∃ vN vS vL, Blk w b T s vN vS vL ∧ Rows3 w base s vN vS vL ∧
    w.cell? ⟨b, 0, none⟩ = some (.string T) ∧ w.cell? ⟨b, 1, none⟩ = some (.int .i64 s.at_) ∧ w.cell? ⟨b, 2, none⟩ = some (.int .i64 s.err) ∧ w.cell? ⟨b, 3, none⟩ = some (.int .i64 s.place) ∧
    w.cell? ⟨b, 4, none⟩ = some vN ∧ w.cell? ⟨b, 5, none⟩ = some vS ∧ w.cell? ⟨b, 6, none⟩ = some vL ∧ w.cell? ⟨b, 7, none⟩ = some (.int .i64 s.atoms) ∧ w.cell? ⟨b, 8, none⟩ = some (.int .i64 s.nest) ∧ (∀ o, w.frozen? ⟨b, o, none⟩ = false) := by
  obtain ⟨g, hbb, hT, hok, ht, vN, vS, vL, hblk, hr⟩ := h
  exact ⟨vN, vS, vL, hblk, hr, rcells hblk⟩
theorem Kt.setCell {t : TypeId} {w : World} {b o : Nat} {cs0 : Array Value} {t0 : TypeId} {m0 : Nat × Nat} (hb : w.heap[b]? = some (.cells cs0 t0 m0)) (ht : t ≠ t0) (u : Value) : Kt t w (w.setCell ⟨b, o, none⟩ u) := fun k cs m hh => by
  rw [Below.heap_setCell _ _ _ _ (fun e => by simp at e; subst e; rw [hb] at hh; simp at hh; exact ht hh.2.1.symm)]; exact hh
theorem Kt.grown {t e : TypeId} {base size n : Nat} {w w' : World} {v : Value} {us : List Value} (hown : w.ownsRow base e size v n us) (hg : w.grownBy w' v.ownBlock) (ht : t ≠ e) : Kt t w w' := fun k cs m hh => by
  rw [hg.block k (Array.getElem?_eq_some_iff.1 hh).1 (fun e' => by
    rcases hown.2 with ⟨hv, _⟩ | ⟨g, cap, cur, hv, _, hgg, _⟩
    · rw [hv] at e'; simp [Value.ownBlock] at e'
    · rw [hv] at e'; simp [Value.ownBlock] at e'; subst e'; rw [hgg] at hh; simp at hh; exact ht hh.2.1.symm)]; exact hh
/-- A row of the Rules that has got one element more: the world behind the new array's making (w1), the append (w2) and the store (w3). -/
structure Pushed (e : TypeId) (o : Nat) (base b : Nat) (v v' : Value) (w w1 w2 w3 : World) : Prop where
  first : Below w.heap.size w w1
  grown : w1.grownBy w2 v.ownBlock
  last : w3.heap = (w2.setCell ⟨b, o, none⟩ v').heap ∧ w3.os = w2.os ∧ w3.tape = w2.tape ∧ w3.output = w2.output
theorem Pushed.kt {e t : TypeId} {o base b size n : Nat} {v v' : Value} {us : List Value} {w w1 w2 w3 : World} {cs0 : Array Value} (h : Pushed e o base b v v' w w1 w2 w3) (hown : w.ownsRow base e size v n us)
    (hb : w.heap[b]? = some (.cells cs0 35 (0, 0))) (hte : t ≠ e) (ht0 : t ≠ 35) (he0 : e ≠ 35) : Kt t w w3 := by
  have k1 : ∀ t', Kt t' w w1 := fun t' => Kt.below h.first
  have own1 : w1.ownsRow base e size v n us := ownsRow_chg hown (k1 e)
  have k2 : ∀ t', t' ≠ e → Kt t' w1 w2 := fun t' ht' => Kt.grown own1 h.grown ht'
  have hb2 := k2 _ (Ne.symm he0) _ _ _ (k1 _ _ _ _ hb)
  intro k cs m hh
  rw [h.last.1]
  exact Kt.setCell hb2 ht0 v' k cs m (k2 t hte k cs m (k1 t k cs m hh))
theorem Pushed.row {e : TypeId} {o base b size n : Nat} {v v' : Value} {us us' : List Value} {n' : Nat} {w w1 w2 w3 : World} {cs0 : Array Value} (h : Pushed e o base b v v' w w1 w2 w3) (hown : w.ownsRow base e size v n us)
    (hb : w.heap[b]? = some (.cells cs0 35 (0, 0))) (he0 : e ≠ 35) (hnew : w2.ownsRow base e size v' n' us') : w3.ownsRow base e size v' n' us' := by
  have k1 : ∀ t', Kt t' w w1 := fun t' => Kt.below h.first
  have own1 : w1.ownsRow base e size v n us := ownsRow_chg hown (k1 e)
  have hb2 := Kt.grown own1 h.grown (Ne.symm he0) _ _ _ (k1 _ _ _ _ hb)
  refine ownsRow_chg hnew ?_
  intro k cs m hh
  rw [h.last.1]
  exact Kt.setCell hb2 he0 v' k cs m hh
theorem Pushed.blk {e : TypeId} {o base b size n : Nat} {v v' : Value} {us : List Value} {w w1 w2 w3 : World} {cs0 : Array Value} (h : Pushed e o base b v v' w w1 w2 w3) (hown : w.ownsRow base e size v n us)
    (hb : w.heap[b]? = some (.cells cs0 35 (0, 0))) (he0 : e ≠ 35) : w3.heap[b]? = some (.cells (cs0.setIfInBounds o v') 35 (0, 0)) := by
  have k1 : ∀ t', Kt t' w w1 := fun t' => Kt.below h.first
  have own1 : w1.ownsRow base e size v n us := ownsRow_chg hown (k1 e)
  have hb2 := Kt.grown own1 h.grown (Ne.symm he0) _ _ _ (k1 _ _ _ _ hb)
  rw [h.last.1]; exact block_setCell hb2 o v'
end Go.Proofs.YtodagkkjfipbgaaGreatDoor
