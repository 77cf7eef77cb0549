/- Judge.Cuts. -/
import Derived.Test.YtodagkkjfipbgaaGreatDoorV4toV5
import Derived.Test.YtodagkkjfipbgaaGreatDoorSh3lone
import Derived.Test.YtodagkkjfipbgaaGreatDoorV2toV3
import Derived.Test.YtodagkkjfipbgaaGreatDoorN17toV1
import Derived.Test.YtodagkkjfipbgaaGreatDoorN15toN16
import Derived.Test.YtodagkkjfipbgaaGreatDoorN13toN14
import Derived.Test.YtodagkkjfipbgaaGreatDoorN12lone
import Derived.Test.YtodagkkjfipbgaaGreatDoorN10toN11
import Derived.Test.YtodagkkjfipbgaaGreatDoorN9lone
import Derived.Test.YtodagkkjfipbgaaGreatDoorN1toN5
import Derived.Test.YtodagkkjfipbgaaGreatDoorJ10toJ11
import Derived.Test.YtodagkkjfipbgaaGreatDoorK9toJ9
import Derived.Test.YtodagkkjfipbgaaGreatDoorJ8toQ4
import Derived.Test.YtodagkkjfipbgaaGreatDoorJ6toK3
import Derived.Test.YtodagkkjfipbgaaGreatDoorK7toL3
import Derived.Test.YtodagkkjfipbgaaGreatDoorP2toQ1
import Derived.Test.YtodagkkjfipbgaaGreatDoorBtoP1
import Derived.Test.YtodagkkjfipbgaaGreatDoorK4toK6
import Derived.Test.YtodagkkjfipbgaaGreatDoorQ5toK2
import Derived.Test.YtodagkkjfipbgaaGreatDoorQ2toQ3
import Derived.Test.YtodagkkjfipbgaaGreatDoorJ3toJ5
import Derived.Test.YtodagkkjfipbgaaGreatDoorJ2toJ7
import Derived.Test.YtodagkkjfipbgaaGreatDoorN8lone
import Derived.Test.YtodagkkjfipbgaaGreatDoorN6toN0
namespace Go.Proofs.YtodagkkjfipbgaaGreatDoor
open Go.RowKit Go.Maps Go.Shelf
attribute [local go_sem] Oper.semAt_some

/-- A rule as tables: whether it cuts, its left side, its right side. -/
abbrev PR : Type := Bool × Tab × Tab
def pCells (J : List PR) (vs : List (Value × Value)) : List Value := (J.zip vs).flatMap fun o => [.bool o.1.1, o.2.1, o.2.2]
/-- The judge of these rules, in memory. -/
structure PRIn (w : World) (v : Value) (J : List PR) (vs : List (Value × Value)) : Prop where
  len : vs.length = J.length
  row : w.ownsRow 0 157 3 v J.length (pCells J vs)
  tab : ∀ (i : Nat) (r : PR) (u : Value × Value), J[i]? = some r → vs[i]? = some u → TabIn 0 w u.1 r.2.1 ∧ TabIn 0 w u.2 r.2.2
  ok : ∀ r ∈ J, TabGood r.2.1 ∧ TabGood r.2.2
  few : J.length ≤ 100
theorem PRIn.below {w w' : World} {v : Value} {J : List PR} {vs : List (Value × Value)} (h : PRIn w v J vs) (hb : Below w.heap.size w w') : PRIn w' v J vs :=
  ⟨h.len, row_kp h.row (Kp.below hb), fun i r u hr hu => ⟨row_kp (h.tab i r u hr hu).1 (Kp.below hb), row_kp (h.tab i r u hr hu).2 (Kp.below hb)⟩, h.ok, h.few⟩
theorem pCells_at : ∀ (J : List PR) (vs : List (Value × Value)) (i : Nat) (r : PR) (v : Value × Value), J[i]? = some r → vs[i]? = some v → (pCells J vs)[i * 3]? = some (.bool r.1) ∧ (pCells J vs)[i * 3 + 1]? = some v.1 ∧ (pCells J vs)[i * 3 + 2]? = some v.2 := by
  intro J
  induction J with
  | nil => intro vs i r v h; simp at h
  | cons a J ih =>
    intro vs i r v h1 h2
    cases vs with
    | nil => simp at h2
    | cons u vs =>
      cases i with
      | zero => simp at h1 h2; subst h1; subst h2; simp [pCells]
      | succ i =>
        simp at h1 h2
        have := ih vs i r v h1 h2
        have e : ∀ k, (pCells (a :: J) (u :: vs))[(i + 1) * 3 + k]? = (pCells J vs)[i * 3 + k]? := by
          intro k; rw [show (i + 1) * 3 + k = (i * 3 + k) + 3 from by omega]; rfl
        have e0 := e 0
        simp only [Nat.add_zero] at e0
        rw [e0, e 1, e 2]; exact this
/-- What a rule says of the places of a row. -/
def ruleSays (row : List Nat) (r : PR) (cs : List Bool) : List Bool := judgedTo r.1 (fun i => tmatch r.2.1 (leftAt r.2.1 row i)) (fun i => tmatch r.2.2 (rightAt r.2.2 row i)) row.length cs
/-- At which places it is cut: the last rule is asked first. -/
def cutsOf (J : List PR) (row : List Nat) : List Bool := J.foldr (ruleSays row) (List.replicate (row.length + 1) true)
def stepI (J : List PR) (row : List Nat) (cs : List Bool) (i : Nat) : List Bool := match J[i]? with
  | some r => ruleSays row r cs
  | none => cs
theorem ruleSays_len (row : List Nat) (r : PR) (cs : List Bool) : (ruleSays row r cs).length = cs.length := judgedTo_len _ _ _ _ _
theorem stepI_len (J : List PR) (row : List Nat) (cs : List Bool) (i : Nat) : (stepI J row cs i).length = cs.length := by
  unfold stepI; split
  · exact ruleSays_len _ _ _
  · rfl
theorem downs_fold (J : List PR) (row : List Nat) (init : List Bool) : ∀ (d j : Nat), d + j = J.length → (downs J.length j).foldl (stepI J row) init = (J.drop j).foldr (ruleSays row) init := by
  intro d
  induction d with
  | zero =>
    intro j hj
    obtain rfl : j = J.length := by omega
    rw [downs_none, List.drop_length]; rfl
  | succ d ih =>
    intro j hj
    have hl : j < J.length := by omega
    rw [downs_snoc hl, List.foldl_append, ih (j + 1) (by omega), List.drop_eq_getElem_cons hl, List.foldr_cons]
    show stepI J row _ j = _
    unfold stepI
    rw [List.getElem?_eq_getElem hl]
theorem cutsOf_downs (J : List PR) (row : List Nat) : (downs J.length 0).foldl (stepI J row) (List.replicate (row.length + 1) true) = cutsOf J row := downs_fold J row _ J.length 0 rfl
theorem cutsOf_len (J : List PR) (row : List Nat) : (cutsOf J row).length = row.length + 1 := by
  unfold cutsOf
  induction J with
  | nil => simp
  | cons a J ih => rw [List.foldr_cons, ruleSays_len]; exact ih
/-- The rules as values. -/
def pVals (J : List PR) (vs : List (Value × Value)) : List (Bool × Value × Value) := (J.zip vs).map fun o => (o.1.1, o.2.1, o.2.2)
theorem pVals_len {J : List PR} {vs : List (Value × Value)} (h : vs.length = J.length) : (pVals J vs).length = J.length := by unfold pVals; rw [List.length_map, List.length_zip, h]; omega
theorem pVals_at {J : List PR} {vs : List (Value × Value)} {i : Nat} {x : Bool × Value × Value} (h : (pVals J vs)[i]? = some x) : ∃ r u, J[i]? = some r ∧ vs[i]? = some u ∧ x = (r.1, u.1, u.2) := by
  unfold pVals at h
  rw [List.getElem?_map, Option.map_eq_some_iff] at h
  obtain ⟨⟨r, u⟩, h1, h2⟩ := h
  rw [List.getElem?_zip_eq_some] at h1
  exact ⟨r, u, h1.1, h1.2, h2.symm⟩
/-- What lies in memory between two rules. -/
structure CMem (n0 N nB : Nat) (W : World) (vJ vK : Value) (m : Nat) (cs : List Bool) : Prop where
  b0 : W.heap[n0]? = some (.cells #[vJ] 89 (0, 0))
  b1 : W.heap[n0 + 1]? = some (.cells #[vK] 91 (0, 0))
  b2 : W.heap[N]? = some (.cells (boolCells cs) 4 (0, 0))
  b3 : W.heap[nB]? = some (.cells #[.slice (some ⟨N, 0, none⟩) m m] 108 (0, 0))
theorem CMem.blocks {n0 N nB : Nat} {W W' : World} {vJ vK : Value} {m : Nat} {cs : List Bool} (h : CMem n0 N nB W vJ vK m cs) (hk : ∀ (k : Nat) (cs : Array Value) (t : TypeId), W.heap[k]? = some (.cells cs t (0, 0)) → W'.heap[k]? = some (.cells cs t (0, 0))) : CMem n0 N nB W' vJ vK m cs :=
  ⟨hk _ _ _ h.b0, hk _ _ _ h.b1, hk _ _ _ h.b2, hk _ _ _ h.b3⟩
theorem CMem.below {n0 N nB : Nat} {W W' : World} {vJ vK : Value} {m : Nat} {cs : List Bool} (h : CMem n0 N nB W vJ vK m cs) (hb : Below W.heap.size W W') : CMem n0 N nB W' vJ vK m cs := h.blocks fun k _ _ hk => (hb.block k (heap_lt hk)).trans hk
theorem CMem.said {n0 N nB : Nat} {W W' : World} {vJ vK : Value} {m : Nat} {cs cs' : List Bool} (h : CMem n0 N nB W vJ vK m cs) (h1 : n0 + 1 < N) (h2 : N < nB) (hg : W.grownBy W' (some N)) (hN : W'.heap[N]? = some (.cells (boolCells cs') 4 (0, 0))) : CMem n0 N nB W' vJ vK m cs' :=
  ⟨(hg.block _ (heap_lt h.b0) (fun e => by cases e; omega)).trans h.b0, (hg.block _ (heap_lt h.b1) (fun e => by cases e; omega)).trans h.b1, hN, (hg.block _ (heap_lt h.b3) (fun e => by cases e; omega)).trans h.b3⟩

/-- What a rule of the judge is, in memory. -/
theorem PRIn.part {w : World} {v : Value} {J : List PR} {vs : List (Value × Value)} (h : PRIn w v J vs) {i : Nat} {x : Bool × Value × Value} (hx : (pVals J vs)[i]? = some x) :
    ∃ (r : PR) (al ar : Option Addr) (cl cr : Nat), J[i]? = some r ∧ x = (r.1, .slice al r.2.1.length cl, .slice ar r.2.2.length cr) ∧ TabIn 0 w (.slice al r.2.1.length cl) r.2.1 ∧ TabIn 0 w (.slice ar r.2.2.length cr) r.2.2 ∧ TabGood r.2.1 ∧ TabGood r.2.2 := by
  obtain ⟨r, u, h1, h2, rfl⟩ := pVals_at hx
  obtain ⟨t1, t2⟩ := h.tab i r u h1 h2
  obtain ⟨g1, g2⟩ := h.ok r (List.mem_of_getElem? h1)
  obtain ⟨al, cl, e1⟩ := row_shape t1
  obtain ⟨ar, cr, e2⟩ := row_shape t2
  rw [e1] at t1
  rw [e2] at t2
  exact ⟨r, al, ar, cl, cr, h1, by rw [e1, e2], t1, t2, g1, g2⟩
theorem PRIn.cells {w : World} {ao : Option Addr} {cap : Nat} {J : List PR} {vs : List (Value × Value)} (h : PRIn w (.slice ao J.length cap) J vs) {i : Nat} {x : Bool × Value × Value} (hx : (pVals J vs)[i]? = some x) :
    ∃ q, ao = some ⟨q, 0, none⟩ ∧ q < w.heap.size ∧ w.cell? ⟨q, i * 3, none⟩ = some (.bool x.1) ∧ w.cell? ⟨q, i * 3 + 1, none⟩ = some x.2.1 ∧ w.cell? ⟨q, i * 3 + 2, none⟩ = some x.2.2 := by
  obtain ⟨r, u, h1, h2, rfl⟩ := pVals_at hx
  have hi := (List.getElem?_eq_some_iff.1 h1).1
  have hc := pCells_at J vs i r u h1 h2
  obtain ⟨q, hq, _, hc0⟩ := row_at h.row hc.1 (by omega)
  obtain ⟨q', hq', _, hc1⟩ := row_at h.row hc.2.1 (by omega)
  obtain ⟨q'', hq'', _, hc2⟩ := row_at h.row hc.2.2 (by omega)
  rw [hq] at hq' hq''
  cases hq'
  cases hq''
  exact ⟨q, hq, cell_lt2 hc0, hc0, hc1, hc2⟩
def saidBy (J : List PR) (row : List Nat) (l : List Nat) : List Bool := l.foldl (stepI J row) (List.replicate (row.length + 1) true)
theorem saidBy_len (J : List PR) (row : List Nat) : ∀ l, (saidBy J row l).length = row.length + 1 := by
  apply snoc_ind
  · unfold saidBy; simp
  · intro l a ih; unfold saidBy at *; rw [List.foldl_append]; exact (stepI_len _ _ _ _).trans ih
theorem saidBy_snoc (J : List PR) (row : List Nat) (l : List Nat) {i : Nat} {r : PR} (h : J[i]? = some r) : saidBy J row (l ++ [i]) = ruleSays row r (saidBy J row l) := by
  unfold saidBy
  rw [List.foldl_append]
  show stepI J row _ i = _
  unfold stepI
  rw [h]

set_option maxRecDepth 100000 in
set_option maxHeartbeats 2000000 in
theorem pcuts_any (w : World) (vJ vK : Value) (J : List PR) (vs : List (Value × Value)) (row : List Nat) (hP : PRIn w vJ J vs) (hK : KRow w vK row) :
    Calls Tryz.prog 53 #[.agg #[vJ], vK] w fun r w' => ∃ g, r = .returned (.slice (some ⟨g, 0, none⟩) (row.length + 1) (row.length + 1)) ∧ w.heap.size ≤ g ∧ w'.heap[g]? = some (.cells (boolCells (cutsOf J row)) 4 (0, 0)) ∧ Below w.heap.size w w' := by
  obtain ⟨aoJ, capJ, rfl⟩ := row_shape hP.row
  obtain ⟨aoK, capK, rfl⟩ := row_shape hK.own
  have HP : Hid (PRIn w (.slice aoJ J.length capJ) J vs) := hP
  have HK : Hid (KRow w (.slice aoK row.length capK) row) := hK
  have hfew := hK.few
  have hJl := hP.few
  have HL : Hid ((pVals J vs).length = J.length) := pVals_len hP.len
  obtain ⟨W0, hW0⟩ : ∃ W0, W0 = ((w.alloc (.cells #[.slice aoJ J.length capJ] 89)).alloc (.cells #[.slice aoK row.length capK] 91)).alloc (.cells #[.bool true] 4) := ⟨_, rfl⟩
  have HW0 : Hid (W0 = ((w.alloc (.cells #[.slice aoJ J.length capJ] 89)).alloc (.cells #[.slice aoK row.length capK] 91)).alloc (.cells #[.bool true] 4)) := hW0
  have hz : W0.heap.size = w.heap.size + 3 := by rw [hW0]; simp
  have B0 : Hid (Below w.heap.size w W0) := by rw [hW0]; exact ((below_alloc w _).alloc (by simp) _).alloc (by simp; omega) _
  have p0 : W0.heap[w.heap.size]? = some (.cells #[.slice aoJ J.length capJ] 89 (0, 0)) := by rw [hW0]; exact (Below.heap_alloc _ _ _ (by simp; omega)).trans ((Below.heap_alloc _ _ _ (by simp)).trans (heap_alloc_new w _))
  have p1 : W0.heap[w.heap.size + 1]? = some (.cells #[.slice aoK row.length capK] 91 (0, 0)) := by rw [hW0]; exact (Below.heap_alloc _ _ _ (by simp)).trans ((show (w.alloc (.cells #[.slice aoJ J.length capJ] 89)).heap.size = w.heap.size + 1 by simp) ▸ heap_alloc_new (w.alloc _) _)
  have p2 : W0.heap[w.heap.size + 2]? = some (.cells #[.bool true] 4 (0, 0)) := by rw [hW0]; exact (show ((w.alloc (.cells #[.slice aoJ J.length capJ] 89)).alloc (.cells #[.slice aoK row.length capK] 91)).heap.size = w.heap.size + 2 by simp) ▸ heap_alloc_new ((w.alloc _).alloc _) _
  have P0 : Hid (W0.heap[w.heap.size]? = some (.cells #[.slice aoJ J.length capJ] 89 (0, 0))) := p0
  have P1 : Hid (W0.heap[w.heap.size + 1]? = some (.cells #[.slice aoK row.length capK] 91 (0, 0))) := p1
  have c1 := cell_of_block p1 0 _ rfl
  have hrep : Calls Tryz.prog 100 #[.slice (some ⟨w.heap.size + 2, 0, none⟩) 1 1, .int .i64 ((row.length : Int) + 1)] W0 fun r w' => r = .returned (.slice (some ⟨W0.heap.size, 0, none⟩) (row.length + 1) (row.length + 1)) ∧ w'.heap[W0.heap.size]? = some (.cells (boolCells (List.replicate (row.length + 1) true)) 4 (0, 0)) ∧ Below W0.heap.size W0 w' := repeat_any W0 (w.heap.size + 2) (row.length + 1) p2 (by omega) (by omega)
  rw [hz] at hrep
  have c1' := c1
  rw [hW0] at c1'
  have HREP : Hid (Calls Tryz.prog 100 #[.slice (some ⟨w.heap.size + 2, 0, none⟩) 1 1, .int .i64 ((row.length : Int) + 1)] W0 fun r w' => r = .returned (.slice (some ⟨w.heap.size + 3, 0, none⟩) (row.length + 1) (row.length + 1)) ∧ w'.heap[w.heap.size + 3]? = some (.cells (boolCells (List.replicate (row.length + 1) true)) 4 (0, 0)) ∧ Below (w.heap.size + 3) W0 w') := hrep
  clear hP hK hW0 p0 p1 p2 hrep c1
  refine (callsIn_wide (n := 3)).1 ?_
  refine callsIn_of_wp_marks Tryz.func53 rfl trivial ?_ rfl
  simp only [Tryz.ntmps53, List.size_toArray, List.length_cons, List.length_nil, Nat.reduceAdd, Nat.reduceSub, Array.replicate_succ, Array.replicate_zero, List.push_toArray, List.append_toArray, List.nil_append, List.cons_append]
  gi_wp2
  refine ⟨trivial, ?_⟩
  rw [← HW0.out]
  refine (callsIn_wide.2 HREP.out).mono ?_
  rintro r W1 ⟨rfl, hG, hB⟩
  have hz1 : w.heap.size + 4 ≤ W1.heap.size := heap_lt hG
  have B1 : Hid (Below w.heap.size w W1) := B0.out.trans (hB.mono (by omega))
  have q0 : W1.heap[w.heap.size]? = some (.cells #[.slice aoJ J.length capJ] 89 (0, 0)) := (hB.block _ (by omega)).trans P0.out
  have q1 : W1.heap[w.heap.size + 1]? = some (.cells #[.slice aoK row.length capK] 91 (0, 0)) := (hB.block _ (by omega)).trans P1.out
  have Q0 : Hid (W1.heap[w.heap.size]? = some (.cells #[.slice aoJ J.length capJ] 89 (0, 0))) := q0
  have Q1 : Hid (W1.heap[w.heap.size + 1]? = some (.cells #[.slice aoK row.length capK] 91 (0, 0))) := q1
  have QG : Hid (W1.heap[w.heap.size + 3]? = some (.cells (boolCells (List.replicate (row.length + 1) true)) 4 (0, 0))) := hG
  have c0 := fun o => ((below_alloc W1 o).cell (p := ⟨w.heap.size, 0, none⟩) (heap_lt q0)).trans (cell_of_block q0 0 _ rfl)
  clear HW0 B0 P0 P1 hB hG q0 q1 HREP c1' hz
  obtain ⟨nB, hnB⟩ : ∃ nB, nB = W1.heap.size := ⟨_, rfl⟩
  gi_wp2_with (refine ⟨trivial, ?_⟩; gi_at_call 101; refine (bwR_in Fence.wide _ trivial rfl _ _ _ _).mono ?_; rintro e w' ⟨rfl, rfl⟩)
  clear hnB nB
  obtain ⟨W2, hW2⟩ : ∃ W2, W2 = (W1.alloc (.cells #[.slice (some ⟨w.heap.size + 3, 0, none⟩) (row.length + 1) (row.length + 1)] 108)).alloc (.cells #[.slice aoJ J.length capJ] 87) := ⟨_, rfl⟩
  rw [← hW2]
  have b12 : Below W1.heap.size W1 W2 := by rw [hW2]; exact (below_alloc W1 _).alloc (by simp) _
  have hz2 : W2.heap.size = W1.heap.size + 2 := by rw [hW2]; simp
  have hBs : W2.heap[W1.heap.size + 1]? = some (.cells #[.slice aoJ J.length capJ] 87 (0, 0)) := by rw [hW2]; exact (show (W1.alloc (.cells #[.slice (some ⟨w.heap.size + 3, 0, none⟩) (row.length + 1) (row.length + 1)] 108)).heap.size = W1.heap.size + 1 by simp) ▸ heap_alloc_new (W1.alloc _) _
  have M2 : CMem w.heap.size (w.heap.size + 3) W1.heap.size W2 (.slice aoJ J.length capJ) (.slice aoK row.length capK) (row.length + 1) (saidBy J row (wheres ([] : List (At (pVals J vs))))) := by
    refine ⟨(b12.block _ (by omega)).trans Q0.out, (b12.block _ (by omega)).trans Q1.out, (b12.block _ (by omega)).trans QG.out, ?_⟩
    rw [hW2]
    exact (Below.heap_alloc _ _ _ (by simp)).trans (heap_alloc_new W1 _)
  have B2 : Below w.heap.size w W2 := B1.out.trans (b12.mono (by omega))
  have hcells : ∀ j k, (pVals J vs)[j]? = some k → ∃ q, aoJ = some ⟨q, 0, none⟩ ∧ q < w.heap.size ∧ W2.cell? ⟨q, j * 3, none⟩ = some (.bool k.1) ∧ W2.cell? ⟨q, j * 3 + 1, none⟩ = some k.2.1 ∧ W2.cell? ⟨q, j * 3 + 2, none⟩ = some k.2.2 := by
    intro j k hk
    obtain ⟨q, h1, h2, h3, h4, h5⟩ := HP.out.cells hk
    exact ⟨q, h1, h2, (B2.cell (p := ⟨q, j * 3, none⟩) h2).trans h3, (B2.cell (p := ⟨q, j * 3 + 1, none⟩) h2).trans h4, (B2.cell (p := ⟨q, j * 3 + 2, none⟩) h2).trans h5⟩
  have hst := bwR_stops Fence.wide 2 trivial rfl (by omega) (W1.heap.size + 1) w.heap.size capJ aoJ (pVals J vs) (by rw [HL.out]; omega) W2 87 (by omega) (by rw [HL.out]; exact hBs) hcells
  clear hW2 Q0 Q1 QG B1 b12 c0 hcells hBs
  refine wpIn_rangeFunc_ownH rfl (by omega) (gf := 154) (lb := #[.pointer (some ⟨W1.heap.size + 1, 0, none⟩)]) rfl trivial (enters_of Tryz.func154 (by kernel_rfl) rfl)
    hst keepsAt_t (keepsAt_b (by omega) (by omega)) (Below.refl _ _) (fun _ => rfl)
    (fun pre W => CMem w.heap.size (w.heap.size + 3) W1.heap.size W (.slice aoJ J.length capJ) (.slice aoK row.length capK) (row.length + 1) (saidBy J row (wheres pre)) ∧ (Below w.heap.size w W ∧ W2.heap.size ≤ W.heap.size))
    (fun _ _ _ => False)
    (OwnFrom.and (Own.from (fun s A B row hs hg hr => hs.blocks fun k cs t hk => block_kept hg hr hk) _) (OwnFrom.and (ownFrom_below (Nat.le_refl _) (by omega)) (fun s A B row hs hg hr => Nat.le_trans hs hg.size)))
    (fun _ _ _ _ _ hs _ _ => hs)
    ⟨M2, B2, Nat.le_refl _⟩
    (fun x a' W => ∃ Bx, W.heap[Bx]? = some (.cells #[.bool x.1.2.1, x.1.2.2.1, x.1.2.2.2] 157 (0, 0)) ∧ a' = { tmps := #[.agg #[.slice aoJ J.length capJ], .slice aoK row.length capK, .pointer (some ⟨w.heap.size, 0, none⟩), .pointer (some ⟨w.heap.size + 1, 0, none⟩), .slice none 0 0, .pointer (some ⟨W1.heap.size, 0, none⟩), undef, .pointer (some ⟨Bx, 0, none⟩), .slice (some ⟨w.heap.size + 1 + 1, 0, none⟩) 1 1, .slice aoK row.length capK, .int .i64 row.length, .int .i64 (row.length + 1), .slice (some ⟨w.heap.size + 3, 0, none⟩) (row.length + 1) (row.length + 1), .pointer (some ⟨w.heap.size, 0, none⟩), .slice aoJ J.length capJ, .func (.func 154) #[] #[.pointer (some ⟨W1.heap.size + 1, 0, none⟩)], .int .i64 (x.1.1 : Nat), .agg #[.bool x.1.2.1, x.1.2.2.1, x.1.2.2.2], undef, undef, undef, undef, undef], defers := [] })
    (fun x a' _ X Y row hs hg hr => by obtain ⟨Bx, h2, h3⟩ := hs; exact ⟨Bx, block_kept hg (fun r e => (hr r e).2) h2, h3⟩)
    ?assign ?body ?done ?stop
  case assign =>
    rintro l pre ⟨⟨i, x⟩, hx⟩ W K ⟨hM, hB, hS⟩ hK
    obtain ⟨r, al, ar, cl, cr, h1, rfl, t1, t2, g1, g2⟩ := HP.out.part hx
    have HM : Hid (CMem w.heap.size (w.heap.size + 3) W1.heap.size W (.slice aoJ J.length capJ) (.slice aoK row.length capK) (row.length + 1) (saidBy J row (wheres pre))) := hM
    have HB : Hid (Below w.heap.size w W) := hB
    clear hM hB t1 t2 g1 g2 M2 B2 hst
    gi_wp2
    exact hK _ _ ((KeepsOthers.alloc _ _).from _) ⟨(Below.refl _ W).alloc HB.out.size _, Below.heap_alloc _ _ _ (by omega)⟩ ⟨HM.out.below (below_alloc W _), HB.out.alloc HB.out.size _, by simp; omega⟩ ⟨W.heap.size, heap_alloc_new W _, rfl⟩
  case body =>
    rintro l pre ⟨⟨i, x⟩, hx⟩ a' W hl _ ⟨hM, hB, hS⟩ ⟨Bx, hX, rfl⟩ _
    obtain ⟨r, al, ar, cl, cr, h1, rfl, t1, t2, g1, g2⟩ := HP.out.part hx
    have HM : Hid (CMem w.heap.size (w.heap.size + 3) W1.heap.size W (.slice aoJ J.length capJ) (.slice aoK row.length capK) (row.length + 1) (saidBy J row (wheres pre))) := hM
    have HB : Hid (Below w.heap.size w W) := hB
    have E : Hid (saidBy J row (wheres (pre ++ [⟨(i, (r.1, .slice al r.2.1.length cl, .slice ar r.2.2.length cr)), hx⟩])) = ruleSays row r (saidBy J row (wheres pre))) := by
      show _ = _
      unfold wheres
      rw [List.map_append]
      exact saidBy_snoc J row _ h1
    have x0 := cell_of_block hX 0 _ rfl
    have x1 := cell_of_block hX 1 _ rfl
    have x2 := cell_of_block hX 2 _ rfl
    have c1 := cell_of_block hM.b1 0 _ rfl
    have c3 := cell_of_block hM.b3 0 _ rfl
    have hcall := (callsIn_wide (n := 0)).2 (judge_any W r.1 (.slice al r.2.1.length cl) (.slice ar r.2.2.length cr) (.slice aoK row.length capK) r.2.1 r.2.2 row (w.heap.size + 3) _ (row_kp t1 (Kp.below hB)) g1 (row_kp t2 (Kp.below hB)) g2 (HK.out.below hB) hM.b2 (saidBy_len J row _))
    clear hM hB t1 t2 g1 g2 M2 B2 hst hX h1
    dsimp only at x0 x1 x2
    have hd : 1 ≤ 3 - 1 - 1 := by omega
    gi_wp2_with (refine ⟨trivial, ?_⟩; gi_at_call 102; refine (CallsIn.inRound l hcall).mono ?_; rintro e W3 ⟨⟨v, rfl⟩, hN, hG⟩)
    have bb : Below w.heap.size W W3 := (Below.refl _ W).grown hG (by omega) (fun k e => by cases e; omega)
    refine ⟨KeepsFrom.of_grownBy hG (fun j e => by cases e; omega), ⟨bb, hG.block _ (by omega) (fun e => by have := Option.some.inj e; omega)⟩, ?_, HB.out.trans bb, by have := hG.size; omega⟩
    rw [E.out]
    exact HM.out.said (by omega) (by omega) hG hN
  case done =>
    rintro D ys W hD hS ⟨hM, hB, _⟩ hK
    have c2 := cell_of_block hM.b3 0 _ rfl
    have HM : Hid (CMem w.heap.size (w.heap.size + 3) W1.heap.size W (.slice aoJ J.length capJ) (.slice aoK row.length capK) (row.length + 1) (saidBy J row (wheres ys))) := hM
    have HB : Hid (Below w.heap.size w W) := hB
    clear hM hB M2 B2 hst
    gi_wp2
    refine ⟨by simp, .inl ⟨_, _, rfl, run_takeDeferred hK, ?_⟩⟩
    refine ⟨_, results_tmp rfl _ _ _, w.heap.size + 3, rfl, by omega, ?_, HB.out.trans (belowK_b (w := w) (Nat.le_refl _) W D _ _ (by omega) hK rfl rfl)⟩
    have e : saidBy J row (wheres ys) = cutsOf J row := by rw [hS, HL.out]; exact cutsOf_downs J row
    rw [← e]
    exact block_put hK rfl _ HM.out.b2
  case stop =>
    rintro D c pre W _ _ h _
    exact h.elim
end Go.Proofs.YtodagkkjfipbgaaGreatDoor
