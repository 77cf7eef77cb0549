import Derived.Laws.CopyOwn
import Derived.Test.YtodagkkjfipbgaaGreatDoorSh3lone
import Derived.Test.YtodagkkjfipbgaaGreatDoorV2toN18
namespace Go.Proofs.YtodagkkjfipbgaaGreatDoor
open Go.RowKit Go.Maps Go.Shelf
attribute [local go_sem] Oper.semAt_some
abbrev PR : Type := Bool × Tab × Tab
def pCells (J : List PR) (vs : List (Value × Value)) : List Value := (J.zip vs).flatMap fun o => [.bool o.1.1, o.2.1, o.2.2]
structure PRIn (w : World) (v : Value) (J : List PR) (vs : List (Value × Value)) : Prop where
 len : vs.length = J.length
 row : w.ownsRow 0 157 3 v J.length (pCells J vs)
 tab : ∀ (i : Nat) (r : PR) (u : Value × Value), J[i]? = some r → vs[i]? = some u → TabIn 0 w u.1 r.2.1 ∧ TabIn 0 w u.2 r.2.2
 ok : ∀ r ∈ J, TabGood r.2.1 ∧ TabGood r.2.2
 few : J.length ≤ 100
theorem PRIn.below {w w' : World} {v : Value} {J : List PR} {vs : List (Value × Value)} (h : PRIn w v J vs) (hb : Below w.heap.size w w') : PRIn w' v J vs :=
 ⟨h.len, row_kp h.row (Kp.below hb), fun i r u hr hu => ⟨row_kp (h.tab i r u hr hu).1 (Kp.below hb), row_kp (h.tab i r u hr hu).2 (Kp.below hb)⟩, h.ok, h.few⟩
theorem pCells_at : ∀ (J : List PR) (vs : List (Value × Value)) (i : Nat) (r : PR) (v : Value × Value), J[i]? = some r → vs[i]? = some v → (pCells J vs)[i * 3]? = some (.bool r.1) ∧ (pCells J vs)[i * 3 + 1]? = some v.1 ∧ (pCells J vs)[i * 3 + 2]? = some v.2 := by
 intro J
 induction J with
 | nil => intro vs i r v h; simp at h
 | cons a J ih =>
  intro vs i r v h1 h2
  cases vs with
  | nil => simp at h2
  | cons u vs =>
   cases i with
   | zero => simp at h1 h2; subst h1; subst h2; simp [pCells]
   | succ i =>
    simp at h1 h2
    have := ih vs i r v h1 h2
    have e : ∀ k, (pCells (a :: J) (u :: vs))[(i + 1) * 3 + k]? = (pCells J vs)[i * 3 + k]? := by
     intro k; rw [show (i + 1) * 3 + k = (i * 3 + k) + 3 from by omega]; rfl
    have e0 := e 0
    simp only [Nat.add_zero] at e0
    rw [e0, e 1, e 2]; exact this
def ruleSays (row : List Nat) (r : PR) (cs : List Bool) : List Bool := judgedTo r.1 (fun i => tmatch r.2.1 (leftAt r.2.1 row i)) (fun i => tmatch r.2.2 (rightAt r.2.2 row i)) row.length cs
def cutsOf (J : List PR) (row : List Nat) : List Bool := J.foldr (ruleSays row) (List.replicate (row.length + 1) true)
def stepI (J : List PR) (row : List Nat) (cs : List Bool) (i : Nat) : List Bool := match J[i]? with
 | some r => ruleSays row r cs
 | none => cs
theorem ruleSays_len (row : List Nat) (r : PR) (cs : List Bool) : (ruleSays row r cs).length = cs.length := judgedTo_len _ _ _ _ _
theorem cutsOf_len (J : List PR) (row : List Nat) : (cutsOf J row).length = row.length + 1 := by
 unfold cutsOf
 induction J with
 | nil => simp
 | cons a J ih => rw [List.foldr_cons, ruleSays_len]; exact ih
def pVals (J : List PR) (vs : List (Value × Value)) : List (Bool × Value × Value) := (J.zip vs).map fun o => (o.1.1, o.2.1, o.2.2)
theorem pVals_at {J : List PR} {vs : List (Value × Value)} {i : Nat} {x : Bool × Value × Value} (h : (pVals J vs)[i]? = some x) : ∃ r u, J[i]? = some r ∧ vs[i]? = some u ∧ x = (r.1, u.1, u.2) := by
 unfold pVals at h
 rw [List.getElem?_map, Option.map_eq_some_iff] at h
 obtain ⟨⟨r, u⟩, h1, h2⟩ := h
 rw [List.getElem?_zip_eq_some] at h1
 exact ⟨r, u, h1.1, h1.2, h2.symm⟩
structure CMem (n0 N nB : Nat) (W : World) (vJ vK : Value) (m : Nat) (cs : List Bool) : Prop where
 b0 : W.heap[n0]? = some (.cells #[vJ] 89 (0, 0))
 b1 : W.heap[n0 + 1]? = some (.cells #[vK] 91 (0, 0))
 b2 : W.heap[N]? = some (.cells (boolCells cs) 4 (0, 0))
 b3 : W.heap[nB]? = some (.cells #[.slice (some ⟨N, 0, none⟩) m m] 108 (0, 0))
theorem CMem.blocks {n0 N nB : Nat} {W W' : World} {vJ vK : Value} {m : Nat} {cs : List Bool} (h : CMem n0 N nB W vJ vK m cs) (hk : ∀ (k : Nat) (cs : Array Value) (t : TypeId), W.heap[k]? = some (.cells cs t (0, 0)) → W'.heap[k]? = some (.cells cs t (0, 0))) : CMem n0 N nB W' vJ vK m cs :=
 ⟨hk _ _ _ h.b0, hk _ _ _ h.b1, hk _ _ _ h.b2, hk _ _ _ h.b3⟩
theorem CMem.below {n0 N nB : Nat} {W W' : World} {vJ vK : Value} {m : Nat} {cs : List Bool} (h : CMem n0 N nB W vJ vK m cs) (hb : Below W.heap.size W W') : CMem n0 N nB W' vJ vK m cs := h.blocks fun k _ _ hk => (hb.block k (heap_lt hk)).trans hk
theorem PRIn.part {w : World} {v : Value} {J : List PR} {vs : List (Value × Value)} (h : PRIn w v J vs) {i : Nat} {x : Bool × Value × Value} (hx : (pVals J vs)[i]? = some x) :
  ∃ (r : PR) (al ar : Option Addr) (cl cr : Nat), J[i]? = some r ∧ x = (r.1, .slice al r.2.1.length cl, .slice ar r.2.2.length cr) ∧ TabIn 0 w (.slice al r.2.1.length cl) r.2.1 ∧ TabIn 0 w (.slice ar r.2.2.length cr) r.2.2 ∧ TabGood r.2.1 ∧ TabGood r.2.2 := by
 obtain ⟨r, u, h1, h2, rfl⟩ := pVals_at hx
 obtain ⟨t1, t2⟩ := h.tab i r u h1 h2
 obtain ⟨g1, g2⟩ := h.ok r (List.mem_of_getElem? h1)
 obtain ⟨al, cl, e1⟩ := row_shape t1
 obtain ⟨ar, cr, e2⟩ := row_shape t2
 rw [e1] at t1
 rw [e2] at t2
 exact ⟨r, al, ar, cl, cr, h1, by rw [e1, e2], t1, t2, g1, g2⟩
theorem PRIn.cells {w : World} {ao : Option Addr} {cap : Nat} {J : List PR} {vs : List (Value × Value)} (h : PRIn w (.slice ao J.length cap) J vs) {i : Nat} {x : Bool × Value × Value} (hx : (pVals J vs)[i]? = some x) :
  ∃ q, ao = some ⟨q, 0, none⟩ ∧ q < w.heap.size ∧ w.cell? ⟨q, i * 3, none⟩ = some (.bool x.1) ∧ w.cell? ⟨q, i * 3 + 1, none⟩ = some x.2.1 ∧ w.cell? ⟨q, i * 3 + 2, none⟩ = some x.2.2 := by
 obtain ⟨r, u, h1, h2, rfl⟩ := pVals_at hx
 have hi := (List.getElem?_eq_some_iff.1 h1).1
 have hc := pCells_at J vs i r u h1 h2
 obtain ⟨q, hq, _, hc0⟩ := row_at h.row hc.1 (by omega)
 obtain ⟨q', hq', _, hc1⟩ := row_at h.row hc.2.1 (by omega)
 obtain ⟨q'', hq'', _, hc2⟩ := row_at h.row hc.2.2 (by omega)
 rw [hq] at hq' hq''
 cases hq'
 cases hq''
 exact ⟨q, hq, cell_lt2 hc0, hc0, hc1, hc2⟩
def saidBy (J : List PR) (row : List Nat) (l : List Nat) : List Bool := l.foldl (stepI J row) (List.replicate (row.length + 1) true)
end Go.Proofs.YtodagkkjfipbgaaGreatDoor
